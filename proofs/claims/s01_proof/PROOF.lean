import PyProof.Rows.All
import Wide.All
import OpenK.AllK
import Wide.FinOn
import PyProof.EqAt
import PyProof.EqKinds
import PyProof.TupleCall
import KE.BitLaws
import Open.SpecLaws
import KE.OsHead
import KE.OsGo
import PySem.Challenge.RW_sharedrooms_s01_answers
import PyProof.Rows.SetFrom
import PyProof.ListRange
import PyProof.ZipIter
import KE.KSortTupG
import KE.KLam
import KE.KSortKeySt
import PyVaarrl
set_option Elab.async false
set_option linter.all false
set_option maxRecDepth 100000
set_option maxHeartbeats 4000000
open Array renaming length_toList→cY,getElem?_toList→eI,getElem?_eq_some_iff→fH,getElem_toList→zH,toList_append→Ba,getD→CY,forIn_toList→CZ,find?_toList→C0,toList_push→EB,ext'→J9,size_push→ZG
open Array.Perm renaming refl→SG
open Bool renaming true→ae,false→af,false_ne_true→cz,false_eq_true→cC,and_eq_true→cK,false_and→eC,true_and→eG,eq_iff_iff→eK,or_false→k6,not_eq_true'→vb,or_eq_true→yA,not_eq_false→E6,not_false→Ld,and_false→Le,not_true→NX,false_or→NY,beq_eq_decide_eq→SE,and_eq_true_iff→Uo,not_eq_true→ZF
open Classical renaming byContradiction→eO
open Except renaming map→js,ok→lR,error→Di
open False renaming elim→fq
open ForInStep renaming yield→vg
open Int renaming toNat_natCast→pG,toNat_of_nonneg→CV,lt_or_eq_of_le→EA,eq_ofNat_of_zero_le→Qz,natCast_nonneg→Zh
open List renaming length_map→aV,getElem?_eq_some_iff→aZ,mem_of_getElem?→br,range→bw,mem_cons_of_mem→bC,getElem?_eq_getElem→bE,getElem?_map→bK,mem_cons_self→bM,mem_cons→bP,length_append→bQ,mem_singleton→bT,size_toArray→bY,length_range→bZ,map_append→b9,mem_range→cj,append_nil→ck,getElem?_of_mem→cw,replicate→cA,mem_filter→cH,length_cons→cJ,all_eq_true→cV,append_assoc→c9,mem_map→dh,map_congr_left→dj,take_length→dy,map_map→dA,map_cons→dC,pairwise_cons→dE,contains_iff_mem→dN,length_take→dW,mem_append_right→dX,getElem?_eq_none→dY,drop_eq_getElem_cons→dZ,mem_append→d5,getElem?_append_left→eV,range_succ→eY,any_eq_true→fg,getElem?_range→fj,filter_cons_of_pos→fD,mem_append_left→fI,length_set→fK,pairwise_iff_getElem→fQ,replicate_succ→fV,filter_cons_of_neg→gM,getElem?_append_right→hJ,foldl_append→hV,any_eq_false→hX,lookup→ie,getElem?_eq_none_iff→iq,length_replicate→ir,flatMap_cons→iU,nodup_cons→iV,ext_getElem→jq,pairwise_map→jR,not_mem_nil→kb,mem_flatMap→ke,lookup_cons→kf,find?_eq_none→kH,find?_cons_of_neg→kJ,filter_append→kK,drop_eq_nil_of_le→kL,filter_nil→k5,flatten_cons→lE,drop_drop→lQ,getElem_map→l4,mem_of_find?_eq_some→mq,getElem?_zip_eq_some→mw,getElem?_take_of_lt→nG,of_mem_zip→nL,nil_append→nM,forIn_cons→nN,foldl_cons→nO,find?_cons→nP,getElem_range→nR,pairwise_singleton→oF,length_eq_zero_iff→oG,getElem?_cons_succ→oH,getElem?_set_self→o4,length_filter_le→qh,length_drop→qo,flatMap_nil→qp,map_id→qM,getElem?_set_ne→qN,takeWhile_cons→r9,flatMap_append→sd,forIn_nil→tF,nodup_append→u9,ext_getElem?→va,any_cons→vf,nodup_range→wH,cons_append→wI,find?_cons_of_pos→wW,length_zip→yr,find?_some→yt,any_append→yu,mem_of_mem_take→Ah,getElem?_zipIdx→Ai,toList_toArray→Bi,findSome?_cons→Bj,filterMap_cons→Bk,getElem?_drop→Dg,map_nil→E4,getElem_mem→Gr,getElem_inj→Gs,flatMap_map→Gu,drop_length→Gv,length→IX,all_append→Jg,nodup_nil→Lb,length_eraseIdx_of_lt→Lc,map_take→NV,all_cons→NW,getElem?_replicate→Qg,take_of_length_le→Qu,pairwise_lt_range→Qv,drop_of_length_le→Qw,any_map→Qx,all_map→Qy,takeWhile_prefix→SA,pairwise_append→Uk,getLast?_append→Ul,zip_map_right→V5,mem_filterMap→V6,getElem?_take→V7,foldl→V8,take_sublist→Ze,getElem?_set→Zf,findIdx_cons→Zg,zipIdx_cons→ZC,perm_middle→ZD,map_fst_zip→ZE
open List.Nodup renaming length_le_of_subset→jS
open List.Pairwise renaming nil→kg,filter→oI,imp_of_mem→Ez
open List.Perm renaming refl→gO,trans→Ey,swap→FU,cons→VQ
open Nat renaming le_refl→bu,lt_of_lt_of_le→bI,ne_of_lt→cg,zero_le→cB,le_trans→cQ,ne_of_gt→dk,le_of_lt→dm,lt_succ_self→eN,lt_succ_of_lt→eP,lt_irrefl→gC,le_add_right→iG,lt_or_ge→jf,le_of_eq→kX,lt_trichotomy→lH,lt_trans→mf,lt_of_le_of_lt→oB,eq_zero_or_pos→oC,le_succ→qY,le_of_succ_le→ve,mod_lt→Ex,sub_self→FQ,min_self→FT,succ_le_succ→IV,max_eq_right→IW,zero_add→Sy,add_zero→Sz,pos_of_ne_zero→Zc,not_lt→Zd
open Ne renaming symm→de
open NeutralIO renaming bytes→Uj
open Option renaming some→aa,none→ab,map_some→jF,isSome_iff_exists→mH,isSome_map→Df,isSome_some→Ui,getD_none→V4
open Option.some renaming inj→bR
open Or renaming inl→ur,inr→ZA
open PyFlat renaming calls→oK,played→A9,rows→FP,told→Qs,call→Qt,row→Uh
open PyProof.Rows renaming seqObj→iR,callWith_type1→ku,IntsAre→kM,firstMet→m7,kindOf→uk,envOfC→AW,Subscript_→AZ,arrOf→Eu,AllBare→E7,listUpdate_at→Gk,SortedToK→NA,get?_update_seq→Qc,numOf→Sn,item_listR→So,subscriptTail→VN,firstMet_succ→VO,subscriptTail_builtinR→Y3
open PyProof.Rows.F renaming plain_set_update_loop→yy,entry_set_update_loop→Um
open PyProof.Rows.G renaming tupKeyC→Dh,tupKindC→Qh,KeepsTups→Zi
open PyProof.Rows.IntsAre renaming int_at→yx
open PySem renaming wpAny_bind→aO,Value→aY,Shared→bf,wpAny_pure→bg,sizeLine→bz,model→bJ,wpAny→bL,starEach→bW,sizeLine_eq→bX,Program→b7,Spec→cn,boot_len→cv,World→cU,mainGlobals→cW,Around→cX,mem_of_lookup→dF,wpAny_holding→d7,wpAny_mono→eD,wpAny_Call_Name_kw→fe,Paired→fJ,cellsFrom→f6,FuncData→gx,backTo→gz,Str→gK,wpAny_field→gY,wpAny_truthy_bool→ig,bootBuiltins→ij,codeAny_mono→iS,wpAny_setState_of→i8,compareOp→i9,wpAny_ite_split→jb,codeAny_builtin→jc,codeAny→jx,wpAny_call_entry→jD,wpAny_setField_rec→jI,sysModules→jJ,intKind→jP,rawInt→j4,wpAny_newObj_type→j7,codeAny_call_builtin→j8,NameKind→j9,wpAny_callSpecial?_slot→kQ,wpAny_passesOwn→lL,wpAny_standAt→lO,Scope→l3,wpAny_call→m5,keywordEach→m6,compEnvC→m8,wpAny_attempt→oM,plainId_quiet→oN,bindArgs→oO,behindInMarks→oP,SetTable→oQ,Within→oR,wpAny_updateSeq→oY,swapsWith→pR,scanBound→pS,pickOrder→pT,getMethod→pU,pyNext→qF,holding→qG,plainObj_wpAny_Assign_Attribute→qW,builtinLookup_eq_fast→rf,wpAny_isInstance→rZ,isSubtype→r8,standAt→se,attributeBase→si,wpAny_loadName_local→sO,sliceBounds→sP,callWith→sQ,wpAny_loadPart'→ui,wpAny_execs_nil→uj,pushCells→vc,wpAny_Name→vZ,tupleKind_room_in1→wa,relayAll→wb,isInstance→wc,backToKw→wg,wpAny_pyIter_list→wQ,wpAny_pyIter_enum→wR,unsupported→wU,foldedSetIterable→wV,IsPair→yw,ExceptHandler→yz,checkBuiltinCall→zC,binaryOp→zD,typeLookup→AV,builtinsNs→AX,assignEach→AY,wpAny_specialOf→Bb,typeLookup_type→Bc,pushCells_keeps→Be,letOwnedTupleGo→Bf,codeAny_of_tree→Bg,wpAny_setField→Eo,wpAny_seqItems→Ep,wpAny_loadPart→Er,wpAny_alloc→Es,isSubtype_stop→Et,Result→Ew,updateSeq→EY,spliced→EZ,wpAny_setEntries_of→FI,wpAny_loadName_free→FJ,defaultsOf→FL,wpAny_rule→IK,wpAny_load→IL,wpAny_Constant_int→IM,closureFor→IP,valueAt→J0,cLine→J2,GenState→J6,wpAny_lookBehind→Nq,wpAny_askSetting→Nr,typeOf→Nt,tupleKind→Nu,pastItsLine_dict→Nw,subscripted→NP,Model→NU,notedBy→Qo,getItem→Qp,wpAny_newTuple→Sj,wpAny_letOwnedTupleGo_enum→Sk,recursionLimit→Sl,pyIter→Sm,isSubtype_type→Sq,excMatches→Sr,call_meets→Ss,atKey→Su,assign→Sv,ZipApart→Sw,Operator→Sx,wpAt_of_wpAny→Ue,wpAny_newList→VM,setFlight→VU,noteFrame→VV,drawOrder→VW,bindL→VX,bindC→VY,CmpOp→Wa,Arguments→Wb,wpAny_typeOf→Y0,wpAny_nsSet1→Y1,wpAny_nextOf_list_item→Y2,setNext→Y4,seqIndex_neg→Y5,getAttr→Y6,argsOk→Y7,wpAny_nextOf_list_end→Zu,wpAny_isTrue_Compare1→Zv,codeAny_handlers_test→Zw,wpAt_bind→Zy
open PySem.Around renaming under_plainId→iJ,under→NZ,under_plain→Uq
open PySem.Bind renaming madeBy→Up
open PySem.Builtin.Frozenset renaming updateFrom→abq,slot0→abr,sizeOf→abt,newClass→abu
open PySem.Builtin.List renaming listLengthHint→iO,listExtendWith→iP,listTooLong→lI,listSameRef→lJ,listUpdate→FW,listItems→Gx
open PySem.Builtin.Range renaming rangeSize→E5
open PySem.Builtin.SmallTypes renaming nextOf→o5,ownedTupleIsFree→uo
open PySem.Calls renaming spliced_cons→iz,spliced_nil→jL,evalArgs_plain→zG,Name_function_global→J8,callWith_builtin→Qi
open PySem.Challenge renaming rw_sharedrooms_s01_answers→gB
open PySem.Code renaming quiet_builtin→tG,isFrame→QA
open PySem.Draws renaming list→J7
open PySem.EntryCells renaming newEntry→NG
open PySem.F renaming plainAttrs_list→cb,type_list_append→cZ,slot_list_append→c7,type_list_extend→f9,slot_list_extend→gb,plain_extend_loop→ic,called_set→ip,slot_zip_next→o3,called_enumerate→FV,slot_dict_getitem→Jc,excBase_Exception→Jd,entry_extend_loop→Je,plain_list_iadd→K9,args_zip_next_1→La,entry_zip_next→ND,slot_set_iter→NS,plain_set_new→NT,slot_enumerate_next→V9
open PySem.Heap renaming get?_push_of_some→a9,lt_size→bF,get?_push_size→bH,get?_update_other→cq,size_push→dz,get?_update_self→dO,SameBut→kN,size_update→l5
open PySem.Heap.Ns1 renaming of_empty→SD
open PySem.Heap.SameBut renaming update→J5,refl→NF
open PySem.NameKind renaming free→pF,cell→Jf
open PySem.Obj renaming mapSeq→dS,mapFields→jo,data_mapFields→oA,isFreed_of_fields→qm,putSet→Zb
open PySem.Paired renaming length→dM
open PySem.PassesOwn renaming never→bV
open PySem.SeqAt.EqAt renaming str_int→NQ,int_str→NR
open PySem.SetTable renaming below→d4,grown→iB,sizeAbove→Qq,Probe→V1,fits→Y9
open PySem.SetTable.below renaming go→J4
open PySem.SetTable.probe renaming go→J3
open PySem.Str renaming ofString→jd,join→pD
open PySem.Txt renaming join→qX
open PySem.Value renaming ref→cp,none→eF,type→iT,isInt→kC,int→lZ,str→Ag,isInt_shape→VZ
open PySem.W renaming Frag→aX,mg_none_of→eS,findIn→f7,fnOf→gQ,emptyDict→gR,keepIn→je,instObj→jz,mg_of→jK,callWith_K→nu,hasDictIn→oy,methodCall_KW→oZ,codeHdIn→pE,kla_obj→qH,plainGet→u7,findCls→wG,lookIn→yq,plainGet_of→zE,callWith_K0→zF,specialIn→CQ,methodObj→CU,takerIn→FN,readsIn→FO,kla_fn→IT,codeIn→IU,isFn→NB,cellsFrom_some→NC,looks_subIn→Qr,plainOver→Ug,handedIn→VP,makesIn→V3,tab_of→Za,subIn→Zz
open PySem.W.Looks renaming ld→nJ,of_pure→Gq
open PySem.Within renaming cons→y0
open PySem.callAny renaming viaDunder→Ud
open PySem.pickOrder renaming go→J1
open PyVaarrl renaming whole→fB,shape→fU,answers→jX,answers_asked→nQ,calls→V2
open Sum renaming inl→cM,inr→iL
open Sum.inl renaming inj→qg
open Sum.inr renaming inj→Qe
open True renaming intro→ju
open Vaarrl renaming offsetAt→aQ,Program→aT,lengthAt→aU,firstTime→bD,digit→cf,State→cx,inRow→cO,inner→dg,lastTime→di,inputs→dw,takesOver→dD,answer→dP,Stmt→dQ,cell→d9,given→eB,readProgram→eE,heads→eU,plainText→eX,firstClash→fz,meet→fE,decimal→fG,clash→fM,sits→fT,ownList→gu,resolved→gy,elementOf→gH,statements→gS,group→gU,writeAll→ia,planOf→iA,valueOf→iH,overlap→iI,told→iY,theEnd→iZ,room→i6,liveAt→i7,runPlan→jj,element→jk,eitherTakes→jm,placeAll→jE,letter→jQ,readAt→kR,nameAt→kT,lowest→kU,Answer→kW,str→lF,counted→lG,REACH→lP,packed→mE,needAt→mG,putGroup→m9,numbered→nq,putLong→oJ,no→pV,usedBy→qf,step→qj,load→qk,runApart→qL,grown→rh,blank→rj,putData→sv,made→um,ofProgram→vd,sound→wF,byLength→wO,MISSING→yZ,set→Bh,count→Dd,statement→E2,apartFrom→E3,need→FK,stmtText→Gm,operands→Gn,runFrom→Ja,packAll→Jb,ofPlan→K8,keptWords→V0,tokensIn→Y8,MODULUS→Zx
open Vaarrl.Token renaming word→Ny,sign→Nz
open Vaarrl.Token.sign renaming inj→De
open Vaarrl.Token.word renaming inj→jV
open VaarrlNeutral renaming step→cN,text→jU,natural→nF,encode→IQ,asked1→IS
local macro_rules|`(tactic|nofun)=>`(tactic|exact⟨rfl,rfl,rfl,by decide +kernel,rfl,by decide +kernel,by decide +kernel⟩)
abbrev ag:=List PySem.Addr
abbrev ah:=List (PySem.Addr×PySem.Obj)
abbrev ai:=List (PySem.Str×PySem.Addr)
abbrev aj:=PySem.Str->Option PySem.Value
abbrev ak:=List PySem.Str
abbrev ar:=PySem.Value->PySem.Shared->Prop
abbrev au:=List PySem.Value
theorem cP{c:Prop}{h:Decidable c}(n:¬c){α:Sort u}{t e:α}:ite c t e=e:=if_neg n
theorem c8{c:Prop}{h:Decidable c}(n:c){α:Sort u}{t e:α}:ite c t e=t:=if_pos n
theorem gX{p:Prop}[i:Decidable p](h:¬p):decide p=af:=decide_eq_false h
theorem qi{p:Prop}[i:Decidable p](h:p):decide p=ae:=decide_eq_true h
abbrev BA:List gK:=["program","ranges","plan","a","b"]
abbrev dR:List gK:=["self"]
abbrev vH:List gK:=["text","position"]
abbrev jT:List gK:=["program"]
abbrev UM:List gK:=["program","ranges","plan","members","placed"]
abbrev UL:List gK:=["program","ranges","plan","number","placed"]
abbrev xF:List gK:=["program","plan"]
abbrev Z6:List gK:=["self","word","name","length","way","operand_names"]
abbrev Q6:List gK:=["rooms","call","number","row"]
abbrev Xd:List gK:=["self","kind","value","position","end"]
abbrev Hl:List gK:=["self","statement_number"]
abbrev Hk:List gK:=["program","data","plan"]
abbrev Th:List gK:=["program","plan","memory","number","i"]
abbrev Kv:List gK:=["program","ranges","time"]
abbrev wm:List gK:=["self","plan"]
abbrev Tg:List gK:=["program","ranges","taker","taken"]
abbrev ON:List gK:=["program","ranges","a","b"]
abbrev Tf:List gK:=["self","statements","operands"]
abbrev Hj:List gK:=["self","position"]
section
namespace L2
open PySem PySem.Spec PyProof.Rows
abbrev Key:=Sum Int Str
def wq:Key->aY->Bool
 |.inl k,v=>kC k v
 |.inr x,v=>Value.isStrOf x v
def ajl(w:cU):Key->Int
 |.inl k=>hashInt k
 |.inr x=>hashStr w x
theorem jB:∀{k:Key}{v:aY},wq k v=ae->(∃i t,k=cM i/\v=lZ i t)\/(∃x t,k=iL x/\v=Ag x t)
 |.inl i,v,h=>by
  obtain⟨t,e⟩:=VZ (k:=i) (v:=v) h;exact .inl ⟨i,t,rfl,e⟩
 |.inr x,v,h=>by
  obtain⟨t,e⟩:=Value.isStrOf_shape (x:=x) (v:=v) h;exact .inr ⟨x,t,rfl,e⟩
theorem U4(i:Int)(t:Tok):wq (.inl i) (.int i t)=ae:=by simp[wq,kC]
theorem U3(x:Str)(t:Tok):wq (.inr x) (.str x t)=ae:=by simp[wq,Value.isStrOf]
theorem adI(a b:Int):decide ((cM a:Key)=cM b)=(a==b):=by
 by_cases e:a=b
 ·subst e;simp
 have h:¬(cM a:Key)=cM b:=fun q=>e (qg q);rw[gX h];exact(beq_eq_false_iff_ne.mpr e).symm
theorem adF(a b:Str):decide ((iL a:Key)=iL b)=decide (a=b):=by
 by_cases e:a=b
 ·subst e;simp
 have h:¬(iL a:Key)=iL b:=fun q=>e (Qe q);rw[gX h,gX e]
theorem adH(a:Int)(b:Str):decide ((cM a:Key)=iL b)=af:=gX (fun q=>nomatch q)
theorem adG(a:Str)(b:Int):decide ((iL a:Key)=cM b)=af:=gX (fun q=>nomatch q)
def kY(prog:b7)(w:cU):PySem.KeyKind prog w Key where
 is:=wq
 hash:=ajl w
 inj:=fun v a b ha hb=>by
  rcases jB ha with⟨i,t,rfl,rfl⟩|⟨x,t,rfl,rfl⟩
  ·rcases jB hb with⟨j,u,rfl,e⟩|⟨y,u,rfl,e⟩
   ·injection e with e1 _;rw[e1]
   exact nomatch e
  rcases jB hb with⟨j,u,rfl,e⟩|⟨y,u,rfl,e⟩
  ·exact nomatch e
  injection e with e1 _;rw[e1]
 byValue:=fun k v h=>by
  rcases jB h with⟨i,t,rfl,rfl⟩|⟨x,t,rfl,rfl⟩<;>rfl
 pyHash:=fun hv h=>by
  rcases jB hv with⟨i,t,rfl,rfl⟩|⟨x,t,rfl,rfl⟩
  ·exact wpAny_pyHash_int h
  exact wpAny_pyHash_str h
 eqBool:=fun hu hv h=>by
  rcases jB hu with⟨i,t,rfl,rfl⟩|⟨x,t,rfl,rfl⟩
  ·rcases jB hv with⟨j,u,rfl,rfl⟩|⟨y,u,rfl,rfl⟩
   ·rw[adI]at h;exact wpAny_eqBool_int h
   rw[adH]at h;exact NR i t y u _ _ _ _ h
  rcases jB hv with⟨j,u,rfl,rfl⟩|⟨y,u,rfl,rfl⟩
  ·rw[adG]at h;exact NQ x t j u _ _ _ _ h
  rw[adF]at h;exact wpAny_eqBool_str h
 «strs»:=fun k x t v h=>by
  rcases jB h with⟨i,u,rfl,e⟩|⟨y,u,rfl,e⟩
  ·exact nomatch e
  injection e with e1 _
  subst e1;cases v<;>rfl
theorem O7(prog:b7)(w:cU)(i:Int)(t:Tok):(kY prog w).is (.inl i) (.int i t)=ae:=U4 i t
theorem O6(prog:b7)(w:cU)(x:Str)(t:Tok):(kY prog w).is (.inr x) (.str x t)=ae:=U3 x t
inductive V where
 |j5|bl (b:Bool)|int (i:Int)|str (x:Str)|VC (b:Array UInt8)|flt (b:UInt64)|ref (a:Addr)|ty (n:String)
 deriving DecidableEq
abbrev ao:=List V
abbrev aq:=List (Str×V)
def RelV:V->aY->Prop
 |.j5,u=>u=eF
 |.bl b,u=>u=Value.bool b
 |.int i,u=>∃t,u=lZ i t
 |.str x,u=>∃t,u=Ag x t
 |.VC b,u=>∃t,u=Value.bytes b t
 |.flt b,u=>∃t,u=Value.float b t
 |.ref a,u=>u=cp a
 |.ty n,u=>u=iT n
abbrev Vals:ao->au->Prop:=fJ RelV
theorem Vals.length{xs:ao}{us:au}(r:Vals xs us):xs.length=us.length:=dM r
theorem Vals.get:∀{xs:ao}{us:au}{i:Nat}{x:V},Vals xs us->xs[i]?=aa x->∃u,us[i]?=aa u/\RelV x u
 |_,_,_,_,.nil,e=>by simp at e
 |_,_,0,_,.cons r _,e=>by simp at e;subst e;exact⟨_,rfl,r⟩
 |_,_,i+1,x,.cons _ t,e=>by
  obtain⟨u,h1,h2⟩:=Vals.get (i:=i) (x:=x) t (by simpa using e);exact⟨u,by simpa using h1,h2⟩
theorem Vals.set{x:V}{u:aY}(r:RelV x u):∀{xs:ao}{us:au}(i:Nat),Vals xs us->Vals (xs.set i x) (us.set i u)
 |_,_,_,.nil=>.nil
 |_,_,0,.cons _ t=>.cons r t
 |_,_,i+1,.cons q t=>.cons q (Vals.set r i t)
theorem Vals.append:∀{xs ys:ao}{us ws:au},Vals xs us->Vals ys ws->Vals (xs++ys) (us++ws)
 |_,_,_,_,.nil,s=>s
 |_,_,_,_,.cons r t,s=>.cons r (Vals.append t s)
theorem Vals.take:∀{xs:ao}{us:au}(n:Nat),Vals xs us->Vals (xs.take n) (us.take n)
 |_,_,0,_=>.nil
 |_,_,_+1,.nil=>.nil
 |_,_,n+1,.cons r t=>.cons r (Vals.take n t)
theorem Vals.drop:∀{xs:ao}{us:au}(n:Nat),Vals xs us->Vals (xs.drop n) (us.drop n)
 |_,_,0,r=>r
 |_,_,_+1,.nil=>.nil
 |_,_,n+1,.cons _ t=>Vals.drop n t
def qV:Option V->Option aY->Prop
 |some v,aa u=>RelV v u
 |none,ab=>True
 |_,_=>False
def KV{κ:Type}:List (κ×V)->List (κ×aY)->Prop:=fJ fun(p:κ×V)(q:κ×aY)=>p.1=q.1/\RelV p.2 q.2
def kV:Key->V
 |.inl i=>.int i
 |.inr x=>.str x
inductive HO where
 |lst (xs:ao)
 |tup (xs:ao)
 |dK (ef:List (Key×V))|dT (ef:List (List Key×V))
 |set (S:Int->Bool) (n:Nat)
 |ins (C dx:Addr) (fs:aq)
 |own (x:Addr)
 |xd (fs:aq)
 |met (f x:Addr)
 |Z2 (lo hi:Int)
 |Vi (o:Obj) (u:HO)
 |FZ (ps:Array aY)
 |ext (φ:Heap->Prop)
abbrev Hp:=Addr->Option HO
def upd(H:Hp)(a:Addr)(o:HO):Hp:=fun b=>if b=a then aa o else H b
theorem ba{H:Hp}{a:Addr}{o:HO}:upd H a o a=aa o:=by unfold upd;rw[c8 rfl]
theorem bB{H:Hp}{a b:Addr}{o:HO}(h:b≠a):upd H a o b=H b:=by unfold upd;rw[cP h]
theorem lB{H:Hp}{a b:Addr}{o u:HO}(h:H a=aa o)(h':H b=aa u)(d:o≠u):a≠b:=by
 intro e;subst e;rw[h]at h';exact d (bR h')
theorem bO{H:Hp}{a b:Addr}{o:HO}(h:H a=aa o)(h':H b=ab):a≠b:=by
 intro e;subst e;rw[h]at h';cases h'
section
variable(P:b7)(w:cU)
def ja(H:Hp)(h:Heap)(a:Addr):HO->Prop
 |.lst xs=>xs.length<=bz/\∃(its:au)(n:Nat),Vals xs its/\h.get? a=aa {cls:=.type "list",data:=.seq its.toArray n}
 |.tup xs=>xs.length<=bz/\∃its:au,Vals xs its/\IsTup h a its.toArray
 |.dK ef=>ef.length<=bz/\(a==jJ)=af/\∃vs,KV ef vs/\h.DictOf (kY P w) a vs
 |.dT ef=>ef.length<=bz/\(a==jJ)=af/\∃xs:List (List Key×Addr×aY),
  fJ (fun(p:List Key×V)(q:List Key×Addr×aY)=>p.1=q.1/\H q.2.1=aa (.tup (p.1.map kV))/\RelV p.2 q.2.2) ef xs/\
  ∃o es ep,h.get? a=aa o/\o.ExactDict/\o.data=.dict es ep/\es.toList=xs.map (entryOfKey (Nu (kY P w)))/\(xs.map (·.1)).Nodup
 |.set S n=>h.SetOf (jP P w) a S n
 |.ins C dx fs=>H dx=aa (.own a)/\fs.length<=1000/\dx≠a/\h.get? a=aa (jz C dx)/\
  ∃mA,h.Ns1 dx mA/\(∀f,qV (fs.lookup f) (mA f))/\oR mA (fs.map (·.1))
 |.own _=>∃o,h.get? a=aa o
 |.xd fs=>∃mA,h.Ns1 a mA/\∀f,qV (fs.lookup f) (mA f)
 |.Z2 lo hi=>∃t u v,h.get? a=aa {cls:=.type "range",data:=.fields #[.int lo t,.int hi u,.int 1 v]}
 |.Vi o u=>h.get? a=aa o/\ja H h a u
 |.FZ ps=>h.get? a=aa {cls:=.none,data:=.fields ps}
 |.met f x=>h.get? a=aa (CU (.ref f) (.ref x))
 |.ext φ=>φ h/\(∃o,h.get? a=aa o)/\∀h1 h2:Heap,φ h1->(∀o,h1.get? a=aa o->h2.get? a=aa o)->φ h2
def yo(H:Hp)(h:Heap):Prop:=∀a o,H a=aa o->ja P w H h a o
end
section
variable{P:b7}{w:cU}{H H':Hp}{h h':Heap}{a:Addr}{o:HO}
theorem ja.lt(x:ja P w H h a o):a<h.objs.size:=by
 cases o with
 |lst xs=>obtain⟨_,_,_,_,e⟩:=x;exact bF e
 |tup xs=>obtain⟨_,_,_,p⟩:=x;exact p.lt
 |dK ef=>obtain⟨_,_,_,_,o,_,_,e,_⟩:=x;exact bF e
 |dT ef=>obtain⟨_,_,_,_,o,_,_,e,_⟩:=x;exact bF e
 |set S n=>obtain⟨o,_,_,_,e,_⟩:=x;exact bF e
 |ins C dx fs=>obtain⟨_,_,_,e,_⟩:=x;exact bF e
 |own y=>obtain⟨_,e⟩:=x;exact bF e
 |xd fs=>obtain⟨_,⟨_,_,_,e,_⟩,_⟩:=x;exact bF e
 |Z2 lo hi=>obtain⟨_,_,_,e⟩:=x;exact bF e
 |Vi ob u=>obtain⟨e,_⟩:=x;exact bF e
 |FZ ps=>exact bF (show h.get? a=aa _ from x)
 |met f y=>exact bF (show h.get? a=aa _ from x)
 |ext φ=>obtain⟨_,⟨_,e⟩,_⟩:=x;exact bF e
theorem Paired.sC{α β:Type}{F G:α->β->Prop}:∀{l₁:List α}{l₂:List β},fJ F l₁ l₂->(∀a b,F a b->G a b)->fJ G l₁ l₂
 |_,_,.nil,_=>.nil
 |_,_,.cons r t,f=>.cons (f _ _ r) (Paired.sC t f)
theorem ja.tJ(x:ja P w H h a o)(k:∀b u,(b=a\/H b=aa (.own a))->h.get? b=aa u->h'.get? b=aa u)
 (ho:∀b,H b=aa (.own a)->H' b=aa (.own a))(ht:∀b xs,H b=aa (.tup xs)->H' b=aa (.tup xs)):ja P w H' h' a o:=by
 induction o with
 |lst xs=>obtain⟨z,its,n,r,e⟩:=x;exact⟨z,its,n,r,k _ _ (.inl rfl) e⟩
 |tup xs=>obtain⟨z,its,r,ob,e,c⟩:=x;exact⟨z,its,r,ob,k _ _ (.inl rfl) e,c⟩
 |dK ef=>obtain⟨z,y,vs,r,ob,es,ep,e,c⟩:=x;exact⟨z,y,vs,r,ob,es,ep,k _ _ (.inl rfl) e,c⟩
 |dT ef=>
  obtain⟨z,y,xs,r,ob,es,ep,e,c⟩:=x
  exact⟨z,y,xs,Paired.sC r fun p q z=>⟨z.1,ht _ _ z.2.1,z.2.2⟩,ob,es,ep,k _ _ (.inl rfl) e,c⟩
 |set S n=>obtain⟨ob,es,ep,t,e,c⟩:=x;exact⟨ob,es,ep,t,k _ _ (.inl rfl) e,c⟩
 |ins C dx fs=>
  obtain⟨d,z,ne,e,mA,⟨od,es,ep,e2,c⟩,r⟩:=x
  exact⟨ho _ d,z,ne,k _ _ (.inl rfl) e,mA,⟨od,es,ep,k _ _ (.inr d) e2,c⟩,r⟩
 |own y=>obtain⟨ob,e⟩:=x;exact⟨ob,k _ _ (.inl rfl) e⟩
 |xd fs=>obtain⟨mA,⟨od,es,ep,e,c⟩,r⟩:=x;exact⟨mA,⟨od,es,ep,k _ _ (.inl rfl) e,c⟩,r⟩
 |Z2 lo hi=>obtain⟨t,u,v,e⟩:=x;exact⟨t,u,v,k _ _ (.inl rfl) e⟩
 |Vi ob u ih=>obtain⟨e,q⟩:=x;exact⟨k _ _ (.inl rfl) e,ih q⟩
 |FZ ps=>
  have e:h.get? a=aa {cls:=.none,data:=.fields ps}:=x
  show h'.get? a=aa {cls:=.none,data:=.fields ps}
  exact k a _ (.inl rfl) e
 |met f y=>
  have e:h.get? a=aa (CU (.ref f) (.ref y)):=x
  show h'.get? a=aa (CU (.ref f) (.ref y))
  exact k a _ (.inl rfl) e
 |ext φ=>obtain⟨p,⟨o,e⟩,st⟩:=x;exact⟨st _ _ p fun o q=>k _ _ (.inl rfl) q,⟨o,k _ _ (.inl rfl) e⟩,st⟩
theorem yo.lt(x:yo P w H h)(e:H a=aa o):a<h.objs.size:=(x a o e).lt
theorem yo.fresh(x:yo P w H h)(e:h.objs.size<=a):H a=ab:=by
 cases q:H a with
 |none=>rfl
 |some u=>exact absurd (bI (x.lt q) e) (gC _)
theorem yo.kept(x:yo P w H h)(k:∀b u,h.get? b=aa u->h'.get? b=aa u):yo P w H h':=fun a o e=>
 (x a o e).tJ (fun b u _ q=>k b u q) (fun _ q=>q) fun _ _ q=>q
theorem yo.laid(x:yo P w H h)(k:∀b u,h.get? b=aa u->h'.get? b=aa u)(hp:h.objs.size<=a)(new:ja P w (upd H a o) h' a o):yo P w (upd H a o) h':=fun b u e=>by
 have hn:=x.fresh hp;by_cases hb:b=a
 ·subst hb;rw[ba]at e;cases e;exact new
 rw[bB hb]at e;exact(x b u e).tJ (fun c v _ q=>k c v q) (fun c q=>by rw[bB (bO q hn)];exact q) fun c xs q=>by rw[bB (bO q hn)];exact q
end
def Rd(H:Hp)(a:Addr)(u:HO):Prop:=H a=aa u\/∃o,H a=aa (.Vi o u)
theorem Rd.ok{P:b7}{w:cU}{H:Hp}{h:Heap}{a:Addr}{u:HO}(r:Rd H a u)(x:yo P w H h):ja P w H h a u:=by
 rcases r with r|⟨o,r⟩
 ·exact x a u r
 obtain⟨_,q⟩:=x a _ r;exact q
def Mut:Option HO->Prop
 |some (.lst _)=>True
 |some (.dK _)=>True
 |some (.dT _)=>True
 |some (.set _ _)=>True
 |some (.ins _ _ _)=>True
 |some (.ext _)=>True
 |_=>False
section
variable{P:b7}{w:cU}{H:Hp}{h h':Heap}{x e:Addr}{o':HO}
theorem yo.write(ok:yo P w H h)(mu:Mut (H x))(he:e=x\/H e=aa (.own x))(k:∀b u,b≠e->h.get? b=aa u->h'.get? b=aa u)(heo:∃u,h'.get? e=aa u)
 (new:ja P w (upd H x o') h' x o'):yo P w (upd H x o') h':=fun b u q=>by
 have af2:∀c y,H c=aa (.own y)->c≠x:=fun c y r z=>by subst z;rw[r]at mu;exact mu
 have ai0:∀c xs,H c=aa (.tup xs)->c≠x:=fun c xs r z=>by subst z;rw[r]at mu;exact mu
 by_cases hb:b=x
 ·subst hb;rw[ba]at q;cases q;exact new
 rw[bB hb]at q
 by_cases hbe:b=e
 ·have q':H b=aa (.own x):=by
   rcases he with z|z
   ·exact absurd (hbe.trans z) hb
   rw[hbe];exact z
  rw[q]at q';cases q'
  obtain⟨v,hv⟩:=heo
  exact⟨v,by rw[hbe];exact hv⟩
 refine(ok b u q).tJ (fun c v hc r=>k c v ?_ r) (fun c r=>by rw[bB (af2 c b r)];exact r) fun c xs r=>by rw[bB (ai0 c xs r)];exact r
 rcases hc with rfl|hc
 ·exact hbe
 rintro rfl
 rcases he with z|z
 ·exact af2 c b hc z
 rw[hc]at z;cases z;exact hb rfl
end
structure Un(fs ex:ag)(H H':Hp)(h h':Heap):Prop where
 keep:∀b o,h.get? b=aa o->H b=ab->b∉fs->b∉ex->h'.get? b=aa o
 slot:∀b o,h.get? b=aa o->H b=ab->b∈fs->b∉ex->∃sl,h'.get? b=aa {o with slots:=sl}
 free:∀b o,h.get? b=aa o->H b=ab->b∉ex->H' b=ab
 there:∀b o,h.get? b=aa o->b∉ex->∃o',h'.get? b=aa o'
 E8:∀b xs,H b=aa (.tup xs)->H' b=aa (.tup xs)
 Il:∀b o u,H b=aa (.Vi o u)->H' b=aa (.Vi o u)
 GC:∀b ps,H b=aa (.FZ ps)->∃more,H' b=aa (.FZ (ps++more))
section
variable{fs fs' ex ex':ag}{H H1 H2:Hp}{h h1 h2 h':Heap}{a x e:Addr}{o:HO}
theorem Un.any(u:Un fs ex H H1 h h1){b:Addr}{ob:Obj}(q:h.get? b=aa ob)(n:H b=ab)(hx:b∉ex):∃sl,h1.get? b=aa {ob with slots:=sl}:=by
 by_cases hb:b∈fs
 ·exact u.slot b ob q n hb hx
 exact⟨ob.slots,u.keep b ob q n hb hx⟩
theorem Un.kept(k:∀b u,h.get? b=aa u->h'.get? b=aa u):Un fs ex H H h h':=
 ⟨fun b ob q _ _ _=>k b ob q,fun b ob q _ _ _=>⟨ob.slots,k b ob q⟩,fun _ _ _ n _=>n,fun b ob q _=>⟨ob,k b ob q⟩,fun _ _ q=>q,fun _ _ _ q=>q,fun _ ps q=>⟨#[],by rw[q];simp⟩⟩
theorem Un.refl:Un fs ex H H h h:=Un.kept fun _ _ q=>q
theorem Un.laid(k:∀b u,h.get? b=aa u->h'.get? b=aa u)(hp:h.objs.size<=a)(hn:H a=ab):Un fs ex H (upd H a o) h h' where
 keep:=fun b u q _ _ _=>k b u q
 slot:=fun b u q _ _ _=>⟨u.slots,k b u q⟩
 free:=fun b u q n _=>by rw[bB (cg (bI (bF q) hp))];exact n
 there:=fun b u q _=>⟨u,k b u q⟩
 E8:=fun b xs q=>by rw[bB (bO q hn)];exact q
 Il:=fun b u xs q=>by rw[bB (bO q hn)];exact q
 GC:=fun b ps q=>⟨#[],by rw[bB (bO q hn),q];simp⟩
theorem Un.write(mu:Mut (H x))(he:e=x\/H e=aa (.own x))(k:∀b u,b≠e->h.get? b=aa u->h'.get? b=aa u)(heo:∃u,h'.get? e=aa u):Un fs ex H (upd H x o) h h':=by
 have hx:∀b,H b=ab->b≠x:=fun b n z=>by subst z;rw[n]at mu;exact mu
 have hb:∀b,H b=ab->b≠e:=fun b n z=>by
  subst z;rcases he with r|r
  ·exact hx b n r
  rw[n]at r;cases r
 have hm:∀b u,H b=aa u->¬Mut (aa u)->b≠x:=fun b u q nm z=>by subst z;rw[q]at mu;exact nm mu
 refine⟨fun b u q n _ _=>k b u (hb b n) q,fun b u q n _ _=>⟨u.slots,k b u (hb b n) q⟩,fun b u q n _=>by rw[bB (hx b n)];exact n,fun b u q _=>?_,
  fun b xs q=>by rw[bB (hm b _ q fun z=>z)];exact q,fun b u xs q=>by rw[bB (hm b _ q fun z=>z)];exact q,fun b ps q=>⟨#[],by rw[bB (hm b _ q fun z=>z),q];simp⟩⟩
 by_cases hbe:b=e
 ·subst hbe;exact heo
 exact⟨u,k b u hbe q⟩
end
def trk(h:Heap)(H:Hp):ag:=(bw h.objs.size).filter fun a=>(H a).isSome
def JF(h:Heap)(H:Hp):Heap:=PySem.W.hideAll h (trk h H)
theorem U9(h:Heap)(H:Hp):(JF h H).objs.size=h.objs.size:=PySem.W.hideAll_size _ _
theorem Ya{h:Heap}{H:Hp}{b:Addr}{o:Obj}(e:h.get? b=aa o)(n:H b=ab):(JF h H).get? b=aa o:=
 PySem.W.hideAll_get _ e fun hm=>by
  have q:(H b).isSome=ae:=(cH.mp hm).2;rw[n]at q;simp at q
theorem aai{h:Heap}{H:Hp}{b:Addr}{o:Obj}(e:(JF h H).get? b=aa o):h.get? b=aa o/\H b=ab:=by
 have e':h.get? b=aa o:=PySem.W.of_hideAll (trk h H) e;refine⟨e',?_⟩;cases q:H b with
 |none=>rfl
 |some x=>
  have hm:b∈trk h H:=cH.mpr ⟨cj.mpr (bF e'),by simp[q]⟩;have z:(JF h H).get? b=ab:=PySem.W.hideAll_none (trk h H) hm;rw[z]at e;cases e
structure Mod(K:aX)(mg:aj)(base:Heap):Prop where
 kin:K.In base
 glob:base.Ns cW mg
 blt:∃mb,base.Ns AX mb/\∀x:Str,x≠"__name__"->mb x=ij x
 nolimit:base.NoLimit
structure Cx where
 prog:b7
 w:cU
 K:aX
 mg:aj
 base:Heap
 A:cX
 N:ak
 DC:bf
 H_0:Hp
 env:Env
 outer:List Env
 stack:List Env
 ex:ag
 fn:Str->Bool
 calm:Bool
 pn:ah
 xe:ar
def RJ(l:List Env):ag:=l.filterMap (·.frame)
abbrev Cx.fs(X:Cx):ag:=RJ X.outer
def Vis(sc:l3)(x:Str):Prop:=sc.names.lookup x=aa .local\/sc.names.lookup x=aa .cell\/sc.names.lookup x=aa .free
def Loc(sc:l3)(x:Str):Prop:=sc.names.lookup x=aa .local\/sc.names.lookup x=aa .cell
def Look(env:Env)(h:Heap)(m:aj)(x:Str)(u:aY):Prop:=
 (env.kindOf x=aa .local/\m x=aa u)\/((env.kindOf x=aa .cell\/env.kindOf x=aa .free)/\∃c,env.cells.lookup x=aa c/\h.IsCell c (aa u))
structure Cx.Ok(X:Cx):Prop where
 mod:Mod X.K X.mg X.base
 kind:X.env.scope.kind=.function
 glob:X.env.globals=cW
 blt:X.env.builtins=AX
 above:X.DC.heap.objs.size<=X.env.locals
 inj:∀x y c,X.env.cells.lookup x=aa c->X.env.cells.lookup y=aa c->x=y
 has:∀x,(X.env.kindOf x=aa .cell\/X.env.kindOf x=aa .free)->∃c,X.env.cells.lookup x=aa c
 cab:∀x c,X.fn x=ae->X.env.cells.lookup x=aa c->X.DC.heap.objs.size<=c
 hd:X.calm=ae->X.A.handled=ab
 frames:X.A.frames=aa X.stack
 QQ:X.stack=X.outer\/(X.stack=X.env::X.outer/\X.env.frame=aa X.env.locals)
 exf:∀b∈X.ex,b≠X.env.locals/\∀x c,X.env.cells.lookup x=aa c->c≠b
 bs:∀b o,X.base.get? b=aa o->X.DC.heap.get? b=aa o/\X.H_0 b=ab
 R9:X.base.objs.size<=X.DC.heap.objs.size
 LZ:∀b o,X.base.get? b=aa o->b∉X.ex
 My:∀b∈X.ex,b∉X.fs
 ya:X.DC.heap.FunFrames X.base X.outer
 Vj:∀b∈X.fs,X.H_0 b=ab
structure Inv(X:Cx)(pins:ah)(σ:List (Option V))(H:Hp)(s:bf):Prop where
 ok:X.Ok
 os:s.os=X.DC.os
 bare:E7 s.gens
 base:Un X.fs X.ex X.H_0 H X.DC.heap s.heap
 loc:∃m,s.heap.Ns X.env.locals m/\∀(i:Nat)(x:Str)(v:V),X.N[i]?=aa x->σ[i]?=aa (aa v)->Vis X.env.scope x->∃u,RelV v u/\Look X.env s.heap m x u
 cell:∀x c,X.env.cells.lookup x=aa c->∃v,s.heap.IsCell c v
 free:H X.env.locals=ab
 pY:∀x c,X.env.cells.lookup x=aa c->H c=ab
 pin:∀p∈X.pn++pins,s.heap.get? p.1=aa p.2/\H p.1=ab/\p.1≠X.env.locals/\p.1∉X.fs/\∀v,p.2.data≠ .cell v
 gd:yo X.prog X.w H s.heap
 len:σ.length=X.N.length
section
variable{X:Cx}{pins:ah}{σ:List (Option V)}{H H':Hp}{s:bf}{h':Heap}
theorem Cx.Ok.ai5(ok:X.Ok){b:Addr}{o:Obj}(e:X.base.get? b=aa o):b∉X.fs:=fun hb=>by
 have:=(ok.ya.mem hb).1;rw[e]at this;cases this
theorem Inv.bs(I:Inv X pins σ H s):∀b o,X.base.get? b=aa o->s.heap.get? b=aa o/\H b=ab:=fun b o e=>
 ⟨I.base.keep b o (I.ok.bs b o e).1 (I.ok.bs b o e).2 (I.ok.ai5 e) (I.ok.LZ b o e),I.base.free b o (I.ok.bs b o e).1 (I.ok.bs b o e).2 (I.ok.LZ b o e)⟩
theorem Inv.bk(I:Inv X pins σ H s):∀b o,X.base.get? b=aa o->s.heap.get? b=aa o:=fun b o e=>(I.bs b o e).1
theorem Inv.mod(I:Inv X pins σ H s):Mod X.K X.mg X.base:=I.ok.mod
theorem Inv.wN(I:Inv X pins σ H s):X.K.In s.heap:=I.ok.mod.kin.keeps I.bk
theorem Inv.nolimit(I:Inv X pins σ H s):s.heap.NoLimit:=I.ok.mod.nolimit.keeps I.bk
theorem Inv.fr(I:Inv X pins σ H s):∃m,Fr X.base X.env.locals s.heap m:=
 let⟨m,hn,_⟩:=I.loc
 ⟨m,hn,I.bk,cQ I.ok.R9 I.ok.above⟩
theorem Inv.lt(I:Inv X pins σ H s):X.env.locals<s.heap.objs.size:=let⟨_,hn,_⟩:=I.loc;hn.lt
theorem Inv.sz(I:Inv X pins σ H s):X.DC.heap.objs.size<=s.heap.objs.size:=cQ I.ok.above (dm I.lt)
theorem Inv.ai4(I:Inv X pins σ H s){a:Addr}(h:s.heap.objs.size<=a):a∉X.fs:=fun hb=>by
 obtain⟨_,o,ho,_⟩:=I.ok.ya.mem hb;exact absurd (bI (bF ho) (cQ I.sz h)) (gC _)
theorem Inv.cne(I:Inv X pins σ H s):∀x c,X.env.cells.lookup x=aa c->c≠X.env.locals:=fun x c e z=>by
 obtain⟨v,o,ho,hd⟩:=I.cell x c e;obtain⟨m,⟨o',es,ep,ET,hd',_⟩,_⟩:=I.loc;rw[z,ET]at ho;cases ho;rw[hd']at hd;cases hd
theorem Inv.ya(I:Inv X pins σ H s):s.heap.FunFrames X.base X.outer:=by
 have all:∀(l:List Env),(∀b∈RJ l,b∈X.fs)->X.DC.heap.FunFrames X.base l->s.heap.FunFrames X.base l:=by
  intro l;induction l with
  |nil=>intro _ _;trivial
  |cons env r ih=>
   intro hs hl;obtain⟨hk,⟨L,o,hf,hn,ho,hd⟩,hr⟩:=hl;have hL:L∈X.fs:=hs L (by unfold RJ;rw[Bk,hf];exact bM);obtain⟨sl,e⟩:=I.base.slot L o ho (I.ok.Vj L hL) hL fun z=>I.ok.My L z hL;exact⟨hk,⟨L,_,hf,hn,e,hd⟩,ih (fun b hb=>hs b (by unfold RJ;rw[Bk,hf];exact bC _ hb)) hr⟩
 exact all X.outer (fun _ hb=>hb) I.ok.ya
theorem Inv.stack(I:Inv X pins σ H s):s.heap.FunFrames X.base X.stack:=by
 rcases I.ok.QQ with e|⟨e,hf⟩
 ·rw[e];exact I.ya
 rw[e];obtain⟨m,hn,_⟩:=I.loc;refine .cons (by rw[I.ok.kind];decide) hf hn ?_ I.ya;exact Heap.get?_none_of_le (cQ I.ok.R9 I.ok.above)
theorem Inv.QP(I:Inv X pins σ H s):∀b∈RJ X.stack,b∈X.env.locals::X.fs:=fun b hb=>by
 rcases I.ok.QQ with e|⟨e,hf⟩
 ·rw[e]at hb;exact bC _ hb
 rw[e]at hb;unfold RJ at hb;rw[Bk,hf]at hb;exact hb
theorem Inv.Lo(I:Inv X pins σ H s):∀b∈RJ X.stack,H b=ab:=fun b hb=>by
 rcases bP.mp (I.QP b hb)with e|hb
 ·rw[e];exact I.free
 obtain⟨_,o,ho,_⟩:=I.ok.ya.mem hb;exact I.base.free b o ho (I.ok.Vj b hb) fun z=>I.ok.My b z hb
theorem Inv.step{g':Array J6}{t':Nat}{d':Drawn}{ch:ag}(I:Inv X pins σ H s)
 (Vb:∀b∈ch,(b∈X.ex\/X.DC.heap.objs.size<=b)/\b≠X.env.locals/\(∀x c,X.env.cells.lookup x=aa c->c≠b)/\∀p∈X.pn++pins,p.1≠b)
 (keep:∀b o,b≠X.env.locals->b∉X.fs->b∉ch->s.heap.get? b=aa o->H b=ab->h'.get? b=aa o)
 (slot:∀b o,b≠X.env.locals->b∈X.fs->b∉ch->s.heap.get? b=aa o->H b=ab->∃sl,h'.get? b=aa {o with slots:=sl})(free:∀b o,b∉ch->s.heap.get? b=aa o->H b=ab->H' b=ab)
 (there:∀b o,b∉ch->s.heap.get? b=aa o->∃o',h'.get? b=aa o')
 (E8:∀b xs,H b=aa (.tup xs)->H' b=aa (.tup xs))(Il:∀b o u,H b=aa (.Vi o u)->H' b=aa (.Vi o u))(GC:∀b ps,H b=aa (.FZ ps)->∃more,H' b=aa (.FZ (ps++more)))
 (ns:∀m,s.heap.Ns X.env.locals m->h'.Ns X.env.locals m)(gd:yo X.prog X.w H' h')(hg:E7 g'):
 Inv X pins σ H' {s with heap:=h',gens:=g',drawn:=d',toks:=t'}:=by
 have neL:∀b o,X.DC.heap.get? b=aa o->b≠X.env.locals:=fun b o e=>cg (bI (bF e) I.ok.above)
 have neC:∀b o,X.DC.heap.get? b=aa o->b∉X.ex->b∉ch:=fun b o e hx hb=>by
  rcases(Vb b hb).1 with z|z
  ·exact hx z
  exact absurd (bI (bF e) z) (gC _)
 have cellK:∀x c,X.env.cells.lookup x=aa c->∀v,s.heap.IsCell c v->h'.IsCell c v:=fun x c e v ⟨o,ho,hd⟩=>by
  have nch:c∉ch:=fun z=>(Vb c z).2.2.1 x c e rfl;by_cases hc:c∈X.fs
  ·obtain⟨sl,q⟩:=slot c o (I.cne x c e) hc nch ho (I.pY x c e);exact⟨_,q,hd⟩
  exact⟨o,keep c o (I.cne x c e) hc nch ho (I.pY x c e),hd⟩
 refine⟨I.ok,I.os,hg,⟨fun b o e n hb hx=>?_,fun b o e n hb hx=>?_,fun b o e n hx=>?_,fun b o e hx=>?_,fun b xs e=>E8 b xs (I.base.E8 b xs e),fun b o xs e=>Il b o xs (I.base.Il b o xs e),fun b ps e=>?_⟩,?_,fun x c e=>?_,?_,fun x c e=>?_,fun p hp=>?_,gd,I.len⟩
 ·exact keep b o (neL b o e) hb (neC b o e hx) (I.base.keep b o e n hb hx) (I.base.free b o e n hx)
 ·obtain⟨sl,e1⟩:=I.base.slot b o e n hb hx
  obtain⟨sl',e2⟩:=slot b _ (neL b o e) hb (neC b o e hx) e1 (I.base.free b o e n hx)
  exact⟨sl',e2⟩
 ·obtain⟨o',e1⟩:=I.base.there b o e hx
  exact free b o' (neC b o e hx) e1 (I.base.free b o e n hx)
 ·obtain⟨o',e1⟩:=I.base.there b o e hx
  exact there b o' (neC b o e hx) e1
 ·obtain⟨m1,e1⟩:=I.base.GC b ps e
  obtain⟨m2,e2⟩:=GC b _ e1
  exact⟨m1++m2,by rw[e2,Array.append_assoc]⟩
 ·obtain⟨m,hn,hl⟩:=I.loc
  refine⟨m,ns m hn,fun i x v e1 e2 e3=>?_⟩
  obtain⟨u,r,l⟩:=hl i x v e1 e2 e3
  refine⟨u,r,?_⟩
  rcases l with l|⟨k,c,e,z⟩
  ·exact .inl l
  exact .inr ⟨k,c,e,cellK x c e _ z⟩
 ·obtain⟨v,z⟩:=I.cell x c e
  exact⟨v,cellK x c e v z⟩
 ·obtain⟨m,⟨o,_,_,ho,_⟩,_⟩:=I.loc
  exact free _ o (fun z=>(Vb _ z).2.1 rfl) ho I.free
 ·obtain⟨v,o,ho,hd⟩:=I.cell x c e
  exact free c o (fun z=>(Vb c z).2.2.1 x c e rfl) ho (I.pY x c e)
 obtain⟨e,n,ne,nf,d⟩:=I.pin p hp
 have nch:p.1∉ch:=fun z=>(Vb p.1 z).2.2.2 p hp rfl
 exact⟨keep p.1 p.2 ne nf nch e n,free p.1 p.2 nch e n,ne,nf,d⟩
theorem Inv.un{t':Nat}(I:Inv X pins σ H s)(u:Un X.fs [] H H' s.heap h')(gd:yo X.prog X.w H' h'):Inv X pins σ H' {s with heap:=h',toks:=t'}:=by
 obtain⟨m,⟨o,es,ep,ho,r⟩,_⟩:=id I.loc;obtain⟨sl,hL⟩:=u.any ho I.free (by simp)
 exact I.step (g':=s.gens) (d':=s.drawn) (ch:=[]) (fun _ z=>nomatch z) (fun b o _ hb _ e n=>u.keep b o e n hb (by simp)) (fun b o _ hb _ e n=>u.slot b o e n hb (by simp)) (fun b o _ e n=>u.free b o e n (by simp)) (fun b o _ e=>u.there b o e (by simp)) u.E8 u.Il u.GC (fun m' hm=>by
  obtain⟨o',Vp,ep',ET,r'⟩:=hm;rw[ho]at ET;cases ET;exact⟨_,Vp,ep',hL,r'⟩) gd I.bare
theorem Inv.call{g':Array J6}{t':Nat}{d':Drawn}{ch:ag}(I:Inv X pins σ H s)(u:Un (RJ X.stack) ch H H' s.heap h')(gd:yo X.prog X.w H' h')(hg:E7 g')
 (Vb:∀b∈ch,(b∈X.ex\/X.DC.heap.objs.size<=b)/\b≠X.env.locals/\(∀x c,X.env.cells.lookup x=aa c->c≠b)/\∀p∈X.pn++pins,p.1≠b):
 Inv X pins σ H' {s with heap:=h',gens:=g',drawn:=d',toks:=t'}:=by
 obtain⟨m,⟨o,es,ep,ho,r⟩,_⟩:=id I.loc
 obtain⟨sl,hL⟩:=u.any ho I.free fun z=>(Vb _ z).2.1 rfl
 exact I.step (ch:=ch) Vb (fun b o hL hb hc e n=>u.keep b o e n (fun z=>(bP.mp (I.QP b z)).elim hL hb) hc) (fun b o _ _ hc e n=>u.any e n hc) (fun b o hc e n=>u.free b o e n hc) (fun b o hc e=>u.there b o e hc) u.E8 u.Il u.GC (fun m' hm=>by
  obtain⟨o',Vp,ep',ET,r'⟩:=hm;rw[ho]at ET;cases ET;exact⟨_,Vp,ep',hL,r'⟩) gd hg
theorem Inv.turned{t':Nat}{it:Addr}(I:Inv X pins σ H s)(k:∀b o,b≠it->s.heap.get? b=aa o->h'.get? b=aa o)(hn:H it=ab)(hL:it≠X.env.locals)
 (h1:it∈X.ex\/X.DC.heap.objs.size<=it)(h2:∀x c,X.env.cells.lookup x=aa c->c≠it)(h3:∀p∈X.pn++pins,p.1≠it):Inv X pins σ H {s with heap:=h',toks:=t'}:=by
 have nit:∀b u,H b=aa u->b≠it:=fun b u e z=>by rw[z,hn]at e;cases e
 refine I.step (g':=s.gens) (d':=s.drawn) (ch:=[it]) (fun b hb=>?_) (fun b o _ _ hc e _=>k b o (fun z=>hc (by simp[z])) e) (fun b o _ _ hc e _=>⟨o.slots,k b o (fun z=>hc (by simp[z])) e⟩) (fun _ _ _ _ n=>n)
  (fun b o hc e=>⟨o,k b o (fun z=>hc (by simp[z])) e⟩) (fun _ _ e=>e) (fun _ _ _ e=>e) (fun b ps e=>⟨#[],by rw[e];simp⟩) (fun m hm=>?_) (fun b u e=>?_) I.bare
 ·have e:b=it:=by simpa using hb
  subst e
  exact⟨h1,hL,h2,h3⟩
 ·obtain⟨o,es,ep,ho,r⟩:=hm
  exact⟨o,es,ep,k _ o (de hL) ho,r⟩
 refine(I.gd b u e).tJ (fun c v hc q=>k c v ?_ q) (fun _ q=>q) fun _ _ q=>q
 rcases hc with z|z
 ·rw[z];exact nit b u e
 exact nit c _ z
theorem Inv.tok(I:Inv X pins σ H s)(t:Nat):Inv X pins σ H {s with toks:=t}:=I.un (h':=s.heap) (t':=t) Un.refl I.gd
theorem Inv.kept{t':Nat}(I:Inv X pins σ H s)(k:∀b u,s.heap.get? b=aa u->h'.get? b=aa u):Inv X pins σ H {s with heap:=h',toks:=t'}:=I.un (Un.kept k) (I.gd.kept k)
theorem Inv.laid{a:Addr}{o:HO}{t':Nat}(I:Inv X pins σ H s)(k:∀b u,s.heap.get? b=aa u->h'.get? b=aa u)(hp:s.heap.objs.size<=a)(new:ja X.prog X.w (upd H a o) h' a o):
 Inv X pins σ (upd H a o) {s with heap:=h',toks:=t'}:=I.un (Un.laid k hp (I.gd.fresh hp)) (I.gd.laid k hp new)
theorem Inv.write{x e:Addr}{o:HO}{t':Nat}(I:Inv X pins σ H s)(mu:Mut (H x))(he:e=x\/H e=aa (.own x))(k:∀b u,b≠e->s.heap.get? b=aa u->h'.get? b=aa u)(heo:∃u,h'.get? e=aa u)
 (new:ja X.prog X.w (upd H x o) h' x o):Inv X pins σ (upd H x o) {s with heap:=h',toks:=t'}:=I.un (Un.write mu he k heo) (I.gd.write mu he k heo new)
theorem Inv.weak{σ':List (Option V)}(I:Inv X pins σ H s)(hl:σ'.length=σ.length)(w:∀(i:Nat) v,σ'[i]?=aa (aa v)->σ[i]?=aa (aa v)):Inv X pins σ' H s:=
 ⟨I.ok,I.os,I.bare,I.base,let⟨m,hn,NM⟩:=I.loc;⟨m,hn,fun i x v e1 e2 e3=>NM i x v e1 (w i v e2) e3⟩,I.cell,I.free,I.pY,I.pin,I.gd,hl.trans I.len⟩
theorem Inv.BB{abL:ah}(I:Inv X pins σ H s)(h:∀p∈abL,s.heap.get? p.1=aa p.2/\H p.1=ab/\p.1≠X.env.locals/\p.1∉X.fs/\∀v,p.2.data≠ .cell v):Inv X abL σ H s:=
 ⟨I.ok,I.os,I.bare,I.base,I.loc,I.cell,I.free,I.pY,fun p hp=>(d5.mp hp).elim (fun z=>I.pin p (fI _ z)) (h p),I.gd,I.len⟩
theorem BO{N:ak}(hN:N.Nodup){i j:Nat}{x:Str}(a:N[i]?=aa x)(b:N[j]?=aa x):i=j:=by
 obtain⟨h1,e1⟩:=aZ.mp a;obtain⟨h2,e2⟩:=aZ.mp b;exact(Gs hN).mp (e1.trans e2.symm)
theorem Ki{M:NU}{A:cX}{E:ar}{i:Nat}{x:Str}{v:V}{u:aY}{Q:Unit->bf->Prop}(I:Inv X pins σ H s)(hN:X.N.Nodup)(hi:X.N[i]?=aa x)(hx:Loc X.env.scope x)(r:RelV v u)
 (h:∀s',Inv X pins (σ.set i (aa v)) H s'->(∃a,kN a s.heap s'.heap/\(a=X.env.locals\/X.env.cells.lookup x=aa a))->Q () s')(hf:X.fn x=ae\/X.env.scope.names.lookup x=aa .local:=by first|exact .inl rfl|exact .inr rfl|assumption):bL M A (storeName X.env x u) Q E s:=by
 obtain⟨m,hn,hl⟩:=id I.loc
 have aec:(X.env.scope.kind== .class||(X.env.scope.kind== .module&&X.env.locals != X.env.globals))=af:=by rw[I.ok.kind];rfl
 have hiσ:i<σ.length:=by rw[I.len];exact(aZ.mp hi).1
 have cne:=I.cne
 have tracked:∀{a:Addr}{h':Heap},(∃o,s.heap.get? a=aa o/\H a=ab)->kN a s.heap h'->yo X.prog X.w H h':=fun{a h'} ha hs b ob e=>by
  obtain⟨_,_,KN⟩:=ha;refine(I.gd b ob e).tJ (fun c w' hc q=>(hs.2 c ?_).trans q) (fun _ q=>q) fun _ _ q=>q;rintro rfl;rcases hc with rfl|hc
  ·rw[KN]at e;cases e
  rw[KN]at hc;cases hc
 rcases hx with hk|hk
 ·refine wpAny_storeName_local hk hn (fun h' hn' hs=>?_) aec
  obtain⟨oL,_,_,hoL,_⟩:=id hn
  refine h _ ⟨I.ok,I.os,I.bare,⟨fun b o e n hb hx=>?_,fun b o e n hb hx=>?_,I.base.free,fun b o e hx=>?_,I.base.E8,I.base.Il,I.base.GC⟩,⟨_,hn',fun j y v' e1 e2 e3=>?_⟩,fun y c e=>?_,I.free,I.pY,fun p hp=>?_,tracked ⟨oL,hoL,I.free⟩ hs,by simpa using I.len⟩ ⟨_,hs,.inl rfl⟩
  ·exact(hs.2 b (cg (bI (bF e) I.ok.above))).trans (I.base.keep b o e n hb hx)
  ·obtain⟨sl,e1⟩:=I.base.slot b o e n hb hx
   exact⟨sl,(hs.2 b (cg (bI (bF e) I.ok.above))).trans e1⟩
  ·obtain⟨o',e1⟩:=I.base.there b o e hx
   exact⟨o',(hs.2 b (cg (bI (bF e) I.ok.above))).trans e1⟩
  ·by_cases hj:j=i
   ·subst hj
    rw[hi]at e1;cases e1
    rw[o4 hiσ]at e2
    cases e2
    exact⟨u,r,.inl ⟨hk,by simp⟩⟩
   rw[qN (de hj)]at e2
   obtain⟨u',r',q⟩:=hl j y v' e1 e2 e3
   refine⟨u',r',?_⟩
   rcases q with⟨k,e⟩|⟨k,c,e,z⟩
   ·refine .inl ⟨k,?_⟩
    have:y≠x:=fun e=>hj (BO hN e1 (e▸hi))
    simp[this,e]
   exact .inr ⟨k,c,e,z.sameBut hs (cne y c e)⟩
  ·obtain⟨w',z⟩:=I.cell y c e
   exact⟨w',z.sameBut hs (cne y c e)⟩
  obtain⟨e,n,ne,nf,d⟩:=I.pin p hp
  exact⟨(hs.2 p.1 ne).trans e,n,ne,nf,d⟩
 have hfn:X.fn x=ae:=by
  rcases hf with z|z
  ·exact z
  rw[z]at hk;cases hk
 obtain⟨c,hc⟩:=I.ok.has x (.inl hk)
 obtain⟨w',z⟩:=I.cell x c hc
 refine wpAny_storeName_cell I.ok.kind hk hc z (fun h' hc' hs=>?_)
 obtain⟨oc,hoc,ajE⟩:=id z
 refine h {s with heap:=h'} ⟨I.ok,I.os,I.bare,⟨fun b o e n hb hx=>?_,fun b o e n hb hx=>?_,I.base.free,fun b o e hx=>?_,I.base.E8,I.base.Il,I.base.GC⟩,⟨m,hn.sameBut hs (de (cne x c hc)),fun j y v' e1 e2 e3=>?_⟩,fun y c' e=>?_,I.free,I.pY,fun p hp=>?_,tracked ⟨oc,hoc,I.pY x c hc⟩ hs,by simpa using I.len⟩ ⟨c,hs,.inr hc⟩
 ·exact(hs.2 b (cg (bI (bF e) (I.ok.cab x c hfn hc)))).trans (I.base.keep b o e n hb hx)
 ·obtain⟨sl,e1⟩:=I.base.slot b o e n hb hx
  exact⟨sl,(hs.2 b (cg (bI (bF e) (I.ok.cab x c hfn hc)))).trans e1⟩
 ·obtain⟨o',e1⟩:=I.base.there b o e hx
  exact⟨o',(hs.2 b (cg (bI (bF e) (I.ok.cab x c hfn hc)))).trans e1⟩
 ·by_cases hj:j=i
  ·subst hj
   rw[hi]at e1;cases e1
   rw[o4 hiσ]at e2
   cases e2
   exact⟨u,r,.inr ⟨.inl hk,c,hc,hc'⟩⟩
  rw[qN (de hj)]at e2
  obtain⟨u',r',q⟩:=hl j y v' e1 e2 e3
  refine⟨u',r',?_⟩
  rcases q with q|⟨k,c',e,z'⟩
  ·exact .inl q
  refine .inr ⟨k,c',e,z'.sameBut hs ?_⟩
  rintro rfl
  exact hj (BO hN e1 (I.ok.inj _ _ _ e hc▸hi))
 ·by_cases hcc:c'=c
  ·subst hcc;exact⟨_,hc'⟩
  obtain⟨w2,z2⟩:=I.cell y c' e
  exact⟨w2,z2.sameBut hs hcc⟩
 obtain⟨e,n,ne,nf,d⟩:=I.pin p hp
 refine⟨(hs.2 p.1 ?_).trans e,n,ne,nf,d⟩
 intro q
 rw[q,hoc]at e
 have q':oc=p.2:=bR e
 exact d w' (by rw[<-q'];exact ajE)
theorem Bo{M:NU}{A:cX}{E:ar}{i:Nat}{x:Str}{v:V}{u:aY}{Q:Unit->bf->Prop}(I:Inv X pins σ H s)(hN:X.N.Nodup)(hi:X.N[i]?=aa x)(hx:Loc X.env.scope x)(r:RelV v u)
 (h:∀s',Inv X pins (σ.set i (aa v)) H s'->Q () s')(hf:X.fn x=ae\/X.env.scope.names.lookup x=aa .local:=by first|exact .inl rfl|exact .inr rfl|assumption):bL M A (storeName X.env x u) Q E s:=
 Ki I hN hi hx r (fun s' I' _=>h s' I') hf
theorem Inv.ab3{s':bf}{ch:ag}(I:Inv X pins σ H s)(ho:s'.os=s.os)(u:Un (RJ X.stack) ch H H' s.heap s'.heap)(gd:yo X.prog X.w H' s'.heap)(hg:E7 s'.gens)
 (Vb:∀b∈ch,(b∈X.ex\/X.DC.heap.objs.size<=b)/\b≠X.env.locals/\(∀x c,X.env.cells.lookup x=aa c->c≠b)/\∀p∈X.pn++pins,p.1≠b):Inv X pins σ H' s':=by
 obtain⟨h',g',d',t',o'⟩:=s'
 have e:o'=s.os:=ho
 subst e
 exact I.call (g':=g') (t':=t') (d':=d') u gd hg Vb
end
abbrev XK:=aY->Option Addr->Hp->Prop
abbrev St:=List (Option V)
abbrev VK:=V->Hp->Prop
abbrev TE:=St->Hp->VK->Prop
abbrev TT:=St->Hp->(Bool->Hp->Prop)->Prop
abbrev TA:=St->Hp->(ao->Hp->Prop)->Prop
structure Ends where
 nx:St->Hp->Prop
 rt:VK
 bk:St->Hp->Prop:=fun _ _=>False
 ct:St->Hp->Prop:=fun _ _=>False
abbrev TS:=Ends->St->Hp->Prop
inductive EP(X:Cx)(pins:ah)(σ:St)(Q:VK)(u:aY)(s':bf):Prop
 |mk (v:V) (H':Hp) (_:Inv X pins σ H' s') (_:RelV v u) (_:Q v H')
inductive TP(X:Cx)(pins:ah)(σ:St)(Q:Bool->Hp->Prop)(b:Bool)(s':bf):Prop
 |mk (H':Hp) (_:Inv X pins σ H' s') (_:Q b H')
inductive AP(X:Cx)(pins:ah)(σ:St)(Q:ao->Hp->Prop)(us:au)(s':bf):Prop
 |mk (vs:ao) (H':Hp) (_:Inv X pins σ H' s') (_:Vals vs us) (_:Q vs H')
def SP(X:Cx)(pins:ah)(D:Ends)(f:Flow)(s':bf):Prop:=
 match f with
 |.next=>∃σ' H',Inv X pins σ' H' s'/\D.nx σ' H'
 |.brk=>∃σ' H',Inv X pins σ' H' s'/\D.bk σ' H'
 |.cont=>∃σ' H',Inv X pins σ' H' s'/\D.ct σ' H'
 |.ret u=>∃v σ' H',Inv X pins σ' H' s'/\RelV v u/\D.rt v H'
def PE(X:Cx)(e:Expr)(t:TE):Prop:=
 ∀(pins:ah)(s:bf)(σ:St)(H:Hp)(Q:VK),Inv X pins σ H s->t σ H Q->bL (bJ X.prog X.w) X.A (eval e X.env) (EP X pins σ Q) X.xe s
def PT(X:Cx)(e:Expr)(t:TT):Prop:=
 ∀(pins:ah)(s:bf)(σ:St)(H:Hp)(Q:Bool->Hp->Prop),Inv X pins σ H s->t σ H Q->bL (bJ X.prog X.w) X.A (isTrue e X.env (eval e X.env)) (TP X pins σ Q) X.xe s
def PW(X:Cx)(e:Expr)(t:TT):Prop:=
 ∀(whole:Sem aY)(pins:ah)(s:bf)(σ:St)(H:Hp)(Q:Bool->Hp->Prop),Inv X pins σ H s->t σ H Q->bL (bJ X.prog X.w) X.A (isTrue e X.env whole) (TP X pins σ Q) X.xe s
theorem PW.pt{X:Cx}{e:Expr}{t:TT}(h:PW X e t):PT X e t:=h _
def PA(X:Cx)(es:List Expr)(t:TA):Prop:=
 ∀(pos:Pos)(pins:ah)(s:bf)(σ:St)(H:Hp)(Q:ao->Hp->Prop),Inv X pins σ H s->t σ H Q->bL (bJ X.prog X.w) X.A (EZ (gz pos (bW es X.env))) (AP X pins σ Q) X.xe s
def PS(X:Cx)(st:Stmt)(t:TS):Prop:=
 ∀(pins:ah)(s:bf)(σ:St)(H:Hp)(D:Ends),Inv X pins σ H s->t D σ H->bL (bJ X.prog X.w) X.A (exec st X.env) (SP X pins D) X.xe s
def Nm(X:Cx)(st:List Stmt)(t:TS):Prop:=
 ∀(pins:ah)(s:bf)(σ:St)(H:Hp)(D:Ends),Inv X pins σ H s->t D σ H->bL (bJ X.prog X.w) X.A (execs st X.env) (SP X pins D) X.xe s
theorem ib{α:Type}{t:Sem α}{Q Q':α->bf->Prop}{M:NU}{A:cX}{E:ar}{s:bf}(h:bL M A t Q E s)(hQ:∀a s,Q a s->Q' a s):bL M A t Q' E s:=eD h hQ fun _ _ x=>x
section
variable{X:Cx}
inductive Ak(i:Nat)(σ:L2.St)(H:Hp)(Q:VK):Prop
 |mk (v:_) (_:σ[i]?=aa (aa v)) (_:Q v H)
def tC(v:V):TE:=fun _ H Q=>Q v H
theorem ade{i:Nat}{x:Str}{pos:Pos}(hN:X.N[i]?=aa x)(hv:Vis X.env.scope x)(hd:(x==("__debug__":Str))=af:=by decide)(NN:(x==("__classdict__":Str))=af:=by decide):PE X (.Name x pos) (Ak i):=by
 intro pins s σ H Q I h;obtain⟨v,e,h⟩:=h;obtain⟨m,hn,hl⟩:=I.loc;obtain⟨u,r,l⟩:=hl i x v hN e hv;have fin:EP X pins σ Q u s:=⟨v,H,I,r,h⟩;rcases l with⟨hk,hm⟩|⟨hk,c,hc,TV⟩
 ·exact vZ (sO I.ok.kind hk hn hm fin) hd
 rcases hk with hk|hk
 ·exact vZ (wpAny_loadName_cell I.ok.kind hk hc TV fin) hd
 exact vZ (FJ I.ok.kind hk hc TV fin NN) hd
theorem cE{i j pos}:PE X (.Constant (.int i) j pos) (tC (.int i)):=fun _ _ _ H _ I h=>IM ⟨.int i,H,I.tok _,⟨_,rfl⟩,h⟩
theorem zV{b j pos}:PE X (.Constant (.bool b) j pos) (tC (.bl b)):=fun _ _ _ H _ I h=>Constant_bool ⟨.bl b,H,I,rfl,h⟩
theorem adg{j pos}:PE X (.Constant .none j pos) (tC .j5):=fun _ _ _ H _ I h=>Constant_none ⟨.j5,H,I,rfl,h⟩
theorem eM{x j pos}:PE X (.Constant (.str x) j pos) (tC (.str x)):=fun _ _ _ H _ I h=>Calls.Constant_str ⟨.str x,H,I.tok _,⟨_,rfl⟩,h⟩
def Gl(X:Cx)(x:Str):Prop:=X.env.kindOf x=aa .globalImplicit
theorem sZ{E:ar}{pins:ah}{s:bf}{σ:St}{H:Hp}{x:Str}{u:aY}{pos:Pos}{Q:ar}(I:Inv X pins σ H s)(hg:Gl X x)(hm:X.mg x=aa u)(h:Q u s)
 (hd:(x==("__debug__":Str))=af:=by decide):bL (bJ X.prog X.w) X.A (eval (.Name x pos) X.env) Q E s:=
 J8 I.ok.kind hg (Calls.loadGlobal_global (by rw[I.ok.glob];exact I.mod.glob.keeps I.bk) hm h) hd
theorem rO{E:ar}{pins:ah}{s:bf}{σ:St}{H:Hp}{x:Str}{u:aY}{pos:Pos}{Q:ar}(I:Inv X pins σ H s)(hg:Gl X x)(hm:X.mg x=ab)(hv:ij x=aa u)(h:Q u s)
 (hn:x≠"__name__":=by decide)(hd:(x==("__debug__":Str))=af:=by decide):bL (bJ X.prog X.w) X.A (eval (.Name x pos) X.env) Q E s:=by
 obtain⟨mb,h1,h2⟩:=I.mod.blt
 exact J8 I.ok.kind hg (Calls.loadGlobal_builtin (by rw[I.ok.glob];exact I.mod.glob.keeps I.bk) hm (by rw[I.ok.blt];exact h1.keeps I.bk) ((h2 x hn).trans hv) h) hd
theorem Gb{x:Str}{v:V}{u:aY}{pos:Pos}(hg:Gl X x)(hm:X.mg x=aa u)(r:RelV v u)(hd:(x==("__debug__":Str))=af:=by decide):PE X (.Name x pos) (tC v):=
 fun _ _ _ H _ I h=>sZ I hg hm ⟨v,H,I,r,h⟩ hd
theorem aad{x:Str}{v:V}{u:aY}{pos:Pos}(hg:Gl X x)(hm:X.mg x=ab)(hv:ij x=aa u)(r:RelV v u)(hn:x≠"__name__":=by decide)(hd:(x==("__debug__":Str))=af:=by decide):PE X (.Name x pos) (tC v):=
 fun _ _ _ H _ I h=>rO I hg hm hv ⟨v,H,I,r,h⟩ hn hd
variable{a b:Expr}{ta tb:TE}{pos:Pos}
def PC(X:Cx)(op:Wa)(a b:Expr)(t:TE):Prop:=
 ∀(pins:ah)(s:bf)(σ:St)(H:Hp)(Q:VK),Inv X pins σ H s->t σ H Q->
  bL (bJ X.prog X.w) X.A (eval a X.env) (fun v s₁=>bL (bJ X.prog X.w) X.A (eval b X.env) (fun u s₂=>bL (bJ X.prog X.w) X.A (i9 op v u) (EP X pins σ Q) X.xe s₂) X.xe s₁) X.xe s
theorem XA(b:Expr){op:Wa}(h:op≠ .In)(h2:op≠ .NotIn):oP op b=af:=by
 have e1:(op==CmpOp.In)=af:=by cases op<;>first|rfl|exact absurd rfl h
 have e2:(op==CmpOp.NotIn)=af:=by cases op<;>first|rfl|exact absurd rfl h2
 cases b<;>simp[oP,e1,e2]
def ait(ta:TE):TE:=fun σ H Q=>ta σ H fun x H1=>Q (.bl (decide (x=.j5))) H1
theorem RelV.Xz{x:V}{v:aY}(r:RelV x v):(v==eF)=decide (x=.j5):=by
 cases x with
 |j5=>cases r;rfl
 |bl _=>cases r;rfl
 |int _=>obtain⟨t,rfl⟩:=r;rfl
 |str _=>obtain⟨t,rfl⟩:=r;rfl
 |VC _=>obtain⟨t,rfl⟩:=r;rfl
 |flt _=>obtain⟨t,rfl⟩:=r;rfl
 |ref _=>cases r;rfl
 |ty _=>cases r;rfl
theorem adk{j pos'}(ha:PE X a ta):PC X .Is a (.Constant .none j pos') (ait ta):=by
 intro pins s σ H Q I h;refine ib (ha pins s σ H _ I h) fun v s1 ⟨x,H1,I1,r1,q1⟩=>?_;exact Constant_none (is_none_gen ⟨.bl _,H1,I1,by rw[r1.Xz];rfl,q1⟩)
inductive tBI(Q:Bool->Hp->Prop)(x:V)(H1:Hp):Prop
 |mk (c:_) (_:x=.bl c) (_:Q c H1)
def tB(t:TE):TT:=fun σ H Q=>t σ H fun x H1=>tBI Q x H1
theorem DG{op:Wa}{t:TE}(h:PC X op a b t)(h1:oP op b=af:=by first|exact XA _ (by decide) (by decide)|rfl):PT X (.Compare a [op] [b] pos) (tB t):=by
 intro pins s σ H Q I hw;refine Zv (ib (h pins s σ H _ I hw) fun v s1 h1=>ib h1 fun u s2 h2=>ib h2 fun c s3 ⟨x,H1,I1,r1,q1⟩=>?_) h1;obtain⟨d,rfl,q⟩:=q1;cases r1;exact ig ⟨H1,I1,q⟩
theorem jw{e:Expr}{t:TE}(h:PE X e t)(he:∀whole,isTrue e X.env whole=(do let v<-whole;se e.pos;qG [v] (truthy v)):=by intro _;rfl):PT X e (tB t):=by
 intro pins s σ H Q I hw;refine isTrue_plain (ib (h pins s σ H _ I hw) fun v s1 ⟨x,H1,I1,r1,q1⟩=>?_) (he _);obtain⟨d,rfl,q⟩:=q1;cases r1;exact ig ⟨H1,I1,q⟩
variable{tA tB':TT}{rest:List Expr}
def aiy(t u:TT):TT:=fun σ H Q=>t σ H fun c H1=>if c=ae then u σ H1 Q else Q af H1
def tOr(t u:TT):TT:=fun σ H Q=>t σ H fun c H1=>if c=ae then Q ae H1 else u σ H1 Q
def aiq(t:TT):TT:=fun σ H Q=>t σ H fun c H1=>Q (!c) H1
theorem sV(ha:PT X a tA):PW X (.BoolOp .And [a] pos) tA:=by
 intro wh pins s σ H Q I h;refine isTrue_and (ib (ha pins s σ H Q I h) fun c s1 e=>?_);cases c with
 |true=>exact isTrue_and_nil e
 |false=>exact e
theorem DF(ha:PT X a tA):PW X (.BoolOp .Or [a] pos) tA:=by
 intro wh pins s σ H Q I h;refine isTrue_or (ib (ha pins s σ H Q I h) fun c s1 e=>?_);cases c with
 |false=>exact isTrue_or_nil e
 |true=>exact e
theorem xD(ha:PT X a tA)(hb:PW X (.BoolOp .And (b::rest) pos) tB'):PW X (.BoolOp .And (a::b::rest) pos) (aiy tA tB'):=by
 intro wh pins s σ H Q I h;refine isTrue_and (ib (ha pins s σ H _ I h) fun c s1 ⟨H1,I1,q1⟩=>?_);cases c with
 |true=>exact hb wh pins s1 σ H1 Q I1 q1
 |false=>exact⟨H1,I1,q1⟩
theorem Ku(ha:PT X a tA)(hb:PW X (.BoolOp .Or (b::rest) pos) tB'):PW X (.BoolOp .Or (a::b::rest) pos) (tOr tA tB'):=by
 intro wh pins s σ H Q I h;refine isTrue_or (ib (ha pins s σ H _ I h) fun c s1 ⟨H1,I1,q1⟩=>?_);cases c with
 |true=>exact⟨H1,I1,q1⟩
 |false=>exact hb wh pins s1 σ H1 Q I1 q1
theorem ub(ha:PT X a tA):PT X (.UnaryOp .Not a pos) (aiq tA):=by
 intro pins s σ H Q I h;exact isTrue_not (ib (ha pins s σ H (fun c H1=>Q (!c) H1) I h) fun _ _ ⟨H',I',q⟩=>⟨H',I',q⟩)
inductive acS(tb:TE)(σ:L2.St)(Q:VK)(x:V)(H1:Hp):Prop
 |mk (c:_) (_:x=.bl c) (_:if c=ae then tb σ H1 Q else Q (.bl af) H1)
def afz(ta tb:TE):TE:=fun σ H Q=>ta σ H fun x H1=>acS tb σ Q x H1
inductive afp(tb:TE)(σ:L2.St)(Q:VK)(x:V)(H1:Hp):Prop
 |mk (c:_) (_:x=.bl c) (_:if c=ae then Q (.bl ae) H1 else tb σ H1 Q)
def aip(ta tb:TE):TE:=fun σ H Q=>ta σ H fun x H1=>afp tb σ Q x H1
inductive acK(Q:VK)(x:V)(H1:Hp):Prop
 |mk (c:_) (_:x=.bl c) (_:Q (.bl (!c)) H1)
def afq(ta:TE):TE:=fun σ H Q=>ta σ H fun x H1=>acK Q x H1
theorem vI{op}{t:TE}(h:PE X a t):PE X (.BoolOp op [a] pos) t:=fun pins s σ H Q I hw=>BoolOp_one (h pins s σ H Q I hw)
theorem vJ(ha:PE X a ta)(hb:PE X (.BoolOp .And (b::rest) pos) tb):PE X (.BoolOp .And (a::b::rest) pos) (afz ta tb):=by
 intro pins s σ H Q I h;refine BoolOp_and (ib (ha pins s σ H _ I h) fun v s1 ⟨x,H1,I1,r1,q1⟩=>?_);obtain⟨c,rfl,q1⟩:=q1;cases r1;refine ig ?_;cases c with
 |true=>exact hb pins s1 σ H1 Q I1 q1
 |false=>exact⟨.bl af,H1,I1,rfl,q1⟩
theorem afT(ha:PE X a ta)(hb:PE X (.BoolOp .Or (b::rest) pos) tb):PE X (.BoolOp .Or (a::b::rest) pos) (aip ta tb):=by
 intro pins s σ H Q I h;refine BoolOp_or (ib (ha pins s σ H _ I h) fun v s1 ⟨x,H1,I1,r1,q1⟩=>?_);obtain⟨c,rfl,q1⟩:=q1;cases r1;refine ig ?_;cases c with
 |false=>exact hb pins s1 σ H1 Q I1 q1
 |true=>exact⟨.bl ae,H1,I1,rfl,q1⟩
theorem adf(ha:PE X a ta):PE X (.UnaryOp .Not a pos) (afq ta):=by
 intro pins s σ H Q I h;refine UnaryOp_ (ib (ha pins s σ H _ I h) fun v s1 ⟨x,H1,I1,r1,q1⟩=>?_);obtain⟨c,rfl,q1⟩:=q1;cases r1;exact not_of (ig ⟨.bl (!c),H1,I1,rfl,q1⟩)
def tIf(t:TT)(ta tb:TE):TE:=fun σ H Q=>t σ H fun c H1=>if c=ae then ta σ H1 Q else tb σ H1 Q
theorem Xn{c:Expr}(hc:PT X c tA)(ha:PE X a ta)(hb:PE X b tb):PE X (.IfExp c a b pos) (tIf tA ta tb):=by
 intro pins s σ H Q I h;refine wpAny_IfExp (ib (hc pins s σ H _ I h) fun d s1 ⟨H1,I1,q1⟩=>?_);cases d with
 |true=>exact ha pins s1 σ H1 Q I1 q1
 |false=>exact hb pins s1 σ H1 Q I1 q1
end
def du(K:aX)(H:Hp)(a:Addr)(xs:ao):Prop:=
 Rd H a (.lst xs)\/
  ∃(o:Obj)(its:Array aY)(n:Nat),K.lookup a=aa o/\o.cls=.type "list"/\o.dict=ab/\o.data=.seq its n/\its.size<=bz/\Vals xs its.toList
def wC(K:aX)(H:Hp)(a:Addr)(xs:ao):Prop:=
 Rd H a (.tup xs)\/
  ∃(o:Obj)(its:Array aY)(n:Nat),K.lookup a=aa o/\o.cls=.type "tuple"/\o.data=.seq its n/\its.size<=bz/\Vals xs its.toList
def aa4:aY->Option V
 |.none=>aa .j5
 |.bool b=>aa (.bl b)
 |.int i _=>aa (.int i)
 |.str x _=>aa (.str x)
 |.bytes b _=>aa (.VC b)
 |.float b _=>aa (.flt b)
 |.ref a=>aa (.ref a)
 |.type n=>aa (.ty n)
 |_=>ab
theorem RelV.abs{x:V}{u:aY}(r:RelV x u):aa4 u=aa x:=by
 cases x with
 |j5=>cases r;rfl
 |bl _=>cases r;rfl
 |int _=>obtain⟨t,rfl⟩:=r;rfl
 |str _=>obtain⟨t,rfl⟩:=r;rfl
 |VC _=>obtain⟨t,rfl⟩:=r;rfl
 |flt _=>obtain⟨t,rfl⟩:=r;rfl
 |ref _=>cases r;rfl
 |ty _=>cases r;rfl
theorem RelV.inj{x y:V}{u:aY}(r:RelV x u)(q:RelV y u):x=y:=bR (r.abs.symm.trans q.abs)
theorem Vals.inj:∀{xs ys:ao}{us:au},Vals xs us->Vals ys us->xs=ys
 |_,_,_,.nil,.nil=>rfl
 |_,_,_,.cons r t,.cons r' t'=>by rw[r.inj r',Vals.inj t t']
section
variable{X:Cx}{pins:ah}{σ:St}{H:Hp}{s:bf}{a:Addr}{xs ys:ao}
theorem du.of{K:aX}(h:H a=aa (.lst xs)):du K H a xs:=.inl (.inl h)
theorem wC.of{K:aX}(h:H a=aa (.tup xs)):wC K H a xs:=.inl (.inl h)
theorem Inv.list(I:Inv X pins σ H s)(h:du X.K H a xs):∃its:au,Vals xs its/\PlainL s.heap a its.toArray/\xs.length<=bz:=by
 rcases h with h|⟨o,its,n,hk,hc,hd,hs,hz,r⟩
 ·obtain⟨z,its,n,r,e⟩:=h.ok I.gd;exact⟨its,r,⟨_,n,e,rfl,rfl,rfl⟩,z⟩
 refine⟨its.toList,r,⟨o,n,I.wN a o hk,hc,hd,by simpa using hs⟩,?_⟩;have e:=r.length;simp only[cY]at e;omega
theorem Inv.tuple(I:Inv X pins σ H s)(h:wC X.K H a xs):∃its:au,Vals xs its/\IsTup s.heap a its.toArray/\xs.length<=bz:=by
 rcases h with h|⟨o,its,n,hk,hc,hs,hz,r⟩
 ·obtain⟨z,its,r,p⟩:=h.ok I.gd;exact⟨its,r,p,z⟩
 refine⟨its.toList,r,⟨o,I.wN a o hk,hc,n,by simpa using hs⟩,?_⟩;have e:=r.length;simp only[cY]at e;omega
theorem Inv.HP(I:Inv X pins σ H s)(h:du X.K H a xs)(h':du X.K H a ys):xs=ys:=by
 obtain⟨its,r,⟨o,n,e,_,_,d⟩,_⟩:=I.list h;obtain⟨its',r',⟨o',n',e',_,_,d'⟩,_⟩:=I.list h';rw[e]at e';cases e';rw[d]at d';injection d' with d1 _
 have:its=its':=by simpa using congrArg Array.toList d1
 subst this;exact r.inj r'
end
abbrev Cx.tH(X:Cx)(E:ar):Cx:={X with xe:=E}
abbrev Cx.nox(X:Cx):Cx:=X.tH fun _ _=>False
theorem Cx.Ok.tH{X:Cx}(ok:X.Ok)(E:ar):(X.tH E).Ok:=
 ⟨ok.mod,ok.kind,ok.glob,ok.blt,ok.above,ok.inj,ok.has,ok.cab,ok.hd,ok.frames,ok.QQ,ok.exf,ok.bs,ok.R9,ok.LZ,ok.My,ok.ya,ok.Vj⟩
theorem Cx.Ok.o7{X:Cx}{E:ar}(ok:(X.tH E).Ok):X.Ok:=
 ⟨ok.mod,ok.kind,ok.glob,ok.blt,ok.above,ok.inj,ok.has,ok.cab,ok.hd,ok.frames,ok.QQ,ok.exf,ok.bs,ok.R9,ok.LZ,ok.My,ok.ya,ok.Vj⟩
section
variable{X:Cx}{pins:ah}{σ:St}{H:Hp}{s:bf}{E:ar}
theorem Inv.tH(I:Inv X pins σ H s)(E:ar):Inv (X.tH E) pins σ H s:=⟨I.ok.tH E,I.os,I.bare,I.base,I.loc,I.cell,I.free,I.pY,I.pin,I.gd,I.len⟩
theorem Inv.o7(I:Inv (X.tH E) pins σ H s):Inv X pins σ H s:=⟨I.ok.o7,I.os,I.bare,I.base,I.loc,I.cell,I.free,I.pY,I.pin,I.gd,I.len⟩
theorem SP.o7{D:Ends}{f:Flow}{s':bf}(h:SP (X.tH E) pins D f s'):SP X pins D f s':=by
 cases f with
 |next=>obtain⟨σ',H',I,q⟩:=h;exact⟨σ',H',I.o7,q⟩
 |brk=>obtain⟨σ',H',I,q⟩:=h;exact⟨σ',H',I.o7,q⟩
 |cont=>obtain⟨σ',H',I,q⟩:=h;exact⟨σ',H',I.o7,q⟩
 |ret u=>obtain⟨v,σ',H',I,r,q⟩:=h;exact⟨v,σ',H',I.o7,r,q⟩
theorem Nm.nox{st:List Stmt}{t:TS}(h:Nm X.nox st t):Nm X st t:=fun pins s σ H D I hw=>
 eD (h pins s σ H D (I.tH _) hw) (fun _ _ q=>q.o7) fun _ _ z=>fq z
end
section
variable{X:Cx}{st:Stmt}{rest:List Stmt}{t u:TS}{e:Expr}{te:TE}{pos:Pos}
def afr:TS:=fun D σ H=>D.nx σ H
def ain(t u:TS):TS:=fun D σ H=>t {D with nx:=u D} σ H
theorem cS:Nm X [] afr:=fun _ _ σ H _ I h=>uj ⟨σ,H,I,h⟩
theorem bh(h1:PS X st t)(h2:Nm X rest u):Nm X (st::rest) (ain t u):=by
 intro pins s σ H D I h;refine wpAny_execs_cons (ib (h1 pins s σ H {D with nx:=u D} I h) fun f s1 q=>?_);cases f with
 |next=>
  obtain⟨σ',H',I',q⟩:=q;exact h2 pins s1 σ' H' D I' q
 |ret v=>exact q
 |brk=>exact q
 |cont=>exact q
theorem bj(h1:PS X st t):Nm X [st] t:=by
 intro pins s σ H D I h;refine wpAny_execs_cons (ib (h1 pins s σ H D I h) fun f s1 q=>?_);cases f with
 |next=>exact uj q
 |ret v=>exact q
 |brk=>exact q
 |cont=>exact q
theorem Inv.quiet{pins:ah}{σ:St}{H:Hp}{s:bf}(I:Inv X pins σ H s):interactive X.env=af:=by simp[interactive,I.ok.kind]
def afw(te:TE):TS:=fun D σ H=>te σ H fun _ H1=>D.nx σ H1
theorem dJ(he:PE X e te)(hs:pR e ab pos.line X.env=pure af:=by rfl):PS X (.Expr e pos) (afw te):=by
 intro pins s σ H D I h;exact wpAny_Expr_any (ib (he pins s σ H _ I h) fun v s1 ⟨x,H1,I1,r1,q1⟩=>⟨σ,H1,I1,q1⟩) I.quiet hs
def aio(te:TE):TS:=fun D σ H=>te σ H D.rt
theorem b8(he:PE X e te):PS X (.Return (aa e) pos) (aio te):=by
 intro pins s σ H D I h;exact wpAny_Return_some (ib (he pins s σ H _ I h) fun v s1 ⟨x,H1,I1,r1,q1⟩=>⟨x,σ,H1,I1,r1,q1⟩)
def afn:TS:=fun D _ H=>D.rt .j5 H
theorem Td:PS X (.Return ab pos) afn:=fun _ _ σ H _ I h=>wpAny_Return_none ⟨.j5,σ,H,I,rfl,h⟩
def aiu(c:TT)(t u:TS):TS:=fun D σ H=>c σ H fun b H1=>if b=ae then t D σ H1 else u D σ H1
theorem d8{c:Expr}{a b:List Stmt}{tc:TT}(hc:PT X c tc)(ha:Nm X a t)(hb:Nm X b u):PS X (.If c a b pos) (aiu tc t u):=by
 intro pins s σ H D I h;refine wpAny_If (ib (hc pins s σ H _ I h) fun d s1 ⟨H1,I1,q1⟩=>?_);cases d with
 |true=>exact ha pins s1 σ H1 D I1 q1
 |false=>exact hb pins s1 σ H1 D I1 q1
end
abbrev TG:=V->St->Hp->(St->Hp->Prop)->Prop
abbrev TGs:=ao->St->Hp->(St->Hp->Prop)->Prop
def PG(X:Cx)(target:Expr)(t:TG):Prop:=
 ∀(pins:ah)(s:bf)(σ:St)(H:Hp)(v:V)(u:aY)(Q:St->Hp->Prop),Inv X pins σ H s->RelV v u->t v σ H Q->
  bL (bJ X.prog X.w) X.A (Sv target X.env u) (fun _ s'=>∃σ' H',Inv X pins σ' H' s'/\Q σ' H') X.xe s
def PGs(X:Cx)(ts:List Expr)(t:TGs):Prop:=
 ∀(pins:ah)(s:bf)(σ:St)(H:Hp)(vs:ao)(us:au)(Q:St->Hp->Prop),Inv X pins σ H s->Vals vs us->t vs σ H Q->
  bL (bJ X.prog X.w) X.A (assignInOrder ((AY ts X.env).map (·.2)) us) (fun _ s'=>∃σ' H',Inv X pins σ' H' s'/\Q σ' H') X.xe s
abbrev aeI:=V->V->V->Hp->(Hp->Prop)->Prop
def ahj(X:Cx)(t:aeI):Prop:=
 ∀(pins:ah)(s:bf)(σ:St)(H:Hp)(o i v:V)(ov iv u:aY)(Q:Hp->Prop),Inv X pins σ H s->RelV o ov->RelV i iv->RelV v u->t o i v H Q->
  bL (bJ X.prog X.w) X.A (setItem ov iv u) (fun _ s'=>∃H',Inv X pins σ H' s'/\Q H') X.xe s
abbrev TIp:=V->V->Hp->VK->Prop
def PIp(X:Cx)(op:Sx)(t:TIp):Prop:=
 ∀(pins:ah)(s:bf)(σ:St)(H:Hp)(x y:V)(v u:aY)(Q:VK),Inv X pins σ H s->RelV x v->RelV y u->t x y H Q->
  bL (bJ X.prog X.w) X.A (inplaceOp op v u) (EP X pins σ Q) X.xe s
section
variable{X:Cx}{pos:Pos}
def zY(i:Nat):TG:=fun v σ H Q=>Q (σ.set i (aa v)) H
theorem Z9{i:Nat}{x:Str}(hN:X.N.Nodup)(hi:X.N[i]?=aa x)(hx:Loc X.env.scope x)(hf:X.fn x=ae\/X.env.scope.names.lookup x=aa .local:=by first|exact .inl rfl|exact .inr rfl|assumption):PG X (.Name x pos) (zY i):=by
 intro pins s σ H v u Q I r h;exact wpAny_assign_Name (Bo I hN hi hx r (fun s' I'=>⟨_,H,I',h⟩) hf)
def agY:TGs:=fun vs σ H Q=>vs=[]/\Q σ H
inductive Yl(t:TG)(u:TGs)(vs:ao)(σ:L2.St)(H:Hp)(Q:L2.St->Hp->Prop):Prop
 |mk (v:_) (r:_) (_:vs=v::r) (_:t v σ H fun σ' H'=>u r σ' H' Q)
theorem mz:PGs X [] agY:=by
 intro pins s σ H vs us Q I r h;obtain⟨e,h⟩:=h;subst e;cases r;exact assignInOrder_nil ⟨σ,H,I,h⟩
theorem fh{e:Expr}{es:List Expr}{t:TG}{u:TGs}(h1:PG X e t)(h2:PGs X es u)
 (hs:(AY (e::es) X.env).map (·.2)=Sv e X.env::(AY es X.env).map (·.2):=by rfl):PGs X (e::es) (Yl t u):=by
 intro pins s σ H vs us Q I r h
 obtain⟨v,vr,e1,h⟩:=h
 subst e1
 cases r with
 |cons r rr=>
  rw[hs]
  refine assignInOrder_cons (ib (h1 pins s σ H _ _ _ I r h) fun _ s1 ⟨σ1,H1,I1,q1⟩=>?_)
  exact h2 pins s1 σ1 H1 _ _ Q I1 rr q1
inductive agX(K:aX)(n:Nat)(t:TGs)(v:V)(σ:L2.St)(H:Hp)(Q:L2.St->Hp->Prop):Prop
 |mk (a:_) (xs:_) (_:v=.ref a) (_:wC K H a xs) (_:xs.length=n) (_:t xs σ H Q)
theorem qy{es:List Expr}{k:Nat}{t:TGs}{n:Nat}(hc:X.calm=ae)(h:PGs X es t)
 (hn:(AY es X.env).length=n:=by rfl)(KL:(AY es X.env).findIdx? (·.1)=ab:=by rfl):PG X (.Tuple es k pos) (agX X.K n t):=by
 intro pins s σ H v u Q I r hw
 obtain⟨a,xs,e1,hq,hl,hw⟩:=hw
 subst e1
 cases r
 obtain⟨its,rv,ht,hz⟩:=I.tuple hq
 refine assign_Tuple_tuple (I.ok.hd hc) ht (by simp[hn,<-hl,rv.length]) KL fun h' hx=>?_
 have I1:Inv X pins σ H {s with heap:=h'}:=I.kept (t':=s.toks) fun b o e=>hx b o (cg (bF e)) e
 exact h pins _ σ H xs _ Q I1 (by simpa using rv) hw
def aki(to ti:TE)(t:aeI):TG:=fun v σ H Q=>to σ H fun o H1=>ti σ H1 fun i H2=>t o i v H2 fun H3=>Q σ H3
theorem DI{o i:Expr}{to ti:TE}{t:aeI}(ho:PE X o to)(hi:PE X i ti)(hs:ahj X t)
 (ha:∀v,Sv (.Subscript o i pos) X.env v=(do
  let ov<-qG [v] (eval o X.env)
  let iv<-qG [v,ov] (eval i X.env)
  se pos
  qG [v,ov,iv] (setItem ov iv v)
  release [v,ov,iv] []):=by intro _;rfl):PG X (.Subscript o i pos) (aki to ti t):=by
 intro pins s σ H v u Q I r h
 rw[ha]
 refine aO (d7 (ib (ho pins s σ H _ I h) fun ov s1 ⟨x,H1,I1,r1,q1⟩=>?_))
 refine aO (d7 (ib (hi pins s1 σ H1 _ I1 q1) fun iv s2 ⟨y,H2,I2,r2,q2⟩=>?_))
 refine aO (lO (aO (d7 (ib (hs pins s2 σ H2 x y v ov iv u _ I2 r1 r2 r q2) fun _ s3 ⟨H3,I3,q3⟩=>?_))))
 exact wpAny_release ⟨σ,H3,I3,q3⟩
def ZP(te:TE)(g:TG):TS:=fun D σ H=>te σ H fun x H1=>g x σ H1 D.nx
theorem DH{tg e:Expr}{te:TE}{g:TG}(he:PE X e te)(hg:PG X tg g)(hs:swapsWithSole [tg] e pos.line X.env=pure af:=by rfl)(hw:swappedStores [tg] e X.env=pure ab:=by rfl)
 (h1:(AY [tg] X.env).map (·.2)=[Sv tg X.env]:=by rfl):PS X (.Assign [tg] e pos) (ZP te g):=by
 intro pins s σ H D I h
 refine wpAny_Assign_stores (ib (he pins s σ H _ I h) fun v s1 ⟨x,H1,I1,r1,q1⟩=>?_) hs hw
 rw[h1]
 exact ib (hg pins s1 σ H1 x v _ I1 r1 q1) fun _ s2 q=>q
theorem Q3{i:Nat}{x:Str}{e:Expr}{te:TE}{pos':Pos}(hN:X.N.Nodup)(hi:X.N[i]?=aa x)(hx:Loc X.env.scope x)(he:PE X e te)(hs:pR e (aa (.Name x pos')) pos.line X.env=pure af:=by rfl)(hf:X.fn x=ae\/X.env.scope.names.lookup x=aa .local:=by first|exact .inl rfl|exact .inr rfl|assumption):
 PS X (.Assign [.Name x pos'] e pos) (ZP te (zY i)):=by
 intro pins s σ H D I h
 refine wpAny_Assign_Name (ib (he pins s σ H _ I h) fun v s1 ⟨y,H1,I1,r1,q1⟩=>?_) hs
 exact Bo I1 hN hi hx r1 (fun s2 I2=>⟨_,H1,I2,q1⟩) hf
inductive aix(i:Nat)(te:TE)(ti:TIp)(D:L2.Ends)(σ:L2.St)(H:Hp):Prop
 |mk (x:_) (_:σ[i]?=aa (aa x)) (_:te σ H fun y H1=>ti x y H1 fun z H2=>D.nx (σ.set i (aa z)) H2)
theorem rL{i:Nat}{x:Str}{e:Expr}{te:TE}{op:Sx}{ti:TIp}{pos':Pos}(hN:X.N.Nodup)(hi:X.N[i]?=aa x)(hx:Loc X.env.scope x)(he:PE X e te)(ho:PIp X op ti)(hf:X.fn x=ae\/X.env.scope.names.lookup x=aa .local:=by first|exact .inl rfl|exact .inr rfl|assumption):
 PS X (.AugAssign (.Name x pos') op e pos) (aix i te ti):=by
 intro pins s σ H D I h
 obtain⟨v,e1,h⟩:=h
 obtain⟨m,hn,hl⟩:=I.loc
 have vis:Vis X.env.scope x:=by rcases hx with k|k;exact .inl k;exact .inr (.inl k)
 obtain⟨u,r,l⟩:=hl i x v hi e1 vis
 refine wpAny_AugAssign_Name ?_
 have go:bL (bJ X.prog X.w) X.A (eval e X.env) (fun w s₂=>bL (bJ X.prog X.w) X.A (inplaceOp op u w) (fun r s₃=>bL (bJ X.prog X.w) X.A (storeName X.env x r) (fun _=>SP X pins D .next) X.xe s₃) X.xe s₂) X.xe s:=by
  refine ib (he pins s σ H _ I h) fun w s1 ⟨y,H1,I1,r1,q1⟩=>?_;refine ib (ho pins s1 σ H1 v y u w _ I1 r r1 q1) fun z s2 ⟨zv,H2,I2,r2,q2⟩=>?_;exact Bo I2 hN hi hx r2 (fun s3 I3=>⟨_,H2,I3,q2⟩) hf
 rcases l with⟨hk,hm⟩|⟨hk,c,hc,TV⟩
 ·exact sO I.ok.kind hk hn hm go
 rcases hk with hk|hk
 ·exact wpAny_loadName_cell I.ok.kind hk hc TV go
 rcases hx with k|k
 ·have:X.env.scope.names.lookup x=aa .free:=hk
  rw[k]at this;cases this
 have:X.env.scope.names.lookup x=aa .free:=hk
 rw[k]at this;cases this
end
section
variable{X:Cx}{pos:Pos}
def acF(c:TT)(tb:TS):TS:=fun D σ H=>∃W:Nat->St->Hp->Prop,(∃m,W m σ H)/\∀m σ H,W m σ H->
 c σ H fun b H1=>if b=ae then∃N:St->Hp->Prop,(∀σ' H',N σ' H'->∃m',m'<m/\W m' σ' H')/\tb {D with nx:=N,ct:=N,bk:=D.nx} σ H1 else D.nx σ H1
theorem n9{c:Expr}{body:List Stmt}{tc:TT}{tb:TS}(hp:PassesOwn (bJ X.prog X.w) X.A X.env X.xe)(hc:PT X c tc)(hb:Nm X body tb):PS X (.While c body [] pos) (acF tc tb):=by
 intro pins s σ H D I h;obtain⟨W,⟨m0,w0⟩,turn⟩:=h;refine wpAny_While (codeAny_whileLoop (fun n s'=>∃σ' H',Inv X pins σ' H' s'/\W n σ' H') ?_ m0 ⟨σ,H,I,w0⟩);rintro n s1 ⟨σ1,H1,I1,w1⟩;refine lL hp (ib (hc pins s1 σ1 H1 _ I1 (turn n σ1 H1 w1)) fun b s2 ⟨H2,I2,q2⟩=>?_);cases b with
 |true=>
  obtain⟨N,hN,q2⟩:=q2;rw[c8 rfl];refine lL hp (ib (hb pins s2 σ1 H2 _ I2 q2) fun f s3 q3=>?_);cases f with
  |next=>
   obtain⟨σ3,H3,I3,n3⟩:=q3;obtain⟨m',hm,w3⟩:=hN σ3 H3 n3;exact⟨m',hm,σ3,H3,I3,w3⟩
  |cont=>
   obtain⟨σ3,H3,I3,n3⟩:=q3;obtain⟨m',hm,w3⟩:=hN σ3 H3 n3;exact⟨m',hm,σ3,H3,I3,w3⟩
  |brk=>exact q3
  |ret v=>exact q3
 |false=>
  rw[cP cz];exact uj ⟨σ1,H2,I2,q2⟩
end
structure It where
 go:Nat->Hp->Prop
 We:Nat->Hp->V->Hp->Prop
 stop:Nat->Hp->Prop
def IH(X:Cx)(pins:ah)(H:Hp)(b:Addr):Prop:=
 H b=ab/\b≠X.env.locals/\b∉X.fs/\(b∈X.ex\/X.DC.heap.objs.size<=b)/\(∀x c,X.env.cells.lookup x=aa c->c≠b)/\∀p∈X.pn++pins,p.1≠b
theorem Inv.Vl{X:Cx}{pins:ah}{σ:St}{H H':Hp}{s:bf}{b:Addr}(I:Inv X pins σ H s)(hb:s.heap.objs.size<=b)(hn:H' b=ab):IH X pins H' b:=by
 refine⟨hn,dk (bI I.lt hb),I.ai4 hb,.inr (cQ I.sz hb),fun x c e z=>?_,fun p hp z=>?_⟩
 ·obtain⟨v,q⟩:=I.cell x c e;exact absurd (bI q.lt (by rw[z];exact hb)) (gC _)
 exact absurd (bI (bF (I.pin p hp).1) (by rw[z];exact hb)) (gC _)
structure Turn(P:b7)(w:cU)(K:aX)(tg:Expr)(J:It)(fp:ag)(it:Addr)(tn:Nat->Heap->Prop):Prop where
 mem:it∈fp
 obj:∀i h,tn i h->∀b∈fp,∃o,h.get? b=aa o/\∀v,o.data≠ .cell v
 keep:∀i h h',tn i h->(∀b∈fp,∀o,h.get? b=aa o->h'.get? b=aa o)->tn i h'
 item:∀(X:Cx),X.prog=P->X.w=w->X.K=K->X.calm=ae->∀(i:Nat)(pins:ah)(s:bf)(σ:St)(H:Hp)(E:ar),Inv X pins σ H s->(∀b∈fp,IH X pins H b)->tn i s.heap->J.go i H->
  bL (bJ P w) X.A (qF (.ref it)) (fun r s1=>∃u,r=aa u/\
   bL (bJ P w) X.A (Bf tg (.ref it) u) (fun _ s2=>∃x H',Inv X pins σ H' s2/\RelV x u/\J.We i H x H'/\tn (i+1) s2.heap/\∀b∈fp,H' b=ab) E s1) E s
 done:∀(X:Cx),X.prog=P->X.w=w->X.K=K->X.calm=ae->∀(i:Nat)(pins:ah)(s:bf)(σ:St)(H:Hp)(E:ar),Inv X pins σ H s->(∀b∈fp,IH X pins H b)->tn i s.heap->J.stop i H->
  bL (bJ P w) X.A (qF (.ref it)) (fun r s1=>r=ab/\Inv X pins σ H s1) E s
 self:∀(A:cX)(i:Nat)(s:bf)(Q:ar)(E:ar),tn i s.heap->Q (.ref it) s->bL (bJ P w) A (Sm (.ref it)) Q E s
abbrev TI:=St->Hp->(It->Hp->Prop)->Prop
def PIE(X:Cx)(pins:ah)(σ:St)(tg:Expr)(R:It->Hp->Prop)(itv:aY)(s2:bf):Prop:=
 ∃(it:Addr)(fp:ag)(tn:Nat->Heap->Prop)(J:It)(H':Hp),itv=.ref it/\Inv X pins σ H' s2/\Turn X.prog X.w X.K tg J fp it tn/\tn 0 s2.heap/\(∀b∈fp,IH X pins H' b)/\R J H'
def PI(X:Cx)(tg iter:Expr)(wi:TI):Prop:=
 ∀(pins:ah)(s:bf)(σ:St)(H:Hp)(R:It->Hp->Prop),Inv X pins σ H s->wi σ H R->
  bL (bJ X.prog X.w) X.A (eval iter X.env) (fun v s1=>bL (bJ X.prog X.w) X.A (Sm v) (PIE X pins σ tg R) X.xe s1) X.xe s
theorem Yh{M:NU}{A:cX}{E:ar}{s:bf}{tg:Expr}{it:Addr}{u:aY}{o:Obj}{n:String}{vs:Array aY}{Q:Unit->bf->Prop}(ho:s.heap.get? it=aa o)(hc:o.cls=.type n)(hd:o.data=.fields vs)
 (hn:["enumerate","zip","dict_itemiterator","dict_reverseitemiterator","odict_iterator","itertools.zip_longest","itertools.pairwise"].contains n=af)(hQ:Q () s):bL M A (Bf tg (.ref it) u) Q E s:=by
 unfold Bf
 cases tg<;>first
  |exact bg hQ
  |(cases u<;>first
   |exact bg hQ
   |(refine aO (IL ho ?_);rw[hc,hd];show bL M A (if(["enumerate","zip","dict_itemiterator","dict_reverseitemiterator","odict_iterator","itertools.zip_longest","itertools.pairwise"].contains n&&vs[0]?==aa (j4 _))=ae then _ else _) Q E s;rw[cP (by intro h;rw[hn,eC]at h;cases h)];exact bg hQ))
def Itl(K:aX)(a:Addr):It:=
 ⟨fun i H=>∃xs x,du K H a xs/\xs[i]?=aa x,fun i H x H'=>H'=H/\∀xs,du K H a xs->xs[i]?=aa x,fun i H=>∃xs,du K H a xs/\xs.length<=i⟩
def Itr(lo:Int)(n:Nat):It:=⟨fun i _=>i<n,fun i H x H'=>H'=H/\x=.int (lo+i),fun i _=>n<=i⟩
theorem Uu{P:b7}{w:cU}{K:aX}{tg:Expr}(a it:Addr):Turn P w K tg (Itl K a) [it] it (fun i h=>h.IsListIter it a i) where
 mem:=by simp
 obj:=fun i h st b hb=>by
  have e:b=it:=by simpa using hb
  subst e;obtain⟨o,e,c,d⟩:=st;exact⟨o,e,fun v z=>by rw[d]at z;cases z⟩
 keep:=fun i h h' st k=>st.at fun o e=>k it (by simp) o e
 item:=by
  intro X hP hw hK hc i pins s σ H E I hf st hg;subst hP hw hK;obtain⟨xs,x,hq,hx⟩:=hg;obtain⟨its,rv,p,hz⟩:=I.list hq;obtain⟨u,hu,ru⟩:=rv.get hx;obtain⟨f0,f1,f2,f3,f4,f5⟩:=hf it (by simp);refine wpAny_pyNext_list_item st p.isList (x:=u) (by simpa using hu) fun h' GJ sb=>?_;have I1:Inv X pins σ H {s with heap:=h'}:=I.turned (t':=s.toks) (fun b o hb e=>(sb.2 b hb).trans e) f0 f1 f3 f4 f5;obtain⟨o,e,c,d⟩:=id GJ;exact⟨u,rfl,Yh (s:={s with heap:=h'}) e c d (by decide) ⟨x,H,I1,ru,⟨rfl,fun ys hy=>by rw[I.HP hy hq];exact hx⟩,GJ,fun b hb=>(hf b hb).1⟩⟩
 done:=by
  intro X hP hw hK hc i pins s σ H E I hf st hg;subst hP hw hK;obtain⟨xs,hq,hx⟩:=hg;obtain⟨its,rv,p,hz⟩:=I.list hq;obtain⟨f0,f1,f2,f3,f4,f5⟩:=hf it (by simp);have hl:=rv.length;exact wpAny_pyNext_list_end (I.ok.hd hc) st p.isList (by simp;omega) fun h' eb=>⟨rfl,I.turned (t':=s.toks) (fun b o hb e=>eb b o hb e) f0 f1 f3 f4 f5⟩
 self:=fun _ _ _ _ _ st h=>wpAny_pyIter_listiter st h
theorem QG{P:b7}{w:cU}{K:aX}{tg:Expr}(it:Addr)(lo:Int)(n:Nat):Turn P w K tg (Itr lo n) [it] it (fun i h=>IsRangeIter h it (lo+(i:Nat)*1) ((n:Int)-(i:Nat)) 1) where
 mem:=by simp
 obj:=fun i h st b hb=>by
  have e:b=it:=by simpa using hb
  subst e
  exact⟨_,st,fun v z=>by
   have z':Data.fields _=Data.cell v:=z;cases z'⟩
 keep:=fun i h h' st k=>k it (by simp) _ st
 item:=by
  intro X hP hw hK hc i pins s σ H E I hf st hg;subst hP hw hK;obtain⟨f0,f1,f2,f3,f4,f5⟩:=hf it (by simp);have W:=Walks.range (prog:=X.prog) (w:=X.w) (I.ok.hd hc) it lo 1 n;refine W.item i s _ _ hg st fun v h' tk hv GJ kk=>?_;obtain⟨t,rfl⟩:=hv;have I1:Inv X pins σ H {s with heap:=h',toks:=tk}:=I.turned (fun b o hb e=>kk b o (by simpa using hb) e) f0 f1 f3 f4 f5;refine⟨_,rfl,Yh (s:={s with heap:=h',toks:=tk}) (n:="range_iterator") GJ rfl rfl (by decide) ⟨.int (lo+i),H,I1,⟨t,?_⟩,⟨rfl,rfl⟩,GJ,fun b hb=>(hf b hb).1⟩⟩;rw[Int.mul_one]
 done:=by
  intro X hP hw hK hc i pins s σ H E I hf st hg;subst hP hw hK;obtain⟨f0,f1,f2,f3,f4,f5⟩:=hf it (by simp);exact wpAny_pyNext_range_end (I.ok.hd hc) st (by have:n<=i:=hg;omega) fun h' eb=>⟨rfl,I.turned (t':=s.toks) (fun b o hb e=>eb b o hb e) f0 f1 f3 f4 f5⟩
 self:=fun _ _ _ _ _ st h=>wpAny_pyIter_rangeiter st h
section
variable{X:Cx}{tg:Expr}
inductive adR(K:aX)(R:L2.It->Hp->Prop)(x:V)(H1:Hp):Prop
 |mk (a:_) (_:x=.ref a) (_:(∃xs,du K H1 a xs)) (_:R (Itl K a) H1)
def ago(K:aX)(tl:TE):TI:=fun σ H R=>tl σ H fun x H1=>adR K R x H1
theorem fP{l:Expr}{tl:TE}(hl:PE X l tl):PI X tg l (ago X.K tl):=by
 intro pins s σ H R I h;refine ib (hl pins s σ H _ I h) fun v s1 ⟨x,H1,I1,r1,q1⟩=>?_;obtain⟨a,e,⟨xs,hq⟩,q⟩:=q1;subst e;cases r1;obtain⟨its,rv,p,hz⟩:=I1.list hq;refine wQ p.isList ?_;refine⟨s1.heap.objs.size,[s1.heap.objs.size],_,_,H1,rfl,I1.kept (t':=s1.toks) fun b o e=>a9 _ e,Uu a _,⟨_,bH _ rfl,rfl,rfl⟩,fun b hb=>?_,q⟩;have e:b=s1.heap.objs.size:=by simpa using hb
 subst e;exact I1.Vl (bu _) (I1.gd.fresh (bu _))
theorem OJ{pins:ah}{σ:St}{H:Hp}{s:bf}{R:It->Hp->Prop}{E:ar}{lo hi:Int}{t u v:Tok}{tk:Nat}(I:Inv X pins σ H s)(h1: -(2^62)<=lo)(h2:lo<2^62)(h3: -(2^62)<=hi)(h4:hi<2^62)
 (q:R (Itr lo (hi-lo).toNat) H):bL (bJ X.prog X.w) X.A (Sm (.ref s.heap.objs.size)) (PIE X pins σ tg R) E {s with heap:=s.heap.push {cls:=.type "range",data:=.fields #[.int lo t,.int hi u,.int 1 v]},toks:=tk}:=by
 refine wpAny_pyIter_range (IsRange.new ..) (small_one h1 h2 h3 h4) ?_
 have I1:Inv X pins σ H {s with heap:=s.heap.push {cls:=.type "range",data:=.fields #[.int lo t,.int hi u,.int 1 v]},toks:=tk}:=I.kept fun b o e=>a9 _ e
 refine⟨(s.heap.push {cls:=.type "range",data:=.fields #[.int lo t,.int hi u,.int 1 v]}).objs.size,[(s.heap.push {cls:=.type "range",data:=.fields #[.int lo t,.int hi u,.int 1 v]}).objs.size],_,_,H,rfl,
  I1.kept (t':=tk) fun b o e=>a9 _ e,QG _ lo (hi-lo).toNat,?_,fun b hb=>?_,q⟩
 ·have e1:lo+((0:Nat):Int)*1=lo:=by simp
  have e2:(((hi-lo).toNat:Nat):Int)-((0:Nat):Int)=E5 lo hi 1:=by rw[rangeSize_one];split<;>omega
  show IsRangeIter _ _ (lo+((0:Nat):Int)*1) ((((hi-lo).toNat:Nat):Int)-((0:Nat):Int)) 1
  rw[e1,e2]
  exact bH _ rfl
 have e:b=(s.heap.push {cls:=.type "range",data:=.fields #[.int lo t,.int hi u,.int 1 v]}).objs.size:=by simpa using hb
 subst e
 exact I1.Vl (bu _) (I1.gd.fresh (bu _))
inductive adQ(R:L2.It->Hp->Prop)(vs:ao)(H1:Hp):Prop
 |mk (j:Int) (_:vs=[.int j]) (_: -(2^62)<=j) (_:j<2^62) (_:R (Itr 0 j.toNat) H1)
def agn(ta:TA):TI:=fun σ H R=>ta σ H fun vs H1=>adQ R vs H1
inductive adP(R:L2.It->Hp->Prop)(vs:ao)(H1:Hp):Prop
 |mk (i j:Int) (_:vs=[.int i,.int j]) (_:(-(2^62)<=i/\i<2^62/\-(2^62)<=j/\j<2^62)) (_:R (Itr i (j-i).toNat) H1)
def agm(ta:TA):TI:=fun σ H R=>ta σ H fun vs H1=>adP R vs H1
theorem uG{a:Expr}{ta:TA}{p pos:Pos}(hg:Gl X "range")(hm:X.mg "range"=ab)(ha:PA X [a] ta)(hs:bW [a] X.env=[(af,eval a X.env)]:=by rfl):PI X tg (.Call (.Name "range" p) [a] [] pos) (agn ta):=by
 intro pins s σ H R I h;refine Call_ (rO I hg hm boot_range (ku (ib (ha pos pins s σ H _ I h) fun us s1 ⟨vs,H1,I1,r1,q1⟩=>?_) hs rfl));obtain⟨j,e,q1,q2,q⟩:=q1;subst e;cases r1 with
 |cons r rr=>
  cases rr;obtain⟨t,rfl⟩:=r;exact call_range_1 (OJ I1 (by omega) (by omega) q1 q2 (by simpa using q))
theorem UN{a b:Expr}{ta:TA}{p pos:Pos}(hg:Gl X "range")(hm:X.mg "range"=ab)(ha:PA X [a,b] ta)(hs:bW [a,b] X.env=[(af,eval a X.env),(af,eval b X.env)]:=by rfl)(hs2:bW [b] X.env=[(af,eval b X.env)]:=by rfl):
 PI X tg (.Call (.Name "range" p) [a,b] [] pos) (agm ta):=by
 intro pins s σ H R I h
 refine Call_ (rO I hg hm boot_range (ku (ib (ha pos pins s σ H _ I h) fun us s1 ⟨vs,H1,I1,r1,q1⟩=>?_) (by rw[hs,hs2]) (by rw[hs2];rfl)))
 obtain⟨i,j,e,⟨q1,q2,q3,q4⟩,q⟩:=q1
 subst e
 cases r1 with
 |cons r rr=>
  cases rr with
  |cons r' rr=>
   cases rr
   obtain⟨t,rfl⟩:=r
   obtain⟨t',rfl⟩:=r'
   exact call_range_2 (OJ I1 q1 q2 q3 q4 q)
def aiv(wi:TI)(g:TG)(tb:TS):TS:=fun D σ H=>wi σ H fun J H1=>∃W:Nat->Nat->St->Hp->Prop,(∃m,W 0 m σ H1)/\∀i m σ H,W i m σ H->
 (J.stop i H/\D.nx σ H)\/(J.go i H/\∃N:St->Hp->Prop,(∀σ' H',N σ' H'->∃m',m'<m/\W (i+1) m' σ' H')/\∀x H',J.We i H x H'->g x σ H' fun σ2 H2=>tb {D with nx:=N,ct:=N,bk:=D.nx} σ2 H2)
def Hm(fp:ag)(h:Heap):ah:=fp.filterMap fun b=>(h.get? b).map fun o=>(b,o)
theorem AB{fp:ag}{h:Heap}{b:Addr}{o:Obj}(hb:b∈fp)(e:h.get? b=aa o):(b,o)∈Hm fp h:=V6.mpr ⟨b,hb,by rw[e];rfl⟩
theorem UW{fp:ag}{h:Heap}{p:Addr×Obj}(hp:p∈Hm fp h):p.1∈fp/\h.get? p.1=aa p.2:=by
 obtain⟨b,hb,e⟩:=V6.mp hp;cases q:h.get? b with
 |none=>rw[q]at e;cases e
 |some o=>
  rw[q]at e;have e':(b,o)=p:=bR e;subst e';exact⟨hb,q⟩
theorem Inv.pinned{pins:ah}{σ:St}{H:Hp}{s:bf}{fp:ag}(I:Inv X pins σ H s)(hf:∀b∈fp,IH X pins H b)(ho:∀b∈fp,∃o,s.heap.get? b=aa o/\∀v,o.data≠ .cell v):Inv X (pins++Hm fp s.heap) σ H s:=
 I.BB fun p hp=>(d5.mp hp).elim (fun z=>I.pin p (dX _ z)) fun z=>by
  obtain⟨hb,e⟩:=UW z;obtain⟨f0,f1,f2,_⟩:=hf p.1 hb;obtain⟨o,e',d⟩:=ho p.1 hb;rw[e]at e';cases e';exact⟨e,f0,f1,f2,d⟩
theorem Inv.l7{pins pl:ah}{σ:St}{H:Hp}{s:bf}(I:Inv X (pins++pl) σ H s):Inv X pins σ H s:=I.BB fun p hp=>I.pin p (dX _ (fI _ hp))
theorem eZ{iter:Expr}{body:List Stmt}{wi:TI}{g:TG}{tb:TS}{pos:Pos}(hp:PassesOwn (bJ X.prog X.w) X.A X.env X.xe)(hc:X.calm=ae)(hi:PI X tg iter wi)(hg:PG X tg g)(hb:Nm X body tb)
 (hs:∀x,wV iter X.env x=pure x:=by intro _;rfl):PS X (.For tg iter body [] pos) (aiv wi g tb):=by
 intro pins s σ H D I h
 refine wpAny_For (ib (hi pins s σ H _ I h) fun v s1 h1=>ib h1 fun itv s2 h2=>?_) hs
 obtain⟨it,fp,tn,J,H2,e,I2,T,st2,f2,W,⟨m0,w0⟩,turn⟩:=h2
 subst e
 have QR:∀{H':Hp},(∀b∈fp,H' b=ab)->∀b∈fp,IH X pins H' b:=fun hn b hb=>⟨hn b hb,(f2 b hb).2⟩
 refine codeAny_forLoop_any (fun n s'=>∃i σ' H',Inv X pins σ' H' s'/\tn i s'.heap/\(∀b∈fp,H' b=ab)/\W i n σ' H') ?_ m0 ⟨0,σ,H2,I2,st2,fun b hb=>(f2 b hb).1,w0⟩
 rintro n s3 ⟨i,σ3,H3,I3,st3,fr3,w3⟩
 rcases turn i n σ3 H3 w3 with⟨stop,qn⟩|⟨go,N,hN,step⟩
 ·refine lL hp (ib (T.done X rfl rfl rfl hc i pins s3 σ3 H3 X.xe I3 (QR fr3) st3 stop) fun r s4 ⟨hr,I4⟩=>?_)
  subst hr
  exact uj ⟨σ3,H3,I4,qn⟩
 refine lL hp (ib (T.item X rfl rfl rfl hc i pins s3 σ3 H3 X.xe I3 (QR fr3) st3 go) fun r s4 ⟨u,hr,h4⟩=>?_)
 subst hr
 refine lL hp (ib h4 fun _ s5 ⟨x,H5,I5,r5,y5,st5,fr5⟩=>?_)
 have I5':=I5.pinned (QR fr5) (T.obj _ _ st5)
 refine lL hp (ib (hg _ s5 σ3 H5 x u _ I5' r5 (step x H5 y5)) fun _ s6 ⟨σ6,H6,I6,q6⟩=>?_)
 refine lL hp (ib (hb _ s6 σ6 H6 _ I6 q6) fun f s7 q7=>?_)
 have again:∀{σ7:St}{H7:Hp},Inv X (pins++Hm fp s5.heap) σ7 H7 s7->N σ7 H7->∃m,m<n/\∃i σ' H',Inv X pins σ' H' s7/\tn i s7.heap/\(∀b∈fp,H' b=ab)/\W i m σ' H':=fun{σ7 H7} I7 n7=>by
  obtain⟨m',hm,w7⟩:=hN σ7 H7 n7;refine⟨m',hm,i+1,σ7,H7,I7.l7,T.keep _ _ _ st5 fun b hb o e=>(I7.pin (b,o) (dX _ (dX _ (AB hb e)))).1,fun b hb=>?_,w7⟩;obtain⟨o,e,d⟩:=T.obj _ _ st5 b hb;exact(I7.pin (b,o) (dX _ (dX _ (AB hb e)))).2.1
 cases f with
 |next=>obtain⟨σ7,H7,I7,n7⟩:=q7;exact again I7 n7
 |cont=>obtain⟨σ7,H7,I7,n7⟩:=q7;exact again I7 n7
 |brk=>obtain⟨σ7,H7,I7,q7⟩:=q7;exact⟨σ7,H7,I7.l7,q7⟩
 |ret v=>obtain⟨x7,σ7,H7,I7,r7,q7⟩:=q7;exact⟨x7,σ7,H7,I7.l7,r7,q7⟩
end
theorem fZ{K:aX}{a:Addr}{xs:ao}{g:TG}{tb:TS}{D:Ends}{σ:St}{H:Hp}(Pv:Nat->St->Hp->Prop)(h0:Pv 0 σ H)(hl:∀i σ H,i<=xs.length->Pv i σ H->du K H a xs)
 (hs:∀i x σ H,xs[i]?=aa x->Pv i σ H->g x σ H fun σ2 H2=>tb {D with nx:=Pv (i+1),ct:=Pv (i+1),bk:=D.nx} σ2 H2)(hd:∀σ H,Pv xs.length σ H->D.nx σ H):
 ∃W:Nat->Nat->St->Hp->Prop,(∃m,W 0 m σ H)/\∀i m σ H,W i m σ H->
  ((Itl K a).stop i H/\D.nx σ H)\/((Itl K a).go i H/\∃N:St->Hp->Prop,(∀σ' H',N σ' H'->∃m',m'<m/\W (i+1) m' σ' H')/\∀x H',(Itl K a).We i H x H'->g x σ H' fun σ2 H2=>tb {D with nx:=N,ct:=N,bk:=D.nx} σ2 H2):=by
 refine⟨fun i m σ H=>m=xs.length-i/\i<=xs.length/\Pv i σ H,⟨xs.length,by simp,cB _,h0⟩,?_⟩
 rintro i m σ H ⟨rfl,hi,p⟩
 have q:=hl i σ H hi p
 by_cases zu:i<xs.length
 ·refine .inr ⟨⟨xs,xs[i],q,by simp[zu]⟩,Pv (i+1),fun σ' H' p'=>⟨xs.length-(i+1),by omega,rfl,zu,p'⟩,fun x H' y=>?_⟩
  obtain⟨e,y⟩:=y
  subst e
  exact hs i x σ _ (y xs q) p
 have e:i=xs.length:=by omega
 subst e
 exact .inl ⟨⟨xs,q,bu _⟩,hd σ H p⟩
theorem qZ{lo:Int}{n:Nat}{g:TG}{tb:TS}{D:Ends}{σ:St}{H:Hp}(Pv:Nat->St->Hp->Prop)(h0:Pv 0 σ H)
 (hs:∀i σ H,i<n->Pv i σ H->g (.int (lo+i)) σ H fun σ2 H2=>tb {D with nx:=Pv (i+1),ct:=Pv (i+1),bk:=D.nx} σ2 H2)(hd:∀σ H,Pv n σ H->D.nx σ H):
 ∃W:Nat->Nat->St->Hp->Prop,(∃m,W 0 m σ H)/\∀i m σ H,W i m σ H->
  ((Itr lo n).stop i H/\D.nx σ H)\/((Itr lo n).go i H/\∃N:St->Hp->Prop,(∀σ' H',N σ' H'->∃m',m'<m/\W (i+1) m' σ' H')/\∀x H',(Itr lo n).We i H x H'->g x σ H' fun σ2 H2=>tb {D with nx:=N,ct:=N,bk:=D.nx} σ2 H2):=by
 refine⟨fun i m σ H=>m=n-i/\i<=n/\Pv i σ H,⟨n,by simp,cB _,h0⟩,?_⟩
 rintro i m σ H ⟨rfl,hi,p⟩
 by_cases zu:i<n
 ·refine .inr ⟨zu,Pv (i+1),fun σ' H' p'=>⟨n-(i+1),by omega,rfl,zu,p'⟩,fun x H' y=>?_⟩
  obtain⟨e,y⟩:=y
  subst e y
  exact hs i σ _ zu p
 have e:i=n:=by omega
 subst e
 exact .inl ⟨bu _,hd σ H p⟩
abbrev R2:=V->V->Hp->VK->Prop
def Gi(X:Cx)(f:aY->aY->Sem aY)(r:R2):Prop:=
 ∀(pins:ah)(s:bf)(σ:St)(H:Hp)(x y:V)(v u:aY)(Q:VK),Inv X pins σ H s->RelV x v->RelV y u->r x y H Q->
  bL (bJ X.prog X.w) X.A (f v u) (EP X pins σ Q) X.xe s
def UnR(X:Cx)(f:aY->Sem aY)(r:V->Hp->VK->Prop):Prop:=
 ∀(pins:ah)(s:bf)(σ:St)(H:Hp)(x:V)(v:aY)(Q:VK),Inv X pins σ H s->RelV x v->r x H Q->
  bL (bJ X.prog X.w) X.A (f v) (EP X pins σ Q) X.xe s
def wD(X:Cx)(f:aY)(r:ao->Hp->VK->Prop):Prop:=
 ∀(pins:ah)(s:bf)(σ:St)(H:Hp)(xs:ao)(us:au)(Q:VK),Inv X pins σ H s->Vals xs us->r xs H Q->
  bL (bJ X.prog X.w) X.A (call f us) (EP X pins σ Q) X.xe s
def tOp(r:R2)(ta tb:TE):TE:=fun σ H Q=>ta σ H fun x H1=>tb σ H1 fun y H2=>r x y H2 Q
def tUn(r:V->Hp->VK->Prop)(ta:TE):TE:=fun σ H Q=>ta σ H fun x H1=>r x H1 Q
inductive rI(C:Int->Int->Prop)(g:Int->Int->V)(x:V)(y:V)(H:Hp)(Q:VK):Prop
 |mk (i:_) (j:_) (_:x=.int i) (_:y=.int j) (_:C i j) (_:Q (g i j) H)
inductive rI0(g:Int->Int->V)(x:V)(y:V)(H:Hp)(Q:VK):Prop
 |mk (i:_) (j:_) (_:x=.int i) (_:y=.int j) (_:Q (g i j) H)
inductive rU(g:Int->V)(x:V)(H:Hp)(Q:VK):Prop
 |mk (i:_) (_:x=.int i) (_:Q (g i) H)
section
variable{X:Cx}{a b c:Expr}{ta tb tc:TE}{pos:Pos}
theorem aeB(ha:PE X a ta)(hb:PE X b tb){pins:ah}{s:bf}{σ:St}{H:Hp}{R:V->V->Hp->Prop}(I:Inv X pins σ H s)
 (h:ta σ H fun x H1=>tb σ H1 fun y H2=>R x y H2){Q:ar}{f:aY->aY->Sem aY}
 (hf:∀v u s2 x y H2,Inv X pins σ H2 s2->RelV x v->RelV y u->R x y H2->bL (bJ X.prog X.w) X.A (f v u) Q X.xe s2):
 bL (bJ X.prog X.w) X.A (eval a X.env) (fun v s₁=>bL (bJ X.prog X.w) X.A (eval b X.env) (fun u s₂=>bL (bJ X.prog X.w) X.A (f v u) Q X.xe s₂) X.xe s₁) X.xe s:=by
 refine ib (ha pins s σ H _ I h) fun v s1 ⟨x,H1,I1,r1,q1⟩=>?_
 refine ib (hb pins s1 σ H1 _ I1 q1) fun u s2 ⟨y,H2,I2,r2,q2⟩=>?_
 exact hf v u s2 x y H2 I2 r1 r2 q2
theorem fX{op:Sx}{r:R2}(ho:Gi X (zD op) r)(ha:PE X a ta)(hb:PE X b tb):PE X (.BinOp a op b pos) (tOp r ta tb):=by
 intro pins s σ H Q I h;exact wpAny_BinOp (aeB ha hb I h fun v u s2 x y H2 I2 rx ry q=>ho pins s2 σ H2 x y v u Q I2 rx ry q)
theorem xH{op:UnaryOp}{r:V->Hp->VK->Prop}(ho:UnR X (unaryOp op) r)(ha:PE X a ta):PE X (.UnaryOp op a pos) (tUn r ta):=by
 intro pins s σ H Q I h;exact UnaryOp_ (ib (ha pins s σ H _ I h) fun v s1 ⟨x,H1,I1,r1,q1⟩=>ho pins s1 σ H1 x v Q I1 r1 q1)
theorem DM{f:aY->aY->Sem aY}{C:Int->Int->Prop}{g:Int->Int->Int}
 (rule:∀(i j:Int)(t u:Tok)(s:bf)(Q:ar)(E:ar),C i j->Q (.int (g i j) s.toks) {s with toks:=s.toks+1}->bL (bJ X.prog X.w) X.A (f (.int i t) (.int j u)) Q E s):
 Gi X f (rI C fun i j=>.int (g i j)):=by
 intro pins s σ H x y v u Q I rx ry h
 obtain⟨i,j,rfl,rfl,hc,q⟩:=h
 obtain⟨t,rfl⟩:=rx
 obtain⟨t',rfl⟩:=ry
 exact rule i j t t' s _ _ hc ⟨.int (g i j),H,I.tok _,⟨_,rfl⟩,q⟩
theorem afZ{f:aY->aY->Sem aY}{g:Int->Int->Int}
 (rule:∀(i j:Int)(t u:Tok)(s:bf)(Q:ar)(E:ar),Q (.int (g i j) s.toks) {s with toks:=s.toks+1}->bL (bJ X.prog X.w) X.A (f (.int i t) (.int j u)) Q E s):
 Gi X f (rI0 fun i j=>.int (g i j)):=by
 intro pins s σ H x y v u Q I rx ry h
 obtain⟨i,j,rfl,rfl,q⟩:=h
 obtain⟨t,rfl⟩:=rx
 obtain⟨t',rfl⟩:=ry
 exact rule i j t t' s _ _ ⟨.int (g i j),H,I.tok _,⟨_,rfl⟩,q⟩
theorem ado{f:aY->aY->Sem aY}{g:Int->Int->Bool}
 (rule:∀(i j:Int)(t u:Tok)(s:bf)(Q:ar)(E:ar),Q (.bool (g i j)) s->bL (bJ X.prog X.w) X.A (f (.int i t) (.int j u)) Q E s):
 Gi X f (rI0 fun i j=>.bl (g i j)):=by
 intro pins s σ H x y v u Q I rx ry h
 obtain⟨i,j,rfl,rfl,q⟩:=h
 obtain⟨t,rfl⟩:=rx
 obtain⟨t',rfl⟩:=ry
 exact rule i j t t' s _ _ ⟨.bl (g i j),H,I,rfl,q⟩
def aeO(i j:Int):Prop:=(-(2^64)<i/\i<2^64)\/(-(2^64)<j/\j<2^64)
theorem aeO.ok{i j:Int}(h:aeO i j):IntMulOk i j:=by
 rcases h with⟨h1,h2⟩|⟨h1,h2⟩
 ·exact .of_left (intBits_le_64 h1 h2)
 exact .of_right (intBits_le_64 h1 h2)
theorem j3:Gi X (zD .Add) (rI0 fun i j=>.int (i+j)):=afZ fun _ _ _ _ _ _ _ q=>add_int q
theorem DL:Gi X (zD .Sub) (rI0 fun i j=>.int (i-j)):=afZ fun _ _ _ _ _ _ _ q=>sub_int q
theorem Xr:Gi X (zD .Mult) (rI aeO fun i j=>.int (i*j)):=DM fun _ _ _ _ _ _ _ hc q=>mul_int q hc.ok
theorem Ra:Gi X (zD .Mod) (rI (fun _ j=>0<j) fun i j=>.int (i%j)):=DM fun i j _ _ _ _ _ hc q=>by
 have h1:(0:Int)<j:=hc;exact mod_int' (by omega) (by rw[Int.fmod_eq_emod_of_nonneg i (by omega)];exact q)
theorem unI{f:aY->Sem aY}{g:Int->Int}
 (rule:∀(i:Int)(t:Tok)(s:bf)(Q:ar)(E:ar),Q (.int (g i) s.toks) {s with toks:=s.toks+1}->bL (bJ X.prog X.w) X.A (f (.int i t)) Q E s):
 UnR X f (rU fun i=>.int (g i)):=by
 intro pins s σ H x v Q I rx h
 obtain⟨i,rfl,q⟩:=h
 obtain⟨t,rfl⟩:=rx
 exact rule i t s _ _ ⟨.int (g i),H,I.tok _,⟨_,rfl⟩,q⟩
theorem rk:UnR X (unaryOp .USub) (rU fun i=>.int (-i)):=unI fun _ _ _ _ _ q=>neg_int q
end
def afF:V->V->Bool
 |.j5,.j5=>ae|.j5,.int _=>ae|.int _,.j5=>ae|.j5,.bl _=>ae|.bl _,.j5=>ae|.j5,.str _=>ae|.str _,.j5=>ae
 |.int _,.int _=>ae|.bl _,.bl _=>ae|.str _,.str _=>ae|.VC _,.VC _=>ae
 |.int _,.str _=>ae|.str _,.int _=>ae|.bl _,.str _=>ae|.str _,.bl _=>ae
 |_,_=>af
def rEq:R2:=fun x y H Q=>afF x y=ae/\Q (.bl (decide (x=y))) H
def rNe:R2:=fun x y H Q=>afF x y=ae/\Q (.bl (!decide (x=y))) H
theorem T4{i j:Int}:decide (V.int i=V.int j)=(i==j):=by
 rw[eK];simp
theorem Yw{i j:Bool}:decide (V.bl i=V.bl j)=(i==j):=by
 rw[eK];simp
theorem T3{i j:Str}:decide (V.str i=V.str j)=(i==j):=by
 rw[eK];simp
theorem T5{i j:Array UInt8}:decide (V.VC i=V.VC j)=(i.toList==j.toList):=by
 rw[eK];cases i;cases j;simp
section
variable{X:Cx}{a b c:Expr}{ta tb tc:TE}{pos:Pos}
theorem gJ{pins:ah}{σ:St}{H:Hp}{s:bf}{Q:VK}{k k':Bool}(I:Inv X pins σ H s)(q:Q (.bl k) H)(e:k=k'):EP X pins σ Q (.bool k') s:=by
 subst e;exact⟨.bl k,H,I,rfl,q⟩
theorem iW:Gi X (i9 .Eq) rEq:=by
 intro pins s σ H x y v u Q I rx ry h;obtain⟨hs,q⟩:=h;cases x with
 |j5=>
  cases rx;cases y with
  |j5=>cases ry;exact PySem.EqNone.eq_none_none (gJ I q (by simp))
  |bl j=>cases ry;exact PySem.EqNone.eq_none_bool (gJ I q (by simp))
  |int j=>obtain⟨t',rfl⟩:=ry;exact PySem.EqNone.eq_none_int (gJ I q (by simp))
  |str j=>obtain⟨t',rfl⟩:=ry;exact PySem.EqNone.eq_none_str (gJ I q (by simp))
  |_=>exact absurd (show af=ae from hs) cz
 |bl i=>
  cases rx;cases y with
  |j5=>cases ry;exact PySem.EqNone.eq_bool_none (gJ I q (by simp))
  |bl j=>cases ry;exact eq_bool (gJ I q Yw)
  |str j=>obtain⟨t',rfl⟩:=ry;exact PySem.EqMixed.eq_bool_str (gJ I q (by simp))
  |_=>exact absurd (show af=ae from hs) cz
 |int i=>
  obtain⟨t,rfl⟩:=rx;cases y with
  |j5=>cases ry;exact PySem.EqNone.eq_int_none (gJ I q (by simp))
  |int j=>obtain⟨t',rfl⟩:=ry;exact eq_int (gJ I q T4)
  |str j=>obtain⟨t',rfl⟩:=ry;exact PySem.EqMixed.eq_int_str (gJ I q (by simp))
  |_=>exact absurd (show af=ae from hs) cz
 |str i=>
  obtain⟨t,rfl⟩:=rx;cases y with
  |j5=>cases ry;exact PySem.EqNone.eq_str_none (gJ I q (by simp))
  |bl j=>cases ry;exact PySem.EqMixed.eq_str_bool (gJ I q (by simp))
  |int j=>obtain⟨t',rfl⟩:=ry;exact PySem.EqMixed.eq_str_int (gJ I q (by simp))
  |str j=>obtain⟨t',rfl⟩:=ry;exact eq_str (gJ I q T3)
  |_=>exact absurd (show af=ae from hs) cz
 |VC i=>
  obtain⟨t,rfl⟩:=rx;cases y with
  |VC j=>obtain⟨t',rfl⟩:=ry;exact PySem.W.eq_bytes (gJ I q T5)
  |_=>exact absurd (show af=ae from hs) cz
 |_=>cases y<;>exact absurd (show af=ae from hs) cz
theorem wo:Gi X (i9 .NotEq) rNe:=by
 intro pins s σ H x y v u Q I rx ry h;obtain⟨hs,q⟩:=h;cases x with
 |j5=>
  cases rx;cases y with
  |j5=>cases ry;exact PySem.EqNone.ne_none_none (gJ I q (by simp))
  |bl j=>cases ry;exact PySem.EqNone.ne_none_bool (gJ I q (by simp))
  |int j=>obtain⟨t',rfl⟩:=ry;exact PySem.EqNone.ne_none_int (gJ I q (by simp))
  |str j=>obtain⟨t',rfl⟩:=ry;exact PySem.EqNone.ne_none_str (gJ I q (by simp))
  |_=>exact absurd (show af=ae from hs) cz
 |bl i=>
  cases rx;cases y with
  |j5=>cases ry;exact PySem.EqNone.ne_bool_none (gJ I q (by simp))
  |bl j=>cases ry;exact ne_bool (gJ I q (congrArg not Yw))
  |str j=>obtain⟨t',rfl⟩:=ry;exact PySem.EqMixed.ne_bool_str (gJ I q (by simp))
  |_=>exact absurd (show af=ae from hs) cz
 |int i=>
  obtain⟨t,rfl⟩:=rx;cases y with
  |j5=>cases ry;exact PySem.EqNone.ne_int_none (gJ I q (by simp))
  |int j=>obtain⟨t',rfl⟩:=ry;exact ne_int (gJ I q (congrArg not T4))
  |str j=>obtain⟨t',rfl⟩:=ry;exact PySem.EqMixed.ne_int_str (gJ I q (by simp))
  |_=>exact absurd (show af=ae from hs) cz
 |str i=>
  obtain⟨t,rfl⟩:=rx;cases y with
  |j5=>cases ry;exact PySem.EqNone.ne_str_none (gJ I q (by simp))
  |bl j=>cases ry;exact PySem.EqMixed.ne_str_bool (gJ I q (by simp))
  |int j=>obtain⟨t',rfl⟩:=ry;exact PySem.EqMixed.ne_str_int (gJ I q (by simp))
  |str j=>obtain⟨t',rfl⟩:=ry;exact ne_str (gJ I q (congrArg not T3))
  |_=>exact absurd (show af=ae from hs) cz
 |VC i=>
  obtain⟨t,rfl⟩:=rx;cases y with
  |VC j=>obtain⟨t',rfl⟩:=ry;exact PySem.W.ne_bytes (gJ I q (congrArg not T5))
  |_=>exact absurd (show af=ae from hs) cz
 |_=>cases y<;>exact absurd (show af=ae from hs) cz
theorem sY:Gi X (i9 .Lt) (rI0 fun i j=>.bl (decide (i<j))):=ado fun _ _ _ _ _ _ _ q=>lt_int q
theorem BE:Gi X (i9 .LtE) (rI0 fun i j=>.bl (decide (i<=j))):=ado fun _ _ _ _ _ _ _ q=>le_int q
theorem zW:Gi X (i9 .Gt) (rI0 fun i j=>.bl (decide (j<i))):=ado fun _ _ _ _ _ _ _ q=>gt_int q
theorem da(b:Expr){op:Wa}(h:op≠ .In:=by decide)(h2:op≠ .NotIn:=by decide):oP op b=af:=by
 have e1:(op==CmpOp.In)=af:=by cases op<;>first|rfl|exact absurd rfl h
 have e2:(op==CmpOp.NotIn)=af:=by cases op<;>first|rfl|exact absurd rfl h2
 cases b<;>simp[oP,e1,e2]
theorem jA{op:Wa}{r:R2}(ho:Gi X (i9 op) r)(ha:PE X a ta)(hb:PE X b tb)(hm:oP op b=af):PE X (.Compare a [op] [b] pos) (tOp r ta tb):=by
 intro pins s σ H Q I h;exact wpAny_Compare1 (aeB ha hb I h fun v u s2 x y H2 I2 rx ry q=>ho pins s2 σ H2 x y v u Q I2 rx ry q) hm
inductive acG(Q:Bool->Hp->Prop)(x:V)(H':Hp):Prop
 |mk (k:_) (_:x=.bl k) (_:Q k H')
def SO(t:TE):TT:=fun σ H Q=>t σ H fun x H'=>acG Q x H'
theorem cR{op:Wa}{r:R2}(ho:Gi X (i9 op) r)(ha:PE X a ta)(hb:PE X b tb)(hm:oP op b=af):PT X (.Compare a [op] [b] pos) (SO (tOp r ta tb)):=by
 intro pins s σ H Q I h
 refine Zv (ib (ha pins s σ H _ I h) fun v s1 ⟨x,H1,I1,r1,q1⟩=>ib (hb pins s1 σ H1 _ I1 q1) fun u s2 ⟨y,H2,I2,r2,q2⟩=>
  ib (ho pins s2 σ H2 x y v u _ I2 r1 r2 q2) fun c s3 ⟨z,H3,I3,r3,k,e,q3⟩=>?_) hm
 subst e;cases r3;exact ig ⟨H3,I3,q3⟩
inductive ZO(r':R2)(tc:TE)(σ:L2.St)(Q:VK)(y:V)(z:V)(H3:Hp):Prop
 |mk (k:_) (_:z=.bl k) (_:(if k=ae then tc σ H3 fun w' H4=>r' y w' H4 Q else Q (.bl af) H3))
def Wq(r r':R2)(ta tb tc:TE):TE:=fun σ H Q=>ta σ H fun x H1=>tb σ H1 fun y H2=>r x y H2 fun z H3=>ZO r' tc σ Q y z H3
theorem Hr{op op':Wa}{r r':R2}(ho:Gi X (i9 op) r)(ET:Gi X (i9 op') r')(ha:PE X a ta)(hb:PE X b tb)(hc:PE X c tc)
 (hm:lastMarks [op,op'] [b,c]=af:=by with_unfolding_all rfl):PE X (.Compare a [op,op'] [b,c] pos) (Wq r r' ta tb tc):=by
 intro pins s σ H Q I h
 refine Compare_chain (ib (ha pins s σ H _ I h) fun v s1 ⟨x,H1,I1,r1,q1⟩=>chain_link (ib (hb pins s1 σ H1 _ I1 q1) fun u s2 ⟨y,H2,I2,r2,q2⟩=>
  ib (ho pins s2 σ H2 x y v u _ I2 r1 r2 q2) fun d s3 ⟨z,H3,I3,r3,k,e,q3⟩=>?_)) hm
 subst e
 cases r3
 refine ig ?_
 cases k with
 |false=>exact ite_ff ⟨.bl af,H3,I3,rfl,q3⟩
 |true=>exact ite_tt (chain_last (ib (hc pins s3 σ H3 _ I3 q3) fun w' s4 ⟨z',H4,I4,r4,q4⟩=>ET pins s4 σ H4 y z' u w' Q I4 r2 r4 q4))
theorem W7{op op':Wa}{r r':R2}(ho:Gi X (i9 op) r)(ET:Gi X (i9 op') r')(ha:PE X a ta)(hb:PE X b tb)(hc:PE X c tc)
 (hm:lastMarks [op,op'] [b,c]=af:=by with_unfolding_all rfl):PT X (.Compare a [op,op'] [b,c] pos) (SO (Wq r r' ta tb tc)):=by
 intro pins s σ H Q I h
 refine isTrue_chain (ib (ha pins s σ H _ I h) fun v s1 ⟨x,H1,I1,r1,q1⟩=>test_link (ib (hb pins s1 σ H1 _ I1 q1) fun u s2 ⟨y,H2,I2,r2,q2⟩=>
  ib (ho pins s2 σ H2 x y v u _ I2 r1 r2 q2) fun d s3 ⟨z,H3,I3,r3,k,e,q3⟩=>?_)) hm
 subst e
 cases r3
 refine ig ?_
 cases k with
 |false=>
  obtain⟨k',e',q'⟩:=q3
  cases e'
  exact ite_ff ⟨H3,I3,q'⟩
 |true=>
  refine ite_tt (test_last (ib (hc pins s3 σ H3 _ I3 q3) fun w' s4 ⟨z',H4,I4,r4,q4⟩=>ib (ET pins s4 σ H4 y z' u w' _ I4 r2 r4 q4) fun d' s5 ⟨z2,H5,I5,r5,k2,e2,q5⟩=>?_))
  subst e2
  cases r5
  exact ig ⟨H5,I5,q5⟩
theorem xX:(bz:Nat)<2^63:=by rw[bX];decide
theorem Rb:Gi X (zD .Add) (fun x y H Q=>∃i j,x=.str i/\y=.str j/\i.length+j.length<=bz/\Q (.str (i++j)) H):=by
 intro pins s σ H x y v u Q I rx ry h;obtain⟨i,j,rfl,rfl,hz,q⟩:=h;obtain⟨t,rfl⟩:=rx;obtain⟨t',rfl⟩:=ry;exact add_str (fun t' tk=>⟨.str (i++j),H,I.tok _,⟨_,rfl⟩,q⟩) hz
theorem vals1{x:V}{us:au}(r:Vals [x] us):∃u,us=[u]/\RelV x u:=by
 cases r with
 |cons r1 r2=>cases r2;exact⟨_,rfl,r1⟩
theorem vals2{x y:V}{us:au}(r:Vals [x,y] us):∃u w',us=[u,w']/\RelV x u/\RelV y w':=by
 cases r with
 |cons r1 r2=>
  cases r2 with
  |cons r3 r4=>cases r4;exact⟨_,_,rfl,r1,r3⟩
theorem Eg(hc:X.calm=ae):wD X (.builtin "max") (fun xs H Q=>∃i j,xs=[.int i,.int j]/\Q (.int (if j>i then j else i)) H):=by
 intro pins s σ H xs us Q I r h;obtain⟨i,j,rfl,q⟩:=h;obtain⟨u,w',rfl,⟨t,rfl⟩,⟨t',rfl⟩⟩:=vals2 r;refine max_two_ints (I.ok.hd hc) fun h' tk k=>⟨_,H,I.kept k,?_,q⟩;by_cases hj:j>i
 ·rw[c8 hj,c8 hj];exact⟨_,rfl⟩
 rw[cP hj,cP hj];exact⟨_,rfl⟩
theorem MY:wD X (.type "str") (fun xs H Q=>∃i,xs=[.int i]/\i.natAbs.log2<1920/\Q (.str (toString i)) H):=by
 intro pins s σ H xs us Q I r h;obtain⟨i,rfl,hz,q⟩:=h;obtain⟨u,rfl,t,rfl⟩:=vals1 r;exact PySem.P.str_of_int hz ⟨.str _,H,I.tok _,⟨_,rfl⟩,q⟩
theorem YB:wD X (.builtin "ord") (fun xs H Q=>∃x,xs=[.str x]/\x.length=1/\Q (.int (x.cps.getD 0 0:Nat)) H):=by
 intro pins s σ H xs us Q I r h;obtain⟨x,rfl,hz,q⟩:=h;obtain⟨u,rfl,t,rfl⟩:=vals1 r;exact ord_of_one hz ⟨.int _,H,I.tok _,⟨_,rfl⟩,q⟩
end
structure Sf(h:Heap)(x dx C:Addr)(mA:aj):Prop where
 obj:h.get? x=aa (jz C dx)
 ns:h.Ns1 dx mA
 ne:dx≠x
theorem KD{h:Heap}{dx:Addr}{mA:aj}(n:h.Ns1 dx mA):∃od,h.get? dx=aa od/\∀name,yq name od=aa (mA name):=by
 obtain⟨o,es,ep,ho,hd,hk,_,hm⟩:=n;refine⟨o,ho,fun name=>?_⟩;have e:=hm name;unfold nsFind findBy at e;rw[<-C0]at e;unfold yq;rw[hd];dsimp only;split
 ·rename_i y q;rw[q]at e;exact congrArg aa e
 rename_i q;rw[q]at e
 have a:es.toList.any (·.refKey)=af:=by
  rw[hX];intro y hy;obtain⟨z,t,ajS⟩:=hk y (Array.mem_toList_iff.mp hy);simp[DictEntry.refKey,ajS]
 have a':¬es.toList.any (·.refKey)=ae:=by rw[a];exact cz
 rw[cP a'];exact congrArg aa e
theorem Sf.look{h:Heap}{x dx C:Addr}{mA:aj}(I:Sf h x dx C mA):∃od,PySem.W.InstAt h x (jz C dx) C (aa od)/\∀name,yq name od=aa (mA name):=
 let⟨od,ho,hl⟩:=KD I.ns
 ⟨od,⟨I.obj,rfl,rfl,ho⟩,hl⟩
section
variable{prog:b7}{w:cU}{A:cX}{E:ar}{s:bf}{K:aX}{x dx C f:Addr}{mA:aj}{name:Str}{v:aY}
theorem get_map{expr:Bool}{Q:ar}(X:K.In s.heap)(I:Sf s.heap x dx C mA)(hg:u7 K C name=ae)(hh:oy K C=ae)
 (ha:f7 K (.ref C) name=aa ab)(hv:mA name=aa v)(hv':VP v=ae)(h:Q v {s with toks:=s.toks+1}):
 bL (bJ prog w) A (Y6 (.ref x) name expr) Q E s:=by
 obtain⟨od,J,hl⟩:=I.look
 exact PySem.W.get_value X J (zE hg).1 (PySem.W.findObj_own hh ha rfl (by rw[hl,hv])) hv' h
theorem Yk{pl:Sem Bool}{Q:aY×au->bf->Prop}(X:K.In s.heap)(I:Sf s.heap x dx C mA)(hg:u7 K C name=ae)
 (hf:f7 K (.ref C) name=aa (aa (.ref f)))(ht:NB K (.ref f)=ae)(hv:mA name=ab)(h:Q (.ref f,[.ref x]) s):
 bL (bJ prog w) A (pU (.ref x) name pl) Q E s:=by
 obtain⟨od,J,hl⟩:=I.look
 exact PySem.W.method_fn X J (zE hg).1 (zE hg).2 hf (beq_iff_eq.mp ht) (by show(yq name od).map (·.isSome)=aa af;rw[hl,hv];rfl) h
theorem F7{ns:ak}{Q:Unit->bf->Prop}(X:K.In s.heap)(I:Sf s.heap x dx C mA)
 (hs:f7 K (.ref C) "__setattr__"=aa (aa (.builtin "object.__setattr__")))(hp:Ug K C=ae)(ht:FN K C name=aa ab)(hh:oy K C=ae)
 (hw:oR mA ns)(hsz:ns.length<=bz)
 (h:∀h',Sf h' x dx C (fun y=>if y=name then aa v else mA y)->kN dx s.heap h'->Q () {s with heap:=h',toks:=s.toks+2}):
 bL (bJ prog w) A (setAttr (.ref x) name v) Q E s:=by
 obtain⟨od,J,hl⟩:=I.look
 refine PySem.W.set_plain X J hs (PySem.W.osa_open (s:={s with toks:=s.toks+1}) (r:=ab) X J hp ht fun b=>?_)
 obtain⟨cd,hc,hd'⟩:=PySem.W.any_some hh
 have hx:s.heap.get? x=aa ⟨.ref C,aa dx,.plain,#[]⟩:=I.obj
 refine aO (bg (aO (aO (Er hx (aO (PySem.W.Looks.here (s:={s with toks:=s.toks+1}) (PySem.W.looks_clsIn X hc) ?_))))))
 rw[hd']
 refine bg (a:=aa dx) (aO (bg (aO ?_)))
 refine Y1 (s:={s with toks:=s.toks+1}) I.ns fun h' zt hs2=>?_
 obtain⟨oD,esD,epD,hoD,hdD,hcD⟩:=zt.count (y0 name v hw)
 refine aO (Nq hoD (by rw[hdD];exact Nw (cQ hcD (by rw[cJ];omega))) ?_)
 exact bg (h _ ⟨(hs2.2 _ (de I.ne)).trans I.obj,zt,I.ne⟩ hs2)
theorem XN{R:Ew->bf->Prop}{vs:au}{kw:List (Str×aY)}(X:K.In s.heap)(hm:V3 K C=ae)
 (hi:f7 K (.ref C) "__init__"=aa (aa (.ref f)))(hf:PySem.W.typeIn K (.ref f)=aa (.type "function"))
 (h:jx (bJ prog w) (A.under (.builtin "type.__call__" ⟨.ref C::vs,kw⟩)) (.call (.ref f) ⟨.ref (s.heap.objs.size+1)::vs,kw⟩) (PySem.W.InitBack (s.heap.objs.size+1) R)
  {s with heap:=(s.heap.push gR).push (jz C s.heap.objs.size)}):
 jx (bJ prog w) A (.call (.ref C) ⟨vs,kw⟩) R s:=by
 obtain⟨hh,g,d,t,os⟩:=s
 exact PySem.W.make_core (PySem.W.makes_of X hm) (PySem.W.looks_findIn X hi) (fun self=>PySem.W.bind_fn X self hf) (.inl rfl) h
end
def rK(f:Str)(v:V):aq->aq
 |[]=>[(f,v)]
 |(g,x)::r=>if g=f then(g,v)::r else(g,x)::rK f v r
theorem xW(f g:Str)(v:V):∀fs:aq,(rK f v fs).lookup g=if g=f then aa v else fs.lookup g
 |[]=>by
  show ie g [(f,v)]=_;by_cases h:g=f
  ·have hb:(g==f)=ae:=beq_iff_eq.mpr h;simp only[ie,hb,c8 h]
  have hb:(g==f)=af:=beq_eq_false_iff_ne.mpr h;simp only[ie,hb,cP h]
 |(k,x)::r=>by
  have ih:=xW f g v r;rw[show rK f v ((k,x)::r)=(if k=f then(k,v)::r else(k,x)::rK f v r)from rfl];by_cases hk:k=f
  ·rw[c8 hk];by_cases h:g=k
   ·have hb:(g==k)=ae:=beq_iff_eq.mpr h;simp only[ie,hb,c8 (h.trans hk)]
   have hb:(g==k)=af:=beq_eq_false_iff_ne.mpr h;simp only[ie,hb,cP (fun e:g=f=>h (e.trans hk.symm))]
  rw[cP hk];by_cases h:g=k
  ·have hb:(g==k)=ae:=beq_iff_eq.mpr h;simp only[ie,hb,cP (fun e:g=f=>hk (h.symm.trans e))]
  have hb:(g==k)=af:=beq_eq_false_iff_ne.mpr h;simp only[ie,hb];exact ih
theorem uO(f:Str)(v:V):∀fs:aq,f∈(rK f v fs).map (·.1)/\∀g,g∈fs.map (·.1)->g∈(rK f v fs).map (·.1)
 |[]=>⟨by simp[rK],fun g h=>by simp at h⟩
 |(k,x)::r=>by
  obtain⟨i1,i2⟩:=uO f v r;rw[show rK f v ((k,x)::r)=(if k=f then(k,v)::r else(k,x)::rK f v r)from rfl];by_cases hk:k=f
  ·rw[c8 hk];subst hk;exact⟨by simp,fun g h=>by simpa using h⟩
  rw[cP hk];refine⟨?_,fun g h=>?_⟩
  ·rw[dC];exact bC _ i1
  rw[dC]at h⊢;rcases bP.mp h with e|e
  ·exact bP.mpr (.inl e)
  exact bC _ (i2 g e)
theorem xZ(f:Str)(v:V):∀fs:aq,(rK f v fs).length<=fs.length+1
 |[]=>by simp[rK]
 |(k,x)::r=>by
  have ih:=xZ f v r;rw[show rK f v ((k,x)::r)=(if k=f then(k,v)::r else(k,x)::rK f v r)from rfl];by_cases hk:k=f
  ·rw[c8 hk,cJ,cJ];omega
  rw[cP hk,cJ,cJ];omega
theorem qV.some_of{v:V}{o:Option aY}(r:qV (aa v) o):∃u,o=aa u/\RelV v u:=by
 cases o with
 |none=>exact(show False from r).elim
 |some u=>exact⟨u,rfl,r⟩
theorem qV.none_of{o:Option aY}(r:qV ab o):o=ab:=by
 cases o with
 |none=>rfl
 |some u=>exact(show False from r).elim
theorem KQ{v:V}{u:aY}(r:RelV v u):VP u=ae:=by
 cases v with
 |j5=>cases(show u=eF from r);rfl
 |bl b=>cases(show u=Value.bool b from r);rfl
 |int i=>obtain⟨t,e⟩:=(show∃t,u=lZ i t from r);cases e;rfl
 |str x=>obtain⟨t,e⟩:=(show∃t,u=Ag x t from r);cases e;rfl
 |VC b=>obtain⟨t,e⟩:=(show∃t,u=Value.bytes b t from r);cases e;rfl
 |flt b=>obtain⟨t,e⟩:=(show∃t,u=Value.float b t from r);cases e;rfl
 |ref a=>cases(show u=cp a from r);rfl
 |ty n=>cases(show u=iT n from r);rfl
section
variable{P:b7}{w:cU}{H H':Hp}{h h':Heap}{a C dx:Addr}{fs fs':aq}
theorem Mg(gd:yo P w H h)(e:H a=aa (.ins C dx fs)):∃mA,Sf h a dx C mA/\(∀f,qV (fs.lookup f) (mA f))/\oR mA (fs.map (·.1))/\fs.length<=1000/\H dx=aa (.own a):=by
 obtain⟨d,z,ne,ob,mA,n,r,q⟩:=(show ja P w H h a (.ins C dx fs)from gd a _ e);exact⟨mA,⟨ob,n,ne⟩,r,q,z,d⟩
end
structure Gj(K:aX)(C:Addr):Prop where
 pg:u7 K C Str.empty=ae
 hd:oy K C=ae
 po:Ug K C=ae
 sa:f7 K (.ref C) "__setattr__"=aa (aa (.builtin "object.__setattr__"))
theorem Gj.get{K:aX}{C:Addr}(c:Gj K C)(f:Str):u7 K C f=ae:=c.pg
def eQ(K:aX)(C:Addr)(f:Str):Prop:=f7 K (.ref C) f=aa ab
theorem eQ.afm{K:aX}{C:Addr}{f:Str}(n:eQ K C f):FN K C f=aa ab:=by
 unfold FN;rw[show f7 K (.ref C) f=aa ab from n];rfl
structure Meth(K:aX)(C:Addr)(m:Str)(f:Addr):Prop where
 at_:f7 K (.ref C) m=aa (aa (.ref f))
 fn:NB K (.ref f)=ae
 kp:je K (.ref f)=ae
section
variable{X:Cx}{pins:ah}{σ:St}{H:Hp}{s:bf}{a C dx:Addr}{fs:aq}{f:Str}{v:V}{A:cX}{E:ar}
theorem Ij{b:Bool}{Q:ar}(I:Inv X pins σ H s)(e:H a=aa (.ins C dx fs))(c:Gj X.K C)(n:eQ X.K C f)(l:fs.lookup f=aa v)
 (h:∀u s',Inv X pins σ H s'->RelV v u->Q u s'):bL (bJ X.prog X.w) A (Y6 (.ref a) f b) Q E s:=by
 obtain⟨mA,O,r,_,_,_⟩:=Mg I.gd e
 obtain⟨u,hu,ru⟩:=qV.some_of (v:=v) (o:=mA f) (by rw[<-l];exact r f)
 exact get_map I.wN O (c.get f) c.hd n hu (KQ ru) (h u _ (I.tok _) ru)
theorem Ii{m:Str}{g:Addr}{pl:Sem Bool}{Q:aY×au->bf->Prop}(I:Inv X pins σ H s)(e:H a=aa (.ins C dx fs))(c:Gj X.K C)(k:Meth X.K C m g)(l:fs.lookup m=ab)
 (h:Q (.ref g,[.ref a]) s):bL (bJ X.prog X.w) A (pU (.ref a) m pl) Q E s:=by
 obtain⟨mA,O,r,_,_,_⟩:=Mg I.gd e
 have hn:mA m=ab:=qV.none_of (by rw[<-l];exact r m)
 exact Yk I.wN O (c.get m) k.at_ k.fn hn h
theorem G4{y:V}{u:aY}{Q:Unit->bf->Prop}(I:Inv X pins σ H s)(e:H a=aa (.ins C dx fs))(c:Gj X.K C)(n:eQ X.K C f)(hl:fs.length<1000)(ry:RelV y u)
 (h:∀s',Inv X pins σ (upd H a (.ins C dx (rK f y fs))) s'->Q () s'):bL (bJ X.prog X.w) A (setAttr (.ref a) f u) Q E s:=by
 obtain⟨mA,O,r,wi,_,ho⟩:=Mg I.gd e
 have hz:(fs.map (·.1)).length<=bz:=by rw[aV,bX];omega
 refine F7 I.wN O c.sa c.po n.afm c.hd wi hz fun h' O' sb=>h _ ?_
 have hd:∃o,h'.get? dx=aa o:=let⟨o,_,_,e',_⟩:=O'.ns;⟨o,e'⟩
 refine I.write (x:=a) (e:=dx) (by rw[e];exact ju) (.inr ho) (fun b q hb z=>(sb.2 b hb).trans z) hd ?_
 refine⟨by rw[bB O.ne];exact ho,?_,O.ne,O'.obj,_,O'.ns,fun g=>?_,fun g hg=>?_⟩
 ·have:=xZ f y fs;omega
 ·show qV ((rK f y fs).lookup g) (if g=f then aa u else mA g)
  rw[xW]
  by_cases q:g=f
  ·rw[c8 q,c8 q];exact ry
  rw[cP q,cP q];exact r g
 by_cases q:g=f
 ·rw[q];exact(uO f y fs).1
 refine(uO f y fs).2 g (wi g fun z=>hg ?_)
 show(if g=f then aa u else mA g)=ab
 rw[cP q];exact z
theorem Inv.made(I:Inv X pins σ H s):Inv X pins σ (upd (upd H s.heap.objs.size (.own (s.heap.objs.size+1))) (s.heap.objs.size+1) (.ins C s.heap.objs.size []))
 {s with heap:=(s.heap.push gR).push (jz C s.heap.objs.size)}:=by
 have e1:(s.heap.push gR).get? s.heap.objs.size=aa gR:=bH s.heap rfl
 have e2:((s.heap.push gR).push (jz C s.heap.objs.size)).get? (s.heap.objs.size+1)=aa (jz C s.heap.objs.size):=by
  have:=bH (s.heap.push gR) (o:=jz C s.heap.objs.size) rfl;rwa [dz]at this
 have e3:(s.heap.push gR).Ns s.heap.objs.size (fun _=>ab):=⟨gR,#[],_,e1,rfl,(fun e he=>absurd he (by simp)),fun _=>rfl⟩
 have I1:=I.laid (a:=s.heap.objs.size) (o:=.own (s.heap.objs.size+1)) (h':=s.heap.push gR) (t':=s.toks) (fun b u q=>a9 _ q) (bu _) ⟨_,e1⟩
 refine I1.laid (a:=s.heap.objs.size+1) (o:=.ins C s.heap.objs.size []) (t':=s.toks) (fun b u q=>a9 _ q) (kX (dz _ _)) ?_
 have ne:s.heap.objs.size≠s.heap.objs.size+1:=cg (eN _)
 refine⟨by rw[bB ne,ba],cB _,ne,e2,fun _=>ab,(SD e3).at fun o q=>a9 _ q,fun _=>ju,fun y hy=>absurd rfl hy⟩
theorem Ua{prog:b7}{w:cU}{env:Env}{e:Expr}{f:Str}{pos:Pos}{s:bf}{Q:ar}(hb:si e f env (eval e env)=eval e env)
 (h:bL (bJ prog w) A (eval e env) (fun o s₁=>bL (bJ prog w) A (Y6 o f ae) Q E s₁) E s):bL (bJ prog w) A (eval (.Attribute e f pos) env) Q E s:=
 Attribute_any_ h (by rw[arm_eval_Attribute,hb])
end
inductive afv(K:aX)(f:Str)(Q:VK)(x:V)(H1:Hp):Prop
 |mk (a:_) (C:_) (dx:_) (fs:_) (v:_) (_:x=.ref a) (_:H1 a=aa (.ins C dx fs)) (_:Gj K C) (_:eQ K C f) (_:fs.lookup f=aa v) (_:Q v H1)
def ZM(K:aX)(ta:TE)(f:Str):TE:=fun σ H Q=>ta σ H fun x H1=>afv K f Q x H1
inductive afH(K:aX)(f:Str)(D:L2.Ends)(σ:L2.St)(y:V)(x:V)(H2:Hp):Prop
 |mk (a:_) (C:_) (dx:_) (fs:_) (_:x=.ref a) (_:H2 a=aa (.ins C dx fs)) (_:Gj K C) (_:eQ K C f) (_:fs.length<1000) (_:D.nx σ (upd H2 a (.ins C dx (rK f y fs))))
def aiL(K:aX)(ta tv:TE)(f:Str):TS:=fun D σ H=>tv σ H fun y H1=>ta σ H1 fun x H2=>afH K f D σ y x H2
def ahm(X:Cx)(op:Sx)(rd:V->V->Hp->VK->Prop):Prop:=
 ∀(pins:ah)(s:bf)(σ:St)(H:Hp)(x y:V)(u v:aY)(Q:VK),Inv X pins σ H s->RelV x u->RelV y v->rd x y H Q->bL (bJ X.prog X.w) X.A (inplaceOp op u v) (EP X pins σ Q) X.xe s
def Z0(K:aX)(ta tv:TE)(rd:V->V->Hp->VK->Prop)(f:Str):TS:=fun D σ H=>ta σ H fun x H1=>∃a C dx fs v,x=.ref a/\H1 a=aa (.ins C dx fs)/\Gj K C/\eQ K C f/\fs.lookup f=aa v/\
 tv σ H1 fun y H2=>rd v y H2 fun z H3=>∃dx' fs',H3 a=aa (.ins C dx' fs')/\fs'.length<1000/\D.nx σ (upd H3 a (.ins C dx' (rK f z fs')))
section
variable{X:Cx}{o e value:Expr}{f:Str}{pos pos' Li:Pos}{ta tv:TE}
theorem cu(he:PE X e ta)(hb:si e f X.env (eval e X.env)=eval e X.env):PE X (.Attribute e f pos) (ZM X.K ta f):=by
 intro pins s σ H Q I h;refine Ua hb (ib (he pins s σ H _ I h) fun u s1 ⟨x,H1,I1,rx,a,C,dx,fs,v,ex,ea,c,n,l,q⟩=>?_);subst ex;obtain rfl:u=cp a:=rx;exact Ij I1 ea c n l fun u' s2 I2 ru=>⟨v,H1,I2,ru,q⟩
theorem lr(ha:PE X o ta)(hv:PE X value tv)(hs:pR value (aa (.Attribute o f pos')) pos.line X.env=pure af):PS X (.Assign [.Attribute o f pos'] value pos) (aiL X.K ta tv f):=by
 intro pins s σ H D I h;refine qW (ib (hv pins s σ H _ I h) fun u s1 ⟨y,H1,I1,ry,q⟩=>ib (ha pins s1 σ H1 _ I1 q) fun ov s2 ⟨x,H2,I2,rx,a,C,dx,fs,ex,ea,c,n,l,q2⟩=>?_) hs;subst ex;obtain rfl:ov=cp a:=rx;exact G4 I2 ea c n l ry fun s3 I3=>⟨σ,_,I3,q2⟩
theorem UJ{op:Sx}{rd:V->V->Hp->VK->Prop}(ha:PE X o ta)(hv:PE X value tv)(hop:ahm X op rd):PS X (.AugAssign (.Attribute o f Li) op value pos) (Z0 X.K ta tv rd f):=by
 intro pins s σ H D I h;refine wpAny_AugAssign_AttributeAny (ib (ha pins s σ H _ I h) fun ov s1 ⟨x,H1,I1,rx,a,C,dx,fs,v,ex,ea,c,n,l,q⟩=>?_);subst ex;obtain rfl:ov=cp a:=rx;refine Ij I1 ea c n l fun u s2 I2 ru=>ib (hv pins s2 σ H1 _ I2 q) fun w3 s3 ⟨y,H2,I3,ry,q3⟩=>ib (hop pins s3 σ H2 v y u w3 _ I3 ru ry q3) fun w4 s4 ⟨z,H3,I4,rz,dx',fs',ea',l',q4⟩=>?_;exact G4 I4 ea' c n l' rz fun s5 I5=>⟨σ,_,I5,q4⟩
inductive aiW(x:V)(y:V)(H:Hp)(Q:VK):Prop
 |mk (i:_) (j:_) (_:x=.int i) (_:y=.int j) (_:Q (.int (i+j)) H)
theorem qz:ahm X .Add aiW:=by
 rintro pins s σ H x y u v Q I rx ry ⟨i,j,rfl,rfl,q⟩;obtain⟨t,rfl⟩:=(show∃t,u=lZ i t from rx);obtain⟨t',rfl⟩:=(show∃t',v=lZ j t' from ry);exact PyProof.Rows.iadd_int ⟨.int (i+j),H,I.tok _,⟨_,rfl⟩,q⟩
end
section
variable{X:Cx}{pins:ah}{σ:St}{H:Hp}{s:bf}{A:cX}{E:ar}{Q:ar}{c:aY}{b:Bool}
end
structure gG(k:Nat)(A:cX):Prop where
 hd:A.handled=ab
 dp:A.depth+3*k+5<Sl
 un:A.units+16*k+200<J2
theorem gG.mono{j k:Nat}{A:cX}(r:gG k A)(h:j<=k):gG j A:=⟨r.hd,by have:=r.dp;omega,by have:=r.un;omega⟩
theorem gG.deeper{k:Nat}{A:cX}(r:gG (k+1) A)(env:Env):gG k (A.deeper env):=
 ⟨r.hd,by have:=r.dp;show A.depth+1+3*k+5<_;omega,by have:=r.un;show A.units+3+16*k+200<_;omega⟩
theorem Ru{A:cX}{C:Addr}{us:au}{kw:List (Str×aY)}:(A.under (.builtin "type.__call__" ⟨.ref C::us,kw⟩)).depth=A.depth+1:=by
 first|rfl|simp[NZ,Code.weight,Code.isCreation,Code.isGuard,Code.isCaller,Code.frames,QA,guardIds]
theorem Rt{A:cX}{C:Addr}{us:au}{kw:List (Str×aY)}:(A.under (.builtin "type.__call__" ⟨.ref C::us,kw⟩)).units=A.units+1:=by
 first|rfl|simp[NZ,Code.cUnits,Code.frames,QA]
theorem gG.make{k:Nat}{A:cX}(r:gG (k+1) A)(C:Addr)(us:au)(kw:List (Str×aY)):gG k (A.under (.builtin "type.__call__" ⟨.ref C::us,kw⟩)):=
 ⟨r.hd,by have:=r.dp;rw[Ru];omega,by have:=r.un;rw[Rt];omega⟩
theorem gG.depth{k:Nat}{A:cX}(r:gG k A):A.depth<Sl:=by have:=r.dp;omega
theorem gG.units{k:Nat}{A:cX}(r:gG k A):A.units+64<J2:=by have:=r.un;omega
def Dp:TA:=fun _ H Q=>Q [] H
def ED(ta:TE)(tr:TA):TA:=fun σ H Q=>ta σ H fun x H1=>tr σ H1 fun xs H2=>Q (x::xs) H2
section
variable{X:Cx}{e:Expr}{es:List Expr}{te:TE}{t:TA}{pos:Pos}
theorem bq:PA X [] Dp:=fun _ _ _ _ H Q I h=>jL ⟨[],H,I,.nil,h⟩
theorem aP(ha:PE X e te)(hr:PA X es t)(hs:bW (e::es) X.env=(af,eval e X.env)::bW es X.env:=by rfl):PA X (e::es) (ED te t):=by
 intro pos pins s σ H Q I h;rw[hs];show bL _ _ (EZ ((af,eval e X.env)::gz pos (bW es X.env))) _ _ s;refine iz (ib (ha pins s σ H _ I h) fun u s1 ⟨x,H1,I1,r1,q1⟩=>?_);exact ib (hr pos pins s1 σ H1 _ I1 q1) fun us s2 ⟨xs,H2,I2,r2,q2⟩=>⟨x::xs,H2,I2,.cons r1 r2,q2⟩
def ail(t:TA):TE:=fun σ H Q=>t σ H fun xs H1=>xs.length<=bz/\∀p,H1 p=ab->Q (.ref p) (upd H1 p (.tup xs))
def air(t:TA):TE:=fun σ H Q=>t σ H fun xs H1=>xs.length<=bz/\∀p,H1 p=ab->Q (.ref p) (upd H1 p (.lst xs))
theorem Ho{x1}(h:PA X es t):PE X (.Tuple es x1 pos) (ail t):=by
 intro pins s σ H Q I hq;refine wpAny_Tuple_spliced (ib (h pos pins s σ H _ I hq) fun us s1 ⟨xs,H1,I1,r,z,q⟩=>⟨by rw[<-r.length];exact z,?_⟩);have hf:H1 s1.heap.objs.size=ab:=I1.gd.fresh (bu _);refine⟨.ref s1.heap.objs.size,upd H1 s1.heap.objs.size (.tup xs),I1.laid (t':=s1.toks) (fun b u e=>a9 _ e) (bu _) ?_,rfl,q _ hf⟩;exact⟨z,us,r,⟨_,bH _ rfl,rfl,_,rfl⟩⟩
theorem eA(h:PA X es t):PE X (.List es pos) (air t):=by
 intro pins s σ H Q I hq;refine wpAny_List_spliced (ib (h pos pins s σ H _ I hq) fun us s1 ⟨xs,H1,I1,r,z,q⟩=>⟨by rw[<-r.length];exact z,?_⟩);have hf:H1 s1.heap.objs.size=ab:=I1.gd.fresh (bu _);refine⟨.ref s1.heap.objs.size,upd H1 s1.heap.objs.size (.lst xs),I1.laid (t':=s1.toks) (fun b u e=>a9 _ e) (bu _) ?_,rfl,q _ hf⟩;exact⟨z,us,0,r,bH _ rfl⟩
end
abbrev Sp:=ao->Hp->VK->XK->Prop
abbrev Qn:=List Env->Hp->bf->XK->aY->bf->Prop
structure Qa(P:b7)(w:cU)(K:aX)(mg:aj)(base:Heap)(A:cX)(outer:List Env)(s:bf)(H:Hp):Prop where
 frames:A.frames=aa outer
 mod:Mod K mg base
 bs:∀b o,base.get? b=aa o->s.heap.get? b=aa o/\H b=ab
 R9:base.objs.size<=s.heap.objs.size
 ya:s.heap.FunFrames base outer
 Vj:∀b∈RJ outer,H b=ab
 gd:yo P w H s.heap
 bare:E7 s.gens
inductive CE(outer:List Env)(P:b7)(w:cU)(H:Hp)(s:bf)(Q:VK)(u:aY)(s':bf):Prop
 |mk (v:_) (H':_) (_:s'.os=s.os) (_:E7 s'.gens) (_:Un (RJ outer) [] H H' s.heap s'.heap) (_:yo P w H' s'.heap) (_:RelV v u) (_:Q v H')
def CR(CX:Qn)(outer:List Env)(P:b7)(w:cU)(H:Hp)(s:bf)(Q:VK)(E:XK)(r:Ew)(s':bf):Prop:=
 match r with
 |.ok (.ret u)=>CE outer P w H s Q u s'
 |.ok _=>False
 |.error e=>CX outer H s E e s'
structure dv(P:b7)(w:cU)(K:aX)(mg:aj)(base:Heap)(CX:Qn)(k:Nat)(f:Addr)(fd:gx)(ps:ak)(sp:Sp):Prop where
 len:∀vs H Q E,sp vs H Q E->vs.length=ps.length
 run:∀(A:cX)(outer:List Env)(s:bf)(H:Hp)(args:Args)(us:au)(vs:ao)(Q:VK)(E:XK),gG k A->Qa P w K mg base A outer s H->BindsTo s fd args (ps.zip us)->Vals vs us->sp vs H Q E->
  jx (bJ P w) A (.call (.ref f) args) (CR CX outer P w H s Q E) s
theorem dv.imp{P:b7}{w:cU}{K:aX}{mg:aj}{base:Heap}{CX:Qn}{k:Nat}{f:Addr}{fd:gx}{ps:ak}{sp sp':Sp}(F:dv P w K mg base CX k f fd ps sp)
 (h:∀vs H Q E,sp' vs H Q E->sp vs H Q E):dv P w K mg base CX k f fd ps sp':=
 ⟨fun vs H Q E q=>F.len vs H Q E (h _ _ _ _ q),fun A outer s H args us vs Q E hr he hb hv hs=>F.run A outer s H args us vs Q E hr he hb hv (h _ _ _ _ hs)⟩
theorem Qa.make{P:b7}{w:cU}{K:aX}{mg:aj}{base:Heap}{A:cX}{outer:List Env}{s:bf}{H:Hp}(e:Qa P w K mg base A outer s H)(C:Addr)(us:au)(kw:List (Str×aY)):
 Qa P w K mg base (A.under (.builtin "type.__call__" ⟨.ref C::us,kw⟩)) outer s H:=⟨by first|exact e.frames|(simpa[NZ,Code.envs,QA,pushEnvs]using e.frames),e.mod,e.bs,e.R9,e.ya,e.Vj,e.gd,e.bare⟩
section
variable{X:Cx}{pins:ah}{σ:St}{H:Hp}{s s':bf}
theorem Inv.aet(I:Inv X pins σ H s):Qa X.prog X.w X.K X.mg X.base X.A X.stack s H:=
 ⟨I.ok.frames,I.ok.mod,I.bs,cQ I.ok.R9 I.sz,I.stack,I.Lo,I.gd,I.bare⟩
theorem Inv.after{Q:VK}{u:aY}(I:Inv X pins σ H s)(h:CE X.stack X.prog X.w H s Q u s'):EP X pins σ Q u s':=by
 obtain⟨v,H',os,bare,un,gd,r,q⟩:=h;obtain⟨hh,g,d,t,os'⟩:=s';obtain rfl:os'=s.os:=os;exact⟨v,H',I.call (h':=hh) (g':=g) (d':=d) (t':=t) (ch:=[]) un gd bare (fun b z=>absurd z (by simp)),r,q⟩
end
def SS(sp:Sp)(Dc:ao)(E:XK)(t:TA):TE:=fun σ H Q=>t σ H fun vs H1=>sp (vs++Dc) H1 Q E
inductive acL(C:Addr)(m:Str)(sp:Sp)(Dc:ao)(E:XK)(t:TA)(σ:L2.St)(Q:VK)(x:V)(H1:Hp):Prop
 |mk (a:_) (dx:_) (fs:_) (_:x=.ref a) (_:H1 a=aa (.ins C dx fs)) (_:fs.lookup m=ab) (_:t σ H1 fun vs H2=>sp (x::(vs++Dc)) H2 Q E)
def GF(C:Addr)(m:Str)(sp:Sp)(Dc:ao)(E:XK)(ta:TE)(t:TA):TE:=fun σ H Q=>ta σ H fun x H1=>acL C m sp Dc E t σ Q x H1
def Od(C:Addr)(sp:Sp)(Dc:ao)(E:XK)(t:TA):TE:=fun σ H Q=>t σ H fun vs H1=>∀x dx,H1 x=ab->H1 dx=ab->dx≠x->
 sp (.ref x::(vs++Dc)) (upd (upd H1 dx (.own x)) x (.ins C dx [])) (fun v H2=>v=.j5/\Q (.ref x) H2) E
def Binds(K:aX)(fd:gx)(ps:ak)(ds:au):Prop:=
 ∀(s:bf)(us:au),K.In s.heap->(us++ds).length=ps.length->BindsTo s fd ⟨us,[]⟩ (ps.zip (us++ds))
theorem Binds.all{K:aX}{fd:gx}{ps:ak}(h:∀us:au,us.length=ps.length->oO fd ⟨us,[]⟩=pure (ps.zip us)):Binds K fd ps []:=fun s us _ hl=>by
 rw[ck]at hl⊢;exact .of_eq (h us hl)
def Passes(CX:Qn)(X:Cx)(E:XK):Prop:=∀(pins:ah)(σ:St)(H:Hp)(s:bf)(e:aY)(s':bf),Inv X pins σ H s->CX X.stack H s E e s'->X.xe e s'
section
variable{X:Cx}{CX:Qn}{k:Nat}{f C:Addr}{fd:gx}{ps:ak}{sp:Sp}{Dc:ao}{ds:au}{E:XK}{x m:Str}{p pos apos:Pos}{e o:Expr}{es:List Expr}{ta:TE}{t:TA}
theorem LF{pins:ah}{σ:St}{H:Hp}{s:bf}{Q:VK}{us:au}{vs:ao}(F:dv X.prog X.w X.K X.mg X.base CX k f fd ps sp)(hr:gG k X.A)(hb:Binds X.K fd ps ds)(hd:Vals Dc ds)(hx:Passes CX X E)
 (I:Inv X pins σ H s)(r:Vals vs us)(h:sp (vs++Dc) H Q E):bL (bJ X.prog X.w) X.A (call (.ref f) us) (EP X pins σ Q) X.xe s:=by
 have r2:Vals (vs++Dc) (us++ds):=r.append hd
 have hl:(us++ds).length=ps.length:=by rw[<-r2.length];exact F.len _ _ _ _ h
 refine m5 (iS (F.run X.A X.stack s H ⟨us,[]⟩ (us++ds) (vs++Dc) Q E hr I.aet (hb s us I.wN hl) r2 h) fun r s' hq=>?_)
 cases r with
 |error e=>exact hx pins σ H s e s' I hq
 |ok fl=>
  cases fl with
  |ret u=>exact I.after hq
  |next=>exact fq hq
  |brk=>exact fq hq
  |cont=>exact fq hq
theorem Tp(F:dv X.prog X.w X.K X.mg X.base CX k f fd ps sp)(hr:gG k X.A)(hg:Gl X x)(hm:X.mg x=aa (.ref f))(hk:je X.K (.ref f)=ae)(hb:Binds X.K fd ps ds)(hd:Vals Dc ds)(hx:Passes CX X E)
 (ha:PA X (e::es) t)(AE:(x==("__debug__":Str))=af:=by decide)(he:bW (e::es) X.env=(af,eval e X.env)::bW es X.env:=by rfl)(yR:(gz pos (bW es X.env)).any (·.1)=af:=by rfl):
 PE X (.Call (.Name x p) (e::es) [] pos) (SS sp Dc E t):=by
 intro pins s σ H Q I h
 refine fe (sZ I hg hm ?_ AE)
 refine nu (h₀:=X.base) I.ok.mod.kin hk (ib (ha pos pins s σ H _ I h) fun us s1 ⟨vs,H1,I1,r,q⟩=>⟨I1.wN,?_⟩) he yR
 exact LF F hr hb hd hx I1 r q
theorem Tj{pl:Sem Bool}(he:PE X o ta)(c:Gj X.K C)(hm:Meth X.K C m f)(F:dv X.prog X.w X.K X.mg X.base CX k f fd ps sp)(hr:gG k X.A)(hb:Binds X.K fd ps ds)(hd:Vals Dc ds)(hx:Passes CX X E)(ha:PA X (e::es) t)
 (KL:bW (e::es) X.env=(af,eval e X.env)::bW es X.env:=by rfl)(yR:(gz pos (bW es X.env)).any (·.1)=af:=by rfl)
 (ht:eval (.Call (.Attribute o m apos) (e::es) [] pos) X.env=(do
  let ov<-eval o X.env
  se apos.atName
  let(f,first)<-qG [ov] (pU ov m pl)
  sQ pos f first (gz pos (bW (e::es) X.env)) (wg pos (m6 [] X.env))):=by rfl):
 PE X (.Call (.Attribute o m apos) (e::es) [] pos) (GF C m sp Dc E ta t):=by
 intro pins s σ H Q I h
 refine oZ (pl:=pl) (ib (he pins s σ H _ I h) fun u s1 ⟨x,H1,I1,rx,a,dx,fs,ex,ea,l,q⟩=>?_) ht
 subst ex
 obtain rfl:u=cp a:=rx
 refine Ii I1 ea c hm l ?_
 refine nu (first:=[.ref a]) (h₀:=X.base) I.ok.mod.kin hm.kp (ib (ha pos pins s1 σ H1 _ I1 q) fun us s2 ⟨vs,H2,I2,r,q2⟩=>⟨I2.wN,?_⟩) KL yR
 exact LF (us:=.ref a::us) (vs:=.ref a::vs) F hr hb hd hx I2 (.cons rfl r) q2
theorem OO{pl:Sem Bool}(he:PE X o ta)(c:Gj X.K C)(hm:Meth X.K C m f)(F:dv X.prog X.w X.K X.mg X.base CX k f fd ps sp)(hr:gG k X.A)(hb:Binds X.K fd ps ds)(hd:Vals Dc ds)(hx:Passes CX X E)
 (ht:eval (.Call (.Attribute o m apos) [] [] pos) X.env=(do
  let ov<-eval o X.env
  se apos.atName
  let(f,first)<-qG [ov] (pU ov m pl)
  sQ pos f first (gz pos (bW [] X.env)) (wg pos (m6 [] X.env))):=by rfl):
 PE X (.Call (.Attribute o m apos) [] [] pos) (GF C m sp Dc E ta Dp):=by
 intro pins s σ H Q I h
 refine oZ (pl:=pl) (ib (he pins s σ H _ I h) fun u s1 ⟨x,H1,I1,rx,a,dx,fs,ex,ea,l,q⟩=>?_) ht
 subst ex
 obtain rfl:u=cp a:=rx
 refine Ii I1 ea c hm l ?_
 exact zF (first:=[.ref a]) I1.wN hm.kp (LF (us:=[.ref a]) (vs:=[.ref a]) F hr hb hd hx I1 (.cons rfl .nil) q)
structure Mk(K:aX)(C f:Addr):Prop where
 makes:V3 K C=ae
 init:f7 K (.ref C) "__init__"=aa (aa (.ref f))
 fn:NB K (.ref f)=ae
 kp:je K (.ref C)=ae
theorem OD{pins:ah}{σ:St}{H:Hp}{s:bf}{Q:VK}{us:au}{vs:ao}(M:Mk X.K C f)(F:dv X.prog X.w X.K X.mg X.base CX k f fd ps sp)(hr:gG (k+1) X.A)(hb:Binds X.K fd ps ds)(hd:Vals Dc ds)
 (hx:Passes CX X E)(I:Inv X pins σ H s)(r:Vals vs us)
 (h:∀x dx,H x=ab->H dx=ab->dx≠x->sp (.ref x::(vs++Dc)) (upd (upd H dx (.own x)) x (.ins C dx [])) (fun v H2=>v=.j5/\Q (.ref x) H2) E):
 bL (bJ X.prog X.w) X.A (call (.ref C) us) (EP X pins σ Q) X.xe s:=by
 have hq:=h (s.heap.objs.size+1) s.heap.objs.size (I.gd.fresh (qY _)) (I.gd.fresh (bu _)) (cg (eN _))
 have I2:=Inv.made (C:=C) I
 have r2:Vals (V.ref (s.heap.objs.size+1)::(vs++Dc)) (cp (s.heap.objs.size+1)::(us++ds)):=.cons rfl (r.append hd)
 have hl:(cp (s.heap.objs.size+1)::us++ds).length=ps.length:=by
  have e:=r2.length;rw[F.len _ _ _ _ hq]at e;exact e.symm
 refine m5 (XN (f:=f) I.wN M.makes M.init (beq_iff_eq.mp M.fn) (iS (F.run _ X.stack _ _ ⟨cp (s.heap.objs.size+1)::us,[]⟩ (cp (s.heap.objs.size+1)::(us++ds)) _ _ E (hr.make C us [])
  (I2.aet.make C us []) (hb _ (cp (s.heap.objs.size+1)::us) I2.wN hl) r2 hq) fun r s' X7=>?_))
 cases r with
 |error e=>exact hx pins σ _ _ e s' I2 X7
 |ok fl=>
  cases fl with
  |ret u=>
   obtain⟨v,H',I3,rv,ev,q3⟩:=I2.after X7
   subst ev
   exact⟨rv,⟨V.ref (s.heap.objs.size+1),H',I3,rfl,q3⟩⟩
  |next=>exact fq X7
  |brk=>exact fq X7
  |cont=>exact fq X7
theorem aaa(M:Mk X.K C f)(F:dv X.prog X.w X.K X.mg X.base CX k f fd ps sp)(hr:gG (k+1) X.A)(hg:Gl X x)(hm:X.mg x=aa (.ref C))(hb:Binds X.K fd ps ds)(hd:Vals Dc ds)(hx:Passes CX X E)
 (ha:PA X (e::es) t)(AE:(x==("__debug__":Str))=af:=by decide)(he:bW (e::es) X.env=(af,eval e X.env)::bW es X.env:=by rfl)(yR:(gz pos (bW es X.env)).any (·.1)=af:=by rfl):
 PE X (.Call (.Name x p) (e::es) [] pos) (Od C sp Dc E t):=by
 intro pins s σ H Q I h
 refine fe (sZ I hg hm ?_ AE)
 refine nu (h₀:=X.base) I.ok.mod.kin M.kp (ib (ha pos pins s σ H _ I h) fun us s1 ⟨vs,H1,I1,r,q⟩=>⟨I1.wN,?_⟩) he yR
 exact OD M F hr hb hd hx I1 r q
theorem Xm(M:Mk X.K C f)(F:dv X.prog X.w X.K X.mg X.base CX k f fd ps sp)(hr:gG (k+1) X.A)(hg:Gl X x)(hm:X.mg x=aa (.ref C))(hb:Binds X.K fd ps ds)(hd:Vals Dc ds)(hx:Passes CX X E)
 (AE:(x==("__debug__":Str))=af:=by decide):PE X (.Call (.Name x p) [] [] pos) (Od C sp Dc E Dp):=by
 intro pins s σ H Q I h
 refine fe (sZ I hg hm ?_ AE)
 exact zF I.wN M.kp (OD (us:=[]) M F hr hb hd hx I .nil h)
end
section
variable{X:Cx}{CX:Qn}{k:Nat}{f C:Addr}{fd:gx}{ps ks:ak}{sp:Sp}{E:XK}{x m:Str}{p pos apos U2:Pos}{e o:Expr}{es:List Expr}{kws:List Keyword}{te ta:TE}{t tk:TA}{nm:Option Str}
variable{g:au->au->au}{gV:ao->ao->ao}
end
structure bU(N P:ak)(sc:l3):Prop where
 kind:sc.kind=.function
 co:sc.isCoroutine=af
 gen:sc.isGenerator=af
 nd:N.Nodup
 pre:N.take P.length=P
 par:∀x∈P,sc.names.lookup x=aa .local\/sc.names.lookup x=aa .cell
 adt:∀y∈sc.names,y.2≠ .free
theorem K2{uk:Str->Option j9}{x:Str}:∀{binds:List (Str×aY)}{m:aj},(∀v,(x,v)∉binds)->VX uk binds m x=m x
 |[],_,_=>rfl
 |(n,v)::r,m,h=>by
  unfold VX;rw[K2 fun w hw=>h w (bC _ hw)];split
  ·have:x≠n:=by rintro rfl;exact h v bM
   simp[this]
  rfl
theorem K4{uk:Str->Option j9}{x:Str}:∀{binds:List (Str×aY)}{m:aj},(∀v,(x,v)∉binds)->VY uk binds m x=m x
 |[],_,_=>rfl
 |(n,v)::r,m,h=>by
  unfold VY;rw[K4 fun w hw=>h w (bC _ hw)];split
  ·rfl
  have:x≠n:=by rintro rfl;exact h v bM
  simp[this]
theorem K3{uk:Str->Option j9}{x:Str}{v:aY}:∀{P:ak}{vs:au}{i:Nat}{m:aj},P.Nodup->P[i]?=aa x->vs[i]?=aa v->uk x=aa .local->
 VX uk (P.zip vs) m x=aa v
 |[],_,_,_,_,h,_,_=>by simp at h
 |_::_,[],_,_,_,_,h,_=>by simp at h
 |p::P,w::vs,0,m,nd,h1,h2,hk=>by
  simp at h1 h2;subst h1;subst h2;show VX uk ((p,w)::P.zip vs) m p=_;unfold VX;rw[K2 fun v hv=>(iV.mp nd).1 (nL hv).1,c8 hk];simp
 |p::P,w::vs,i+1,m,nd,h1,h2,hk=>by
  show VX uk ((p,w)::P.zip vs) m x=_;unfold VX;exact K3 (i:=i) (iV.mp nd).2 (by simpa using h1) (by simpa using h2) hk
theorem K5{uk:Str->Option j9}{x:Str}{v:aY}:∀{P:ak}{vs:au}{i:Nat}{m:aj},P.Nodup->P[i]?=aa x->vs[i]?=aa v->uk x≠aa .local->
 VY uk (P.zip vs) m x=aa v
 |[],_,_,_,_,h,_,_=>by simp at h
 |_::_,[],_,_,_,_,h,_=>by simp at h
 |p::P,w::vs,0,m,nd,h1,h2,hk=>by
  simp at h1 h2;subst h1;subst h2;show VY uk ((p,w)::P.zip vs) m p=_;unfold VY;rw[K4 fun v hv=>(iV.mp nd).1 (nL hv).1,cP hk];simp
 |p::P,w::vs,i+1,m,nd,h1,h2,hk=>by
  show VY uk ((p,w)::P.zip vs) m x=_;unfold VY;exact K5 (i:=i) (iV.mp nd).2 (by simpa using h1) (by simpa using h2) hk
def start(N:ak)(vs:ao):St:=vs.map aa++cA (N.length-vs.length) ab
def MQ(CX:Qn)(P:b7)(w:cU)(K:aX)(mg:aj)(base:Heap)(N:ak)(qual:Str)(scope:l3)(f:Addr)(cd:aY)(A:cX)(outer:List Env)(s:bf)(H:Hp)(E:XK):Cx where
 prog:=P
 w:=w
 K:=K
 mg:=mg
 base:=base
 A:=A.deeper (AW qual scope s.heap.objs.size f cd)
 N:=N
 DC:=s
 H_0:=H
 env:=AW qual scope s.heap.objs.size f cd
 outer:=outer
 stack:=AW qual scope s.heap.objs.size f cd::outer
 ex:=[]
 calm:=ae
 fn:=fun _=>ae
 pn:=[]
 xe:=fun e s'=>bL (bJ P w) (A.deeper (AW qual scope s.heap.objs.size f cd)) (leaving (AW qual scope s.heap.objs.size f cd) e) (fun _ s''=>CX outer H s E e s'') (fun e' s''=>CX outer H s E e' s'') s'
theorem PU{sc:l3}{n:Nat}{x:Str}(h:sc.names.lookup x=aa .cell):∃c,(f6 n sc.names []).lookup x=aa c:=by
 have q:=NC sc.names n [] (.inl h);exact mH.mp q
theorem U7{CX:Qn}{P:b7}{w:cU}{K:aX}{mg:aj}{base:Heap}{N ps:ak}{qual:Str}{scope:l3}{f:Addr}{cd:aY}{A:cX}{outer:List Env}{s s1:bf}{H:Hp}{E:XK}{us:au}{vs:ao}
 (S:bU N ps scope)(hd:A.handled=ab)(e0:Qa P w K mg base A outer s H)(hl:vs.length=ps.length)(r:Vals vs us)
 (x:InCallC s s.heap.objs.size (VX (AW qual scope s.heap.objs.size f cd).kindOf (ps.zip us) fun _=>ab) (f6 (s.heap.objs.size+1) scope.names []) (VY (AW qual scope s.heap.objs.size f cd).kindOf (ps.zip us) fun _=>ab) s1):
 Inv (MQ CX P w K mg base N qual scope f cd A outer s H E) [] (start N vs) H s1:=by
 have yR:ps.length<=N.length:=by have:=congrArg IX S.pre;rw[dW]at this;omega
 obtain⟨h1,tk,rfl,hk⟩:=x.done
 have noA:∀b:Addr,b∉(MQ CX P w K mg base N qual scope f cd A outer s H E).ex:=fun b z=>absurd (show b∈([]:ag)from z) (by simp)
 refine⟨⟨e0.mod,S.kind,rfl,rfl,bu _,fun y z c h1 h2=>?_,fun y hy=>?_,fun y c _ h=>?_,fun _=>hd,Around.frames_deeper e0.frames,.inr ⟨rfl,rfl⟩,fun b z=>absurd z (noA b),e0.bs,e0.R9,fun b _ _=>noA b,fun b z=>absurd z (noA b),e0.ya,e0.Vj⟩,
  rfl,e0.bare,Un.kept hk,⟨_,x.toInCall.ns,fun i y v h1 h2 h3=>?_⟩,fun y c h=>⟨_,x.cell y c h⟩,e0.gd.fresh (bu _),fun y c h=>?_,fun p hp=>absurd (show p∈([]:ah)from hp) (by simp),e0.gd.kept hk,?_⟩
 ·exact name_of_addr x.apart (dF h1) (dF h2)
 ·have hy:scope.names.lookup y=aa .cell\/scope.names.lookup y=aa .free:=hy
  rcases hy with hy|hy
  ·exact PU hy
  exact absurd rfl (S.adt _ (dF hy))
 ·exact dm (x.above y c (dF h))
 ·have hi:i<vs.length:=by
   unfold start at h2;by_cases hi:i<vs.length
   ·exact hi
   rw[hJ (by simpa using hi)]at h2;rw[Qg]at h2;split at h2<;>cases h2
  have ha:vs[i]?=aa v:=by
   unfold start at h2;rw[eV (by simpa using hi),bK]at h2;cases e:vs[i]? with
   |none=>rw[e]at h2;cases h2
   |some a=>rw[e]at h2;cases h2;rfl
  obtain⟨u,hu,rv⟩:=r.get ha
  have hp:ps[i]?=aa y:=by
   rw[<-S.pre,nG (by omega)];exact h1
  have ndP:ps.Nodup:=by rw[<-S.pre];exact S.nd.sublist (Ze _ _)
  refine⟨u,rv,?_⟩
  rcases S.par y (br hp)with k|k
  ·exact .inl ⟨k,K3 ndP hp hu k⟩
  obtain⟨c,e⟩:=PU (n:=s.heap.objs.size+1) k
  refine .inr ⟨.inl k,c,e,?_⟩
  have q:=x.cell y c e
  rw[K5 ndP hp hu (by show scope.names.lookup y≠_;rw[k];decide)]at q
  exact q
 ·exact e0.gd.fresh (dm (x.above y c (dF h)))
 unfold start
 show _=N.length
 rw[bQ,aV,ir]
 omega
theorem Ym{CX:Qn}{P:b7}{w:cU}{K:aX}{mg:aj}{base:Heap}{k:Nat}{f:Addr}{name qual:Str}{params:Wb}{body:List Stmt}{scope:l3}{dV kV doc pm fA ct oc:aY}{an od:Option Addr}
 {Xq:Array (Option aY)}{N ps:ak}{sp:Sp}(lk:K.lookup f=aa ⟨oc,od,.func (gQ name qual params body scope dV kV doc pm an fA ct),Xq⟩)(NN:IU K fA qual=ae)(S:bU N ps scope)
 (len:∀vs H Q E,sp vs H Q E->vs.length=ps.length)
 (Ig:∀(A:cX)(outer:List Env)(s:bf)(H:Hp)(vs:ao)(Q:VK)(E:XK),gG k (A.deeper (AW qual scope s.heap.objs.size f fA))->sp vs H Q E->
  ∃t,Nm (MQ CX P w K mg base N qual scope f fA A outer s H E) body t/\t {nx:=fun _ H'=>Q .j5 H',rt:=Q} (start N vs) H):
 dv P w K mg base CX (k+1) f (gQ name qual params body scope dV kV doc pm an fA ct) ps sp:=by
 refine⟨len,fun A outer s H args us vs Q E hr e0 hb r VS=>?_⟩
 have hl:=len _ _ _ _ VS
 have KX:K.In s.heap:=e0.mod.kin.keeps fun b o e=>(e0.bs b o e).1
 have lim:s.heap.NoLimit:=e0.mod.nolimit.keeps fun b o e=>(e0.bs b o e).1
 have agM:∀y∈ps.zip us,scope.names.lookup y.1=aa .local\/(scope.names.lookup y.1=aa .cell/\((f6 (s.heap.objs.size+1) scope.names []).lookup y.1).isSome=ae):=fun⟨n,v⟩ hy=>by
  rcases S.par n (nL hy).1 with q|q
  ·exact .inl q
  exact .inr ⟨q,NC _ _ _ (.inl q)⟩
 refine codeAny_call_function hr.depth (KX _ _ lk) rfl S.co S.gen rfl (PySem.W.codeRec_of KX NN) (hb _ _ _ _ ?_)
 refine wpAny_newFunctionEnv_cells S.kind agM fun env he s1 x=>?_
 subst he
 refine⟨lim.keeps x.toInCall.keep,codeAny_func ?_⟩
 obtain⟨t,ht,hq⟩:=Ig A outer s H vs Q E (hr.deeper _) VS
 have I:Inv (MQ CX P w K mg base N qual scope f fA A outer s H E) [] (start N vs) H s1:=U7 S hr.hd e0 hl r x
 refine eD (ht [] s1 (start N vs) H _ I hq) (fun fl s' hs=>?_) fun e s' hs=>hs
 have fin:∀{σ':St}{H':Hp}{v:V}{u:aY},Inv (MQ CX P w K mg base N qual scope f fA A outer s H E) [] σ' H' s'->RelV v u->Q v H'->CE outer P w H s Q u s':=
  fun{σ' H' v u} J rv q=>⟨v,H',J.os,J.bare,J.base,J.gd,rv,q⟩
 cases fl with
 |ret u=>
  obtain⟨v,σ',H',J,rv,q⟩:=hs
  exact fin J rv q
 |next=>
  obtain⟨σ',H',J,q⟩:=hs
  exact fin (v:=V.j5) (u:=eF) J rfl q
 |brk=>
  obtain⟨_,_,_,q⟩:=hs
  exact fq q
 |cont=>
  obtain⟨_,_,_,q⟩:=hs
  exact fq q
section
variable{X:Cx}{x:Str}{p pos:Pos}{e:Expr}{es:List Expr}{t:TA}{id T:String}{r:ao->Hp->VK->Prop}
def tCB(r:ao->Hp->VK->Prop)(t:TA):TE:=fun σ H Q=>t σ H fun vs H1=>r vs H1 Q
theorem dB(hc:wD X (.builtin id) r)(hg:Gl X x)(hm:X.mg x=ab)(hv:ij x=aa (.builtin id))(ha:PA X (e::es) t)(hn:x≠"__name__":=by decide)(AE:(x==("__debug__":Str))=af:=by decide)
 (he:bW (e::es) X.env=(af,eval e X.env)::bW es X.env:=by rfl)(yR:(gz pos (bW es X.env)).any (·.1)=af:=by rfl):PE X (.Call (.Name x p) (e::es) [] pos) (tCB r t):=by
 intro pins s σ H Q I h
 refine fe (rO I hg hm hv ?_ hn AE)
 exact PyProof.Rows.callWith_builtin1 (ib (ha pos pins s σ H _ I h) fun us s1 ⟨vs,H1,I1,r1,q1⟩=>hc pins s1 σ H1 vs us Q I1 r1 q1) he yR
theorem pB(hc:wD X (.type T) r)(hg:Gl X x)(hm:X.mg x=ab)(hv:ij x=aa (.type T))(ha:PA X (e::es) t)(hn:x≠"__name__":=by decide)(AE:(x==("__debug__":Str))=af:=by decide)
 (he:bW (e::es) X.env=(af,eval e X.env)::bW es X.env:=by rfl)(yR:(gz pos (bW es X.env)).any (·.1)=af:=by rfl):PE X (.Call (.Name x p) (e::es) [] pos) (tCB r t):=by
 intro pins s σ H Q I h
 refine fe (rO I hg hm hv ?_ hn AE)
 exact ku (ib (ha pos pins s σ H _ I h) fun us s1 ⟨vs,H1,I1,r1,q1⟩=>hc pins s1 σ H1 vs us Q I1 r1 q1) he yR
end
end L2
namespace HT
open PySem PyProof.Rows
section
open PySem.SeqAt
open PySem.AutoSeq1 (wpAny_loadPart')
open PySem.MeetsSeq PySem.MeetsSeq2 PySem.MeetsSeq3
end
section
variable{prog:b7}{w:cU}{A:cX}{E:ar}{s:bf}
def Qj(n d:Nat):Option Int->Nat
 |none=>d
 |some v=>if v<0 then(v+(n:Int)).toNat else min v.toNat n
theorem yI(n d k:Nat):Qj n d (aa (k:Int))=min k n:=by
 show(if(k:Int)<0 then((k:Int)+(n:Int)).toNat else min (k:Int).toNat n)=min k n;rw[cP (by omega),pG]
end
end HT
namespace L2
open PySem PySem.Spec PyProof.Rows
abbrev TO:=St->Hp->(Option Int->Hp->Prop)->Prop
def PO(X:Cx)(e:Option Expr)(t:TO):Prop:=
 ∀(pins:ah)(s:bf)(σ:St)(H:Hp)(Q:Option Int->Hp->Prop),Inv X pins σ H s->t σ H Q->
  bL (bJ X.prog X.w) X.A (evalPart e X.env) (fun u s'=>∃o H',Inv X pins σ H' s'/\IsPart u o/\Q o H') X.xe s
inductive acJ(Q:Option Int->Hp->Prop)(x:V)(H1:Hp):Prop
 |mk (i:_) (_:x=.int i) (_:Q (aa i) H1)
def afo(t:TE):TO:=fun σ H Q=>t σ H fun x H1=>acJ Q x H1
section
variable{X:Cx}{e:Expr}{te:TE}{lo hi:Option Expr}{tl th:TO}{pos p2:Pos}
theorem sX(h:PE X e te):PO X (aa e) (afo te):=by
 intro pins s σ H Q I hw;rw[evalPart_some];refine ib (h pins s σ H _ I hw) fun u s1 ⟨x,H1,I1,r1,q1⟩=>?_;obtain⟨i,rfl,q⟩:=q1;obtain⟨t,rfl⟩:=r1;exact⟨aa i,H1,I1,.int i t,q⟩
def SlR(X:Cx)(r:V->Option Int->Option Int->Hp->VK->Prop):Prop:=
 ∀(pins:ah)(s:bf)(σ:St)(H:Hp)(x:V)(v vl vu:aY)(lo hi:Option Int)(sl:Addr)(Q:VK),Inv X pins σ H s->RelV x v->s.heap.IsSliceOf sl vl vu .none->IsPart vl lo->IsPart vu hi->r x lo hi H Q->
  ∃T id,AV (.type T) "__getitem__"=pure (aa (.builtin id))/\s.TypeIs v T/\bL (bJ X.prog X.w) X.A (Qp v (.ref sl)) (EP X pins σ Q) X.xe s
def tSl(r:V->Option Int->Option Int->Hp->VK->Prop)(te:TE)(tl th:TO):TE:=fun σ H Q=>te σ H fun x H1=>tl σ H1 fun l H2=>th σ H2 fun u H3=>r x l u H3 Q
theorem BC{r:V->Option Int->Option Int->Hp->VK->Prop}(hr:SlR X r)(he:PE X e te)(hl:PO X lo tl)(hu:PO X hi th):PE X (.Subscript e (.Slice lo hi ab p2) pos) (tSl r te tl th):=by
 intro pins s σ H Q I h;refine AZ (ib (he pins s σ H _ I h) fun v s1 ⟨x,H1,I1,r1,q1⟩=>?_);refine wpAny_Slice (ib (hl pins s1 σ H1 _ I1 q1) fun vl s2 ⟨l,H2,I2,pl,q2⟩=>ib (hu pins s2 σ H2 _ I2 q2) fun vu s3 ⟨u,H3,I3,pu,q3⟩=>?_);rw[evalPart_none];refine bg ?_;have I4:Inv X pins σ H3 {s3 with heap:=s3.heap.push {cls:=.type "slice",data:=.fields #[vl,vu,.none]}}:=I3.kept (t':=s3.toks) fun b ob q=>a9 _ q;obtain⟨T,id,hT,ht,hg⟩:=hr pins {s3 with heap:=s3.heap.push {cls:=.type "slice",data:=.fields #[vl,vu,.none]}} σ H3 x v vl vu l u s3.heap.objs.size Q I4 r1 (Heap.IsSliceOf.new ..) pl pu q3;show bL (bJ X.prog X.w) X.A (VN e (.Slice lo hi ab p2) v (.ref s3.heap.objs.size)) (EP X pins σ Q) X.xe {s3 with heap:=s3.heap.push {cls:=.type "slice",data:=.fields #[vl,vu,.none]}};exact tail_any (ops:=[.ref s3.heap.objs.size,v]) ht hT hg (by with_unfolding_all rfl)
def CG(xs:ao)(lo hi:Option Int):ao:=(xs.drop (HT.Qj xs.length 0 lo)).take (HT.Qj xs.length xs.length hi-HT.Qj xs.length 0 lo)
theorem PM(xs:ao)(lo hi:Option Int):(CG xs lo hi).length<=xs.length:=by
 unfold CG;rw[dW,qo];omega
end
def U5(n:Nat)(i:Int):Option Nat:=if 0<=i then(if i<n then aa i.toNat else ab)else if-(n:Int)<=i then aa (i+n).toNat else ab
def Zp{α:Type}(xs:List α)(i:Int):Option α:=(U5 xs.length i).bind fun j=>xs[j]?
theorem TK{n:Nat}{i:Int}{j:Nat}(h:U5 n i=aa j):seqIndex? i n=aa j/\j<n/\-(n:Int)<=i/\i<n:=by
 unfold U5 at h;by_cases h0:0<=i
 ·rw[c8 h0]at h;by_cases h1:i<n
  ·rw[c8 h1]at h;have e:i.toNat=j:=bR h;exact⟨by rw[seqIndex_of h0 h1,e],by omega,by omega,h1⟩
  rw[cP h1]at h;cases h
 rw[cP h0]at h;by_cases h1: -(n:Int)<=i
 ·rw[c8 h1]at h;have e:(i+n).toNat=j:=bR h;exact⟨by rw[Y5 (by omega) h1,e],by omega,h1,by omega⟩
 rw[cP h1]at h;cases h
theorem Ng{α:Type}{xs:List α}{i:Int}{v:α}(h:Zp xs i=aa v):∃j,seqIndex? i xs.length=aa j/\xs[j]?=aa v/\j<xs.length/\-(xs.length:Int)<=i/\i<xs.length:=by
 unfold Zp at h;cases e:U5 xs.length i with
 |none=>rw[e]at h;cases h
 |some j=>
  rw[e]at h;obtain⟨h1,h2,h3,h4⟩:=TK e;exact⟨j,h1,h,h2,h3,h4⟩
theorem tE{α:Type}{xs:List α}{j:Nat}{v:α}(h:xs[j]?=aa v):Zp xs (j:Int)=aa v:=by
 have hj:j<xs.length:=(aZ.mp h).1
 have e:U5 xs.length (j:Int)=aa j:=by
  unfold U5;rw[c8 (by omega),c8 (by omega)];simp
 unfold Zp;rw[e];exact h
theorem YI{α:Type}(xs:List α)(v:α):Zp (xs++[v]) (-1)=aa v:=by
 have hl:(xs++[v]).length=xs.length+1:=by simp
 have e:U5 (xs++[v]).length (-1)=aa xs.length:=by
  unfold U5;rw[hl,cP (by decide),c8 (by omega)];congr 1;omega
 unfold Zp;rw[e];show(xs++[v])[xs.length]?=aa v;simp
def aa6(b:Expr):Prop:=∀o i,NP b af o i=operate [o,i] (Qp o i)
def IxR(X:Cx)(r:R2):Prop:=
 ∀(value slice:Expr)(pins:ah)(s:bf)(σ:St)(H:Hp)(x y:V)(v u:aY)(Q:VK),Inv X pins σ H s->RelV x v->RelV y u->r x y H Q->
  NP slice af v u=operate [v,u] (Qp v u)->bL (bJ X.prog X.w) X.A (VN value slice v u) (EP X pins σ Q) X.xe s
def MtR(X:Cx)(id:String)(r:V->ao->Hp->VK->Prop):Prop:=
 ∀(pins:ah)(s:bf)(σ:St)(H:Hp)(x:V)(xs:ao)(v:aY)(us:au)(Q:VK),Inv X pins σ H s->RelV x v->Vals xs us->r x xs H Q->
  bL (bJ X.prog X.w) X.A (call (.builtin id) (v::us)) (EP X pins σ Q) X.xe s
section
variable{X:Cx}{a b:Expr}{ta tb:TE}{pos:Pos}
theorem dU{r:R2}(hr:IxR X r)(ha:PE X a ta)(hb:PE X b tb)(hs:aa6 b):PE X (.Subscript a b pos) (tOp r ta tb):=by
 intro pins s σ H Q I h;exact AZ (aeB ha hb I h fun v u s2 x y H2 I2 rx ry q=>hr a b pins s2 σ H2 x y v u Q I2 rx ry q (hs _ _))
inductive aiV(K:aX)(x:V)(y:V)(H:Hp)(Q:VK):Prop
 |mk (p:_) (xs:_) (i:_) (v:_) (_:x=.ref p) (_:y=.int i) (_:du K H p xs) (_:Zp xs i=aa v) (_:Q v H)
inductive aiT(K:aX)(x:V)(y:V)(H:Hp)(Q:VK):Prop
 |mk (p:_) (xs:_) (i:_) (v:_) (_:x=.ref p) (_:y=.int i) (_:wC K H p xs) (_:Zp xs i=aa v) (_:Q v H)
inductive aiU(x:V)(y:V)(H:Hp)(Q:VK):Prop
 |mk (z:_) (i:_) (c:_) (_:x=.str z) (_:y=.int i) (_:z.length<=bz) (_:Zp z.cps.toList i=aa c) (_:Q (.str ⟨#[c]⟩) H)
theorem cT:IxR X (aiV X.K):=by
 intro value slice pins s σ H x y v u Q I rx ry h hs;obtain⟨p,xs,i,z,rfl,rfl,hq,he,q⟩:=h;cases rx;obtain⟨t,rfl⟩:=ry;obtain⟨its,r,pl,hz⟩:=I.list hq;obtain⟨j,h1,h2,h3,h4,h5⟩:=Ng he;obtain⟨w,ew,Z1⟩:=r.get h2;have hl:=r.length;have hn:=xX;have fin:EP X pins σ Q w s:=⟨z,H,I,Z1,q⟩;by_cases h0:0<=i
 ·have hj:i.toNat=j:=by
   rw[seqIndex_of h0 h5]at h1;exact bR h1
  exact So pl.isList h0 (by omega) (by rw[hj];simpa using ew) fin hs
 have hj:(i+(its.toArray.size:Int)).toNat=j:=by
  rw[Y5 (by omega) h4]at h1;rw[bY,<-hl];exact bR h1
 exact Y3 (x:=w) pl.isList.typeIs slot_list_getitem.lookup
  (wpAny_getItem_list_neg (Q:=fun r s'=>r=w/\EP X pins σ Q r s') pl.isList (by omega) (by rw[bY]<;>omega) (by omega) (by rw[hj];simpa using ew) ⟨rfl,fin⟩) hs
theorem vL:IxR X (aiT X.K):=by
 intro value slice pins s σ H x y v u Q I rx ry h hs;obtain⟨p,xs,i,z,rfl,rfl,hq,he,q⟩:=h;cases rx;obtain⟨t,rfl⟩:=ry;obtain⟨its,r,pl,hz⟩:=I.tuple hq;obtain⟨j,h1,h2,h3,h4,h5⟩:=Ng he;obtain⟨w,ew,Z1⟩:=r.get h2;have hl:=r.length;have hn:=xX;have fin:EP X pins σ Q w s:=⟨z,H,I,Z1,q⟩
 exact Y3 (x:=w) pl.typeIs slot_tuple_getitem.lookup
  (getItem_tuple (j:=j) (Q:=fun r s'=>r=w/\EP X pins σ Q r s') pl (by omega) (by omega) (by rw[bY,<-hl];exact h1) (by simpa using ew) ⟨rfl,fin⟩) hs
theorem X1:IxR X aiU:=by
 intro value slice pins s σ H x y v u Q I rx ry h hs;obtain⟨z,i,c,rfl,rfl,hz,he,q⟩:=h;obtain⟨t,rfl⟩:=rx;obtain⟨t',rfl⟩:=ry;obtain⟨j,h1,h2,h3,h4,h5⟩:=Ng he;have hl:z.cps.toList.length=z.length:=by simp[Str.length]
 rw[hl]at h1 h4 h5;have hn:=xX
 exact tail_any (typeIs_str s z t) slot_str_getitem.lookup (getItem_str (c:=c) (by
  have e1:decide (i< -(2^63:Int))=af:=gX (by omega);have e2:decide (i>=2^63)=af:=gX (by omega);rw[e1,e2,k6]) (by rw[h1];simpa using h2) ⟨.str ⟨#[c]⟩,H,I.tok _,⟨_,rfl⟩,q⟩) hs
theorem Rr(its:au)(n j:Nat)(u:aY):dS (·.setIfInBounds j u) {cls:=.type "list",data:=.seq its.toArray n}={cls:=.type "list",data:=.seq (its.set j u).toArray n}:=by
 simp[dS]
theorem Inv.lst{pins:ah}{σ:St}{H:Hp}{s:bf}{p:Addr}{xs:ao}(I:Inv X pins σ H s)(h:H p=aa (.lst xs)):
 ∃(its:au)(n:Nat),Vals xs its/\s.heap.get? p=aa {cls:=.type "list",data:=.seq its.toArray n}/\xs.length<=bz:=by
 obtain⟨z,its,n,r,e⟩:=I.gd p _ h
 exact⟨its,n,r,e,z⟩
theorem Inv.adx{pins:ah}{σ:St}{H:Hp}{s:bf}{p:Addr}{xs ys:ao}{its its':au}{n n':Nat}{f:Obj->Obj}(I:Inv X pins σ H s)(h:H p=aa (.lst xs))
 (ho:s.heap.get? p=aa {cls:=.type "list",data:=.seq its.toArray n})(hf:f {cls:=.type "list",data:=.seq its.toArray n}={cls:=.type "list",data:=.seq its'.toArray n'})(r:Vals ys its')(hz:ys.length<=bz)(t:Nat):
 Inv X pins σ (upd H p (.lst ys)) {s with heap:=s.heap.update p f,toks:=t}:=by
 have e:(s.heap.update p f).get? p=aa {cls:=.type "list",data:=.seq its'.toArray n'}:=by
  rw[dO f ho (by rw[hf]<;>rfl),hf]
 refine I.write (x:=p) (e:=p) (by rw[h];trivial) (.inl rfl) (fun b u hb q=>(cq _ _ (de hb)).trans q) ⟨_,e⟩ ?_
 exact⟨hz,its',n',r,e⟩
inductive afM(o:V)(i:V)(v:V)(H:Hp)(Q:Hp->Prop):Prop
 |mk (p:_) (xs:_) (k:_) (j:_) (_:o=.ref p) (_:i=.int k) (_:H p=aa (.lst xs)) (_:U5 xs.length k=aa j) (_:Q (upd H p (.lst (xs.set j v))))
theorem set_list:ahj X afM:=by
 intro pins s σ H o i v ov iv u Q I ro ri rv h;obtain⟨p,xs,k,j,rfl,rfl,hp,hj,q⟩:=h;cases ro;obtain⟨t,rfl⟩:=ri;obtain⟨its,n,r,ho,hz⟩:=I.lst hp;obtain⟨h1,h2,h3,h4⟩:=TK hj;have hl:=r.length;have hn:=xX
 have I':Inv X pins σ (upd H p (.lst (xs.set j v))) {s with heap:=s.heap.update p (dS (·.setIfInBounds j u))}:=
  I.adx hp ho (Rr its n j u) (r.set rv j) (by rw[fK];exact hz) s.toks
 by_cases h0:0<=k
 ·have hk:k.toNat=j:=by
   rw[seqIndex_of h0 h4]at h1;exact bR h1
  exact PySem.W.ki_setAt ho h0 (by omega) (by rw[bY,<-hl];exact h4) (by rw[hk];exact⟨_,I',q⟩)
 have hk:(k+(its.toArray.size:Int)).toNat=j:=by
  rw[Y5 (by omega) h3]at h1;rw[bY,<-hl];exact bR h1
 exact PySem.W.ki_setBack ho (by omega) (by rw[bY,<-hl];exact h3) (by omega) (by rw[hk];exact⟨_,I',q⟩)
theorem Lv(lo hi:Option Int)(n:Nat):(sP lo hi ab n).1=((HT.Qj n 0 lo:Nat):Int)/\(sP lo hi ab n).2.1=((HT.Qj n n hi:Nat):Int)/\(sP lo hi ab n).2.2=1:=by
 refine⟨?_,?_,rfl⟩
 ·cases lo with
  |none=>simp[sP,HT.Qj]
  |some i=>
   simp only[sP,HT.Qj,V4,show(1:Int)>0 by decide,if_true];by_cases h:i<0
   ·simp only[h,if_true]<;>omega
   simp only[h,if_false]<;>omega
 cases hi with
 |none=>simp[sP,HT.Qj]
 |some i=>
  simp only[sP,HT.Qj,V4,show(1:Int)>0 by decide,if_true];by_cases h:i<0
  ·simp only[h,if_true]<;>omega
  simp only[h,if_false]<;>omega
theorem Jj(its:au)(lo hi:Option Int):slicePick its.toArray lo hi ab=((its.drop (HT.Qj its.length 0 lo)).take (HT.Qj its.length its.length hi-HT.Qj its.length 0 lo)).toArray:=by
 obtain⟨h1,h2,h3⟩:=Lv lo hi its.toArray.size;unfold slicePick;rw[h1,h2,h3];simp only[sliceRange_one,pick_run,bY]<;>rfl
inductive aiQ(K:aX)(x:V)(lo:Option Int)(hi:Option Int)(H:Hp)(Q:VK):Prop
 |mk (a:_) (xs:_) (_:x=.ref a) (_:du K H a xs) (_:∀p,H p=ab->Q (.ref p) (upd H p (.lst (CG xs lo hi))))
theorem F5:SlR X (aiQ X.K):=by
 intro pins s σ H x v vl vu lo hi sl Q I rx hs pl pu h;obtain⟨a,xs,rfl,hx,q⟩:=h;cases rx;obtain⟨its,r,ht,hz⟩:=I.list hx;have hlen:=r.length;refine⟨"list",_,slot_list_getitem.lookup,ht.isList.typeIs,?_⟩;refine wpAny_getItem_list_slice ht.isList hs pl pu .none (by simp) ?_ (by rw[bY]<;>omega);rw[Jj,<-hlen];refine⟨.ref s.heap.objs.size,_,I.laid (t':=s.toks) (o:=.lst (CG xs lo hi)) (fun b ob q=>a9 _ q) (bu _) ?_,rfl,q _ (I.gd.fresh (bu _))⟩;exact⟨cQ (PM xs lo hi) hz,_,0,(r.drop (HT.Qj xs.length 0 lo)).take (HT.Qj xs.length xs.length hi-HT.Qj xs.length 0 lo),bH _ rfl⟩
def uU:V->Bool
 |.j5=>ae
 |.bl _=>ae
 |.int _=>ae
 |.str _=>ae
 |_=>af
def Yp:V->V->Bool
 |.j5,.j5=>ae
 |.bl a,.bl b=>a==b
 |.bl a,.int b=>(if a then 1 else 0)==b
 |.int a,.bl b=>a==(if b then 1 else 0)
 |.int a,.int b=>a==b
 |.str a,.str b=>a==b
 |_,_=>af
theorem aes{A:cX}{s:bf}{y x:V}{u v:aY}(ry:RelV y u)(rx:RelV x v)(fy:uU y=ae)(fx:uU x=ae):SeqAt.EqAt A s u v (Yp y x):=by
 cases y with
 |j5=>
  cases ry;cases x with
  |j5=>cases rx;exact SeqAt.EqAt.same _
  |bl b=>cases rx;exact SeqAt.EqAt.none_bool b
  |int b=>obtain⟨t,rfl⟩:=rx;exact SeqAt.EqAt.none_int b t
  |str b=>obtain⟨t,rfl⟩:=rx;exact SeqAt.EqAt.none_str b t
  |_=>exact absurd (show af=ae from fx) cz
 |bl a=>
  cases ry;cases x with
  |j5=>cases rx;exact SeqAt.EqAt.bool_none a
  |bl b=>cases rx;exact SeqAt.EqAt.bool_bool a b
  |int b=>obtain⟨t,rfl⟩:=rx;exact SeqAt.EqAt.bool_int a b t
  |str b=>obtain⟨t,rfl⟩:=rx;exact SeqAt.EqAt.bool_str a b t
  |_=>exact absurd (show af=ae from fx) cz
 |int a=>
  obtain⟨t',rfl⟩:=ry;cases x with
  |j5=>cases rx;exact SeqAt.EqAt.int_none a t'
  |bl b=>cases rx;exact SeqAt.EqAt.int_bool a t' b
  |int b=>obtain⟨t,rfl⟩:=rx;exact SeqAt.EqAt.int_int a t' b t
  |str b=>obtain⟨t,rfl⟩:=rx;exact NR a t' b t
  |_=>exact absurd (show af=ae from fx) cz
 |str a=>
  obtain⟨t',rfl⟩:=ry;cases x with
  |j5=>cases rx;exact SeqAt.EqAt.str_none a t'
  |bl b=>cases rx;exact SeqAt.EqAt.str_bool a t' b
  |int b=>obtain⟨t,rfl⟩:=rx;exact NQ a t' b t
  |str b=>obtain⟨t,rfl⟩:=rx;exact SeqAt.EqAt.str_str a t' b t
  |_=>exact absurd (show af=ae from fx) cz
 |_=>exact absurd (show af=ae from fy) cz
def RO(x:V)(u:aY):Bool:=match u with
 |.none=>Yp .j5 x
 |.bool b=>Yp (.bl b) x
 |.int i _=>Yp (.int i) x
 |.str z _=>Yp (.str z) x
 |_=>af
theorem Yq{x y:V}{u:aY}(r:RelV y u)(f:uU y=ae):RO x u=Yp y x:=by
 cases y with
 |j5=>cases r;rfl
 |bl b=>cases r;rfl
 |int i=>obtain⟨t,rfl⟩:=r;rfl
 |str z=>obtain⟨t,rfl⟩:=r;rfl
 |_=>exact absurd (show af=ae from f) cz
theorem CK{x:V}:∀{xs:ao}{us:au},Vals xs us->xs.all uU=ae->us.any (RO x)=xs.any fun y=>Yp y x
 |_,_,.nil,_=>rfl
 |y::xs,u::us,.cons r t,f=>by
  rw[NW,cK]at f;rw[vf,vf,Yq r f.1,CK t f.2]
theorem xP{A:cX}{s:bf}{x:V}{v:aY}(rx:RelV x v)(fx:uU x=ae):∀{xs:ao}{us:au},Vals xs us->xs.all uU=ae->∀u∈us,SeqAt.EqAt A s u v (RO x u)
 |_,_,.nil,_=>fun u hu=>by cases hu
 |y::xs,u::us,.cons r t,f=>fun u' hu=>by
  rw[NW,cK]at f;rcases bP.mp hu with rfl|hu
  ·rw[Yq r f.1];exact aes r rx f.1 fx
  exact xP rx fx t f.2 u' hu
def wu(x:V)(xs:ao):Bool:=xs.any fun y=>Yp y x
inductive rIn(K:aX)(neg:Bool)(x:V)(y:V)(H:Hp)(Q:VK):Prop
 |mk (p:_) (xs:_) (_:y=.ref p) (_:(du K H p xs\/wC K H p xs)) (_:uU x=ae) (_:xs.all uU=ae) (_:Q (.bl (if neg then !wu x xs else wu x xs)) H)
theorem yM:Gi X (i9 .In) (rIn X.K af):=by
 intro pins s σ H x y v u Q I rx ry h;obtain⟨p,xs,rfl,hq,fx,fs,q⟩:=h;cases ry;rcases hq with hq|hq
 ·obtain⟨its,r,pl,hz⟩:=I.list hq;refine SeqAt.in_listAt (RO x) pl.isList (fun w hw=>xP rx fx r fs w (by simpa using hw)) ⟨.bl _,H,I,rfl,?_⟩;rw[show its.toArray.any (RO x)=its.any (RO x)by simp,CK r fs];exact q
 obtain⟨its,r,pl,hz⟩:=I.tuple hq;refine SeqAt.in_tupleAt (RO x) pl (fun w hw=>xP rx fx r fs w (by simpa using hw)) ⟨.bl _,H,I,rfl,?_⟩;rw[show its.toArray.any (RO x)=its.any (RO x)by simp,CK r fs];exact q
theorem qQ:Gi X (i9 .NotIn) (rIn X.K ae):=by
 intro pins s σ H x y v u Q I rx ry h;obtain⟨p,xs,rfl,hq,fx,fs,q⟩:=h;cases ry;rcases hq with hq|hq
 ·obtain⟨its,r,pl,hz⟩:=I.list hq;refine SeqAt.notIn_listAt (RO x) pl.isList (fun w hw=>xP rx fx r fs w (by simpa using hw)) ⟨.bl _,H,I,rfl,?_⟩;rw[show its.toArray.any (RO x)=its.any (RO x)by simp,CK r fs];exact q
 obtain⟨its,r,pl,hz⟩:=I.tuple hq;refine SeqAt.notIn_tupleAt (RO x) pl (fun w hw=>xP rx fx r fs w (by simpa using hw)) ⟨.bl _,H,I,rfl,?_⟩;rw[show its.toArray.any (RO x)=its.any (RO x)by simp,CK r fs];exact q
inductive afN(K:aX)(xs:ao)(H:Hp)(Q:VK):Prop
 |mk (p:Addr) (ys:ao) (_:xs=[.ref p]) (_:du K H p ys\/wC K H p ys) (_:Q (.int ys.length) H)
theorem cI:wD X (.builtin "len") (afN X.K):=by
 intro pins s σ H xs us Q I r h;obtain⟨p,ys,rfl,hq,q⟩:=h;obtain⟨u,rfl,rx⟩:=vals1 r;cases rx;have hn:=xX;rcases hq with hq|hq
 ·obtain⟨its,r',pl,hz⟩:=I.list hq;have hlen:=r'.length;exact Calls.call_len_list pl.isList (by simp only[bY]<;>omega) ⟨.int ys.length,H,I.tok _,⟨s.toks+1,by rw[bY,hlen]⟩,q⟩
 obtain⟨its,r',pl,hz⟩:=I.tuple hq;have hlen:=r'.length;exact len_tuple pl (by simp only[bY]<;>omega) ⟨.int ys.length,H,I.tok _,⟨s.toks+1,by rw[bY,hlen]⟩,q⟩
theorem vS:wD X (.builtin "len") (fun xs H Q=>∃z,xs=[.str z]/\z.length<=bz/\Q (.int z.length) H):=by
 intro pins s σ H xs us Q I r h;obtain⟨z,rfl,hz,q⟩:=h;obtain⟨u,rfl,t,rfl⟩:=vals1 r;have hn:=xX;exact len_str (by omega) ⟨.int z.length,H,I.tok _,⟨_,rfl⟩,q⟩
theorem CI:wD X (.type "list") (fun xs H Q=>∃p ys,xs=[.ref p]/\(du X.K H p ys\/wC X.K H p ys)/\∀l,H l=ab->Q (.ref l) (upd H l (.lst ys))):=by
 intro pins s σ H xs us Q I r h;obtain⟨p,ys,rfl,hq,q⟩:=h;obtain⟨u,rfl,rx⟩:=vals1 r;cases rx
 have fin:∀(its:au),Vals ys its->ys.length<=bz->∀(h':Heap)(c':Nat),(∀b o',s.heap.get? b=aa o'->h'.get? b=aa o')->
  h'.get? s.heap.objs.size=aa {cls:=.type "list",dict:=ab,data:=.seq its.toArray c',slots:=#[]}->EP X pins σ Q (.ref s.heap.objs.size) {s with heap:=h'}:=fun its r' hz h' c' kp e=>
  ⟨.ref s.heap.objs.size,_,I.laid (t':=s.toks) kp (bu _) (show ja X.prog X.w _ h' _ (.lst ys)from⟨hz,its,c',r',e⟩),rfl,q _ (I.gd.fresh (bu _))⟩
 rcases hq with hq|hq
 ·obtain⟨its,r',pl,hz⟩:=I.list hq;have hlen:=r'.length;obtain⟨o,ho,hc,n,hd⟩:=pl.isList;exact call_list_seq p (.inl rfl) ho hc hd (fun h' c' kp e=>fin its r' hz h' c' kp e) (by simp only[bY]<;>omega)
 obtain⟨its,r',pl,hz⟩:=I.tuple hq;have hlen:=r'.length;obtain⟨o,ho,hc,n,hd⟩:=pl;exact call_list_seq p (.inr rfl) ho hc hd (fun h' c' kp e=>fin its r' hz h' c' kp e) (by simp only[bY]<;>omega)
def tyV(K:aX)(T:String)(x:V)(H:Hp):Prop:=match x with
 |.str _=>T="str"
 |.int _=>T="int"
 |.ref p=>(T="list"/\∃xs,du K H p xs)\/(T="tuple"/\∃o,K.lookup p=aa o/\o.cls=.type "tuple"/\o.dict=ab)\/
  (T="dict"/\((∃ef,H p=aa (.dK ef))\/∃ef,H p=aa (.dT ef)))\/(T="set"/\∃S n,H p=aa (.set S n))
 |_=>False
theorem acD{pins:ah}{σ:St}{H:Hp}{s:bf}{T:String}{x:V}{v:aY}(I:Inv X pins σ H s)(r:RelV x v)(ty:tyV X.K T x H):
 s.TypeIs v T/\∀a,v=.ref a->∃ob,s.heap.get? a=aa ob/\ob.dict=ab:=by
 cases x with
 |str z=>
  obtain⟨t,rfl⟩:=r
  cases(show T="str" from ty)
  exact⟨typeIs_str s z t,fun _ e=>nomatch e⟩
 |int i=>
  obtain⟨t,rfl⟩:=r
  cases(show T="int" from ty)
  exact⟨typeIs_int s i t,fun _ e=>nomatch e⟩
 |ref p=>
  cases r
  rcases ty with⟨rfl,xs,hq⟩|⟨rfl,o,hk,hc,hd⟩|⟨rfl,hk⟩|⟨rfl,S,n,hk⟩
  ·obtain⟨its,_,pl,_⟩:=I.list hq
   refine⟨pl.isList.typeIs,fun a e=>?_⟩
   cases e
   obtain⟨o,n,e,c,hd,_⟩:=pl
   exact⟨o,e,hd⟩
  ·refine⟨⟨o,I.wN p o hk,hc⟩,fun a e=>?_⟩
   cases e
   exact⟨o,I.wN _ o hk,hd⟩
  ·have z:∃o,s.heap.get? p=aa o/\o.ExactDict:=by
    rcases hk with⟨ef,hk⟩|⟨ef,hk⟩
    ·obtain⟨_,_,_,_,o,_,_,e,ex,_⟩:=I.gd p _ hk;exact⟨o,e,ex⟩
    obtain⟨_,_,_,_,o,_,_,e,ex,_⟩:=I.gd p _ hk;exact⟨o,e,ex⟩
   obtain⟨o,e,ex⟩:=z
   refine⟨⟨o,e,ex.1⟩,fun a e2=>?_⟩
   cases e2
   exact⟨o,e,ex.2.1⟩
  obtain⟨o,_,_,_,e,ex,_⟩:=I.gd p _ hk
  refine⟨⟨o,e,ex.1⟩,fun a e2=>?_⟩
  cases e2
  exact⟨o,e,ex.2.1⟩
 |_=>exact fq ty
def tBM(K:aX)(T:String)(r:V->ao->Hp->VK->Prop)(to:TE)(t:TA):TE:=fun σ H Q=>to σ H fun x H1=>tyV K T x H1/\t σ H1 fun xs H2=>r x xs H2 Q
variable{o e:Expr}{es:List Expr}{to:TE}{t:TA}{name:Str}{apos MT:Pos}{T id:String}{r:V->ao->Hp->VK->Prop}
theorem md(pa:PlainAttrs T)(slot:Slot T name id)(hty:Nt (.builtin id)=pure (.type "method_descriptor"))(hm:MtR X id r)(ho:PE X o to)(ha:PA X (e::es) t)
 (Pj:si o name X.env (eval o X.env)=eval o X.env:=by rfl)
 (aj3:((gz MT (bW (e::es) X.env)).all (fun x=>!x.1)&&(wg MT (m6 [] X.env)).all (fun x=>x.1.isSome)
  &&decide ((e::es).length+([]:List Keyword).length+(if([]:List Keyword).isEmpty then 0 else 1)<30))=ae:=by rfl)
 (Pf:(apos.endLine==MT.line)=ae:=by rfl)(hs:bW (e::es) X.env=(af,eval e X.env)::bW es X.env:=by rfl)(adZ:(gz MT (bW es X.env)).any (·.1)=af:=by rfl):
 PE X (.Call (.Attribute o name apos) (e::es) [] MT) (tBM X.K T r to t):=by
 intro pins s σ H Q I h
 refine wpAny_Call_method_late Pj aj3 Pf rfl (ib (ho pins s σ H _ I h) fun v s1 ⟨x,H1,I1,r1,ty,q1⟩=>?_)
 obtain⟨h1,h2⟩:=acD I1 r1 ty
 refine⟨T,id,pa,slot,hty,h1,h2,?_⟩
 have hA:=ha MT pins s1 σ H1 _ I1 q1
 rw[hs]at hA⊢
 refine Qi (by show(af||(gz MT (bW es X.env)).any (·.1))=af;rw[adZ]<;>rfl) (zG ?_)
 exact ib hA fun us s2 ⟨vs,H2,I2,r2,q2⟩=>hm pins s2 σ H2 x vs v us Q I2 r1 r2 q2
end
def MtM(X:Cx)(id:String)(r:V->ao->Hp->VK->Prop):Prop:=
 ∀(pins:ah)(s:bf)(σ:St)(H:Hp)(x:V)(xs:ao)(v:aY)(us:au)(Q:VK),Inv X pins σ H s->RelV x v->Vals xs us->r x xs H Q->
  bL (bJ X.prog X.w) X.A (call (.builtin id) (v::us)) (EP X pins σ Q) X.xe s
theorem Vals.one{x:V}{us:au}(h:Vals [x] us):∃u,us=[u]/\RelV x u:=by
 cases h with
 |cons r t=>
  cases t;exact⟨_,rfl,r⟩
theorem Vals.rep{xs:ao}{us:au}(h:Vals xs us):∀k:Nat,Vals (cA k xs).flatten (cA k us).flatten
 |0=>.nil
 |k+1=>by
  rw[fV,fV,lE,lE];exact Vals.append h (Vals.rep h k)
theorem foldl_rep(its:au):∀(k:Nat)(acc:au),
 V8 (fun x1 x2=>x1++x2) acc.toArray (cA k its.toArray)=(acc++(cA k its).flatten).toArray
 |0,acc=>by simp
 |k+1,acc=>by
  have e:acc.toArray++its.toArray=(acc++its).toArray:=by simp
  have e2:(acc++its)++(cA k its).flatten=acc++(cA (k+1) its).flatten:=by
   rw[fV,lE,c9]
  rw[<-e2,<-foldl_rep its k (acc++its),<-e,fV,nO]
section
variable{X:Cx}{pins:ah}{σ:St}{H:Hp}{s:bf}{l b:Addr}{xs ys zs:ao}
theorem Inv.agb{its its':au}{n:Nat}{f:Array aY->Array aY}{t':Nat}(I:Inv X pins σ H s)(hH:H l=aa (.lst xs))
 (e:s.heap.get? l=aa {cls:=.type "list",data:=.seq its.toArray n})(hf:f its.toArray=its'.toArray)(hv:Vals ys its')(hz:ys.length<=bz):
 Inv X pins σ (upd H l (.lst ys)) {s with heap:=s.heap.update l (dS f),toks:=t'}:=by
 have q:=PySem.IsL.update e f
 rw[hf]at q
 refine I.write (x:=l) (e:=l) (by rw[hH];exact trivial) (.inl rfl) (fun b' u hb hu=>(cq s.heap (dS f) (de hb)).trans hu) ⟨_,q⟩ ?_
 exact⟨hz,its',_,hv,q⟩
theorem Inv.age{its:au}{t':Nat}(I:Inv X pins σ H s)(hv:Vals ys its)(hz:ys.length<=bz):
 Inv X pins σ (upd H s.heap.objs.size (.lst ys)) {s with heap:=s.heap.push {cls:=.type "list",data:=.seq its.toArray},toks:=t'}:=
 I.laid (fun _ _ q=>a9 _ q) (bu _) ⟨hz,its,0,hv,bH _ rfl⟩
theorem Inv.fresh(I:Inv X pins σ H s):H s.heap.objs.size=ab:=I.gd.fresh (bu _)
theorem Inv.U0(I:Inv X pins σ H s)(hH:H l=aa (.lst xs)):xs.length<=bz/\∃(its:au)(n:Nat),Vals xs its/\xs.length=its.length/\s.heap.get? l=aa {cls:=.type "list",data:=.seq its.toArray n}:=by
 obtain⟨z,its,n,r,e⟩:=I.gd l _ hH;exact⟨z,its,n,r,r.length,e⟩
theorem O2{n:Nat}(h:n<=bz):lI n=af:=by
 unfold lI;exact gX (by omega)
end
section
variable{X:Cx}
inductive Z5(x:V)(vs:ao)(H:Hp)(Q:VK):Prop
 |mk (l:_) (xs:_) (y:_) (_:x=.ref l) (_:vs=[y]) (_:H l=aa (.lst xs)) (_:xs.length<bz) (_:Q .j5 (upd H l (.lst (xs++[y]))))
theorem iN:MtM X "list.append" Z5:=by
 intro pins s σ H x vs v us Q I rx rv h;obtain⟨l,xs,y,rfl,rfl,hH,hz,q⟩:=h;cases rx;obtain⟨u,rfl,ru⟩:=rv.one;obtain⟨z,its,n,r,hl,e⟩:=I.U0 hH;refine Ss F.slot_list_append ⟨_,e,rfl⟩ F.entry_list_append (F.args_list_append_2 _ _) (PySem.list_append l its.toArray n u (by rw[bY];omega)) ⟨e,?_⟩;refine⟨.j5,_,I.agb (its':=its++[u]) hH e (by simp) (r.append (.cons ru .nil)) ?_,rfl,q⟩;rw[bQ,List.length_singleton];omega
inductive Z4(x:V)(vs:ao)(H:Hp)(Q:VK):Prop
 |mk (l:_) (b:_) (xs:_) (zs:_) (_:x=.ref l) (_:vs=[.ref b]) (_:H l=aa (.lst xs)) (_:H b=aa (.lst zs)) (_:xs.length+zs.length<=bz) (_:Q .j5 (upd H l (.lst (xs++zs))))
theorem pC:MtM X "list.extend" Z4:=by
 intro pins s σ H x vs v us Q I rx rv h;obtain⟨l,b,xs,zs,rfl,rfl,hH,hB,hz,q⟩:=h;cases rx;obtain⟨u,rfl,ru⟩:=rv.one;cases ru;obtain⟨z,its,n,r,hl,e⟩:=I.U0 hH;obtain⟨z2,Pb,n2,r2,uq,e2⟩:=I.U0 hB;have hsz:its.toArray.size+Pb.toArray.size<=bz:=by rw[bY,bY];omega
 have X9:¬(!its.toArray.isEmpty&&lI (its.toArray.size+Pb.toArray.size))=ae:=by
  rw[O2 hsz,Le];exact cz
 refine Ss F.slot_list_extend ⟨_,e,rfl⟩ F.entry_list_extend (F.args_list_extend_2 _ _)
  (AutoSeq1.list_extend_list_list_0 l its.toArray n b Pb.toArray n2 X9 (by rw[bY];omega) (by omega)) ⟨e,e2,?_⟩
 refine⟨.j5,_,I.agb (its':=its++Pb) hH e (by simp) (r.append r2) ?_,rfl,q⟩;rw[bQ];omega
inductive afO(x:V)(y:V)(H:Hp)(Q:VK):Prop
 |mk (l:_) (b:_) (xs:_) (zs:_) (_:x=.ref l) (_:y=.ref b) (_:H l=aa (.lst xs)) (_:H b=aa (.lst zs)) (_:xs.length+zs.length<=bz) (_:∀p,H p=ab->Q (.ref p) (upd H p (.lst (xs++zs))))
theorem xJ:Gi X (zD .Add) afO:=by
 intro pins s σ H x y v u Q I rx ry h;obtain⟨l,b,xs,zs,rfl,rfl,hH,hB,hz,q⟩:=h;cases rx;cases ry;obtain⟨z,its,n,r,hl,e⟩:=I.U0 hH;obtain⟨z2,Pb,n2,r2,uq,e2⟩:=I.U0 hB;refine PySem.P.add_list e e2 ?_ (by rw[bY,bY];omega);have ea:its.toArray++Pb.toArray=(its++Pb).toArray:=by simp
 rw[ea];exact⟨.ref _,_,I.age (t':=s.toks) (r.append r2) (by rw[bQ];omega),rfl,q _ I.fresh⟩
inductive aiS(x:V)(y:V)(H:Hp)(Q:VK):Prop
 |mk (l:_) (k:_) (xs:_) (_:x=.ref l) (_:y=.int k) (_:H l=aa (.lst xs)) (_: -(2^63)<=k) (_:k<2^63) (_:xs.length*k.toNat<=bz) (_:∀p,H p=ab->Q (.ref p) (upd H p (.lst (cA k.toNat xs).flatten)))
theorem len_rep{α:Type}(xs:List α)(k:Nat):(cA k xs).flatten.length=k*xs.length:=by
 induction k with
 |zero=>simp
 |succ k ih=>rw[fV,lE,bQ,ih,Nat.succ_mul,Nat.add_comm]
theorem Q9:Gi X (zD .Mult) aiS:=by
 intro pins s σ H x y v u Q I rx ry h;obtain⟨l,k,xs,rfl,rfl,hH,h1,h2,hz,q⟩:=h;cases rx;obtain⟨t,rfl⟩:=ry;obtain⟨z,its,n,r,hl,e⟩:=I.U0 hH;have hlen:its.toArray.size*k.toNat<=bz:=by rw[bY,<-hl];exact hz
 have akb:¬its.toArray.size*k.toNat> (2^63-1)/8:=by
  have:(bz:Nat)<=(2^63-1)/8:=by decide
  omega
 have aj2:¬(!Builtin.List.listFitsIndex k)=ae:=by
  rw[fitsIndex_both h1 h2];exact cz
 have X9:¬lI (its.toArray.size*k.toNat)=ae:=by
  rw[O2 hlen];exact cz
 have ajJ:V8 (fun x1 x2=>x1++x2) #[] (cA (if its.toArray.isEmpty=ae then 0 else k.toNat) its.toArray)=(cA k.toNat its).flatten.toArray:=by
  have f0:∀m:Nat,V8 (fun x1 x2=>x1++x2) #[] (cA m its.toArray)=(cA m its).flatten.toArray:=fun m=>by
   have:=foldl_rep its m [];rw[nM]at this;exact this
  rw[f0];cases its with
  |nil=>simp
  |cons a r'=>rw[cP (by simp)]
 refine wpAny_binaryOp_repeat_ref (T:="list") (U:="int") (by decide) ⟨_,e,rfl⟩ (fun s'=>typeIs_int s' k t) noFill_list_mul F.fills_int_mul F.slot_int_rmul repeat_list F.slot_int_index.lookup
  (Ss F.slot_int_rmul (typeIs_int s k t) F.entry_int_rmul (F.args_int_rmul_2 _ _) (int___rmul___int_list k t l its.toArray n)
   ⟨e,rfl,⟨_,e,rfl⟩,Ss F.slot_list_mul ⟨_,e,rfl⟩ F.entry_list_mul (F.args_list_mul_2 _ _) (AutoListH.list___mul___list_int_3 l its.toArray n k t aj2 akb X9) ⟨e,?_⟩⟩)
 rw[ajJ];exact⟨.ref _,_,I.age (t':=s.toks) (r.rep k.toNat) (by rw[len_rep,Nat.mul_comm];exact hz),rfl,q _ I.fresh⟩
end
section
variable{prog:b7}{w:cU}{A:cX}{E:ar}{s:bf}
set_option maxRecDepth 100000 in
end
section
variable{X:Cx}
end
theorem Vals.ints:∀{ns:List Int}{us:au},Vals (ns.map V.int) us->kM us ns
 |[],us,h=>by
  rw[E4]at h;cases h;exact IntsAre.nil
 |n::ns,us,h=>by
  rw[dC]at h;cases h with
  |cons r t=>
   obtain⟨k,rfl⟩:=r;exact IntsAre.cons n k (Vals.ints t)
theorem qO:∀{us:au}{ns:List Int},kM us ns->Vals (ns.map V.int) us
 |_,_,.nil=>by rw[E4];exact Paired.nil
 |_,_,.cons n t h=>by rw[dC];exact Paired.cons (show RelV (V.int n) (lZ n t)from⟨t,rfl⟩) (qO h)
theorem Vals.ac5{a:Addr}{us:au}(r:Vals [V.ref a] us):us=[cp a]:=by
 cases r with
 |cons r t=>
  cases t;cases r;rfl
section
variable{prog:b7}{w:cU}{A:cX}{E:ar}{s:bf}{l:Addr}{its:au}{ns:List Int}{Q:ar}
end
section
variable{X:Cx}
end
section
variable{X:Cx}
end
section
variable{X:Cx}
end
section
variable{X:Cx}
end
section
variable{X:Cx}{pins:ah}{σ:St}{H:Hp}{s:bf}
end
section
variable{X:Cx}
end
abbrev YZ(h:Heap)(c:Addr)(v:Option aY):Prop:=h.IsCell c v
def aiO(scope sc:l3):l3:=
 {scope with names:=scope.names.map fun(n,k)=>if(k== .free&&sc.kind== .function&&sc.names.lookup n==aa .cell)then(n,.cell)else(n,k)}
def iw(cells:ai):List (Str×j9)->ai->ai
 |[],acc=>acc
 |(n,k)::r,acc=>if k== .free then iw cells r ((n,(cells.lookup n).getD 0)::acc)else iw cells r acc
theorem CH(env:Env)(f:Str×j9->ai->Sem (ForInStep ai))
 (hf:∀n k c,f (n,k) c=if k== .free then(do let a<-cellOf env n;pure (.yield ((n,a)::c)))else pure (.yield c)):
 ∀(names:List (Str×j9))(acc:ai),(∀y∈names,y.2=.free->∃c,env.cells.lookup y.1=aa c)->forIn names acc f=pure (iw env.cells names acc)
 |[],acc,_=>by rw[tF];rfl
 |(n,k)::r,acc,h=>by
  rw[nN,hf];have ih:=fun acc=>CH env f hf r acc fun y hy=>h y (bC _ hy);unfold iw;by_cases hk:(k==pF)=ae
  ·rw[c8 hk,c8 hk];obtain⟨c,hc⟩:=h (n,k) bM (by simpa using hk);have e:cellOf env n=pure c:=by unfold cellOf;rw[hc]
   rw[e];have e2:(env.cells.lookup n).getD 0=c:=by rw[hc];rfl
   rw[e2];exact ih _
  rw[cP hk,cP hk];exact ih _
theorem RY{scope:l3}{env:Env}(h:∀y∈scope.names,y.2=.free->∃c,env.cells.lookup y.1=aa c):IP scope env=pure (iw env.cells scope.names []):=by
 simp only[IP];rw[CH env _ (fun n k c=>rfl) scope.names [] h];rfl
theorem mem_lookup{α:Type}:∀{l:List (Str×α)}{n:Str}{c:α},(n,c)∈l->∃c',l.lookup n=aa c'
 |(k,v)::r,n,c,h=>by
  rw[kf];cases hb:n==k with
  |true=>exact⟨_,rfl⟩
  |false=>
   rcases bP.mp h with e|h
   ·cases e;simp at hb
   exact mem_lookup h
theorem tu{cells:ai}:∀{names:List (Str×j9)}{acc:ai}{n:Str}{c:Addr},(n,c)∈iw cells names acc->(n,c)∈acc\/((n,.free)∈names/\c=(cells.lookup n).getD 0)
 |[],_,_,_,h=>.inl h
 |(m,k)::r,acc,n,c,h=>by
  unfold iw at h;split at h
  ·rename_i hk;have hk:k=.free:=by simpa using hk
   rcases tu h with h|⟨h1,h2⟩
   ·rcases bP.mp h with e|h
    ·cases e;exact .inr ⟨hk▸bM,rfl⟩
    exact .inl h
   exact .inr ⟨bC _ h1,h2⟩
  rcases tu h with h|⟨h1,h2⟩
  ·exact .inl h
  exact .inr ⟨bC _ h1,h2⟩
theorem yi{cells:ai}:∀{names:List (Str×j9)}{acc:ai}{p:Str×Addr},p∈acc->p∈iw cells names acc
 |[],_,_,h=>h
 |(m,k)::r,acc,p,h=>by
  unfold iw;split
  ·exact yi (bC _ h)
  exact yi h
theorem yh{cells:ai}:∀{names:List (Str×j9)}{acc:ai}{n:Str},(n,.free)∈names->(n,(cells.lookup n).getD 0)∈iw cells names acc
 |(m,k)::r,acc,n,h=>by
  unfold iw;rcases bP.mp h with e|h
  ·cases e;exact yi bM
  split
  ·exact yh h
  exact yh h
theorem uX:∀{names:List (Str×j9)}{h:Heap}{acc:ai}{x:Str}{c:Addr},(x,c)∈f6 h.objs.size names acc->
 (x,c)∈acc\/((x,.cell)∈names/\h.objs.size<=c/\YZ (vc h names) c ab)
 |[],_,_,_,_,h=>.inl h
 |(n,k)::r,h,acc,x,c,hm=>by
  unfold f6 at hm;unfold vc;split at hm
  ·rename_i hk;rw[c8 hk];have hk:k=.cell:=by simpa using hk
   rw[<-dz h {cls:=.type "cell",data:=.cell ab}]at hm;rcases uX hm with hm|⟨h1,h2,h3⟩
   ·rcases bP.mp hm with e|hm
    ·cases e;exact .inr ⟨hk▸bM,bu _,_,Be r _ _ _ (bH _ rfl),rfl⟩
    exact .inl hm
   rw[dz]at h2;exact .inr ⟨bC _ h1,ve h2,h3⟩
  rename_i hk;rw[cP hk];rcases uX hm with hm|⟨h1,h2,h3⟩
  ·exact .inl hm
  exact .inr ⟨bC _ h1,h2,h3⟩
theorem yU:∀{names:List (Str×j9)}{n:Nat}{acc:ai}{p:Str×Addr},p∈acc->p∈f6 n names acc
 |[],_,_,_,h=>h
 |(m,k)::r,n,acc,p,h=>by
  unfold f6;split
  ·exact yU (bC _ h)
  exact yU h
theorem Ef:∀{names:List (Str×j9)}{n:Nat}{acc:ai}{x:Str},(x,.cell)∈names->∃c,(x,c)∈f6 n names acc
 |(m,k)::r,n,acc,x,h=>by
  unfold f6;rcases bP.mp h with e|h
  ·cases e;exact⟨n,yU bM⟩
  split
  ·exact Ef h
  exact Ef h
theorem Ee:∀{names:List (Str×j9)}{h:Heap}{acc:ai}{x y:Str}{c:Addr},(∀p∈acc,p.2<h.objs.size)->(∀x y c,(x,c)∈acc->(y,c)∈acc->x=y)->
 (x,c)∈f6 h.objs.size names acc->(y,c)∈f6 h.objs.size names acc->x=y
 |[],_,_,_,_,_,_,hi,h1,h2=>hi _ _ _ h1 h2
 |(n,k)::r,h,acc,x,y,c,hl,hi,h1,h2=>by
  unfold f6 at h1 h2;split at h1
  ·rename_i hk;rw[c8 hk]at h2;rw[<-dz h {cls:=.type "cell",data:=.cell ab}]at h1 h2;refine Ee (h:=h.push _) (fun p hp=>?_) (fun x y c a b=>?_) h1 h2
   ·rw[dz];rcases bP.mp hp with rfl|hp
    ·exact eN _
    exact eP (hl p hp)
   rcases bP.mp a with e|a<;>rcases bP.mp b with e'|b
   ·cases e;cases e';rfl
   ·cases e;exact absurd (hl _ b) (gC _)
   ·cases e';exact absurd (hl _ a) (gC _)
   exact hi _ _ _ a b
  rename_i hk;rw[cP hk]at h2;exact Ee hl hi h1 h2
theorem O3{M:NU}{A:cX}{E:ar}{s:bf}{scope:l3}{globals:Addr}{closure:ai}{qual:Str}{func:Option Addr}{code:aY}{around:Env}{builtins:Addr}{Q:Env->bf->Prop}
 (h:Q (newEnv scope s.heap.objs.size globals (f6 (s.heap.objs.size+1) scope.names closure) qual func code (aa around) builtins)
  {s with heap:=vc (s.heap.push {cls:=.type "dict",data:=.dict #[]}) scope.names}):
 bL M A (newFunctionEnv scope globals closure [] qual func code (aa around) builtins) Q E s:=by
 simp only[newFunctionEnv,Ui,if_true]
 refine aO (Es ?_)
 refine aO (wpAny_layCells _ (fun n k c=>rfl) scope.names closure _ _ ?_)
 rw[show({s with heap:=s.heap.push {cls:=.type "dict",data:=.dict #[]}}:bf).heap.objs.size=s.heap.objs.size+1 from dz ..]
 rw[tF]
 exact aO (bg (bg h))
theorem xV{sc:l3}:∀{names:List (Str×j9)}{x:Str}{k:j9},
 (names.map fun(n,k)=>if(k==pF&&sc.kind== .function&&sc.names.lookup n==aa .cell)then(n,Jf)else(n,k)).lookup x=aa k->
 ∃k',names.lookup x=aa k'/\(k=k'\/(k'=.free/\k=.cell))
 |[],_,_,h=>by simp at h
 |(n,k₀)::r,x,k,h=>by
  have ih:=@xV sc r x k;have h':ie x ((if(k₀==pF&&sc.kind== .function&&sc.names.lookup n==aa .cell)=ae then(n,Jf)else(n,k₀))::(r.map _))=aa k:=h;cases hx:x==n with
  |true=>
   simp only[kf,hx];by_cases hc:(k₀==pF&&sc.kind== .function&&sc.names.lookup n==aa .cell)=ae
   ·rw[c8 hc]at h';simp only[kf,hx]at h';cases h';simp only[cK,beq_iff_eq]at hc;exact⟨k₀,rfl,.inr ⟨hc.1.1,rfl⟩⟩
   rw[cP hc]at h';simp only[kf,hx]at h';cases h';exact⟨_,rfl,.inl rfl⟩
  |false=>
   simp only[kf,hx];by_cases hc:(k₀==pF&&sc.kind== .function&&sc.names.lookup n==aa .cell)=ae
   ·rw[c8 hc]at h';simp only[kf,hx]at h';exact ih h'
   rw[cP hc]at h';simp only[kf,hx]at h';exact ih h'
structure Qb(N:ak)(sc scope:l3)(own:List (Str×Nat)):Prop where
 kind:scope.kind=.function
 uniq:∀y∈scope.names,scope.names.lookup y.1=aa y.2
 ix:∀p∈own,N[p.2]?=aa p.1
 free:∀y∈scope.names,y.2=.free->sc.names.lookup y.1=aa .cell\/sc.names.lookup y.1=aa .free
 own:∀y∈scope.names,y.2=.local\/y.2=.cell->y.1∈own.map (·.1)\/y.1∉N
def wipe(σ:St):List Nat->St
 |[]=>σ
 |v::vs=>(wipe σ vs).set v ab
theorem wX(σ:St):∀vs:List Nat,(wipe σ vs).length=σ.length
 |[]=>rfl
 |v::vs=>by unfold wipe;rw[fK,wX σ vs]
theorem Dj{σ:St}{i:Nat}{x:V}:∀{vs:List Nat},(wipe σ vs)[i]?=aa (aa x)->σ[i]?=aa (aa x)/\i∉vs
 |[],h=>⟨h,by simp⟩
 |v::vs,h=>by
  unfold wipe at h;by_cases hi:v=i
  ·subst hi;by_cases hv:v<(wipe σ vs).length
   ·rw[o4 hv]at h;cases h
   rw[dY (by simpa using hv)]at h;cases h
  rw[qN hi]at h;obtain⟨h1,h2⟩:=Dj h;exact⟨h1,by simp only[bP,not_or];exact⟨fun e=>hi e.symm,h2⟩⟩
abbrev Cx.Nd(X:Cx)(s:bf)(H:Hp)(scope:l3)(nH:Env)(fp:ag):Cx:={X with DC:=s,H_0:=H,env:=nH,outer:=X.stack,ex:=fp,fn:=fun x=>scope.names.lookup x==aa .cell,pn:=[],xe:=fun _ _=>False}
section
variable{X:Cx}{pins:ah}{σ:St}{H:Hp}{s:bf}
theorem PZ{scope:l3}{own:List (Str×Nat)}{fp:ag}(I:Inv X pins σ H s)(ok:Qb X.N X.env.scope scope own)(hN:X.N.Nodup)(hfp:∀b∈fp,IH X pins H b/\b<s.heap.objs.size):
 Inv (X.Nd s H scope (m8 scope (f6 (s.heap.objs.size+1) scope.names (iw X.env.cells scope.names [])) s.heap.objs.size X.env) fp) [] (wipe σ (own.map (·.2))) H {s with heap:=vc (s.heap.push {cls:=.type "dict",data:=.dict #[]}) scope.names}:=by
 have KN:∀y∈scope.names,y.2=.free->∃c,X.env.cells.lookup y.1=aa c:=fun y hy e=>by
  rcases ok.free y hy e with k|k
  ·exact I.ok.has _ (.inl k)
  exact I.ok.has _ (.inr k)
 generalize Ph:m8 scope (f6 (s.heap.objs.size+1) scope.names (iw X.env.cells scope.names [])) s.heap.objs.size X.env=nH
 have kp:∀b o,s.heap.get? b=aa o->(vc (s.heap.push {cls:=.type "dict",data:=.dict #[]}) scope.names).get? b=aa o:=fun b o e=>Be _ _ _ _ (a9 _ e)
 have hL:nH.locals=s.heap.objs.size:=by rw[<-Ph];rfl
 have JG:nH.cells=f6 (s.heap.objs.size+1) scope.names (iw X.env.cells scope.names []):=by rw[<-Ph];rfl
 have hsc:nH.scope=aiO scope X.env.scope:=by rw[<-Ph];rfl
 rw[<-dz s.heap {cls:=.type "dict",data:=.dict #[]}]at JG
 have cm:∀{y c},(y,c)∈iw X.env.cells scope.names []->X.env.cells.lookup y=aa c/\c<s.heap.objs.size:=fun{y c} hm=>by
  rcases tu hm with hm|⟨h1,rfl⟩
  ·cases hm
  obtain⟨c,hc⟩:=KN _ h1 rfl;rw[hc];obtain⟨w,z⟩:=I.cell _ _ hc;exact⟨rfl,z.lt⟩
 have mem:∀{y c},nH.cells.lookup y=aa c->(X.env.cells.lookup y=aa c/\c<s.heap.objs.size)\/(s.heap.objs.size+1<=c/\YZ (vc (s.heap.push {cls:=.type "dict",data:=.dict #[]}) scope.names) c ab):=fun{y c} e=>by
  rw[JG]at e;rcases uX (dF e)with hm|⟨_,h2,h3⟩
  ·exact .inl (cm hm)
  rw[dz]at h2;exact .inr ⟨h2,h3⟩
 have look:∀{y},scope.names.lookup y=aa .free->∃c,nH.cells.lookup y=aa c/\X.env.cells.lookup y=aa c:=fun{y} hl=>by
  have hy:(y,pF)∈scope.names:=dF hl;obtain⟨c',e'⟩:=mem_lookup (yU (names:=scope.names) (n:=(s.heap.push {cls:=.type "dict",data:=.dict #[]}).objs.size) (yh (cells:=X.env.cells) (acc:=[]) hy));rw[<-JG]at e';refine⟨c',e',?_⟩;rw[JG]at e';rcases uX (dF e')with hm|⟨h1,_,_⟩
  ·exact(cm hm).1
  have:=ok.uniq _ h1;rw[hl]at this;cases this
 have okB:(X.Nd s H scope nH fp).Ok:=by
  refine⟨I.ok.mod,by show nH.scope.kind=_;rw[hsc];exact ok.kind,by show nH.globals=_;rw[<-Ph];exact I.ok.glob,by show nH.builtins=_;rw[<-Ph];exact I.ok.blt,by show s.heap.objs.size<=nH.locals;rw[hL];exact bu _,
   fun y z c e1 e2=>?_,fun y hy=>?_,fun y c z e=>?_,I.ok.hd,I.ok.frames,.inl rfl,fun b hb=>⟨?_,fun y c e z=>?_⟩,I.bs,cQ I.ok.R9 I.sz,fun b o e hb=>?_,fun b hb z=>?_,I.stack,I.Lo⟩
  ·have e1:nH.cells.lookup y=aa c:=e1;have e2:nH.cells.lookup z=aa c:=e2;rw[JG]at e1 e2;refine Ee (fun p hp=>?_) (fun y z c a b=>I.ok.inj y z c (cm a).1 (cm b).1) (dF e1) (dF e2);rw[dz];exact eP (cm (y:=p.1) (c:=p.2) hp).2
  ·show∃c,nH.cells.lookup y=aa c
   have key:∀k,nH.kindOf y=aa k->(k=.cell\/k=.free)->∃c,nH.cells.lookup y=aa c:=fun k hk hk'=>by
    unfold Env.kindOf at hk;rw[hsc]at hk;obtain⟨k',e,r⟩:=xV hk
    have:k'=.cell\/k'=.free:=by
     rcases r with rfl|⟨rfl,_⟩
     ·exact hk'
     exact .inr rfl
    rcases this with rfl|rfl
    ·obtain⟨c,hm⟩:=Ef (n:=(s.heap.push {cls:=.type "dict",data:=.dict #[]}).objs.size) (acc:=iw X.env.cells scope.names []) (dF e);obtain⟨c',e'⟩:=mem_lookup hm;exact⟨c',by rw[JG];exact e'⟩
    obtain⟨c,h1,_⟩:=look e;exact⟨c,h1⟩
   rcases hy with hy|hy
   ·exact key _ hy (.inl rfl)
   exact key _ hy (.inr rfl)
  ·have z:(scope.names.lookup y==aa Jf)=ae:=z;have z:scope.names.lookup y=aa .cell:=by simpa using z
   have e:nH.cells.lookup y=aa c:=e;rw[JG]at e;rcases uX (dF e)with hm|⟨_,h2,_⟩
   ·rcases tu hm with hm|⟨h1,_⟩
    ·cases hm
    have q:=ok.uniq _ h1;rw[z]at q;cases q
   rw[dz]at h2;exact ve h2
  ·show b≠nH.locals;rw[hL];exact cg (hfp b hb).2
  ·have e:nH.cells.lookup y=aa c:=e;rcases mem e with⟨h1,_⟩|⟨h1,_⟩
   ·exact(hfp b hb).1.2.2.2.2.1 y c h1 z
   have h2:s.heap.objs.size+1<=b:=by rw[<-z];exact h1
   exact absurd (bI (hfp b hb).2 (ve h2)) (gC _)
  ·rcases(hfp b hb).1.2.2.2.1 with z|z
   ·exact I.ok.LZ b o e z
   exact absurd (bI (bF e) (cQ I.ok.R9 z)) (gC _)
  rcases bP.mp (I.QP b z)with z|z
  ·exact(hfp b hb).1.2.1 z
  exact(hfp b hb).1.2.2.1 z
 refine⟨okB,rfl,I.bare,Un.kept kp,⟨fun _=>ab,?_,fun i y av e1 e2 e3=>?_⟩,fun y c e=>?_,?_,fun y c e=>?_,fun p hp=>?_,I.gd.kept kp,by rw[wX];exact I.len⟩
 ·show Heap.Ns _ nH.locals _
  rw[hL]
  exact Heap.Ns.keeps (Heap.Ns.new ..) fun b o e=>Be _ _ _ _ e
 ·obtain⟨e2,Ie⟩:=Dj e2
  have hfr:scope.names.lookup y=aa .free/\(nH.kindOf y=aa .cell\/nH.kindOf y=aa .free):=by
   have key:∀k,nH.scope.names.lookup y=aa k->k=.local\/k=.cell\/k=.free->scope.names.lookup y=aa .free/\(nH.kindOf y=aa .cell\/nH.kindOf y=aa .free):=fun k hk hk'=>by
    have hk0:=hk;rw[hsc]at hk;obtain⟨k',e,r⟩:=xV hk
    have no:¬(k'=.local\/k'=.cell):=fun hh=>by
     rcases ok.own _ (dF e) hh with e'|e'
     ·obtain⟨p,hp,hpy⟩:=dh.mp e';have e3:=ok.ix p hp;have:p.1=y:=hpy;rw[this]at e3;exact Ie (dh.mpr ⟨p,hp,BO hN e3 e1⟩)
     exact e' (br e1)
    rcases r with rfl|⟨rfl,rfl⟩
    ·rcases hk' with rfl|rfl|rfl
     ·exact absurd (.inl rfl) no
     ·exact absurd (.inr rfl) no
     exact⟨e,.inr hk0⟩
    exact⟨e,.inl hk0⟩
   have e3:Vis nH.scope y:=e3;rcases e3 with e3|e3|e3
   ·exact key _ e3 (.inl rfl)
   ·exact key _ e3 (.inr (.inl rfl))
   exact key _ e3 (.inr (.inr rfl))
  obtain⟨m,hn,hl⟩:=I.loc
  have aju:Vis X.env.scope y:=(ok.free _ (dF hfr.1) rfl).elim (fun k=>.inr (.inl k)) (fun k=>.inr (.inr k))
  obtain⟨w,r,q⟩:=hl i y av e1 e2 aju
  refine⟨w,r,.inr ⟨hfr.2,?_⟩⟩
  obtain⟨c,h1,h2⟩:=look hfr.1
  rcases q with⟨k,_⟩|⟨_,c',e',z⟩
  ·have k:X.env.scope.names.lookup y=aa .local:=k
   rcases ok.free _ (dF hfr.1) rfl with k'|k'<;>rw[show X.env.scope.names.lookup y=_ from k']at k<;>cases k
  rw[h2]at e';cases e'
  exact⟨c,h1,z.keeps kp⟩
 ·have e:nH.cells.lookup y=aa c:=e
  rcases mem e with⟨h1,_⟩|⟨_,z⟩
  ·obtain⟨w,z⟩:=I.cell y c h1
   exact⟨w,z.keeps kp⟩
  exact⟨_,z⟩
 ·show H nH.locals=ab
  rw[hL];exact I.gd.fresh (bu _)
 ·have e:nH.cells.lookup y=aa c:=e
  rcases mem e with⟨h1,_⟩|⟨h1,_⟩
  ·exact I.pY y c h1
  exact I.gd.fresh (ve h1)
 exact absurd (show p∈([]:ah)++[]from hp) (by simp)
theorem aeE{E:ar}{D:Addr}{xs:ao}{y:V}{v:aY}{Q:ar}(I:Inv X pins σ H s)(hD:H D=aa (.lst xs))(hz:xs.length<bz)(r:RelV y v)
 (h:∀s',Inv X pins σ (upd H D (.lst (xs++[y]))) s'->Q .none s'):bL (bJ X.prog X.w) X.A (call (.builtin "list.append") [.ref D,v]) Q E s:=by
 obtain⟨hz',its,n,ri,e⟩:=I.gd D _ hD
 have hl:=ri.length
 refine append_at (hsz:=by rw[bY];omega) e fun h' sb ET=>?_
 refine h {s with heap:=h'} (I.write (t':=s.toks) (by rw[hD];trivial) (.inl rfl) (fun b u hb q=>(sb.2 b hb).trans q) ⟨_,ET⟩ ⟨by rw[bQ];exact hz,its++[v],n+1,ri.append (.cons r .nil),?_⟩)
 rw[ET]
 simp
def PTs(X:Cx)(ifs:List Expr)(t:TT):Prop:=
 ∀(pins:ah)(s:bf)(σ:St)(H:Hp)(Q:Bool->Hp->Prop),Inv X pins σ H s->t σ H Q->
  bL (bJ X.prog X.w) X.A (forIn ifs ae fun c r=>if r=ae then do let ok<-isTrue c X.env (eval c X.env);pure (vg ok)else pure (vg r)) (TP X pins σ Q) X.xe s
def Uz:TT:=fun _ H Q=>Q ae H
theorem F9:PTs X [] Uz:=fun _ _ _ H _ I h=>wpAny_tests_nil ⟨H,I,h⟩
theorem LJ{c:Expr}{t:TT}(h:PT X c t):PTs X [c] t:=fun pins s σ H Q I hw=>wpAny_tests_one (h pins s σ H Q I hw)
end
theorem Uy{α:Type}{t:Sem α}{Q Q':α->bf->Prop}{M:NU}{A:cX}{E:ar}{s:bf}(h:bL M A t Q (fun _ _=>False) s)(hQ:∀a s,Q a s->Q' a s):bL M A t Q' E s:=eD h hQ fun _ _ z=>fq z
theorem MU{prog:b7}{w:cU}{A:cX}{R:Ew->bf->Prop}{s:bf}{elt target iter:Expr}{ifs:List Expr}{scope:l3}{pos:Pos}{it acc:aY}{env:Env}(I:Nat->bf->Prop)
 (turn:∀n s,I n s->bL (bJ prog w) A (qF it) (fun r s₁=>match r with
  |none=>R (.ok .next) s₁
  |some v=>bL (bJ prog w) A (Bf target it v) (fun _ s₁'=>bL (bJ prog w) A (Sv target env v) (fun _ s₂=>
   bL (bJ prog w) A (forIn ifs ae fun c r=>if r=ae then do let ok<-isTrue c env (eval c env);pure (vg ok)else pure (vg r)) (fun ok s₃=>
    if ok=ae then bL (bJ prog w) A (eval elt env) (fun x s₄=>
     bL (bJ prog w) A (call (.builtin "list.append") [acc,x]) (fun _ s₅=>∃m,m<n/\I m s₅) (Qo (bJ prog w) A env fun e s'=>R (.error e) s') s₄) (Qo (bJ prog w) A env fun e s'=>R (.error e) s') s₃
    else∃m,m<n/\I m s₃) (Qo (bJ prog w) A env fun e s'=>R (.error e) s') s₂) (Qo (bJ prog w) A env fun e s'=>R (.error e) s') s₁') (Qo (bJ prog w) A env fun e s'=>R (.error e) s') s₁) (Qo (bJ prog w) A env fun e s'=>R (.error e) s') s)
 (n:Nat)(h:I n s):
 jx (bJ prog w) A (.compLoop (.ListComp elt [⟨target,iter,ifs,0⟩] scope pos) 0 it acc env) R s:=by
 refine codeAny_loop rfl I (fun n s hI=>?_) n h
 show bL _ A ((compTurn (.ListComp elt [⟨target,iter,ifs,0⟩] scope pos) 0 it acc env).onRaise (fun x=>do VV x env;theTreesLotGoes x)) _ _ s
 refine wpAny_noted ?_
 rw[compTurn_list]
 refine aO (lO (aO (eD (turn n s hI) (fun r s₁ h₁=>?_) fun _ _ h'=>h')))
 cases r with
 |none=>exact bg h₁
 |some v=>
  refine aO (eD h₁ (fun _ s₁' h₁'=>?_) fun _ _ h'=>h')
  refine aO (eD h₁' (fun _ s₂ h₂=>aO (eD h₂ (fun ok s₃ h₃=>?_) fun _ _ h'=>h')) fun _ _ h'=>h')
  cases ok with
  |false=>exact bg ⟨rfl,h₃⟩
  |true=>
   exact aO (aO (eD h₃ (fun x s₄ h₄=>aO (eD h₄ (fun _ s₅ h₅=>bg (bg ⟨rfl,h₅⟩)) fun _ _ h'=>h')) fun _ _ h'=>h'))
section
variable{X:Cx}
def tLc(wi:TI)(g:TG)(tt:TT)(te:TE)(vs:List Nat):TE:=fun σ H Q=>wi σ H fun J H1=>∀D,H1 D=ab->∃W:Nat->Nat->Hp->Prop,(∃m,W 0 m (upd H1 D (.lst [])))/\∀i m H,W i m H->
 (J.stop i H/\Q (.ref D) H)\/(J.go i H/\∃Nx:Hp->Prop,(∀H',Nx H'->∃m',m'<m/\W (i+1) m' H')/\∀x H',J.We i H x H'->g x (wipe σ vs) H' fun σ2 H2=>wipe σ2 vs=wipe σ vs/\tt σ2 H2 fun b H3=>
  if b=ae then te σ2 H3 fun y H4=>∃acc,H4 D=aa (.lst acc)/\acc.length<bz/\Nx (upd H4 D (.lst (acc++[y])))else Nx H3)
theorem Tz{pins:ah}{s:bf}{σ:St}{H:Hp}{Q:VK}{elt tg iter:Expr}{ifs:List Expr}{scope:l3}{own:List (Str×Nat)}{pos pos':Pos}{wi:TI}{g:TG}{tt:TT}{te:TE}{use:Option (aY->Sem Unit)}{Qf:ar}
 (hc:X.calm=ae)(hN:X.N.Nodup)(I:Inv X pins σ H s)(hi:PI X tg iter wi)(ok:Qb X.N X.env.scope scope own)
 (hg:∀(s:bf)(H:Hp)(C:Addr)(cl:ai)(fp:ag),PG (X.Nd s H scope (m8 scope cl C X.env) fp) tg g)(ht:∀(s:bf)(H:Hp)(C:Addr)(cl:ai)(fp:ag),PTs (X.Nd s H scope (m8 scope cl C X.env) fp) ifs tt)
 (he:∀(s:bf)(H:Hp)(C:Addr)(cl:ai)(fp:ag),PE (X.Nd s H scope (m8 scope cl C X.env) fp) elt te)(hs:∀x,wV iter X.env x=pure x)
 (h:tLc wi g tt te (own.map (·.2)) σ H Q)
 (hRR:∀D C s' m H',Inv X pins σ H' s'->Q (.ref D) H'->s'.heap.Ns C m->IH X pins H' C->compPost (bJ X.prog X.w) X.A X.xe use Qf (.ref D) C (.ok .next) s'):
 bL (bJ X.prog X.w) X.A (comprehension (.ListComp elt [⟨tg,iter,ifs,0⟩] scope pos) scope X.env pos' (newList []) af (eval iter X.env) use) Qf X.xe s:=by
 have KN:∀y∈scope.names,y.2=.free->∃c,X.env.cells.lookup y.1=aa c:=fun y hy e=>by
  rcases ok.free y hy e with k|k
  ·exact I.ok.has _ (.inl k)
  exact I.ok.has _ (.inr k)
 refine wpAny_comprehension_free (use:=use) rfl hs (RY KN) ok.kind (fun y hy e=>by rw[ok.uniq y hy,e])
  (ib (hi pins s σ H _ I h) fun xv s1 hx=>ib hx fun itv s2 h2=>?_)
 obtain⟨it,fp,tn,J,H2,e,I2,T,st2,f2,q⟩:=h2
 subst e
 refine j7 (O3 ?_) (by show 0<=bz;decide)
 generalize hD:s2.heap.objs.size=D
 have hDn:H2 D=ab:=I2.gd.fresh (kX hD)
 obtain⟨W,⟨m0,w0⟩,turn⟩:=q D hDn
 generalize hs3:({s2 with heap:=s2.heap.push {cls:=.type "list",data:=.seq ([]:au).toArray}}:bf)=s3
 have I3:Inv X pins σ (upd H2 D (.lst [])) s3:=by
  rw[<-hs3];refine I2.laid (t':=s2.toks) (fun b o e=>a9 _ e) (kX hD) ⟨cB _,[],0,.nil,?_⟩;rw[<-hD];exact bH _ rfl
 have h3:s3.heap=s2.heap.push {cls:=.type "list",data:=.seq ([]:au).toArray}:=by rw[<-hs3]
 have sz:∀b∈fp,b<s2.heap.objs.size:=fun b hb=>by
  obtain⟨o,e,_⟩:=T.obj _ _ st2 b hb;exact bF e
 have f3:∀b∈fp,IH X pins (upd H2 D (.lst [])) b/\b<s3.heap.objs.size:=fun b hb=>by
  have zu:=sz b hb;refine⟨⟨?_,(f2 b hb).2⟩,by rw[h3,dz];exact eP zu⟩;rw[bB (by rw[<-hD];exact cg zu)];exact(f2 b hb).1
 have st3:tn 0 s3.heap:=T.keep _ _ _ st2 fun b _ o e=>by rw[h3];exact a9 _ e
 have I4:=PZ I3 ok hN f3
 have pg:=hg s3 (upd H2 D (.lst [])) s3.heap.objs.size (f6 (s3.heap.objs.size+1) scope.names (iw X.env.cells scope.names [])) fp
 have pt:=ht s3 (upd H2 D (.lst [])) s3.heap.objs.size (f6 (s3.heap.objs.size+1) scope.names (iw X.env.cells scope.names [])) fp
 have pe:=he s3 (upd H2 D (.lst [])) s3.heap.objs.size (f6 (s3.heap.objs.size+1) scope.names (iw X.env.cells scope.names [])) fp
 show jx _ _ (.compStart (.ListComp elt [⟨tg,iter,ifs,0⟩] scope pos) 0 (.ref it) (.ref D) (m8 scope (f6 (s3.heap.objs.size+1) scope.names (iw X.env.cells scope.names [])) s3.heap.objs.size X.env)) (compPost (bJ X.prog X.w) X.A X.xe use Qf (.ref D) s3.heap.objs.size) {s3 with heap:=vc (s3.heap.push {cls:=.type "dict",data:=.dict #[]}) scope.names}
 have nfp:∀b∈fp,(upd H2 D (.lst [])) b=ab:=fun b hb=>(f3 b hb).1.1
 generalize hce:m8 scope (f6 (s3.heap.objs.size+1) scope.names (iw X.env.cells scope.names [])) s3.heap.objs.size X.env=ce at I4 pg pt pe⊢
 have cL:ce.locals=s3.heap.objs.size:=by subst hce;rfl
 generalize Zn:upd H2 D (.lst [])=H3 at I3 I4 pg pt pe w0 nfp f3
 generalize hs4:({s3 with heap:=vc (s3.heap.push {cls:=.type "dict",data:=.dict #[]}) scope.names}:bf)=s4 at I4⊢
 have st4:tn 0 s4.heap:=T.keep _ _ _ st3 fun b _ o e=>by rw[<-hs4];exact Be _ _ _ _ (a9 _ e)
 have QR:∀{σ':St}{H':Hp}{s':bf},Inv (X.Nd s3 H3 scope ce fp) [] σ' H' s'->(∀b∈fp,H' b=ab)->∀b∈fp,IH (X.Nd s3 H3 scope ce fp) [] H' b:=fun{σ' H' s'} I' hn b hb=>
  ⟨hn b hb,(I'.ok.exf b hb).1,I'.ok.My b hb,.inl hb,fun x c e=>(I'.ok.exf b hb).2 x c e,fun p hp=>absurd (show p∈([]:ah)++[]from hp) (by simp)⟩
 have loop:jx (bJ X.prog X.w) X.A (.compLoop (.ListComp elt [⟨tg,iter,ifs,0⟩] scope pos) 0 (.ref it) (.ref D) ce) (compPost (bJ X.prog X.w) X.A X.xe use Qf (.ref D) s3.heap.objs.size) s4:=by
  refine MU (fun n s'=>∃i H',Inv (X.Nd s3 H3 scope ce fp) [] (wipe σ (own.map (·.2))) H' s'/\tn i s'.heap/\(∀b∈fp,H' b=ab)/\W i n H') ?_ m0 ⟨0,H3,I4,st4,nfp,w0⟩;rintro n s5 ⟨i,H5,I5,st5,n5,w5⟩;rcases turn i n H5 w5 with⟨stop,qq⟩|⟨go,Nx,hNx,step⟩
  ·have td:=T.done (X.Nd s3 H3 scope ce fp) rfl rfl rfl hc i [] s5 _ H5 (fun _ _=>False) I5 (QR I5 n5) st5 stop;refine Uy td fun r s6 ⟨hr,I6⟩=>?_;subst hr;have I7:Inv X pins σ H5 s6:=I3.ab3 (ch:=fp) I6.os I6.base I6.gd I6.bare fun b hb=>⟨(f3 b hb).1.2.2.2.1,(f3 b hb).1.2.1,(f3 b hb).1.2.2.2.2.1,(f3 b hb).1.2.2.2.2.2⟩
   have nC:H5 s3.heap.objs.size=ab:=by
    have z:H5 ce.locals=ab:=I6.free;rw[cL]at z;exact z
   obtain⟨m,hn,_⟩:=I6.loc;have hn:s6.heap.Ns ce.locals m:=hn;rw[cL]at hn;exact hRR D s3.heap.objs.size s6 m H5 I7 qq hn (I3.Vl (bu _) nC)
  have ti:=T.item (X.Nd s3 H3 scope ce fp) rfl rfl rfl hc i [] s5 _ H5 (fun _ _=>False) I5 (QR I5 n5) st5 go;refine Uy ti fun r s6 ⟨u,hr,h6⟩=>?_;subst hr;refine Uy h6 fun _ s7 ⟨x,H7,I7,r7,y7,st7,n7⟩=>?_;have I7':=I7.pinned (QR I7 n7) (T.obj _ _ st7);refine Uy (pg _ s7 _ H7 x u _ I7' r7 (step x H7 y7)) fun _ s8 ⟨σ8,H8,I8,hw8,q8⟩=>?_;refine Uy (pt _ s8 σ8 H8 _ I8 q8) fun b s9 ⟨H9,I9,q9⟩=>?_
  have fin:∀{s':bf}{H':Hp},Inv (X.Nd s3 H3 scope ce fp) ([]++Hm fp s7.heap) σ8 H' s'->Nx H'->∃m,m<n/\∃i H',Inv (X.Nd s3 H3 scope ce fp) [] (wipe σ (own.map (·.2))) H' s'/\tn i s'.heap/\(∀b∈fp,H' b=ab)/\W i m H':=fun{s' H'} I' nx=>by
   obtain⟨m',hm,w'⟩:=hNx H' nx
   have afS:∀b∈fp,∀o,s7.heap.get? b=aa o->s'.heap.get? b=aa o/\H' b=ab:=fun b hb o e=>
    let z:=I'.pin (b,o) (dX _ (dX _ (AB hb e)))
    ⟨z.1,z.2.1⟩
   have hl:(wipe σ (own.map (·.2))).length=σ8.length:=by rw[<-hw8,wX]
   refine⟨m',hm,i+1,H',(I'.l7 (pins:=[])).weak hl (fun j v e=>?_),T.keep _ _ _ st7 fun b hb o e=>(afS b hb o e).1,fun b hb=>?_,w'⟩
   ·rw[<-hw8]at e;exact(Dj e).1
   obtain⟨o,e,_⟩:=T.obj _ _ st7 b hb;exact(afS b hb o e).2
  cases b with
  |false=>
   simp only[cC,if_false]at q9⊢;exact fin I9 q9
  |true=>
   simp only[if_true]at q9⊢;refine Uy (pe _ s9 σ8 H9 _ I9 q9) fun z s10 ⟨yv,H10,I10,r10,acc,akg,ajr,nx⟩=>?_;exact aeE (X:=X.Nd s3 H3 scope ce fp) I10 akg ajr r10 fun s11 I11=>fin I11 nx
 exact codeAny_compStart_list loop (T.self X.A 0 _ _ _ st4 loop)
theorem Kx{elt tg iter:Expr}{ifs:List Expr}{scope:l3}{own:List (Str×Nat)}{pos:Pos}{wi:TI}{g:TG}{tt:TT}{te:TE}(hc:X.calm=ae)(hN:X.N.Nodup)(hi:PI X tg iter wi)(ok:Qb X.N X.env.scope scope own)
 (hg:∀(s:bf)(H:Hp)(C:Addr)(cl:ai)(fp:ag),PG (X.Nd s H scope (m8 scope cl C X.env) fp) tg g)(ht:∀(s:bf)(H:Hp)(C:Addr)(cl:ai)(fp:ag),PTs (X.Nd s H scope (m8 scope cl C X.env) fp) ifs tt)
 (he:∀(s:bf)(H:Hp)(C:Addr)(cl:ai)(fp:ag),PE (X.Nd s H scope (m8 scope cl C X.env) fp) elt te)(hs:∀x,wV iter X.env x=pure x:=by intro _;rfl):
 PE X (.ListComp elt [⟨tg,iter,ifs,0⟩] scope pos) (tLc wi g tt te (own.map (·.2))):=by
 intro pins s σ H Q I h
 rw[eval_ListComp]
 refine Tz hc hN I hi ok hg ht he hs h fun D C s' m H' I' q hn f=>⟨m,hn,fun h'' sb=>?_⟩
 obtain⟨f0,f1,f2,f3,f4,f5⟩:=f
 exact⟨.ref D,H',I'.turned (t':=s'.toks) (fun b o hb e=>(sb.2 b hb).trans e) f0 f1 f3 f4 f5,rfl,q⟩
theorem W9{i:Nat}{y:Str}{py:Pos}{elt tg iter:Expr}{ifs:List Expr}{scope:l3}{own:List (Str×Nat)}{pos afA:Pos}{wi:TI}{g:TG}{tt:TT}{te:TE}(hc:X.calm=ae)(hN:X.N.Nodup)(hy:X.N[i]?=aa y)(hyl:X.env.scope.names.lookup y=aa .local)
 (hsw:pR (.ListComp elt [⟨tg,iter,ifs,0⟩] scope pos) (aa (.Name y py)) afA.line X.env=pure ae)(hi:PI X tg iter wi)(ok:Qb X.N X.env.scope scope own)
 (hg:∀(s:bf)(H:Hp)(C:Addr)(cl:ai)(fp:ag),PG (X.Nd s H scope (m8 scope cl C X.env) fp) tg g)(ht:∀(s:bf)(H:Hp)(C:Addr)(cl:ai)(fp:ag),PTs (X.Nd s H scope (m8 scope cl C X.env) fp) ifs tt)
 (he:∀(s:bf)(H:Hp)(C:Addr)(cl:ai)(fp:ag),PE (X.Nd s H scope (m8 scope cl C X.env) fp) elt te)(hs:∀x,wV iter X.env x=pure x:=by intro _;rfl):
 PS X (.Assign [.Name y py] (.ListComp elt [⟨tg,iter,ifs,0⟩] scope pos) afA) (ZP (tLc wi g tt te (own.map (·.2))) (zY i)):=by
 intro pins s σ H D I h
 rw[exec_Assign_Name_used _ _ _ _ hsw]
 refine aO (lO (aO ?_))
 show bL _ X.A (do let _<-comprehension (.ListComp elt [⟨tg,iter,ifs,0⟩] scope pos) scope X.env (firstIterPos [⟨tg,iter,ifs,0⟩] pos) (newList []) af (eval iter X.env) (aa (Sv (.Name y py) X.env))) _ _ s
 have h:tLc wi g tt te (own.map (·.2)) σ H (fun x H1=>zY i x σ H1 D.nx):=h
 refine aO (ib (Tz (Qf:=fun _ s'=>SP X pins D .next s') hc hN I hi ok hg ht he hs h fun L C s' m H' I' q hn f=>?_) fun _ s' hq=>bg (bg hq))
 show bL _ _ (Sv (.Name y py) X.env (.ref L)) _ _ _
 refine wpAny_assign_Name (Ki (v:=V.ref L) I' hN hy (.inl hyl) rfl (fun s2 I2 ⟨a,sb,ha⟩=>?_) (.inr hyl))
 obtain⟨f0,f1,f2,f3,f4,f5⟩:=f
 have haC:C≠a:=by
  rcases ha with z|z
  ·rw[z];exact f1
  exact fun e=>f4 y a z e.symm
 refine⟨m,hn.sameBut sb haC,fun h3 sb3=>?_⟩
 exact⟨_,H',I2.turned (t':=s2.toks) (fun b o hb e=>(sb3.2 b hb).trans e) f0 f1 f3 f4 f5,q⟩
theorem ZQ{elt:Expr}{gs:List Comprehension}{scope:l3}{pos py:Pos}{y:Str}{l:Nat}{env:Env}(hk:env.scope.kind=.function)(hy:env.scope.names.lookup y=aa .local)(hl:(py.line==pos.line)=ae)
 (ha:(scope.names.any fun(n,k)=>n==y&&(k== .local||k== .cell))=af):pR (.ListComp elt gs scope pos) (aa (.Name y py)) l env=pure ae:=by
 have ky:env.kindOf y=aa .local:=hy
 have hb:env.blockKind=.function:=by unfold Env.blockKind;rw[hk];rfl
 unfold pR
 simp only[hb,ky,ha,Expr.pos,hl]
 rfl
end
theorem BV{K:aX}{a:Addr}{xs:ao}{g:TG}{tt:TT}{te:TE}{vs:List Nat}{σ:St}{H1:Hp}{D:Addr}{Qd:Hp->Prop}(Pv:Nat->Hp->Prop)(h0:Pv 0 (upd H1 D (.lst [])))(hl:∀i H,i<=xs.length->Pv i H->du K H a xs)
 (hs:∀i x H,xs[i]?=aa x->Pv i H->g x (wipe σ vs) H fun σ2 H2=>wipe σ2 vs=wipe σ vs/\tt σ2 H2 fun b H3=>
  if b=ae then te σ2 H3 fun y H4=>∃acc,H4 D=aa (.lst acc)/\acc.length<bz/\Pv (i+1) (upd H4 D (.lst (acc++[y])))else Pv (i+1) H3)(hd:∀H,Pv xs.length H->Qd H):
 ∃W:Nat->Nat->Hp->Prop,(∃m,W 0 m (upd H1 D (.lst [])))/\∀i m H,W i m H->
  ((Itl K a).stop i H/\Qd H)\/((Itl K a).go i H/\∃Nx:Hp->Prop,(∀H',Nx H'->∃m',m'<m/\W (i+1) m' H')/\∀x H',(Itl K a).We i H x H'->g x (wipe σ vs) H' fun σ2 H2=>wipe σ2 vs=wipe σ vs/\tt σ2 H2 fun b H3=>
   if b=ae then te σ2 H3 fun y H4=>∃acc,H4 D=aa (.lst acc)/\acc.length<bz/\Nx (upd H4 D (.lst (acc++[y])))else Nx H3):=by
 refine⟨fun i m H=>m=xs.length-i/\i<=xs.length/\Pv i H,⟨xs.length,by simp,cB _,h0⟩,?_⟩
 rintro i m H ⟨rfl,hi,p⟩
 have q:=hl i H hi p
 by_cases zu:i<xs.length
 ·refine .inr ⟨⟨xs,xs[i],q,by simp[zu]⟩,Pv (i+1),fun H' p'=>⟨xs.length-(i+1),by omega,rfl,zu,p'⟩,fun x H' y=>?_⟩
  obtain⟨e,y⟩:=y
  subst e
  exact hs i x _ (y xs q) p
 have e:i=xs.length:=by omega
 subst e
 exact .inl ⟨⟨xs,q,bu _⟩,hd H p⟩
def ahd(N:ak)(sc scope:l3)(own:List (Str×Nat)):Bool:=
 (match scope.kind with|.function=>ae|_=>af)&&(scope.names.all fun y=>decide (scope.names.lookup y.1=aa y.2))&&(own.all fun p=>decide (N[p.2]?=aa p.1))&&
  (scope.names.all fun y=>match y.2 with
   |.free=>(match sc.names.lookup y.1 with|some .cell=>ae|some .free=>ae|_=>af)
   |.local=>decide (y.1∈own.map (·.1))||decide (y.1∉N)
   |.cell=>decide (y.1∈own.map (·.1))||decide (y.1∉N)
   |_=>ae)
theorem rX{N:ak}{sc scope:l3}{own:List (Str×Nat)}(h:ahd N sc scope own=ae):Qb N sc scope own:=by
 unfold ahd at h;simp only[cK,cV,decide_eq_true_eq]at h;obtain⟨⟨⟨h1,h2⟩,h3⟩,h4⟩:=h;refine⟨?_,h2,h3,fun y hy e=>?_,fun y hy e=>?_⟩
 ·split at h1
  ·assumption
  cases h1
 ·have q:=h4 y hy;simp only[e]at q;split at q<;>first|exact .inl (by assumption)|exact .inr (by assumption)|cases q
 have q:=h4 y hy;rcases e with e|e<;>(simp only[e,yA,decide_eq_true_eq]at q;exact q)
section
variable{prog:b7}{w:cU}{A:cX}{R:Ew->bf->Prop}{s:bf}{elt t0 i0 t1 i1:Expr}{anN anM:List Expr}{scope:l3}{pos:Pos}{it acc:aY}{env:Env}
end
section
variable{X:Cx}
end
section
variable{κ:Type}[DecidableEq κ]
def l6(ef:List (κ×V))(k:κ):Option V:=(ef.find? fun kv=>decide (kv.1=k)).map (·.2)
def putK(ef:List (κ×V))(k:κ)(v:V):List (κ×V):=
 if(ef.any fun kv=>decide (kv.1=k))=ae then ef.map (fun kv=>if kv.1=k then(kv.1,v)else kv)else ef++[(k,v)]
theorem kD{p:κ×V}{r:List (κ×V)}{k:κ}(e:p.1=k):l6 (p::r) k=aa p.2:=by simp[l6,nP,e]
theorem kE{p:κ×V}{r:List (κ×V)}{k:κ}(e:¬p.1=k):l6 (p::r) k=l6 r k:=by simp[l6,nP,e]
theorem Bn(k:κ):∀ef:List (κ×V),(ef.any fun kv=>decide (kv.1=k))=(l6 ef k).isSome
 |[]=>rfl
 |p::r=>by
  rw[vf];by_cases e:p.1=k
  ·simp only[kD e,qi e,Bool.true_or,Ui]
  rw[kE e,gX e,NY];exact Bn k r
theorem N7(k j:κ)(y:V):∀ef:List (κ×V),l6 (ef.map fun kv=>if kv.1=k then(kv.1,y)else kv) j=(l6 ef j).map fun x=>if j=k then y else x
 |[]=>rfl
 |p::r=>by
  have ih:=N7 k j y r;rw[dC];by_cases h:p.1=k
  ·rw[c8 h];by_cases e:p.1=j
   ·rw[kD (p:=(p.1,y)) e,kD e,jF,c8 (e.symm.trans h)]
   rw[kE (p:=(p.1,y)) e,kE e,ih]
  rw[cP h];by_cases e:p.1=j
  ·rw[kD (p:=p) e,kD e,jF,cP (fun z=>h (e.trans z))]
  rw[kE (p:=p) e,kE e,ih]
theorem Kb(k j:κ)(y:V):∀ef:List (κ×V),l6 ef k=ab->l6 (ef++[(k,y)]) j=if j=k then aa y else l6 ef j
 |[],_=>by
  by_cases e:k=j
  ·rw[c8 e.symm];exact kD (p:=(k,y)) e
  rw[cP (fun z=>e z.symm)];exact kE (p:=(k,y)) e
 |p::r,hn=>by
  rw[wI];have hk:¬p.1=k:=fun z=>by rw[kD z]at hn;cases hn
  rw[kE hk]at hn;have ih:=Kb k j y r hn;by_cases e:p.1=j
  ·rw[kD e,kD e,cP (fun z=>hk (e.trans z))]
  rw[kE e,kE e,ih]
theorem N6(ef:List (κ×V))(k j:κ)(y:V):l6 (putK ef k y) j=if j=k then aa y else l6 ef j:=by
 unfold putK;by_cases a:(ef.any fun kv=>decide (kv.1=k))=ae
 ·rw[c8 a,N7];rw[Bn]at a;by_cases e:j=k
  ·obtain⟨x,hx⟩:=mH.mp a;rw[c8 e,e,hx,jF,c8 rfl]
  rw[cP e];cases l6 ef j with
  |none=>rfl
  |some x=>rw[jF,cP e]
 rw[cP a];refine Kb k j y ef ?_;rw[Bn]at a;cases q:l6 ef k with
 |none=>rfl
 |some x=>rw[q]at a;exact(a rfl).elim
theorem xY(ef:List (κ×V))(k:κ)(v:V):(putK ef k v).length<=ef.length+1:=by
 unfold putK;split
 ·rw[aV];omega
 rw[bQ,cJ,List.length_nil];omega
theorem qV.uP{o:Option V}{u:Option aY}(r:qV o u):o.isSome=u.isSome:=by
 cases o with
 |none=>cases u with
  |none=>rfl
  |some _=>exact(show False from r).elim
 |some _=>cases u with
  |none=>exact(show False from r).elim
  |some _=>rfl
theorem KV.val{ef:List (κ×V)}{vs:List (κ×aY)}(r:KV ef vs)(k:κ):qV (l6 ef k) (J0 vs k):=by
 unfold KV at r;induction r with
 |nil=>exact ju
 | @cons p q ps qs h t ih=>
  obtain⟨h1,h2⟩:=h;by_cases e:p.1=k
  ·have e':q.1=k:=h1.symm.trans e;have b:J0 (q::qs) k=aa q.2:=by simp[J0,nP,e']
   rw[kD e,b];exact h2
  have e':¬q.1=k:=fun z=>e (h1.trans z);have b:J0 (q::qs) k=J0 qs k:=by simp[J0,nP,e']
  rw[kE e,b];exact ih
theorem KV.any{ef:List (κ×V)}{vs:List (κ×aY)}(r:KV ef vs)(k:κ):(ef.any fun kv=>decide (kv.1=k))=vs.any fun kv=>decide (kv.1=k):=by
 unfold KV at r;induction r with
 |nil=>rfl
 |cons h t ih=>rw[vf,vf,ih,h.1]
theorem KV.ac4{ef:List (κ×V)}{vs:List (κ×aY)}(r:KV ef vs)(k:κ){y:V}{u:aY}(ry:RelV y u):
 KV (ef.map fun kv=>if kv.1=k then(kv.1,y)else kv) (vs.map fun kv=>if kv.1=k then(kv.1,u)else kv):=by
 unfold KV at r⊢
 induction r with
 |nil=>exact .nil
 | @cons p q ps qs h t ih=>
  rw[dC,dC]
  refine .cons ?_ ih
  obtain⟨h1,h2⟩:=h
  by_cases e:p.1=k
  ·rw[c8 e,c8 (h1.symm.trans e)];exact⟨h1,ry⟩
  rw[cP e,cP (fun z=>e (h1.trans z))];exact⟨h1,h2⟩
theorem KV.put{ef:List (κ×V)}{vs:List (κ×aY)}(r:KV ef vs)(k:κ){y:V}{u:aY}(ry:RelV y u):KV (putK ef k y) (stored vs k u):=by
 unfold putK stored;rw[r.any k];by_cases e:(vs.any fun kv=>decide (kv.1=k))=ae
 ·rw[c8 e,c8 e];exact r.ac4 k ry
 rw[cP e,cP e];exact Paired.snoc r ⟨rfl,ry⟩
theorem KV.length{ef:List (κ×V)}{vs:List (κ×aY)}(r:KV ef vs):ef.length=vs.length:=dM r
end
theorem HW{P:b7}{w:cU}{k:Key}{u:aY}(r:RelV (kV k) u):(kY P w).is k u=ae:=by
 cases k with
 |inl i=>obtain⟨t,e⟩:=(show∃t,u=lZ i t from r);subst e;exact O7 P w i t
 |inr x=>obtain⟨t,e⟩:=(show∃t,u=Ag x t from r);subst e;exact O6 P w x t
theorem KI{P:b7}{w:cU}:∀{ks:List Key}{us:au},Vals (ks.map kV) us->ItemsAre (kY P w) ks us
 |[],_,r=>by rw[E4]at r;cases r;exact .nil
 |k::ks,_,r=>by
  rw[dC]at r;cases r with
  |cons h t=>exact .cons (HW h) (KI t)
abbrev KT(H:Hp):List (List Key×V)->List (List Key×Addr×aY)->Prop:=fJ fun p q=>p.1=q.1/\H q.2.1=aa (.tup (p.1.map kV))/\RelV p.2 q.2.2
theorem KT.val{H:Hp}{ef:List (List Key×V)}{xs:List (List Key×Addr×aY)}(r:KT H ef xs)(k:List Key):qV (l6 ef k) ((Su xs k).map (·.2)):=by
 induction r with
 |nil=>exact ju
 | @cons p q ps qs h t ih=>
  obtain⟨h1,_,h2⟩:=h;by_cases e:p.1=k
  ·have e':q.1=k:=h1.symm.trans e;have b:Su (q::qs) k=aa q.2:=by simp[Su,nP,e']
   rw[kD e,b];exact h2
  have e':¬q.1=k:=fun z=>e (h1.trans z);have b:Su (q::qs) k=Su qs k:=by simp[Su,nP,e']
  rw[kE e,b];exact ih
theorem KT.ac4{H:Hp}{ef:List (List Key×V)}{xs:List (List Key×Addr×aY)}(r:KT H ef xs)(k:List Key){y:V}{u:aY}(ry:RelV y u):
 KT H (ef.map fun kv=>if kv.1=k then(kv.1,y)else kv) (xs.map (putAt k u)):=by
 induction r with
 |nil=>exact .nil
 | @cons p q ps qs h t ih=>
  rw[dC,dC]
  refine .cons ?_ ih
  obtain⟨h1,h2,h3⟩:=h
  unfold putAt
  by_cases e:p.1=k
  ·rw[c8 e,c8 (h1.symm.trans e)];exact⟨h1,h2,ry⟩
  rw[cP e,cP (fun z=>e (h1.trans z))];exact⟨h1,h2,h3⟩
theorem KT.put{H:Hp}{ef:List (List Key×V)}{xs:List (List Key×Addr×aY)}(r:KT H ef xs)(k:List Key){b:Addr}{y:V}{u:aY}(hb:H b=aa (.tup (k.map kV)))(ry:RelV y u):
 KT H (putK ef k y) (storedH xs k b u):=by
 have e:(ef.any fun kv=>decide (kv.1=k))=(Su xs k).isSome:=by
  rw[Bn,(r.val k).uP,Df]
 unfold putK storedH
 rw[e]
 by_cases q:(Su xs k).isSome=ae
 ·rw[c8 q,c8 q];exact r.ac4 k ry
 rw[cP q,cP q];exact Paired.snoc r ⟨rfl,hb,ry⟩
theorem KT.keeps{H H':Hp}{ef:List (List Key×V)}{xs:List (List Key×Addr×aY)}(r:KT H ef xs)(ht:∀b ys,H b=aa (.tup ys)->H' b=aa (.tup ys)):KT H' ef xs:=
 Paired.sC r fun _ _ z=>⟨z.1,ht _ _ z.2.1,z.2.2⟩
section
variable{P:b7}{w:cU}{H:Hp}{h:Heap}{a:Addr}
theorem abJ{u:HO}(ok:yo P w H h)(e:Rd H a u):ja P w H h a u:=e.ok ok
theorem Pz{ef:List (Key×V)}(ok:yo P w H h)(e:Rd H a (.dK ef)):ef.length<=bz/\(a==jJ)=af/\∃vs,KV ef vs/\h.DictOf (kY P w) a vs:=
 show ja P w H h a (.dK ef)from abJ ok e
theorem ag6{ef:List (Key×V)}(ok:yo P w H h)(e:H a=aa (.dK ef)):ef.length<=bz/\(a==jJ)=af/\∃vs,KV ef vs/\h.DictOf (kY P w) a vs:=Pz ok (.inl e)
theorem HU{ks:List Key}(ok:yo P w H h)(e:H a=aa (.tup (ks.map kV))):(Nu (kY P w)).is h ks a:=by
 obtain⟨_,its,r,o,h1,h2,n,h3⟩:=(show ja P w H h a (.tup (ks.map kV))from ok a _ e);exact⟨o,its.toArray,n,h1,h2,h3,by simpa using KI r⟩
theorem Py{ef:List (List Key×V)}(ok:yo P w H h)(e:Rd H a (.dT ef)):ef.length<=bz/\(a==jJ)=af/\
 ∃xs,KT H ef xs/\h.DictOfH (Nu (kY P w)) a xs:=by
 obtain⟨z,y,xs,r,o,es,ep,h1,h2,h3,h4,h5⟩:=(show ja P w H h a (.dT ef)from abJ ok e)
 refine⟨z,y,xs,r,o,es,ep,h1,h2,h3,h4,fun x hx=>?_,h5⟩
 have all:∀{l:List (List Key×V)}{m:List (List Key×Addr×aY)},KT H l m->∀x∈m,(Nu (kY P w)).is h x.1 x.2.1:=by
  intro l m q;induction q with
  |nil=>intro x hx;exact nomatch hx
  | @cons p q ps qs hq t ih=>
   intro x hx;rcases bP.mp hx with e|hx
   ·subst e;exact HU ok (by rw[<-hq.1];exact hq.2.1)
   exact ih x hx
 exact all r x hx
theorem ag5{ef:List (List Key×V)}(ok:yo P w H h)(e:H a=aa (.dT ef)):ef.length<=bz/\(a==jJ)=af/\
 ∃xs,KT H ef xs/\h.DictOfH (Nu (kY P w)) a xs:=Py ok (.inl e)
end
def zB(H:Hp)(a:Addr)(y:V)(r:Option V):Prop:=
 (∃ef k,Rd H a (.dK ef)/\y=kV k/\r=l6 ef k)\/∃ef k b,Rd H a (.dT ef)/\y=.ref b/\H b=aa (.tup (k.map kV))/\r=l6 ef k
def Si(H:Hp)(a:Addr)(y v:V)(H':Hp):Prop:=
 (∃ef k,H a=aa (.dK ef)/\y=kV k/\ef.length<bz/\H'=upd H a (.dK (putK ef k v)))\/
 ∃ef k b,H a=aa (.dT ef)/\y=.ref b/\H b=aa (.tup (k.map kV))/\ef.length<bz/\H'=upd H a (.dT (putK ef k v))
theorem zB.k{H:Hp}{a:Addr}{ef:List (Key×V)}{k:Key}(e:H a=aa (.dK ef)):zB H a (kV k) (l6 ef k):=.inl ⟨ef,k,.inl e,rfl,rfl⟩
theorem Si.k{H:Hp}{a:Addr}{ef:List (Key×V)}{k:Key}{v:V}(e:H a=aa (.dK ef))(hl:ef.length<bz):Si H a (kV k) v (upd H a (.dK (putK ef k v))):=.inl ⟨ef,k,e,rfl,hl,rfl⟩
section
variable{X:Cx}{pins:ah}{σ:St}{H:Hp}{s:bf}{a:Addr}{y v:V}{u r:aY}{o:Option V}{A:cX}{E:ar}
theorem Inv.big(I:Inv X pins σ H s):jJ<s.heap.objs.size:=by
 have h:cW<s.heap.objs.size:=(I.mod.glob.keeps I.bk).lt;exact mf (by decide) h
theorem Vy{Q:ar}(hu:A.units+1<J2)(I:Inv X pins σ H s)(g:zB H a y (aa v))(ry:RelV y u)(h:∀w' s',Inv X pins σ H s'->RelV v w'->Q w' s'):
 bL (bJ X.prog X.w) A (Qp (.ref a) u) Q E s:=by
 rcases g with⟨ef,k,e,ey,l⟩|⟨ef,k,b,e,ey,eb,l⟩
 ·subst ey
  obtain⟨z,hd,vs,rel,dd⟩:=Pz I.gd e
  obtain⟨w',hw,Z1⟩:=qV.some_of (v:=v) (o:=J0 vs k) (by rw[l];exact rel.val k)
  exact wpAny_getItem_of (HW ry) dd.mapOf hw (h w' _ (I.tok _) Z1)
 subst ey
 cases(show u=cp b from ry)
 obtain⟨z,hd,xs,rel,dd⟩:=Py I.gd e
 obtain⟨w',hw,Z1⟩:=qV.some_of (v:=v) (o:=(Su xs k).map (·.2)) (by rw[l];exact rel.val k)
 obtain⟨p,hp,hp2⟩:=Option.map_eq_some_iff.mp hw
 refine wpAny_getItem_heap (wa hu) (HU I.gd eb) dd hp ?_
 rw[hp2]
 exact h w' _ (I.tok _) Z1
theorem aks{Q:ar}(hu:A.units+1<J2)(I:Inv X pins σ H s)(g:zB H a y o)(ry:RelV y u)(h:∀s',Inv X pins σ H s'->Q (.bool o.isSome) s'):
 bL (bJ X.prog X.w) A (i9 .In u (.ref a)) Q E s:=by
 rcases g with⟨ef,k,e,ey,l⟩|⟨ef,k,b,e,ey,eb,l⟩
 ·subst ey
  obtain⟨z,hd,vs,rel,dd⟩:=Pz I.gd e
  refine wpAny_in_of (HW ry) hd dd.mapOf ?_
  rw[<-(rel.val k).uP,<-l]
  exact h _ (I.tok _)
 subst ey
 cases(show u=cp b from ry)
 obtain⟨z,hd,xs,rel,dd⟩:=Py I.gd e
 refine wpAny_in_heap (wa hu) (HU I.gd eb) hd dd ?_
 have q:=(rel.val k).uP
 rw[Df]at q
 rw[<-q,<-l]
 exact h _ (I.tok _)
theorem aaO{Q:ar}(hu:A.units+1<J2)(I:Inv X pins σ H s)(g:zB H a y o)(ry:RelV y u)(h:∀s',Inv X pins σ H s'->Q (.bool (!o.isSome)) s'):
 bL (bJ X.prog X.w) A (i9 .NotIn u (.ref a)) Q E s:=by
 rcases g with⟨ef,k,e,ey,l⟩|⟨ef,k,b,e,ey,eb,l⟩
 ·subst ey
  obtain⟨z,hd,vs,rel,dd⟩:=Pz I.gd e
  refine wpAny_notIn_of (HW ry) hd dd.mapOf ?_
  rw[<-(rel.val k).uP,<-l]
  exact h _ (I.tok _)
 subst ey
 cases(show u=cp b from ry)
 obtain⟨z,hd,xs,rel,dd⟩:=Py I.gd e
 refine wpAny_notIn_heap (wa hu) (HU I.gd eb) hd dd ?_
 have q:=(rel.val k).uP
 rw[Df]at q
 rw[<-q,<-l]
 exact h _ (I.tok _)
theorem T7{h':Heap}{t':Nat}{ob:HO}(I:Inv X pins σ H s)(mu:Mut (H a))(hs:kN a s.heap h')(he:∃q,h'.get? a=aa q)(new:ja X.prog X.w (upd H a ob) h' a ob):
 Inv X pins σ (upd H a ob) {s with heap:=h',toks:=t'}:=
 I.write (x:=a) (e:=a) mu (.inl rfl) (fun b q hb z=>(hs.2 b hb).trans z) he new
theorem aev{P:b7}{w:cU}{H':Hp}{h':Heap}{ef:List (Key×V)}{vs:List (Key×aY)}(z:ef.length<=bz)(hd:(a==jJ)=af)(rel:KV ef vs)(dd:h'.DictOf (kY P w) a vs):
 ja P w H' h' a (.dK ef):=⟨z,hd,vs,rel,dd⟩
theorem Vv{H':Hp}{Q:Unit->bf->Prop}(hu:A.units+1<J2)(I:Inv X pins σ H s)(g:Si H a y v H')(ry:RelV y u)(rv:RelV v r)(h:∀s',Inv X pins σ H' s'->Q () s'):
 bL (bJ X.prog X.w) A (setItem (.ref a) u r) Q E s:=by
 rcases g with⟨ef,k,e,ey,l,eH⟩|⟨ef,k,b,e,ey,eb,l,eH⟩
 ·subst ey eH
  obtain⟨z,hd,vs,rel,dd⟩:=ag6 I.gd e
  have hz:vs.length<=bz:=by rw[<-rel.length];exact z
  have hl:(putK ef k v).length<=bz:=by have:=xY ef k v;omega
  refine wpAny_setItem_pairs (hsz:=hz) (HW ry) dd fun h' dd' hs=>h _ ?_
  have he:∃q,h'.get? a=aa q:=let⟨q,_,_,hq,_⟩:=dd';⟨q,hq⟩
  exact T7 I (by rw[e];exact ju) hs he (aev hl hd (rel.put k rv) dd')
 subst ey eH
 cases(show u=cp b from ry)
 obtain⟨z,hd,xs,rel,dd⟩:=ag5 I.gd e
 have hz:xs.length<=bz:=by rw[<-dM rel];exact z
 have hl:(putK ef k v).length<=bz:=by have:=xY ef k v;omega
 refine wpAny_setItem_heap (hsz:=hz) (wa hu) (HU I.gd eb) dd fun h' dd' hs=>h _ ?_
 obtain⟨q,es,ep,hq,h2,h3,h4,_,h5⟩:=dd'
 refine T7 I (by rw[e];exact ju) hs ⟨q,hq⟩ ⟨hl,hd,_,(rel.put k eb rv).keeps fun c ys ec=>?_,q,es,ep,hq,h2,h3,h4,h5⟩
 rw[bB (lB ec e (fun z=>nomatch z))]
 exact ec
end
section
variable{X:Cx}{pins:ah}{σ:St}{H:Hp}{s:bf}{a:Addr}{ef:List (Key×V)}{k:Key}{u:aY}{A:cX}{E:ar}
end
def aeL(i:Expr):Prop:=∀ov iv,NP i af ov iv=operate [ov,iv] (Qp ov iv)
theorem SU{prog:b7}{w:cU}{A:cX}{E:ar}{s:bf}{env:Env}{value slice:Expr}{pos:Pos}{T id:String}{Q:ar}
 (hl:AV (.type T) "__getitem__"=pure (aa (.builtin id)))(hs:aeL slice)
 (h:bL (bJ prog w) A (eval value env) (fun o s₁=>bL (bJ prog w) A (eval slice env) (fun i s₂=>s₂.TypeIs o T/\bL (bJ prog w) A (Qp o i) Q E s₂) E s₁) E s):
 bL (bJ prog w) A (eval (.Subscript value slice pos) env) Q E s:=by
 refine AZ (eD h (fun o s₁ h₁=>eD h₁ (fun i s₂ h₂=>?_) fun _ _ x=>x) fun _ _ x=>x)
 obtain⟨hT,h₂⟩:=h₂
 unfold VN
 refine aO ?_
 rw[getitemInPython_of_ne hT.not_modules]
 refine aO (Bb hT hl ?_)
 have fin:bL (bJ prog w) A (NP slice af o i) (fun r s₃=>bL (bJ prog w) A (letTemporaryGo value o r>>=fun _=>pure r) Q E s₃) E s₂:=by
  rw[hs o i];exact wpAny_operating (eD h₂ (fun r s₃ h₃=>aO (wpAny_letTemporaryGo (bg h₃))) fun _ _ x=>x)
 first
  |exact bg (aO fin)
  |exact aO (bg (aO fin))
  |exact aO fin
theorem PB{X:Cx}{pins:ah}{σ:St}{H:Hp}{s:bf}{a:Addr}{y:V}{o:Option V}(I:Inv X pins σ H s)(g:zB H a y o):s.TypeIs (.ref a) "dict":=by
 rcases g with⟨ef,k,e,_,_⟩|⟨ef,k,b,e,_,_,_⟩
 ·obtain⟨_,_,vs,_,dd⟩:=Pz I.gd e;exact dd.typeIs
 obtain⟨_,_,xs,_,dd⟩:=Py I.gd e;exact dd.typeIs
inductive acR(Q:VK)(x:V)(y:V)(H2:Hp):Prop
 |mk (a:_) (v:_) (_:x=.ref a) (_:zB H2 a y (aa v)) (_:Q v H2)
def afy(td ty:TE):TE:=fun σ H Q=>td σ H fun x H1=>ty σ H1 fun y H2=>acR Q x y H2
inductive afx(Q:VK)(y:V)(x:V)(H2:Hp):Prop
 |mk (a:_) (o:_) (_:x=.ref a) (_:zB H2 a y o) (_:Q (.bl o.isSome) H2)
def aiw(ty td:TE):TE:=fun σ H Q=>ty σ H fun y H1=>td σ H1 fun x H2=>afx Q y x H2
inductive Wo(Q:VK)(y:V)(x:V)(H2:Hp):Prop
 |mk (a:_) (o:_) (_:x=.ref a) (_:zB H2 a y o) (_:Q (.bl (!o.isSome)) H2)
def ZN(ty td:TE):TE:=fun σ H Q=>ty σ H fun y H1=>td σ H1 fun x H2=>Wo Q y x H2
inductive ac3(D:L2.Ends)(σ:L2.St)(v:V)(x:V)(y:V)(H3:Hp):Prop
 |mk (a:_) (H4:_) (_:x=.ref a) (_:Si H3 a y v H4) (_:D.nx σ H4)
def afI(td ty tv:TE):TS:=fun D σ H=>tv σ H fun v H1=>td σ H1 fun x H2=>ty σ H2 fun y H3=>ac3 D σ v x y H3
section
variable{X:Cx}{o i e value:Expr}{pos pos' Li:Pos}{td ty tv:TE}
theorem To(hu:X.A.units+1<J2)(ho:PE X o td)(hi:PE X i ty)(hs:aeL i):PE X (.Subscript o i pos) (afy td ty):=by
 intro pins s σ H Q I h;refine SU Jc.lookup hs (ib (ho pins s σ H _ I h) fun u s1 ⟨x,H1,I1,rx,q1⟩=>ib (hi pins s1 σ H1 _ I1 q1) fun iv s2 ⟨y,H2,I2,ry,a,v,ex,g,q2⟩=>?_);subst ex;obtain rfl:u=cp a:=rx;exact⟨PB I2 g,Vy hu I2 g ry fun w' s3 I3 Z1=>⟨v,H2,I3,Z1,q2⟩⟩
theorem adl(hu:X.A.units+1<J2)(hi:PE X i ty)(ho:PE X o td):PC X .In i o (aiw ty td):=by
 intro pins s σ H Q I h;refine ib (hi pins s σ H _ I h) fun iv s1 ⟨y,H1,I1,ry,q1⟩=>ib (ho pins s1 σ H1 _ I1 q1) fun u s2 ⟨x,H2,I2,rx,a,ov,ex,g,q2⟩=>?_;subst ex;obtain rfl:u=cp a:=rx;exact aks hu I2 g ry fun s3 I3=>⟨.bl ov.isSome,H2,I3,rfl,q2⟩
theorem DJ(hu:X.A.units+1<J2)(hi:PE X i ty)(ho:PE X o td):PC X .NotIn i o (ZN ty td):=by
 intro pins s σ H Q I h;refine ib (hi pins s σ H _ I h) fun iv s1 ⟨y,H1,I1,ry,q1⟩=>ib (ho pins s1 σ H1 _ I1 q1) fun u s2 ⟨x,H2,I2,rx,a,ov,ex,g,q2⟩=>?_;subst ex;obtain rfl:u=cp a:=rx;exact aaO hu I2 g ry fun s3 I3=>⟨.bl (!ov.isSome),H2,I3,rfl,q2⟩
theorem LK(hu:X.A.units+1<J2)(ho:PE X o td)(hi:PE X i ty)(hv:PE X value tv)(hs:pR value (aa (.Subscript o i pos')) pos.line X.env=pure af):
 PS X (.Assign [.Subscript o i pos'] value pos) (afI td ty tv):=by
 intro pins s σ H D I h
 refine wpAny_Assign_Subscript (ib (hv pins s σ H _ I h) fun r s1 ⟨v,H1,I1,rv,q1⟩=>ib (ho pins s1 σ H1 _ I1 q1) fun u s2 ⟨x,H2,I2,rx,q2⟩=>ib (hi pins s2 σ H2 _ I2 q2) fun iv s3 ⟨y,H3,I3,ry,a,H4,ex,g,q3⟩=>?_) hs
 subst ex
 obtain rfl:u=cp a:=rx
 exact Vv hu I3 g ry rv fun s4 I4=>⟨σ,H4,I4,q3⟩
end
theorem Yt{P:b7}{w:cU}{H:Hp}(h:Heap)(hb:jJ<h.objs.size):ja P w H (h.push {cls:=.type "dict",data:=.dict #[]}) h.objs.size (.dK []):=
 ⟨cB _,beq_eq_false_iff_ne.mpr (de (cg hb)),[],.nil,Heap.DictOf.new h⟩
def acQ:TE:=fun _ H Q=>∀p,H p=ab->Q (.ref p) (upd H p (.dK []))
section
variable{X:Cx}{pos:Pos}
theorem BD:PE X (.Dict [] [] pos) acQ:=fun pins s σ H Q I h=>
 wpAny_Dict_empty ⟨.ref s.heap.objs.size,_,I.laid (a:=s.heap.objs.size) (o:=.dK []) (t':=s.toks) (fun _ _ q=>a9 _ q) (bu _) (Yt s.heap I.big),rfl,h _ (I.gd.fresh (bu _))⟩
end
section
variable{X:Cx}{pins:ah}{σ:St}{H:Hp}{s:bf}{a:Addr}{y d:V}{u r:aY}{o:Option V}{A:cX}{E:ar}
end
section
variable{X:Cx}{o e f:Expr}{apos MT:Pos}{td ty tx:TE}
end
section
variable{X:Cx}{pins:ah}{σ:St}{H:Hp}{s:bf}{a:Addr}{ef:List (Key×V)}{A:cX}{E:ar}
end
section
variable{X:Cx}{pins:ah}{σ:St}{H:Hp}{s:bf}{a:Addr}{y:V}{u:aY}{A:cX}{E:ar}
end
section
variable{prog:b7}{w:cU}{A:cX}{E:ar}
end
section
variable{X:Cx}
end
section
variable{X:Cx}{pins:ah}{σ:St}{H:Hp}{s:bf}{h':Heap}
theorem Inv.Kc{t':Nat}{ch:ag}{T:Addr}{ob:HO}(I:Inv X pins σ H s)(k:∀b o,b∉ch->s.heap.get? b=aa o->h'.get? b=aa o)(hf:∀b∈ch,IH X pins H b)(hT:s.heap.objs.size<=T)
 (new:ja X.prog X.w (upd H T ob) h' T ob):Inv X pins σ (upd H T ob) {s with heap:=h',toks:=t'}:=by
 have hn:H T=ab:=I.gd.fresh hT
 have nit:∀b u,H b=aa u->b∉ch:=fun b u e z=>by
  have q:=(hf b z).1;rw[q]at e;cases e
 refine I.step (g':=s.gens) (d':=s.drawn) (ch:=ch) (fun b hb=>⟨(hf b hb).2.2.2.1,(hf b hb).2.1,(hf b hb).2.2.2.2.1,(hf b hb).2.2.2.2.2⟩) (fun b o _ _ hc e _=>k b o hc e) (fun b o _ _ hc e _=>⟨o.slots,k b o hc e⟩)
  (fun b o _ e n=>?_) (fun b o hc e=>⟨o,k b o hc e⟩) (fun b xs e=>?_) (fun b o u e=>?_) (fun b ps e=>⟨#[],?_⟩) (fun m hm=>?_) (fun b u e=>?_) I.bare
 ·rw[bB (cg (bI (bF e) hT))];exact n
 ·rw[bB (bO e hn)];exact e
 ·rw[bB (bO e hn)];exact e
 ·rw[bB (bO e hn),e];simp
 ·obtain⟨o,es,ep,ho,r⟩:=hm
  exact⟨o,es,ep,k _ o (fun z=>(hf _ z).2.1 rfl) ho,r⟩
 by_cases hb:b=T
 ·subst hb
  rw[ba]at e
  cases e
  exact new
 rw[bB hb]at e
 refine(I.gd b u e).tJ (fun c v hc q=>k c v ?_ q) (fun c q=>by rw[bB (bO q hn)];exact q) fun c xs q=>by rw[bB (bO q hn)];exact q
 rcases hc with z|z
 ·rw[z];exact nit b u e
 exact nit c _ z
end
section
variable{X:Cx}
theorem Xe{tg:Expr}{pins:ah}{σ:St}{H:Hp}{s:bf}{R:It->Hp->Prop}{J:It}{tn:Nat->Heap->Prop}{tk:Nat}(I:Inv X pins σ H s)(o:Obj)
 (T:Turn X.prog X.w X.K tg J [s.heap.objs.size] s.heap.objs.size tn)(st:tn 0 (s.heap.push o))(q:R J H):PIE X pins σ tg R (.ref s.heap.objs.size) {s with heap:=s.heap.push o,toks:=tk}:=by
 refine⟨s.heap.objs.size,[s.heap.objs.size],tn,J,H,rfl,I.kept fun b ob e=>a9 _ e,T,st,fun b hb=>?_,q⟩
 have e:b=s.heap.objs.size:=by simpa using hb
 subst e
 exact I.Vl (bu _) (I.gd.fresh (bu _))
end
section
variable{X:Cx}{tg:Expr}
end
section
variable{X:Cx}{tg:Expr}
end
def Its(x:Str):It:=⟨fun i _=>i<x.cps.size,fun i H v H'=>H'=H/\∃c,x.cps[i]?=aa c/\v=.str ⟨#[c]⟩,fun i _=>x.cps.size<=i⟩
theorem N9{P:b7}{w:cU}{K:aX}{tg:Expr}(it:Addr)(x:Str)(t:Tok)(ty:String)(hty:ty="str_ascii_iterator"\/ty="str_iterator"):
 Turn P w K tg (Its x) [it] it (fun i h=>h.IsStrIter it ty x t i) where
 mem:=by simp
 obj:=fun i h st b hb=>by
  have e:b=it:=by simpa using hb
  subst e;obtain⟨o,e,c,d⟩:=st;exact⟨o,e,fun v z=>by rw[d]at z;cases z⟩
 keep:=fun i h h' st k=>let⟨o,ho,r⟩:=st;⟨o,k it (by simp) o ho,r⟩
 item:=by
  intro X hP hw hK hc i pins s σ H E I hf st hg;subst hP hw hK;obtain⟨f0,f1,f2,f3,f4,f5⟩:=hf it (by simp)
  have W:Walks X.prog X.w X.A it [it] [it] x.cps.size (SignAt x) (fun i h=>h.IsStrIter it ty x t i):=by
   rcases hty with e|e
   ·rw[e];exact Walks.strAscii (I.ok.hd hc) it x t
   rw[e];exact Walks.strWide (I.ok.hd hc) it x t
  have hno:["enumerate","zip","dict_itemiterator","dict_reverseitemiterator","odict_iterator","itertools.zip_longest","itertools.pairwise"].contains ty=af:=by
   rcases hty with e|e
   ·rw[e];decide
   rw[e];decide
  refine W.item i s _ _ hg st fun v h' tk hv GJ kk=>?_;obtain⟨c,u,hcx,rfl⟩:=hv;have I1:Inv X pins σ H {s with heap:=h',toks:=tk}:=I.turned (fun b o hb e=>kk b o (by simpa using hb) e) f0 f1 f3 f4 f5;obtain⟨oi,e,cc,dd⟩:=id GJ;exact⟨_,rfl,Yh (s:={s with heap:=h',toks:=tk}) e cc dd hno ⟨.str ⟨#[c]⟩,H,I1,⟨u,rfl⟩,⟨rfl,c,hcx,rfl⟩,GJ,fun b hb=>(hf b hb).1⟩⟩
 done:=by
  intro X hP hw hK hc i pins s σ H E I hf st hg;subst hP hw hK;obtain⟨f0,f1,f2,f3,f4,f5⟩:=hf it (by simp);have hx:x.cps[i]?=ab:=Array.getElem?_eq_none hg;rcases hty with e|e
  ·rw[e]at st;exact wpAny_pyNext_ascii_end (I.ok.hd hc) st hx fun h' eb=>⟨rfl,I.turned (t':=s.toks) (fun b o hb e=>eb b o hb e) f0 f1 f3 f4 f5⟩
  rw[e]at st;exact wpAny_pyNext_wide_end (I.ok.hd hc) st hx fun h' eb=>⟨rfl,I.turned (t':=s.toks) (fun b o hb e=>eb b o hb e) f0 f1 f3 f4 f5⟩
 self:=fun A i s Q E st h=>by
  rcases hty with e|e
  ·rw[e]at st;exact wpAny_pyIter_striter_ascii st h
  rw[e]at st;exact wpAny_pyIter_striter_wide st h
inductive agl(R:L2.It->Hp->Prop)(v:V)(H1:Hp):Prop
 |mk (x:_) (_:v=.str x) (_:R (Its x) H1)
def ajp(te:TE):TI:=fun σ H R=>te σ H fun v H1=>agl R v H1
theorem adb{X:Cx}{tg e:Expr}{te:TE}(he:PE X e te):PI X tg e (ajp te):=by
 intro pins s σ H R I h;refine ib (he pins s σ H _ I h) fun v s1 ⟨y,H1,I1,r1,x,ex,q⟩=>?_;subst ex;obtain⟨t,rfl⟩:=r1;cases ha:x.cps.all (· <128)
 ·exact wpAny_pyIter_wide ha (Xe (tk:=s1.toks) I1 _ (N9 _ x t "str_iterator" (.inr rfl)) ⟨_,bH _ rfl,rfl,rfl⟩ q)
 exact wpAny_pyIter_ascii ha (Xe (tk:=s1.toks) I1 _ (N9 _ x t "str_ascii_iterator" (.inl rfl)) ⟨_,bH _ rfl,rfl,rfl⟩ q)
section
variable{prog:b7}{w:cU}{A:cX}{E:ar}{s:bf}
end
section
variable{X:Cx}{pins:ah}{σ:St}{H:Hp}{s:bf}{d:Addr}{o:Obj}
end
section
variable{P:b7}{w:cU}{K:aX}{tg:Expr}{d:Addr}{o:Obj}{es:Array DictEntry}{ep:Nat}
end
section
variable{X:Cx}{tg e:Expr}{td:TE}{apos MT:Pos}
end
def Ite(K:aX)(a:Addr):It:=
 ⟨fun i H=>∃(xs:ao)(x:V),du K H a xs/\xs[i]?=aa x,fun i H v H'=>∃T x,v=.ref T/\H T=ab/\H'=upd H T (.tup [.int (i:Nat),x])/\∀xs,du K H a xs->xs[i]?=aa x,fun i H=>∃xs:ao,du K H a xs/\xs.length<=i⟩
theorem Uv{P:b7}{w:cU}{K:aX}{elts:List Expr}{kk:Nat}{Li:Pos}(a e it:Addr):
 Turn P w K (.Tuple elts kk Li) (Ite K a) [e,it] e (fun i h=>(∃old,IsEnum h e it ((i:Nat):Int) old)/\h.IsListIter it a i/\e≠it) where
 mem:=by simp
 obj:=fun i h st b hb=>by
  obtain⟨⟨old,he⟩,⟨o,ho,hc,hd⟩,_⟩:=st;have e':b=e\/b=it:=by simpa using hb
  rcases e' with z|z
  ·rw[z];exact⟨_,he,fun v q=>nomatch q⟩
  rw[z];exact⟨o,ho,fun v q=>by rw[hd]at q;cases q⟩
 keep:=fun i h h' st k=>let⟨⟨old,he⟩,hi,Ie⟩:=st;⟨⟨old,k e (by simp) _ he⟩,hi.at fun o q=>k it (by simp) o q,Ie⟩
 item:=by
  intro X hP hw hK hc i pins s σ H E I hf st hg;subst hP hw hK;obtain⟨⟨old,he⟩,hit,Ie⟩:=st;obtain⟨xs,x,hq,hx⟩:=hg;obtain⟨its,rv,p,hz⟩:=I.list hq;obtain⟨u,hu,ru⟩:=rv.get hx;have hel:e<s.heap.objs.size:=bF he;have hil:it<s.heap.objs.size:=by obtain⟨_,q,_⟩:=hit;exact bF q
  refine wpAny_pyNext_enum_item he hit p.isList (x:=u) (by simpa using hu) Ie fun h' ho ad5 hT hsz hk=>?_;refine⟨_,rfl,Sk (s:={s with heap:=h',toks:=s.toks+1}) ho fun h'' he' sb=>?_⟩;have hT2:h''.get? s.heap.objs.size=aa {cls:=.type "tuple",data:=.seq #[.int i s.toks,u]}:=(sb.2 _ (dk hel)).trans hT
  have new:ja X.prog X.w (upd H s.heap.objs.size (.tup [.int (i:Nat),x])) h'' s.heap.objs.size (.tup [.int (i:Nat),x]):=
   ⟨by show 2<=bz;decide,[.int i s.toks,u],.cons ⟨_,rfl⟩ (.cons ru .nil),⟨_,hT2,rfl,_,rfl⟩⟩
  have I1:Inv X pins σ (upd H s.heap.objs.size (.tup [.int (i:Nat),x])) {s with heap:=h'',toks:=s.toks+1}:=
   I.Kc (ch:=[e,it]) (fun b ob hb q=>(sb.2 b (fun z=>hb (by simp[z]))).trans (hk b ob (fun z=>hb (by simp[z])) (fun z=>hb (by simp[z])) q)) hf (bu _) new
  refine⟨.ref s.heap.objs.size,_,I1,rfl,⟨_,x,rfl,I.gd.fresh (bu _),rfl,fun ys hy=>by rw[I.HP hy hq];exact hx⟩,⟨⟨u,?_⟩,ad5.at fun o q=>(sb.2 it (de Ie)).trans q,Ie⟩,fun b hb=>?_⟩
  ·have e1:((i+1:Nat):Int)=(i:Int)+1:=by omega
   rw[e1];exact he'
  have Pk:b<s.heap.objs.size:=by
   have e':b=e\/b=it:=by simpa using hb
   rcases e' with z|z
   ·rw[z];exact hel
   rw[z];exact hil
  rw[bB (cg Pk)];exact(hf b hb).1
 done:=by
  intro X hP hw hK hc i pins s σ H E I hf st hg;subst hP hw hK;obtain⟨⟨old,he⟩,hit,Ie⟩:=st;obtain⟨xs,hq,hx⟩:=hg;obtain⟨its,rv,p,hz⟩:=I.list hq;obtain⟨f0,f1,f2,f3,f4,f5⟩:=hf it (by simp);have hl:=rv.length;exact wpAny_pyNext_enum_end (I.ok.hd hc) he hit p.isList (by simp;omega) fun h' eb=>⟨rfl,I.turned (t':=s.toks) (fun b o hb q=>eb b o hb q) f0 f1 f3 f4 f5⟩
 self:=fun A i s Q E st h=>let⟨⟨_,he⟩,_⟩:=st;wR he h
inductive adS(K:aX)(R:L2.It->Hp->Prop)(vs:ao)(H1:Hp):Prop
 |mk (a:_) (xs:_) (_:vs=[.ref a]) (_:du K H1 a xs) (_:R (Ite K a) H1)
def agp(K:aX)(ta:TA):TI:=fun σ H R=>ta σ H fun vs H1=>adS K R vs H1
theorem pK{X:Cx}{e:Expr}{ta:TA}{p pos Li:Pos}{elts:List Expr}{kk:Nat}(hg:Gl X "enumerate")(hm:X.mg "enumerate"=ab)(ha:PA X [e] ta)(hs:bW [e] X.env=[(af,eval e X.env)]:=by rfl):
 PI X (.Tuple elts kk Li) (.Call (.Name "enumerate" p) [e] [] pos) (agp X.K ta):=by
 intro pins s σ H R I h
 refine Call_ (rO I hg hm boot_enumerate (ku (ib (ha pos pins s σ H _ I h) fun us s1 ⟨vs,H1,I1,r1,q1⟩=>?_) hs rfl))
 obtain⟨a,xs,ex,hq,q⟩:=q1
 subst ex
 cases r1 with
 |cons r rr=>
  cases rr
  cases r
  obtain⟨its,rv,p',hz⟩:=I1.list hq
  refine call_enumerate_list p'.isList fun h' he hit hsz hk=>wR he ?_
  have I2:Inv X pins σ H1 {s1 with heap:=h'}:=I1.kept (t':=s1.toks) hk
  refine⟨s1.heap.objs.size+1,[s1.heap.objs.size+1,s1.heap.objs.size],_,_,H1,rfl,I2,Uv a (s1.heap.objs.size+1) s1.heap.objs.size,⟨⟨.none,he⟩,hit,Nat.succ_ne_self _⟩,fun b hb=>?_,q⟩
  have e':b=s1.heap.objs.size+1\/b=s1.heap.objs.size:=by simpa using hb
  have hle:s1.heap.objs.size<=b:=by
   rcases e' with z|z
   ·rw[z];exact iG _ _
   rw[z];exact bu _
  exact I1.Vl hle (I1.gd.fresh hle)
theorem VD:ij "zip"=aa (.type "zip"):=by decide+kernel
end L2
section
namespace akF
open PySem PyProof.Rows
end akF
end
section
namespace TL
open PySem PySem.Builtin PySem.Builtin.Str PySem.StrLaws
abbrev tl(x:Str):List Nat:=x.cps.toList
theorem Ke(x y:Str):tl (x++y)=tl x++tl y:=by
 show(x++y).cps.toList=_;rw[Str.cps_append,Ba]
def me(S:List Nat):List (List Nat)->List Nat
 |[]=>[]
 |[p]=>p
 |p::q::r=>p++(S++me S (q::r))
theorem FY(y:Str):∀parts:ak,tl (pD y parts)=me (tl y) (parts.map tl)
 |[]=>rfl
 |[_]=>rfl
 |x::z::r=>by
  show tl (x++y++pD y (z::r))=tl x++(tl y++me (tl y) ((z::r).map tl));rw[Ke,Ke,FY y (z::r),c9]
theorem join_eq(y:Str)(parts:ak):qX y parts=pD y parts:=glued_eq_join y parts
end TL
end
namespace L2
open PySem PySem.Spec PyProof.Rows
theorem vi:∀{ys:ak}{us:au},Vals (ys.map V.str) us->StrsAre us ys
 |[],_,.nil=>.nil
 |y::ys,_,.cons r t=>by
  obtain⟨k,rfl⟩:=r;exact .cons y k (vi t)
section
variable{X:Cx}{pins:ah}{σ:St}{H:Hp}{s:bf}{Q:VK}
end
section
variable{X:Cx}
theorem aaq:MtR X "str.join" (fun x xs H Q=>∃a p,∃ys:ak,x=.str a/\xs=[.ref p]/\(du X.K H p (ys.map V.str)\/wC X.K H p (ys.map V.str))/\
 (ys.map (·.length)).sum+ys.length*a.length<=16777216/\Q (.str (qX a ys)) H):=by
 intro pins s σ H x xs v us Q I rx rs h
 obtain⟨a,p,ys,rfl,rfl,hp,hz,h⟩:=h
 obtain⟨t,rfl⟩:=rx
 cases rs with
 |cons r1 rs=>
  cases rs
  cases r1
  rcases hp with hp|hp
  ·obtain⟨its,r,⟨o,n,ho,hc,_,hd⟩,_⟩:=I.list hp
   exact PyProof.Rows.join_list (items:=its.toArray) ⟨o,ho,hc,n,hd⟩ (by rw[Bi];exact vi r) hz fun t' k=>⟨.str _,H,I.tok k,⟨t',rfl⟩,h⟩
  obtain⟨its,r,ht,_⟩:=I.tuple hp
  exact PyProof.Rows.join_tuple (items:=its.toArray) ht (by rw[Bi];exact vi r) hz fun t' k=>⟨.str _,H,I.tok k,⟨t',rfl⟩,h⟩
end
section
variable{X:Cx}{o e:Expr}{to te:TE}
def tM1(r:V->ao->Hp->VK->Prop)(to te:TE):TE:=fun σ H Q=>to σ H fun x H1=>(∃a,x=.str a)/\te σ H1 fun y H2=>r x [y] H2 Q
theorem afU{id:String}{name:Str}{apos pos:Pos}{r:V->ao->Hp->VK->Prop}(slot:Slot "str" name id)(ty:Nt (.builtin id)=pure (.type "method_descriptor"))(rule:MtR X id r)(ho:PE X o to)(he:PE X e te)
 (hs:bW [e] X.env=[(af,eval e X.env)]:=by rfl)(Pj:si o name X.env (eval o X.env)=eval o X.env:=by rfl)(Pf:(apos.endLine==pos.line)=ae:=by rfl):
 PE X (.Call (.Attribute o name apos) [e] [] pos) (tM1 r to te):=by
 intro pins s σ H Q I h
 refine PySem.Call_method1 Pj hs Pf (ib (ho pins s σ H _ I h) fun v s1 ⟨x,H1,I1,r1,q1⟩=>?_)
 obtain⟨⟨a,rfl⟩,q1⟩:=q1
 obtain⟨t,rfl⟩:=_root_.id r1
 refine⟨"str",_,F.plainAttrs_str,slot,ty,typeIs_str _ _ _,(fun _ e=>nomatch e),Qi rfl (zG (iz ?_))⟩
 exact ib (he pins s1 σ H1 _ I1 q1) fun u s2 ⟨y,H2,I2,r2,q2⟩=>jL (rule pins s2 σ H2 _ [y] _ [u] Q I2 r1 (.cons r2 .nil) q2)
theorem LM{apos pos:Pos}(ho:PE X o to)(he:PE X e te)(hs:bW [e] X.env=[(af,eval e X.env)]:=by rfl)(Pj:si o "join" X.env (eval o X.env)=eval o X.env:=by rfl)(Pf:(apos.endLine==pos.line)=ae:=by rfl):
 PE X (.Call (.Attribute o "join" apos) [e] [] pos) (tM1 (fun x xs H Q=>∃a p,∃ys:ak,x=.str a/\xs=[.ref p]/\(du X.K H p (ys.map V.str)\/wC X.K H p (ys.map V.str))/\
  (ys.map (·.length)).sum+ys.length*a.length<=16777216/\Q (.str (qX a ys)) H) to te):=
 afU F.slot_str_join F.type_str_join aaq ho he hs Pj Pf
end
section
variable{X:Cx}
end
end L2
namespace Att
open PySem PySem.W PySem.Calls PyProof.Rows
section
variable{prog:b7}{w:cU}{A:cX}{E:ar}{s:bf}{K:Frag}
end
end Att
namespace L2
open PySem PySem.Spec PyProof.Rows
def inClass(s:Stmt)(j:Nat):Stmt:=match s with
 |.ClassDef _ _ _ body _ _ _ _ _ _ _=>body.getD j (.Pass ⟨0,0,0,0⟩)
 |_=>.Pass ⟨0,0,0,0⟩
def mD(s:Stmt):Wb:=match s with
 |.FunctionDef _ a _ _ _ _ _ _ _ _=>a
 |_=>{posonlyargs:=[],args:=[],vararg:=ab,kwonlyargs:=[],kw_defaults:=[],kwarg:=ab,defaults:=[]}
def jW(s:Stmt):List Stmt:=match s with
 |.FunctionDef _ _ b _ _ _ _ _ _ _=>b
 |_=>[]
def bA(s:Stmt):l3:=match s with
 |.FunctionDef _ _ _ _ _ _ sc _ _ _=>sc
 |_=>{kind:=.function,names:=[],isGenerator:=af,isCoroutine:=af}
abbrev eJ:Qn:=fun _ _ _ _ _ _=>False
abbrev E0:XK:=fun _ _ _=>False
theorem rN{X:Cx}:Passes eJ X E0:=fun _ _ _ _ _ _ _ h=>h.elim
structure iF(K:aX)(x qual:Str)(st:Stmt)(f:Addr)(fd:gx):Prop where
 ex:∃(oc:aY)(od:Option Addr)(kV doc pm:aY)(an:Option Addr)(fA ct:aY)(Xq:Array (Option aY)),
  fd=gQ x qual (mD st) (jW st) (bA st) .none kV doc pm an fA ct/\K.lookup f=aa ⟨oc,od,.func fd,Xq⟩/\IU K fA qual=ae
 kp:je K (.ref f)=ae
section
variable{P:b7}{w:cU}{K:aX}{mg:aj}{base:Heap}
theorem iF.ok{x qual:Str}{st:Stmt}{f:Addr}{fd:gx}{N ps:ak}{k:Nat}{sp:Sp}(F:iF K x qual st f fd)(S:bU N ps (bA st))
 (Ig:∀(fA:aY)(A:cX)(outer:List Env)(s:bf)(H:Hp)(vs:ao)(Q:VK)(E:XK),gG k (A.deeper (AW qual (bA st) s.heap.objs.size f fA))->sp vs H Q E->
  ∃t,Nm (MQ eJ P w K mg base N qual (bA st) f fA A outer s H E).nox (jW st) t/\t {nx:=fun _ H'=>Q .j5 H',rt:=Q} (start N vs) H)(len:∀vs H Q E,sp vs H Q E->vs.length=ps.length:=by intro _ _ _ _ h;cases h;first|(subst_vars;rfl)|(rename_i h;cases h.1;rfl)):dv P w K mg base eJ (k+1) f fd ps sp:=by
 obtain⟨oc,od,kV,doc,pm,an,fA,ct,Xq,rfl,lk,NN⟩:=F.ex
 refine Ym lk NN S len fun A outer s H vs Q E hr VS=>?_
 obtain⟨t,h,q⟩:=Ig fA A outer s H vs Q E hr VS
 exact⟨t,h.nox,q⟩
theorem iF.binds{x qual:Str}{st:Stmt}{f:Addr}{fd:gx}{ps:ak}(F:iF K x qual st f fd)
 (h:∀(kV doc pm:aY)(an:Option Addr)(fA ct:aY)(us:au),us.length=ps.length->oO (gQ x qual (mD st) (jW st) (bA st) .none kV doc pm an fA ct) ⟨us,[]⟩=pure (ps.zip us)):Binds K fd ps []:=by
 obtain⟨oc,od,kV,doc,pm,an,fA,ct,Xq,rfl,lk,NN⟩:=F.ex
 exact .all (h kV doc pm an fA ct)
theorem aen{x qual:Str}{st:Stmt}{f:Addr}{oc:aY}{od an:Option Addr}{Xq:Array (Option aY)}{kV doc pm fA ct:aY}(l:K.lookup f=aa ⟨oc,od,.func (gQ x qual (mD st) (jW st) (bA st) .none kV doc pm an fA ct),Xq⟩)
 (c:IU K fA qual=ae)(k:je K (.ref f)=ae):iF K x qual st f (gQ x qual (mD st) (jW st) (bA st) .none kV doc pm an fA ct):=⟨⟨oc,od,kV,doc,pm,an,fA,ct,Xq,rfl,l,c⟩,k⟩
end
theorem Pe{A:cX}{k:Nat}(hr:gG k A):A.units+1<J2:=oB (Nat.add_le_add_left (by decide:1<=64) _) hr.units
section
variable{X:Cx}
theorem pv(i:Nat){x:Str}{pos:Pos}(hN:X.N[i]?=aa x:=by rfl)(hv:Vis X.env.scope x:=by first|exact ur rfl|exact ZA (ur rfl)|exact ZA (ZA rfl))(hd:(x==("__debug__":Str))=af:=by decide)
 (NN:(x==("__classdict__":Str))=af:=by decide):PE X (.Name x pos) (Ak i):=ade hN hv hd NN
end
theorem cD{A B:Prop}(h:B):if af=ae then A else B:=by
 rw[cP cz];exact h
theorem dI{A B:Prop}(h:A):if ae=ae then A else B:=by
 rw[c8 rfl];exact h
def bG(H H':Hp):Prop:=∀b o,H b=aa o->H' b=aa o
theorem bG.refl(H:Hp):bG H H:=fun _ _ h=>h
theorem bG.trans{H H1 H2:Hp}(a:bG H H1)(b:bG H1 H2):bG H H2:=fun c o h=>b c o (a c o h)
theorem bG.free{H H':Hp}(e:bG H H'){l:Addr}(h:H' l=Option.none):H l=Option.none:=by
 cases q:H l with
 |none=>rfl
 |some o=>
  rw[e l o q]at h;cases h
theorem bG.seq{K:aX}{H H':Hp}{a:Addr}{xs:ao}(e:bG H H')(h:du K H a xs):du K H' a xs:=by
 rcases h with(h|⟨o,h⟩)|h
 ·exact .inl (.inl (e _ _ h))
 ·exact .inl (.inr ⟨o,e _ _ h⟩)
 exact .inr h
section
variable{κ:Type}[DecidableEq κ]
end
theorem at_of{xs:ao}{z:Int}{j:Nat}{v:V}(e:z=(j:Int))(h:xs[j]?=aa v):Zp xs z=aa v:=by
 rw[e];exact tE h
end L2
end
section
namespace L2
open PySem PySem.Spec PyProof.Rows
section
variable{X:Cx}
theorem jy(i:Nat){x:Str}{e:Expr}{te:TE}{pos pos':Pos}(hN:X.N.Nodup)(he:PE X e te)(hi:X.N[i]?=aa x:=by rfl)(hx:Loc X.env.scope x:=by exact .inl rfl)(hs:pR e (aa (.Name x pos')) pos.line X.env=pure af:=by rfl)(hf:X.fn x=ae\/X.env.scope.names.lookup x=aa .local:=by first|exact .inl rfl|exact .inr rfl|assumption):PS X (.Assign [.Name x pos'] e pos) (ZP te (zY i)):=Q3 hN hi hx he hs hf
theorem oX(i:Nat){x:Str}{pos:Pos}(hN:X.N.Nodup)(hi:X.N[i]?=aa x:=by rfl)(hx:Loc X.env.scope x:=by exact .inl rfl)(hf:X.fn x=ae\/X.env.scope.names.lookup x=aa .local:=by first|exact .inl rfl|exact .inr rfl|assumption):PG X (.Name x pos) (zY i):=Z9 hN hi hx hf
end
end L2
end
section
namespace XL
open PySem PySem.W PySem.Calls PyProof.Rows Builtin Builtin.ObjectAttr
def Ck:au->au
 |.ref _::r=>Ck r
 |l=>l
abbrev Mz:au:=[.type "Exception",.type "BaseException",.type "object"]
theorem Z3(self:aY):refuseLoop self "__setattr__" Mz=pure ():=by kernel_rfl
theorem Tb(self:aY)(acx:Str):∀l:au,refuseLoop self acx l=refuseLoop self acx (Ck l)
 |[]=>rfl
 |.ref c::r=>by rw[refuseLoop_ref,Tb self acx r];rfl
 |.none::_=>rfl
 |.bool _::_=>rfl
 |.int _ _::_=>rfl
 |.float _ _::_=>rfl
 |.str _ _::_=>rfl
 |.bytes _ _::_=>rfl
 |.type _::_=>rfl
 |.builtin _::_=>rfl
 |.ellipsis::_=>rfl
 |.notImplemented::_=>rfl
def pZ(K:Frag)(C f:Addr):Bool:=match K.lookup C with
 |some ⟨_,_,.cls cd,sl⟩=>
  !cd.hasDel&&(sl.toList[4]?).join==aa (.builtin "Exception.__new__")&& !cd.mro.isEmpty
   &&cd.mro.contains (.ref C)&&cd.mro.contains (.type "Exception")&&cd.mro.contains (.type "BaseException")
   && !cd.mro.contains (.type "AttributeError")&& !cd.mro.contains (.type "NameError")&& !cd.mro.contains (.type "tuple")
   &&cd.hasDict&&Ck cd.mro==Mz&&cd.mro.contains (.type "object")&&specialIn K (.ref C) "__call__"==aa (aa (.builtin "type.__call__"))
   &&instIn K (.ref C) (.type "type")==aa ae&&typeIn K (.ref C)==aa (.type "type")
   &&findIn K (.ref C) "__init__"==aa (aa (.ref f))&&typeIn K (.ref f)==aa (.type "function")
   &&keepIn K (.ref C)
   &&findIn K (.ref C) "__setattr__"==aa (aa (.builtin "object.__setattr__"))
   &&findIn K (.ref C) "__getattribute__"==aa (aa (.builtin "BaseException.__getattribute__"))
   &&findIn K (.ref C) "__getattr__"==aa ab
 |_=>af
structure Zr(M:NU)(h:Heap)(C f:Addr):Prop where
 obj:∃oc od cd sl,h.get? C=aa ⟨oc,od,.cls cd,sl⟩/\cd.hasDel=af/\cd.mro.isEmpty=af/\cd.hasDict=ae/\Ck cd.mro=Mz
 made:Looks M h (Up (.ref C)) (aa "Exception.__new__")
 base:Looks M h (Bind.staticBase (.ref C)) (.ref C)
 self:Looks M h (r8 (.ref C) (.ref C)) ae
 exc:Looks M h (r8 (.ref C) (.type "Exception")) ae
 ob:Looks M h (r8 (.ref C) (.type "object")) ae
 YG:Looks M h (r8 (.ref C) (.type "BaseException")) ae
 noA:Looks M h (r8 (.ref C) (.type "AttributeError")) af
 noN:Looks M h (r8 (.ref C) (.type "NameError")) af
 noT:Looks M h (r8 (.ref C) (.type "tuple")) af
 call:Looks M h (specialOf (.ref C) "__call__") (aa (.builtin "type.__call__"))
 typ:Looks M h (wc (.ref C) (.type "type")) ae
 ty:Looks M h (Nt (.ref C)) (.type "type")
 init:Looks M h (AV (.ref C) "__init__") (aa (.ref f))
 bind:∀self,Looks M h (bindSpecial (.ref f) self) (.ref f,[self])
 sa:Looks M h (AV (.ref C) "__setattr__") (aa (.builtin "object.__setattr__"))
theorem mkX{K:Frag}(X:K.In h){f:Addr}(e:pZ K C f=ae):Zr M h C f:=by
 unfold pZ at e;split at e
 ·rename_i oc od cd sl ho;simp only[cK,vb,beq_iff_eq]at e;obtain⟨⟨⟨⟨⟨⟨⟨⟨⟨⟨⟨⟨⟨⟨⟨⟨⟨⟨⟨⟨e1,e2⟩,e3⟩,e4⟩,e5⟩,e6⟩,e7⟩,e8⟩,e9⟩,e10⟩,e20⟩,e21⟩,e11⟩,e12⟩,e13⟩,e14⟩,e15⟩,e16⟩,e17⟩,e18⟩,e19⟩:=e;have hc:clsIn K C=aa cd:=by unfold clsIn;rw[ho]
  have sub:∀{b:aY}{r:Bool},cd.mro.contains b=r->Looks M h (r8 (.ref C) b) r:=fun{b r} q=>
   looks_mroIn X (by unfold mroIn;rw[hc,Option.bind_some,cP (by rw[e3];decide),q])
  obtain⟨c,l,hl⟩:∃c l,cd.mro=c::l:=by
   cases q:cd.mro with
   |nil=>rw[q]at e3;cases e3
   |cons c l=>exact⟨c,l,rfl⟩
  have mr:Looks M h (mroOf (.ref C)) cd.mro:=(looks_clsIn X hc).andThen .now
  have made:Looks M h (Up (.ref C)) (aa "Exception.__new__"):=fun A Q E s k q=>by
   unfold Up;refine aO (mr A _ E s k ?_);rw[hl,nN];refine aO (aO (aO (aO ?_)));refine Er (k _ _ (X _ _ ho)) (bg ?_);dsimp only;rw[<-eI,e2];exact bg (bg (bg q))
  refine⟨⟨oc,od,cd,sl,X _ _ ho,e1,e3,e10,e20⟩,made,?_,sub e4,sub e5,sub e21,sub e6,sub e7,sub e8,sub e9,looks_specialIn X e11,
   looks_instIn X e12,looks_typeIn X e13,looks_findIn X e14,fun self=>bind_fn X self e15,looks_findIn X e17⟩
  intro A Q E s k q;unfold Bind.staticBase;refine aO (mr A _ E s k ?_);rw[hl,nN];refine aO (aO (aO ?_));exact made A _ E s k (bg (bg (bg q)))
 cases e
abbrev kq(us:au):Obj:={cls:=.type "tuple",data:=.seq us.toArray}
abbrev pP(C t:Addr):Obj:={cls:=.ref C,data:=.fields #[.ref t,.none,.none,.none,.bool af,.none]}
section
variable{prog:b7}{w:cU}{A:cX}{C f:Addr}{R:Ew->bf->Prop}{h:Heap}{g:Array J6}{d:Drawn}{t:Nat}{os:OsState}
theorem newX{us:au}(Y:Zr (bJ prog w) h C f)(hz:us.length<=bz)
 (hq:R (.ok (.ret (.ref (h.objs.size+1)))) ⟨(h.push (kq us)).push (pP C h.objs.size),g,d,t,os⟩):
 jx (bJ prog w) A (.call (.builtin "Exception.__new__") ⟨.ref C::us,[]⟩) R ⟨h,g,d,t,os⟩:=by
 obtain⟨⟨oc,od,cd,sl,hC,e1,e4,_⟩,made,base,self,exc,ob,YG,noA,noN,noT,call,typ,ty,init,bnd,sa⟩:=Y
 have F:=Jd
 have agu:=F.noStar
 refine codeAny_call_builtin_code (tG _ F.quiet) ?_
 simp only[zC,F.newKind,F.newSplit,F.newRow]
 repeat (first|simp only[bne_self_eq_false,cC,if_false]|lk)
 refine codeAny_builtinAt F.entry ?_
 have he:=F.ends
 unfold Builtin.«BaseException.__new__»
 refine Zy ?_
 show PySem.wpAt _ _ _ (stack>>=_) _ _ _
 refine Zy (PySem.wpAt_stack fun p below=>Ue ?_)
 wp_walk
 refine Ue ?_
 rw[F.owner]
 have here:Looks (bJ prog w) h (Bind.madeHere "BaseException.__new__" (.ref C)) ():=base.andThen (made.andThen (Looks.of_pure (by
  simp only[jF,F.canon,bne_self_eq_false,cC,if_false])))
 repeat (first|simp only[bne_self_eq_false,cC,if_false,NX]|lk)
 have nz:¬us.toArray.size>bz:=by
  rw[bY];omega
 rw[cP nz]
 unfold newObjAsIs
 refine aO (Es (bg (aO ?_)))
 show bL _ _ (newObjAsIs (.ref C) _ _) _ _ _
 unfold newObjAsIs classHasDel
 refine aO (Es (aO (aO ?_)))
 refine IL (a9 _ (a9 _ hC)) (bg ?_)
 rw[e1]
 refine bg (bg ?_)
 show R _ _
 rw[dz]
 exact hq
theorem ahc{us:au}(Y:Zr (bJ prog w) h C f)(hz:us.length<=bz)
 (hq:jx (bJ prog w) (A.under (.builtin "type.__call__" ⟨.ref C::us,[]⟩)) (.call (.ref f) ⟨.ref (h.objs.size+1)::us,[]⟩)
  (InitBack (h.objs.size+1) R) ⟨(h.push (kq us)).push (pP C h.objs.size),g,d,t,os⟩):
 jx (bJ prog w) A (.call (.ref C) ⟨us,[]⟩) R ⟨h,g,d,t,os⟩:=by
 have Y':=Y
 obtain⟨⟨oc,od,cd,sl,hC,e1,e4,_⟩,made,base,self,exc,ob,YG,noA,noN,noT,cal,typ,ty,init,bnd,sa⟩:=Y
 refine Bg ?_
 show bL _ _ (callAny (.ref C) _) _ _ _
 refine nd_load hC ?_
 show bL _ _ (Ud (.ref C) _) _ _ _
 unfold Ud
 refine aO (cal.at ?_)
 dsimp only
 rw[tc_bind]
 refine aO (bg (aO (bg ?_)))
 refine bg (a:=Fin.again (.call (.builtin "type.__call__") ⟨.ref C::us,[]⟩)) (And.intro rfl ?_)
 refine codeAny_call_builtin_at (tG _ (by decide+kernel)) entry_typeCall ?_
 refine check_slot tc_kind tc_split typ (tc_args _ _ _) ?_
 unfold Builtin.«type.__call__»
 have hm:Looks (bJ prog w) h (mroOf (.ref C)) cd.mro:=((Looks.ld (part:=ab) hC).andThen .now).andThen .now
 repeat (first|simp only[e4,cC,if_false]|with_reducible refine m5 ?_|lk)
 refine newX Y' hz ?_
 have k:∀b o,h.get? b=aa o->((h.push (kq us)).push (pP C h.objs.size)).get? b=aa o:=fun b o e=>
  a9 _ (a9 _ e)
 have hx:((h.push (kq us)).push (pP C h.objs.size)).get? (h.objs.size+1)=aa (pP C h.objs.size):=by heap_get
 have t1:Looks (bJ prog w) ((h.push (kq us)).push (pP C h.objs.size)) (Nt (.ref (h.objs.size+1))) (.ref C):=
  (Looks.ld hx).andThen .now
 have s1:=self.keeps k
 have i1:=init.keeps k
 have b1:=(bnd (.ref (h.objs.size+1))).keeps k
 unfold wc callSpecial? specialOf
 repeat (first|with_reducible refine m5 ?_|lk)
 refine iS hq fun r s' z=>?_
 rcases r with e|(v|_|_|_)
 ·exact z
 ·exact z.elim
 ·exact z.elim
 ·exact z.elim
 obtain⟨rfl,z⟩:=z
 exact bg (bg z)
end
section
variable{prog:b7}{w:cU}{A:cX}{C f x dx:Addr}{s:bf}{K:Frag}{name:Str}{v:aY}{E:ar}
theorem abN{R:Ew->bf->Prop}{ox:Obj}{od:Option Obj}{tk:Tok}(X:K.In s.heap)(Y:Zr (bJ prog w) s.heap C f)(I:InstAt s.heap x ox C od)(hn:findIn K (.ref C) name=aa ab)
 (h:bL (bJ prog w) A.in1 (storeInOwnDict (.ref x) (.ref C) (.str name tk) name v af)
  (fun fin s'=>match fin with|.done f=>R (.ok f) s'|.again c'=>c'.quiet=ae/\jx (bJ prog w) A c' R s') (fun e s'=>R (.error e) s') s):
 jx (bJ prog w) A (.call (.builtin "object.__setattr__") ⟨[.ref x,.str name tk,v],[]⟩) R s:=by
 have SF:=PySem.F.store_object
 obtain⟨oc,odc,cd,sl,hC,e1,e4,e5,e6⟩:=Y.obj
 have hio:Looks (bJ prog w) s.heap (wc (.ref x) (.type "object")) ae:=I.type.andThen Y.ob
 have hm:Looks (bJ prog w) s.heap (mroOf (.ref C)) cd.mro:=((Looks.ld (part:=ab) hC).andThen .now).andThen .now
 refine j8 SF.slot.plain SF.entry ?_
 refine@check_slot (bJ prog w) _ _ s "object.__setattr__" "object" "__setattr__" (.ref x) [.str name tk,v] [] _ SF.kind SF.split hio (SF.args (.ref x) (.str name tk) v) ?_
 rw[osa_eq,refuse_eq]
 refine aO (aO (I.type.here (aO (hm.here ?_))))
 rw[Tb,e6,Z3]
 refine bg (aO (I.type.here (aO ((looks_findIn X hn).here (aO (bg ?_))))))
 exact h
theorem WX{sl:Array (Option aY)}{mA:aj}{ns:ak}{Q:Unit->bf->Prop}(X:K.In s.heap)(Y:Zr (bJ prog w) s.heap C f)
 (hx:s.heap.get? x=aa ⟨.ref C,aa dx,.fields vs,sl⟩)(hd:s.heap.Ns1 dx mA)(hs:findIn K (.ref C) "__setattr__"=aa (aa (.builtin "object.__setattr__")))(hn:findIn K (.ref C) name=aa ab)
 (hw:oR mA ns)(hz:ns.length<bz)
 (h:∀h',h'.Ns1 dx (fun y=>if y=name then aa v else mA y)->kN dx s.heap h'->Q () {s with heap:=h',toks:=s.toks+2}):
 bL (bJ prog w) A (setAttr (.ref x) name v) Q E s:=by
 obtain⟨oD,esD,epD,hoD,hdD,_⟩:=id hd
 have I:InstAt s.heap x ⟨.ref C,aa dx,.fields vs,sl⟩ C (aa oD):=⟨hx,rfl,rfl,hoD⟩
 refine set_plain X I hs (abN (s:={s with toks:=s.toks+1}) X Y I hn ?_)
 obtain⟨oc,odc,cd,slc,hC,e1,e4,e5,e6⟩:=Y.obj
 refine aO (bg (aO (aO (Er hx (aO (aO (IL hC (bg ?_))))))))
 rw[e5]
 refine bg (a:=aa dx) (aO (bg (aO ?_)))
 refine Y1 (s:={s with toks:=s.toks+1}) hd fun h' n2 s2=>?_
 obtain⟨oE,esE,epE,hoE,hdE,hcE⟩:=n2.count (y0 name v hw)
 refine aO (Nq hoE (by rw[hdE];exact Nw (cQ hcE (by rw[cJ];omega))) ?_)
 exact bg (h _ n2 s2)
theorem WY{vs:Array aY}{sl:Array (Option aY)}{Q:Unit->bf->Prop}(X:K.In s.heap)(Y:Zr (bJ prog w) s.heap C f)
 (hx:s.heap.get? x=aa ⟨.ref C,ab,.fields vs,sl⟩)(hs:findIn K (.ref C) "__setattr__"=aa (aa (.builtin "object.__setattr__")))(hn:findIn K (.ref C) name=aa ab)
 (h:∀h',h'.get? x=aa ⟨.ref C,aa s.heap.objs.size,.fields vs,sl⟩->h'.Ns1 s.heap.objs.size (fun y=>if y=name then aa v else ab)->(∀b o,b≠x->s.heap.get? b=aa o->h'.get? b=aa o)->
  Q () {s with heap:=h',toks:=s.toks+2}):
 bL (bJ prog w) A (setAttr (.ref x) name v) Q E s:=by
 have I:InstAt s.heap x ⟨.ref C,ab,.fields vs,sl⟩ C ab:=⟨hx,rfl,rfl,ju⟩
 refine set_plain X I hs (abN (s:={s with toks:=s.toks+1}) X Y I hn ?_)
 obtain⟨oc,odc,cd,slc,hC,e1,e4,e5,e6⟩:=Y.obj
 refine aO (bg (aO (aO (Er hx (aO (aO (IL hC (bg ?_))))))))
 rw[e5]
 have e2:(s.heap.push emptyDict).get? s.heap.objs.size=aa emptyDict:=bH s.heap rfl
 have hx':(s.heap.push emptyDict).get? x=aa ⟨.ref C,ab,.fields vs,sl⟩:=a9 _ hx
 have ne:x≠s.heap.objs.size:=cg (bF hx)
 have e3:(s.heap.push emptyDict).Ns s.heap.objs.size (fun _=>ab):=⟨emptyDict,#[],_,e2,rfl,(fun e he=>absurd he (by simp)),fun _=>rfl⟩
 refine aO (Es (aO (wpAny_update hx' (bg (a:=aa s.heap.objs.size) (aO (bg (aO ?_)))))))
 generalize hU:((s.heap.push emptyDict).update x fun o=>{o with dict:=aa s.heap.objs.size})=U
 have hxU:U.get? x=aa ⟨.ref C,aa s.heap.objs.size,.fields vs,sl⟩:=by
  rw[<-hU];exact dO _ hx' rfl
 have agA:∀b,b≠x->U.get? b=(s.heap.push emptyDict).get? b:=fun b hb=>by
  rw[<-hU];exact cq _ _ (de hb)
 have n1:U.Ns1 s.heap.objs.size (fun _=>ab):=(SD e3).at fun o q=>by
  rw[agA _ (de ne)];exact q
 refine Y1 (s:={s with heap:=U,toks:=s.toks+1}) n1 fun h' n2 s2=>?_
 obtain⟨oE,esE,epE,hoE,hdE,hcE⟩:=n2.count (y0 name v (ns:=[]) (fun y hy=>absurd rfl hy))
 refine aO (Nq hoE (by rw[hdE];exact Nw (cQ hcE (by show 1<=bz+1;exact Nat.le_add_left 1 _))) ?_)
 refine bg (h _ ((s2.2 x ne).trans hxU) n2 fun b o hb e=>?_)
 have nb:b≠s.heap.objs.size:=cg (bF e)
 exact(s2.2 b nb).trans ((agA b hb).trans (a9 _ e))
end
theorem aaV(self:aY):bindSpecial (.builtin "BaseException.__getattribute__") self=pure (.builtin "BaseException.__getattribute__",[self]):=by kernel_rfl
section
variable{prog:b7}{w:cU}{A:cX}{C f x dx:Addr}{s:bf}{K:Frag}{name:Str}{v:aY}{E:ar}
theorem akh{sl:Array (Option aY)}{mA:aj}{Q:ar}(X:K.In s.heap)(Y:Zr (bJ prog w) s.heap C f)
 (hx:s.heap.get? x=aa ⟨.ref C,aa dx,.fields vs,sl⟩)(hd:s.heap.Ns1 dx mA)(hh:hasDictIn K C=ae)
 (hga:findIn K (.ref C) "__getattribute__"=aa (aa (.builtin "BaseException.__getattribute__")))(hgt:findIn K (.ref C) "__getattr__"=aa ab)(hn:findIn K (.ref C) name=aa ab)
 (hv:mA name=aa v)(hv':handedIn v=ae)(h:Q v {s with toks:=s.toks+1}):
 bL (bJ prog w) A (Y6 (.ref x) name expr) Q E s:=by
 obtain⟨od,ho,hl⟩:=L2.KD hd
 have I:InstAt s.heap x ⟨.ref C,aa dx,.fields vs,sl⟩ C (aa od):=⟨hx,rfl,rfl,ho⟩
 have ff:=findObj_own hh hn rfl (by rw[hl,hv])
 have L0:=I.type (M:=bJ prog w)
 have L1:=looks_findIn (M:=bJ prog w) X hga
 have L2':=looks_findIn (M:=bJ prog w) X hgt
 have L3:=looks_find (M:=bJ prog w) X I ff
 have LB:Looks (bJ prog w) s.heap (wc (.ref x) (.type "BaseException")) ae:=L0.andThen Y.YG
 obtain⟨hp,g,d,t,os⟩:=s
 unfold Y6 getAttrBy
 refine aO (wpAny_mkText (d7 (aO (L0.at (aO (L1.at ?_))))))
 show bL _ _ (getAttrByItsOwn _ _ _ _ _ _) _ _ _
 unfold getAttrByItsOwn hookBefore callGetattribute
 refine aO (L2'.at (aO (oM (d7 ?_))))
 rw[cP (show¬(expr&&onTheHeap (Value.builtin "BaseException.__getattribute__"))=ae by cases expr<;>exact cz)]
 unfold boundAndCalled
 rw[aaV]
 have hk:builtinKind "BaseException.__getattribute__"=aa .slot:=by decide+kernel
 have adV:splitId "BaseException.__getattribute__"=aa ("BaseException","__getattribute__"):=by decide+kernel
 have yR:plainId "BaseException.__getattribute__"=ae:=by decide+kernel
 refine aO (bg (m5 (j8 yR F.entry_bexc_ga ?_)))
 refine@check_slot (bJ prog w) _ _ _ "BaseException.__getattribute__" "BaseException" "__getattribute__" (.ref x) [.str name t] [] _ hk adV LB (F.args_bexc_ga (.ref x) (.str name t)) ?_
 unfold Builtin.«object.__getattribute__»
 refine aO (bg (aO (bg (aO (L0.at (aO (L3.at ?_)))))))
 refine bg ?_
 show bL _ _ (handedOut v) _ _ _
 rw[handedOut_of hv']
 exact bg h
end
end XL
end
section
namespace XL
open PySem PySem.W PySem.Calls PyProof.Rows
structure ab7(fs:ag)(a:Addr)(v:Option aY)(h h':Heap):Prop where
 keep:∀b o,h.get? b=aa o->b≠a->v≠aa (.ref b)->b∉fs->h'.get? b=aa o
 slot:∀b o,h.get? b=aa o->b≠a->v≠aa (.ref b)->∃sl,h'.get? b=aa {o with slots:=sl}
 there:∀b o,h.get? b=aa o->∃o',h'.get? b=aa o'
inductive Has(a:Addr)(oe:Obj)(n T:Nat)(h:Heap):Prop
 |mk (vs:_) (oT:_) (ts:_) (z:_) (_:h.get? a=aa {oe with data:=.fields vs}) (_:1<vs.size) (_:vs[1]?=aa (.ref T)) (_:h.get? T=aa oT) (_:oT.data=.fields ts) (_:ts[3]?=aa z) (_:T≠a) (_:n<=T)
section
variable{M:NU}{A:cX}{E:ar}{s:bf}{base:Heap}{env:Env}{outer:List Env}{L a:Addr}{oe:Obj}{vs:Array aY}
theorem K0{head:aY}{b:Bool}{Q:Unit->bf->Prop}(hfr:A.frames=aa (env::outer))(hl:s.heap.FunFrames base (env::outer))(hf:env.frame=aa L)
 (he:s.heap.get? a=aa oe)(hd:oe.data=.fields vs)(hz:1<vs.size)
 (k:∀h',(∀b o,s.heap.get? b=aa o->b≠a->b∉(env::outer).filterMap (·.frame)->h'.get? b=aa o)->
  (∀b o,s.heap.get? b=aa o->b≠a->∃sl,h'.get? b=aa {o with slots:=sl})->Has a oe s.heap.objs.size s.heap.objs.size h'->Q () {s with heap:=h'}):
 bL M A (do let fr<-frameOf env;let pl<-entryPlaceOf L b;let t<-NG head fr .none (j4 L) .none pl;setField (.ref a) 1 t) Q E s:=by
 have hna:a∉(env::outer).filterMap (·.frame):=fun hm=>by
  obtain⟨_,o,ho,hnf⟩:=hl.mem hm;rw[he]at ho;cases ho;exact hnf vs hd
 refine aO (wpAny_frameOf_fun hfr hl hf fun h1 s1=>?_)
 refine aO (wpAny_entryPlaceOf fun pl yR=>?_)
 unfold NG newFields
 refine aO (j7 ?_ (yR.sizeOk5 _ _ _ _ _))
 generalize htb:({cls:=.type "traceback",dict:=ab,data:=.fields ([head,.ref L,.none,j4 L,.none]++(if pl.isEmpty then cA 6 eF else pl)).toArray}:Obj)=tb
 have he1:h1.get? a=aa oe:=(s1.2.1 a hna).trans he
 have he2:(h1.push tb).get? a=aa oe:=a9 _ he1
 refine Eo he2 hd hz ?_
 have hsz:h1.objs.size=s.heap.objs.size:=s1.1
 have hTa:h1.objs.size≠a:=dk (bF he1)
 have hd3:=oA hd (·.setIfInBounds 1 (cp h1.objs.size))
 have JG:oe.mapFields (·.setIfInBounds 1 (cp h1.objs.size))={oe with data:=.fields (vs.setIfInBounds 1 (.ref h1.objs.size))}:=by
  obtain⟨c0,d0,dt0,sl0⟩:=oe;cases hd;rfl
 have ajw:tb.isFreed=af:=by rw[<-htb];rfl
 have Ts:∀b o,b≠a->h1.get? b=aa o->((h1.push tb).update a (jo (·.setIfInBounds 1 (cp h1.objs.size)))).get? b=aa o:=fun b o hb e=>by
  rw[cq _ _ (de hb)];exact a9 _ e
 refine k _ (fun b o e hb hn=>Ts b o hb ((s1.2.1 b hn).trans e)) (fun b o e hb=>?_) ?_
 ·obtain⟨sl,q⟩:=s1.2.2 b o e
  exact⟨sl,Ts b _ hb q⟩
 refine⟨vs.setIfInBounds 1 (.ref h1.objs.size),tb,([head,.ref L,.none,j4 L,.none]++(if pl.isEmpty then cA 6 eF else pl)).toArray,j4 L,?_,by simpa using hz,by rw[<-hsz];simp[hz],?_,by rw[<-htb],?_,by rw[<-hsz];exact hTa,bu _⟩
 ·rw[<-JG]
  exact dO _ he2 (qm hd3)
 ·rw[<-hsz,cq _ _ (de hTa)]
  exact bH h1 ajw
 simp
def Tr(h:Heap)(a:Addr)(n:Nat)(v:Option aY):Prop:=
 v=aa .none\/∃T oT ts z,v=aa (.ref T)/\h.get? T=aa oT/\oT.data=.fields ts/\ts[3]?=aa z/\T≠a/\n<=T
theorem Xx{n:Nat}{Q:Unit->bf->Prop}(hfr:A.frames=aa (env::outer))(hl:s.heap.FunFrames base (env::outer))(hf:env.frame=aa L)
 (he:s.heap.get? a=aa oe)(hd:oe.data=.fields vs)(hz:1<vs.size)(tr:Tr s.heap a n vs[1]?)(hn:n<=s.heap.objs.size)
 (k:∀h' T,ab7 ((env::outer).filterMap (·.frame)) a vs[1]? s.heap h'->Has a oe n T h'->(s.heap.objs.size<=T\/vs[1]?=aa (.ref T))->Q () {s with heap:=h'}):
 bL M A (VV (.ref a) env) Q E s:=by
 unfold VV
 simp only[hf]
 rcases tr with h1|⟨T,oT,ts,z,h1,hT,Zl,h3,hTa,hnT⟩
 ·refine aO (gY he hd h1 ?_)
  rw[cP (by decide)]
  refine K0 hfr hl hf he hd hz fun h' k1 k2 k3=>?_
  obtain⟨vs',oT,ts,z,a1,a2,a3,a4,a5,a6,a7,a8⟩:=k3
  refine k h' _ ⟨fun b o e hb _ hx=>k1 b o e hb hx,fun b o e hb _=>k2 b o e hb,fun b o e=>?_⟩ ⟨vs',oT,ts,z,a1,a2,a3,a4,a5,a6,a7,hn⟩ (.inl (bu _))
  by_cases hb:b=a
  ·rw[hb]
   exact⟨_,a1⟩
  obtain⟨sl,q⟩:=k2 b o e hb
  exact⟨_,q⟩
 refine aO (gY he hd h1 ?_)
 rw[c8 (show(cp T != eF)=ae from by simp)]
 refine aO (gY hT Zl h3 ?_)
 by_cases hzL:(z==j4 L)=ae
 ·rw[c8 hzL]
  refine bg (k s.heap T ⟨fun b o e _ _ _=>e,fun b o e _ _=>⟨o.slots,e⟩,fun b o e=>⟨o,e⟩⟩ ⟨vs,oT,ts,z,?_,hz,h1,hT,Zl,h3,hTa,hnT⟩ (.inr h1))
  rw[he]
  obtain⟨c0,d0,dt0,sl0⟩:=oe
  cases hd
  rfl
 rw[cP hzL]
 refine aO (Eo hT Zl (fH.mp h3).1 ?_)
 have Ts:∀b,b≠T->(s.heap.update T (jo (·.setIfInBounds 3 eF))).get? b=s.heap.get? b:=fun b hb=>cq _ _ (de hb)
 have hTn:(s.heap.update T (jo (·.setIfInBounds 3 eF))).get? T=aa (oT.mapFields (·.setIfInBounds 3 eF)):=
  dO _ hT (qm (oA Zl _))
 have NM:(s.heap.update T (jo (·.setIfInBounds 3 eF))).FunFrames base (env::outer):=hl.of_keeps fun b o hb hnf=>by
  refine⟨o,(Ts b fun q=>?_).trans hb,rfl⟩;rw[q,hT]at hb;cases hb;exact hnf ts Zl
 have hsz:(s.heap.update T (jo (·.setIfInBounds 3 eF))).objs.size=s.heap.objs.size:=Heap.size_after_update ..
 refine K0 (s:={s with heap:=s.heap.update T (jo (·.setIfInBounds 3 eF))}) hfr NM hf ((Ts a (de hTa)).trans he) hd hz fun h' k1 k2 k3=>?_
 obtain⟨vs',oT',ts',z',a1,a2,a3,a4,a5,a6,a7,a8⟩:=k3
 have nT:∀b,vs[1]?≠aa (.ref b)->b≠T:=fun b hb q=>hb (by rw[q];exact h1)
 refine k h' _ ⟨fun b o e hb ht hx=>k1 b o ((Ts b (nT b ht)).trans e) hb hx,fun b o e hb ht=>k2 b o ((Ts b (nT b ht)).trans e) hb,fun b o e=>?_⟩ ⟨vs',oT',ts',z',a1,a2,a3,a4,a5,a6,a7,?_⟩ (.inl ?_)
 ·by_cases hb:b=a
  ·rw[hb]
   exact⟨_,a1⟩
  by_cases hbT:b=T
  ·obtain⟨sl,q⟩:=k2 b _ (by rw[hbT];exact hTn) hb
   exact⟨_,q⟩
  obtain⟨sl,q⟩:=k2 b o ((Ts b hbT).trans e) hb
  exact⟨_,q⟩
 ·exact cQ hn (kX hsz.symm)
 exact kX hsz.symm
theorem RK{n:Nat}{fr:Option Addr}{Q:Unit->bf->Prop}(he:s.heap.get? a=aa oe)(hd:oe.data=.fields vs)(tr:Tr s.heap a n vs[1]?)
 (k:∀h',(∀b o,s.heap.get? b=aa o->vs[1]?≠aa (.ref b)->h'.get? b=aa o)->(∀b o,s.heap.get? b=aa o->∃o',h'.get? b=aa o')->Tr h' a n vs[1]?->Q () {s with heap:=h'}):
 bL M A (VU (.ref a) fr) Q E s:=by
 unfold VU
 rcases tr with h1|⟨T,oT,ts,z,h1,hT,Zl,h3,hTa,hnT⟩
 ·refine aO (gY he hd h1 ?_)
  rw[cP (by decide)]
  exact bg (k _ (fun b o e _=>e) (fun b o e=>⟨o,e⟩) (.inl h1))
 refine aO (gY he hd h1 ?_)
 rw[c8 (show(cp T != eF)=ae from by simp)]
 have hsz:=(fH.mp h3).1
 refine Eo hT Zl hsz (k _ (fun b o e hb=>?_) (fun b o e=>?_) (.inr ⟨T,_,_,fr.elim .none fun f=>j4 f,h1,dO _ hT (qm (oA Zl _)),oA Zl _,?_,hTa,hnT⟩))
 ·rw[cq _ _ (fun q=>hb (by rw[<-q];exact h1))]
  exact e
 ·by_cases hbT:b=T
  ·rw[hbT]
   exact⟨_,dO _ hT (qm (oA Zl _))⟩
  rw[cq _ _ (de hbT)]
  exact⟨o,e⟩
 simp[hsz]
end
end XL
end
section
namespace XL
open PySem PySem.Spec PyProof.Rows L2
def D8(a C:Addr)(d:Option Addr):HO:=.ext fun h=>∃vs sl,h.get? a=aa ⟨.ref C,d,.fields vs,sl⟩/\1<vs.size
def lN(a C:Addr)(d:Option Addr):HO:=.ext fun h=>∃vs sl,h.get? a=aa ⟨.ref C,d,.fields vs,sl⟩/\1<vs.size/\vs[1]?=aa .none
def Cq(dx:Addr)(fs:aq):HO:=.ext fun h=>fs.length<=1000/\∃mA,h.Ns1 dx mA/\(∀f,qV (fs.lookup f) (mA f))/\oR mA (fs.map (·.1))
section
variable{P:b7}{w:cU}{H:Hp}{h:Heap}{a C:Addr}{d:Option Addr}{fs:aq}
theorem Xt{sl:Array (Option aY)}(e:h.get? a=aa ⟨.ref C,d,.fields vs,sl⟩)(z:1<vs.size):ja P w H h a (D8 a C d):=
 ⟨⟨vs,sl,e,z⟩,⟨_,e⟩,fun h1 h2 ⟨vs,sl,e,z⟩ k=>⟨vs,sl,k _ e,z⟩⟩
theorem LY{sl:Array (Option aY)}(e:h.get? a=aa ⟨.ref C,d,.fields vs,sl⟩)(z:1<vs.size)(n:vs[1]?=aa .none):ja P w H h a (lN a C d):=
 ⟨⟨vs,sl,e,z,n⟩,⟨_,e⟩,fun h1 h2 ⟨vs,sl,e,z,n⟩ k=>⟨vs,sl,k _ e,z,n⟩⟩
theorem Xu{mA:aj}(e:h.Ns1 a mA)(r:∀f,qV (fs.lookup f) (mA f))(wi:oR mA (fs.map (·.1)))(z:fs.length<=1000):ja P w H h a (Cq a fs):=
 ⟨⟨z,mA,e,r,wi⟩,let⟨o,_,_,q,_⟩:=e;⟨o,q⟩,fun h1 h2 ⟨z,mA,e,r,wi⟩ k=>⟨z,mA,e.at k,r,wi⟩⟩
theorem Iv(gd:yo P w H h)(e:H a=aa (D8 a C d)):∃vs sl,h.get? a=aa ⟨.ref C,d,.fields vs,sl⟩/\1<vs.size:=(show ja P w H h a (D8 a C d)from gd a _ e).1
theorem Gh(gd:yo P w H h)(e:H a=aa (lN a C d)):∃vs sl,h.get? a=aa ⟨.ref C,d,.fields vs,sl⟩/\1<vs.size/\vs[1]?=aa .none:=(show ja P w H h a (lN a C d)from gd a _ e).1
theorem Yu(gd:yo P w H h)(e:H a=aa (Cq a fs)):fs.length<=1000/\∃mA,h.Ns1 a mA/\(∀f,qV (fs.lookup f) (mA f))/\oR mA (fs.map (·.1)):=(show ja P w H h a (Cq a fs)from gd a _ e).1
end
structure Bd(X:Cx):Prop where
 QQ:X.stack=X.env::X.outer
 fr:X.env.frame=aa X.env.locals
def nbs(n:Nat)(p:Addr×Obj):Nat:=if n<=p.1 then Nat.succ p.1 else n
def nb(X:Cx):Nat:=X.pn.foldl nbs X.DC.heap.objs.size
theorem adw(n:Nat)(p:Addr×Obj):n<=nbs n p/\Nat.lt p.1 (nbs n p)/\∀m:Nat,n<=m->Nat.lt p.1 m->nbs n p<=m:=by
 unfold nbs;by_cases h:n<=p.1
 ·rw[c8 h];exact⟨Nat.le_succ_of_le h,eN _,fun m _ h2=>h2⟩
 rw[cP h];exact⟨bu _,Nat.lt_of_not_le h,fun m h1 _=>h1⟩
theorem B4:∀(l:ah)(n:Nat),n<=l.foldl nbs n/\(∀p∈l,Nat.lt p.1 (l.foldl nbs n))/\∀m:Nat,n<=m->(∀p∈l,Nat.lt p.1 m)->l.foldl nbs n<=m
 |[],n=>⟨bu _,fun p hp=>(nomatch hp),fun m hm _=>hm⟩
 |q::r,n=>by
  have ih:=B4 r (nbs n q);obtain⟨k1,k2,k3⟩:=adw n q;rw[nO];refine⟨cQ k1 ih.1,fun p hp=>?_,fun m hm hp=>?_⟩
  ·rcases bP.mp hp with e|e
   ·rw[e];exact bI k2 ih.1
   exact ih.2.1 p e
  exact ih.2.2 m (k3 m hm (hp q (bM ..))) fun p hq=>hp p (bC _ hq)
theorem Tw(X:Cx):X.DC.heap.objs.size<=nb X:=(B4 X.pn X.DC.heap.objs.size).1
theorem XC{X:Cx}{p:Addr×Obj}(h:p∈X.pn):p.1<nb X:=(B4 X.pn X.DC.heap.objs.size).2.1 p h
theorem abP{σ:L2.St}{H:Hp}(I:Inv X pins σ H s):nb X<=s.heap.objs.size:=
 (B4 X.pn X.DC.heap.objs.size).2.2 _ I.sz fun p hp=>bF (I.pin p (fI _ hp)).1
inductive Trk(n:Nat)(H:Hp)(h:Heap)(a:Addr):Prop
 |mk (oe:_) (vs:_) (_:h.get? a=aa oe) (_:oe.data=.fields vs) (_:1<vs.size) (_:Tr h a n vs[1]?) (_:∀T,vs[1]?=aa (.ref T)->H T=ab)
theorem Trk.mono{n m:Nat}{H:Hp}(t:Trk n H h a)(hm:m<=n):Trk m H h a:=by
 obtain⟨oe,vs,h1,h2,h3,h4,h5⟩:=t;refine⟨oe,vs,h1,h2,h3,?_,h5⟩;rcases h4 with e|⟨T,oT,ts,z,e1,e2,e3,e4,e5,e6⟩
 ·exact .inl e
 exact .inr ⟨T,oT,ts,z,e1,e2,e3,e4,e5,cQ hm e6⟩
structure YX(X:Cx)(a:Addr)(H:Hp)(s:bf):Prop where
 inv:∃σ,Inv X [] σ H s
 exc:∃C d,H a=aa (D8 a C d)
 trk:Trk (nb X) H s.heap a
def YW(X:Cx)(E:XK):ar:=fun e s=>∃a H,e=.ref a/\YX X a H s/\E (.ref a) ab H
abbrev Pp(X:Cx)(E:XK):Cx:=X.tH (YW X E)
section
variable{X:Cx}{σ:L2.St}{H:Hp}{s:bf}{a C:Addr}{d:Option Addr}{h':Heap}
theorem KJ{v:Option aY}{t':Nat}(B:Bd X)(I:Inv X [] σ H s)(hx:H a=aa (D8 a C d))(N:ab7 (RJ X.stack) a v s.heap h')
 (hT:∀T,v=aa (.ref T)->H T=ab/\nb X<=T/\∃oT ts,s.heap.get? T=aa oT/\oT.data=.fields ts)
 (ha:∃vs sl,h'.get? a=aa ⟨.ref C,d,.fields vs,sl⟩/\1<vs.size):Inv X [] σ H {s with heap:=h',toks:=t'}:=by
 obtain⟨ch,Vb⟩:∃ch:ag,∀b,b∈ch↔v=aa (.ref b):=by
  match v with
  |some (.ref T)=>exact⟨[T],fun b=>by simp[eq_comm]⟩
  |none=>exact⟨[],fun b=>by simp⟩
  |some .none=>exact⟨[],fun b=>by simp⟩
  |some .ellipsis=>exact⟨[],fun b=>by simp⟩
  |some .notImplemented=>exact⟨[],fun b=>by simp⟩
  |some (.bool _)=>exact⟨[],fun b=>by simp⟩
  |some (.int _ _)=>exact⟨[],fun b=>by simp⟩
  |some (.float _ _)=>exact⟨[],fun b=>by simp⟩
  |some (.str _ _)=>exact⟨[],fun b=>by simp⟩
  |some (.bytes _ _)=>exact⟨[],fun b=>by simp⟩
  |some (.type _)=>exact⟨[],fun b=>by simp⟩
  |some (.builtin _)=>exact⟨[],fun b=>by simp⟩
 have na:∀b,H b=ab->b≠a:=fun b e q=>by rw[q,hx]at e;cases e
 have nv:∀b,b∉ch->v≠aa (.ref b):=fun b hb q=>hb ((Vb b).mpr q)
 refine I.call (ch:=ch) (g':=s.gens) (d':=s.drawn) ⟨fun b o e n hf hc=>N.keep b o e (na b n) (nv b hc) hf,fun b o e n hf hc=>N.slot b o e (na b n) (nv b hc),fun _ _ _ n _=>n,fun b o e _=>N.there b o e,
  fun _ _ q=>q,fun _ _ _ q=>q,fun _ ps q=>⟨#[],by rw[q];simp⟩⟩ (fun b o e=>?_) I.bare (fun b hb=>?_)
 ·by_cases hb:b=a
  ·subst hb
   rw[hx]at e
   cases e
   obtain⟨vs,sl,q,z⟩:=ha
   exact Xt q z
  refine(I.gd b o e).tJ (fun c u hc q=>?_) (fun _ q=>q) fun _ _ q=>q
  have tk:∃u,H c=aa u:=by
   rcases hc with z|z
   ·rw[z];exact⟨_,e⟩
   exact⟨_,z⟩
  obtain⟨u',tk⟩:=tk
  have ca:c≠a:=by
   rcases hc with z|z
   ·rw[z];exact hb
   intro q2;rw[q2,hx]at z;cases z
  refine N.keep c u q ca (fun q2=>?_) (fun q2=>?_)
  ·rw[(hT c q2).1]at tk
   cases tk
  rw[I.Lo c q2]at tk
  cases tk
 have q:=(Vb b).mp hb
 obtain⟨q1,q2,oT,ts,q3,q4⟩:=hT b q
 refine⟨.inr (cQ (Tw X) q2),fun z=>?_,fun x c e z=>?_,fun p hp=>?_⟩
 ·obtain⟨m,⟨o',es,ep,ET,hd',_⟩,_⟩:=I.loc
  rw[z,ET]at q3
  cases q3
  rw[hd']at q4
  cases q4
 ·obtain⟨y,o',ET,hd'⟩:=I.cell x c e
  rw[z,q3]at ET
  cases ET
  rw[hd']at q4
  cases q4
 rw[ck]at hp
 exact cg (bI (XC hp) q2)
end
section
variable{X:Cx}{σ:L2.St}{H:Hp}{s:bf}{a:Addr}{A:cX}{E:ar}
inductive Ent(h:Heap)(a:Addr):Prop
 |mk (oe:_) (vs:_) (T:_) (_:h.get? a=aa oe) (_:oe.data=.fields vs) (_:vs[1]?=aa (.ref T))
theorem Xy{Q:Unit->bf->Prop}(B:Bd X)(hA:A.frames=aa X.stack)(F:YX X a H s)(k:∀s',YX X a H s'->Ent s'.heap a->Q () s'):
 bL (bJ X.prog X.w) A (VV (.ref a) X.env) Q E s:=by
 obtain⟨⟨σ,I⟩,⟨C,d,hx⟩,oe,vs,e1,e2,e3,e4,e5⟩:=F
 have KL:s.heap.FunFrames X.base (X.env::X.outer):=by
  rw[<-B.QQ];exact I.stack
 refine Xx (n:=nb X) (by rw[hA,B.QQ]) KL B.fr e1 e2 e3 e4 (abP I) fun h' T N hh hT=>?_
 obtain⟨vs0,sl0,q0,z0⟩:=Iv I.gd hx
 rw[e1]at q0
 cases q0
 cases e2
 obtain⟨vs',oT,ts,z,a1,a2,a3,a4,a5,a6,a7,a8⟩:=hh
 have I':Inv X [] σ H {s with heap:=h'}:=KJ (t':=s.toks) (v:=vs[1]?) B I hx (by unfold RJ;rw[B.QQ];exact N) (fun T' VT=>by
  rcases e4 with q|⟨T1,oT1,ts1,z1,q1,q2,q3,q4,q5,q6⟩
  ·rw[q]at VT;cases VT
  rw[q1]at VT;cases VT;exact⟨e5 _ q1,q6,oT1,ts1,q2,q3⟩) ⟨vs',_,a1,a2⟩
 refine k _ ⟨⟨σ,I'⟩,⟨C,d,hx⟩,_,vs',a1,rfl,a2,.inr ⟨T,oT,ts,z,a3,a4,a5,a6,a7,a8⟩,fun T' VT=>?_⟩ ⟨_,vs',T,a1,rfl,a3⟩
 rw[a3]at VT
 cases VT
 rcases hT with q|q
 ·exact I.gd.fresh q
 exact e5 _ q
theorem yT{fr:Option Addr}{Q:Unit->bf->Prop}(B:Bd X)(F:YX X a H s)(k:∀s',YX X a H s'->(Ent s.heap a->Ent s'.heap a)->Q () s'):
 bL (bJ X.prog X.w) A (VU (.ref a) fr) Q E s:=by
 obtain⟨⟨σ,I⟩,⟨C,d,hx⟩,oe,vs,e1,e2,e3,e4,e5⟩:=F
 refine RK (n:=nb X) e1 e2 e4 fun h' k1 k2 k3=>?_
 obtain⟨vs0,sl0,q0,z0⟩:=Iv I.gd hx
 rw[e1]at q0
 cases q0
 cases e2
 have na:vs[1]?≠aa (.ref a):=fun q=>by
  rw[e5 _ q]at hx;cases hx
 have a1:=k1 a _ e1 na
 have I':Inv X [] σ H {s with heap:=h'}:=KJ (t':=s.toks) (v:=vs[1]?) B I hx ⟨fun b o e _ hb _=>k1 b o e hb,fun b o e _ hb=>⟨o.slots,k1 b o e hb⟩,k2⟩ (fun T' VT=>by
  rcases e4 with q|⟨T1,oT1,ts1,z1,q1,q2,q3,q4,q5,q6⟩
  ·rw[q]at VT;cases VT
  rw[q1]at VT;cases VT;exact⟨e5 _ q1,q6,oT1,ts1,q2,q3⟩) ⟨vs,_,a1,e3⟩
 refine k _ ⟨⟨σ,I'⟩,⟨C,d,hx⟩,_,vs,a1,rfl,e3,k3,e5⟩ fun⟨oe,ws,T,q1,q2,q3⟩=>?_
 rw[e1]at q1
 cases q1
 cases q2
 exact⟨_,vs,T,a1,rfl,q3⟩
theorem ahb{Ek:XK}(B:Bd X)(F:YX X a H s)(n:Ent s.heap a)(q:Ek (.ref a) ab H):cameBackBy (bJ X.prog X.w) A X.env (YW X Ek) (.ref a) s:=by
 obtain⟨oe,vs,T,e1,e2,e3⟩:=n;unfold cameBackBy;refine aO (gY e1 e2 e3 ?_);rw[cP (show¬(cp T==eF)=ae from by simp)];exact yT B F fun s' F' _=>⟨a,H,rfl,F',q⟩
end
def k4(P:b7)(w:cU):Qn:=fun outer H s E e s'=>∃a H',e=.ref a/\s'.os=s.os/\E7 s'.gens/\Un (RJ outer) [] H H' s.heap s'.heap/\yo P w H' s'.heap/\
 (∃C d,H' a=aa (D8 a C d))/\Trk s.heap.objs.size H' s'.heap a/\E (.ref a) ab H'
theorem LO{X:Cx}{E:XK}(B:Bd X):Passes (k4 X.prog X.w) (Pp X E) E:=fun pins σ H s e s' I h=>by
 obtain⟨a,H',q1,q2,q3,q4,q5,q6,q7,q8⟩:=h;have I0:Inv X pins σ H s:=I.o7;have I1:Inv X [] σ H s:=I0.BB fun p hp=>absurd hp (by simp);have I2:Inv X [] σ H' s':=I1.ab3 (ch:=[]) q2 q4 q5 q3 fun b hb=>absurd hb (by simp);exact⟨a,H',q1,⟨⟨σ,I2⟩,q6,q7.mono (abP I0)⟩,q8⟩
section
variable{P:b7}{w:cU}{K:aX}{mg:aj}{base:Heap}
abbrev bx(P:b7)(w:cU)(K:aX)(mg:aj)(base:Heap)(N:ak)(qual:Str)(st:Stmt)(f:Addr)(fA:aY)(A:cX)(outer:List Env)(s:bf)(H:Hp)(E:XK):Cx:=
 MQ (k4 P w) P w K mg base N qual (bA st) f fA A outer s H E
theorem kZ{N:ak}{st:Stmt}{f:Addr}{A:cX}{outer:List Env}{H:Hp}{E:XK}:Bd (bx P w K mg base N qual st f fA A outer s H E):=⟨rfl,rfl⟩
theorem leaveX{N:ak}{st:Stmt}{f:Addr}{A:cX}{outer:List Env}{H:Hp}{E:XK}{e:aY}
 (h:YW (bx P w K mg base N qual st f fA A outer s H E) E e s'):(bx P w K mg base N qual st f fA A outer s H E).xe e s':=by
 obtain⟨a,H',q,F,z⟩:=h
 subst q
 obtain⟨⟨σ,I⟩,_⟩:=id F
 show bL _ _ (leaving _ _) _ _ _
 unfold leaving
 refine aO (Xy (X:=bx P w K mg base N qual st f fA A outer s H E) kZ I.ok.frames F fun s2 F2 n2=>yT (X:=bx P w K mg base N qual st f fA A outer s H E) kZ F2 fun s3 F3 _=>?_)
 obtain⟨⟨σ3,I3⟩,x3,t3⟩:=F3
 exact⟨a,H',rfl,I3.os,I3.bare,I3.base,I3.gd,x3,t3,z⟩
theorem DT{st:Stmt}{f:Addr}{N:ak}{k:Nat}{sp:Sp}(F:iF K x qual st f fd)(S:bU N ps (bA st))
 (Ig:∀(fA:aY)(A:cX)(outer:List Env)(s:bf)(H:Hp)(vs:ao)(Q:VK)(E:XK),gG k (A.deeper (AW qual (bA st) s.heap.objs.size f fA))->sp vs H Q E->
  ∃t,Nm (Pp (bx P w K mg base N qual st f fA A outer s H E) E) (jW st) t/\t {nx:=fun _ H'=>Q .j5 H',rt:=Q} (start N vs) H)(len:∀vs H Q E,sp vs H Q E->vs.length=ps.length:=by intro _ _ _ _ h;cases h;first|(subst_vars;rfl)|(rename_i h;cases h.1;rfl)):dv P w K mg base (k4 P w) (k+1) f fd ps sp:=by
 obtain⟨oc,od,kV,doc,pm,an,fA,ct,Xq,rfl,lk,NN⟩:=F.ex
 refine Ym lk NN S len fun A outer s H vs Q E hr VS=>?_
 obtain⟨t,h,q⟩:=Ig fA A outer s H vs Q E hr VS
 exact⟨t,fun pins s1 σ H1 D I hw=>eD (h pins s1 σ H1 D (I.tH _) hw) (fun _ _ q=>q.o7) fun _ _ z=>leaveX z,q⟩
end
structure XF(K:aX)(C:Addr):Prop where
 sa:f7 K (.ref C) "__setattr__"=aa (aa (.builtin "object.__setattr__"))
 ga:f7 K (.ref C) "__getattribute__"=aa (aa (.builtin "BaseException.__getattribute__"))
 gt:f7 K (.ref C) "__getattr__"=aa ab
 hd:oy K C=ae
 kp:je K (.ref C)=ae
theorem N2{K:aX}{f:Addr}(e:pZ K C f=ae):XF K C:=by
 unfold pZ at e;split at e
 ·rename_i oc od cd sl ho;simp only[cK,vb,beq_iff_eq]at e;obtain⟨⟨⟨⟨⟨⟨⟨⟨⟨⟨⟨⟨⟨⟨⟨⟨⟨⟨⟨⟨e1,e2⟩,e3⟩,e4⟩,e5⟩,e6⟩,e7⟩,e8⟩,e9⟩,e10⟩,e20⟩,e21⟩,e11⟩,e12⟩,e13⟩,e14⟩,e15⟩,e16⟩,e17⟩,e18⟩,e19⟩:=e;refine⟨e17,e18,e19,?_,e16⟩;unfold oy PySem.W.clsIn;rw[ho];exact e10
 cases e
def Al(C:Addr)(sp:Sp)(t:TA):TE:=fun σ H Q=>t σ H fun vs H1=>vs.length<=bz/\∀a,H1 a=ab->sp (.ref a::vs) (upd H1 a (lN a C ab)) (fun v H2=>v=.j5/\Q (.ref a) H2) E0
section
variable{X:Cx}{k:Nat}{f C:Addr}{fd:gx}{ps:ak}{sp:Sp}{x m:Str}{p pos apos:Pos}{e o:Expr}{es:List Expr}{ta:TE}{t:TA}
theorem X2{σ:L2.St}{H:Hp}(us:au)(I:Inv X pins σ H s):
 Inv X pins σ (upd H (s.heap.objs.size+1) (lN (s.heap.objs.size+1) C ab)) {s with heap:=(s.heap.push (kq us)).push (pP C s.heap.objs.size)}:=by
 have I1:=I.kept (h':=s.heap.push (kq us)) (t':=s.toks) fun b u q=>a9 _ q
 have e2:((s.heap.push (kq us)).push (pP C s.heap.objs.size)).get? (s.heap.objs.size+1)=aa (pP C s.heap.objs.size):=by
  have:=bH (s.heap.push (kq us)) (o:=pP C s.heap.objs.size) rfl;rwa [dz]at this
 exact I1.laid (a:=s.heap.objs.size+1) (t':=s.toks) (fun b u q=>a9 _ q) (kX (dz _ _)) (LY e2 (by show 1<6;decide) rfl)
theorem Ks{σ:L2.St}{H:Hp}{Q:VK}(M:pZ X.K C f=ae)(F:dv X.prog X.w X.K X.mg X.base eJ k f fd ps sp)(hr:gG (k+1) X.A)(hb:Binds X.K fd ps [])
 (I:Inv X pins σ H s)(r:Vals vs us)(hz:vs.length<=bz)
 (h:∀a,H a=ab->sp (.ref a::vs) (upd H a (lN a C ab)) (fun v H2=>v=.j5/\Q (.ref a) H2) E0):
 bL (bJ X.prog X.w) X.A (call (.ref C) us) (EP X pins σ Q) X.xe s:=by
 have hq:=h (s.heap.objs.size+1) (I.gd.fresh (qY _))
 have I2:=X2 (C:=C) us I
 have r2:Vals (V.ref (s.heap.objs.size+1)::vs) (cp (s.heap.objs.size+1)::us):=.cons rfl r
 have hl:(cp (s.heap.objs.size+1)::us++[]).length=ps.length:=by
  have e:=r2.length;rw[F.len _ _ _ _ hq]at e;rw[ck];exact e.symm
 have Ih:=hb _ (cp (s.heap.objs.size+1)::us) I2.wN hl
 rw[ck]at Ih
 obtain⟨hp,g,d,tk,os⟩:=s
 refine m5 (ahc (mkX I.wN M) (by rw[<-r.length];exact hz) (iS (F.run _ X.stack _ _ ⟨cp (hp.objs.size+1)::us,[]⟩ (cp (hp.objs.size+1)::us) _ _ E0 (hr.make C us [])
  (I2.aet.make C us []) Ih r2 hq) fun r s' X7=>?_))
 cases r with
 |error e=>exact(show False from X7).elim
 |ok fl=>
  cases fl with
  |ret u=>
   obtain⟨v,H',I3,rv,ev,q3⟩:=I2.after X7
   subst ev
   exact⟨rv,⟨V.ref (hp.objs.size+1),H',I3,rfl,q3⟩⟩
  |next=>exact fq X7
  |brk=>exact fq X7
  |cont=>exact fq X7
theorem Xl(M:pZ X.K C f=ae)(F:dv X.prog X.w X.K X.mg X.base eJ k f fd ps sp)(hr:gG (k+1) X.A)(hg:Gl X x)(hm:X.mg x=aa (.ref C))(hb:Binds X.K fd ps [])
 (ha:PA X (e::es) t)(AE:(x==("__debug__":Str))=af:=by decide)(he:bW (e::es) X.env=(af,eval e X.env)::bW es X.env:=by rfl)(yR:(gz pos (bW es X.env)).any (·.1)=af:=by rfl):
 PE X (.Call (.Name x p) (e::es) [] pos) (Al C sp t):=by
 intro pins s σ H Q I h
 refine fe (sZ I hg hm ?_ AE)
 refine nu (h₀:=X.base) I.ok.mod.kin (N2 M).kp (ib (ha pos pins s σ H _ I h) fun us s1 ⟨vs,H1,I1,r,q1,q⟩=>⟨I1.wN,?_⟩) he yR
 exact Ks M F hr hb I1 r q1 q
theorem UO(M:pZ X.K C f=ae)(F:dv X.prog X.w X.K X.mg X.base eJ k f fd ps sp)(hr:gG (k+1) X.A)(hg:Gl X x)(hm:X.mg x=aa (.ref C))(hb:Binds X.K fd ps [])
 (AE:(x==("__debug__":Str))=af:=by decide):PE X (.Call (.Name x p) [] [] pos) (Al C sp Dp):=by
 intro pins s σ H Q I h
 refine fe (sZ I hg hm ?_ AE)
 exact zF I.wN (N2 M).kp (Ks (us:=[]) M F hr hb I .nil h.1 h.2)
end
end XL
end
section
namespace XL
open PySem PySem.Spec PyProof.Rows L2
open PySem.W (Looks)
def Lk(K:aX)(E:XK)(te:TE):TS:=fun D σ H=>te σ H fun x H1=>∃a C f d,x=.ref a/\H1 a=aa (lN a C d)/\pZ K C f=ae/\E (.ref a) ab (upd H1 a (D8 a C d))
section
variable{prog:b7}{w:cU}{A:cX}{E:ar}{s:bf}{a C f:Addr}
theorem UI{env:Env}{x:Sem aY}{Q:Flow->bf->Prop}(hh:A.handled=ab)
 (h:bL (bJ prog w) A x (fun v s1=>∃a C f d vs sl,v=.ref a/\Zr (bJ prog w) s1.heap C f/\s1.heap.get? a=aa ⟨.ref C,d,.fields vs,sl⟩/\vs[1]?=aa .none/\E (.ref a) s1) E s):
 bL (bJ prog w) A (raiseStmt env (aa x) ab) Q E s:=by
 unfold raiseStmt
 refine aO (eD h (fun v s1 h1=>?_) fun _ _ z=>z)
 obtain⟨a,C,f,d,vs,sl,rfl,Y,ha,hn,hE⟩:=h1
 obtain⟨hp,g,dr,tk,os⟩:=s1
 have t1:Looks (bJ prog w) hp (Nt (.ref a)) (.ref C):=(nJ ha).andThen .now
 have t2:=Y.ty
 have t3:=Y.YG
 have t4:Looks (bJ prog w) hp (isType (.ref a)) af:=(nJ (part:=aa headPart) ha).andThen .now
 have t5:Looks (bJ prog w) hp (isExcClass (.ref a)) af:=t4.andThen .now
 have t6:Looks (bJ prog w) hp (wc (.ref a) (.type "BaseException")) ae:=t1.andThen t3
 have t7:∀c,Looks (bJ prog w) hp (excFromValue (.ref a) c) (.ref a):=fun c=>t5.andThen (t6.andThen .now)
 have t8:Looks (bJ prog w) hp (raisedInstance (.ref a)) (.ref a):=t1.andThen (t2.andThen .now)
 refine aO (bg (aO (d7 ((t7 _).at ?_))))
 refine aO (t4.at ?_)
 refine aO (t8.at (aO ?_))
 unfold VU
 refine aO (gY ha rfl hn ?_)
 exact bg (wpAny_raiseNew_none hh hE)
end
section
variable{X:Cx}{E:XK}{e:Expr}{te:TE}{pos:Pos}
theorem kF(B:Bd X)(hc:X.calm=ae)(he:PE (Pp X E) e te):PS (Pp X E) (.Raise (aa e) ab pos) (Lk X.K E te):=by
 intro pins s σ H D I h;rw[arm_exec_Raise];refine aO (lO ?_);refine UI (I.ok.hd hc) (aO (ib (he pins s σ H _ I h) fun u s1 ⟨x,H1,I1,rx,a,C,f,d,ex,ea,m,q⟩=>aO (lO (bg ?_))));subst ex;obtain rfl:u=cp a:=rx;obtain⟨vs,sl,q1,q2,q3⟩:=Gh I1.gd ea;refine⟨a,C,f,d,vs,sl,rfl,mkX I1.wN m,q1,q3,a,_,rfl,⟨⟨σ,?_⟩,⟨C,d,ba⟩,_,vs,q1,rfl,q2,.inl q3,fun T hT=>?_⟩,q⟩
 ·have I2:Inv X [] σ H1 s1:=I1.o7.BB fun p hp=>absurd hp (by simp);exact I2.write (x:=a) (e:=a) (h':=s1.heap) (t':=s1.toks) (by rw[ea];exact ju) (.inl rfl) (fun b u _ z=>z) ⟨_,q1⟩ (Xt q1 q2)
 rw[q3]at hT;cases hT
end
inductive acP(K:aX)(n:Str)(Q:VK)(x:V)(H1:Hp):Prop
 |mk (a:_) (C:_) (f:_) (dx:_) (fs:_) (v:_) (_:x=.ref a) (_:H1 a=aa (D8 a C (aa dx))) (_:H1 dx=aa (Cq dx fs)) (_:pZ K C f=ae) (_:eQ K C n) (_:fs.lookup n=aa v) (_:Q v H1)
def SQ(K:aX)(ta:TE)(n:Str):TE:=fun σ H Q=>ta σ H fun x H1=>acP K n Q x H1
inductive ZZ(K:aX)(n:Str)(D:L2.Ends)(σ:L2.St)(y:V)(x:V)(H2:Hp):Prop
 |mk (a:_) (C:_) (f:_) (_:x=.ref a) (_:H2 a=aa (lN a C ab)) (_:pZ K C f=ae) (_:eQ K C n) (_:∀dx,H2 dx=ab->D.nx σ (upd (upd H2 dx (Cq dx [(n,y)])) a (lN a C (aa dx))))
def ac2(K:aX)(ta tv:TE)(n:Str):TS:=fun D σ H=>tv σ H fun y H1=>ta σ H1 fun x H2=>ZZ K n D σ y x H2
inductive ac1(K:aX)(n:Str)(D:L2.Ends)(σ:L2.St)(y:V)(x:V)(H2:Hp):Prop
 |mk (a:_) (C:_) (f:_) (dx:_) (fs:_) (_:x=.ref a) (_:H2 a=aa (lN a C (aa dx))) (_:H2 dx=aa (Cq dx fs)) (_:pZ K C f=ae) (_:eQ K C n) (_:fs.length<1000) (_:D.nx σ (upd H2 dx (Cq dx (rK n y fs))))
def afG(K:aX)(ta tv:TE)(n:Str):TS:=fun D σ H=>tv σ H fun y H1=>ta σ H1 fun x H2=>ac1 K n D σ y x H2
section
variable{X:Cx}{o e value:Expr}{n:Str}{pos pos' Li:Pos}{ta tv:TE}
theorem LN(he:PE X e ta)(hb:si e n X.env (eval e X.env)=eval e X.env):PE X (.Attribute e n pos) (SQ X.K ta n):=by
 intro pins s σ H Q I h;refine Ua hb (ib (he pins s σ H _ I h) fun u s1 ⟨x,H1,I1,rx,a,C,f,dx,fs,v,ex,ea,ed,m,hn,l,q⟩=>?_);subst ex;obtain rfl:u=cp a:=rx;obtain⟨vs,sl,q1,q2⟩:=Iv I1.gd ea;obtain⟨q3,mA,q4,q5,q6⟩:=Yu I1.gd ed;obtain⟨u,hu,ru⟩:=qV.some_of (v:=v) (o:=mA n) (by rw[<-l];exact q5 n);have F:=N2 m;exact akh I1.wN (mkX I1.wN m) q1 q4 F.hd F.ga F.gt hn hu (KQ ru) ⟨v,H1,I1.tok _,ru,q⟩
theorem Te(ha:PE X o ta)(hv:PE X value tv)(hs:pR value (aa (.Attribute o n pos')) pos.line X.env=pure af):PS X (.Assign [.Attribute o n pos'] value pos) (afG X.K ta tv n):=by
 intro pins s σ H D I h;refine qW (ib (hv pins s σ H _ I h) fun u s1 ⟨y,H1,I1,ry,q⟩=>ib (ha pins s1 σ H1 _ I1 q) fun ov s2 ⟨x,H2,I2,rx,a,C,f,dx,fs,ex,ea,ed,m,hn,l,q2⟩=>?_) hs;subst ex;obtain rfl:ov=cp a:=rx;obtain⟨vs,sl,q1,_,_⟩:=Gh I2.gd ea;obtain⟨q3,mA,q4,q5,q6⟩:=Yu I2.gd ed;refine WX (ns:=fs.map (·.1)) I2.wN (mkX I2.wN m) q1 q4 (N2 m).sa hn q6 (by rw[aV,bX];omega) fun h' n1 sb=>⟨σ,_,?_,q2⟩;have ho:∃o,h'.get? dx=aa o:=let⟨o,_,_,z,_⟩:=n1;⟨o,z⟩
 refine I2.write (x:=dx) (e:=dx) (by rw[ed];exact ju) (.inl rfl) (fun b q hb z=>(sb.2 b hb).trans z) ho (Xu n1 (fun g=>?_) (fun g hg=>?_) ?_)
 ·rw[xW];by_cases z:g=n
  ·rw[c8 z,c8 z];exact ry
  rw[cP z,cP z];exact q5 g
 ·by_cases z:g=n
  ·rw[z];exact(uO n y fs).1
  refine(uO n y fs).2 g (q6 g fun z2=>hg ?_);show(if g=n then aa u else mA g)=ab;rw[cP z];exact z2
 have:=xZ n y fs;omega
theorem Xa(ha:PE X o ta)(hv:PE X value tv)(hs:pR value (aa (.Attribute o n pos')) pos.line X.env=pure af):PS X (.Assign [.Attribute o n pos'] value pos) (ac2 X.K ta tv n):=by
 intro pins s σ H D I h;refine qW (ib (hv pins s σ H _ I h) fun u s1 ⟨y,H1,I1,ry,q⟩=>ib (ha pins s1 σ H1 _ I1 q) fun ov s2 ⟨x,H2,I2,rx,a,C,f,ex,ea,m,hn,q2⟩=>?_) hs;subst ex;obtain rfl:ov=cp a:=rx;obtain⟨vs,sl,q1,z1,z2⟩:=Gh I2.gd ea;have fr:=I2.gd.fresh (bu _);have na:s2.heap.objs.size≠a:=fun z=>by rw[z,ea]at fr;cases fr
 refine WY I2.wN (mkX I2.wN m) q1 (N2 m).sa hn fun h' g1 n1 k1=>⟨σ,_,?_,q2 _ fr⟩;have tkd:∀b u,H2 b=aa u->b≠s2.heap.objs.size:=fun b u z q=>by rw[q,fr]at z;cases z
 refine I2.un ⟨fun b o z nb _ _=>k1 b o (fun q=>by rw[q,ea]at nb;cases nb) z,fun b o z nb _ _=>⟨o.slots,k1 b o (fun q=>by rw[q,ea]at nb;cases nb) z⟩,fun b o z nb _=>?_,fun b o z _=>?_,
  fun b xs z=>?_,fun b o xs z=>?_,fun b ps z=>⟨#[],?_⟩⟩ fun b u z=>?_
 ·have b1:b≠a:=fun q=>by rw[q,ea]at nb;cases nb
  rw[bB b1,bB (cg (bF z))];exact nb
 ·by_cases b1:b=a
  ·rw[b1];exact⟨_,g1⟩
  exact⟨o,k1 b o b1 z⟩
 ·rw[bB (fun q=>by rw[q,ea]at z;cases z),bB (tkd b _ z)];exact z
 ·rw[bB (fun q=>by rw[q,ea]at z;cases z),bB (tkd b _ z)];exact z
 ·rw[bB (fun q=>by rw[q,ea]at z;cases z),bB (tkd b _ z),z];simp
 by_cases b1:b=a
 ·subst b1;rw[ba]at z;cases z;exact LY g1 z1 z2
 rw[bB b1]at z;by_cases b2:b=s2.heap.objs.size
 ·subst b2;rw[ba]at z;cases z;refine Xu n1 (fun g=>?_) (fun g hg=>?_) (by show 1<=1000;decide)
  ·by_cases q:g=n
   ·have hb:=beq_iff_eq.mpr q;simp only[ie,hb,c8 q];exact ry
   have hb:=beq_eq_false_iff_ne.mpr q;simp only[ie,hb,cP q];exact ju
  by_cases q:g=n
  ·rw[q];exact bT.mpr rfl
  exact absurd (cP q) hg
 rw[bB b2]at z;refine(I2.gd b u z).tJ (fun c v hc q=>k1 c v (fun qa=>?_) q) (fun c q=>?_) fun c xs q=>?_
 ·rcases hc with hc|hc
  ·exact b1 (hc.symm.trans qa)
  rw[qa,ea]at hc;cases hc
 ·rw[bB (fun qa=>by rw[qa,ea]at q;cases q),bB (tkd c _ q)];exact q
 rw[bB (fun qa=>by rw[qa,ea]at q;cases q),bB (tkd c _ q)];exact q
end
section
variable{prog:b7}{w:cU}{A:cX}{E:ar}{C f a:Addr}{R:Ew->bf->Prop}{h:Heap}{g:Array J6}{d:Drawn}{t:Nat}{os:OsState}
theorem agk{dd:Option Addr}{vs:Array aY}{sl:Array (Option aY)}(Y:Zr (bJ prog w) h C f)(ha:h.get? a=aa ⟨.ref C,dd,.fields vs,sl⟩)(hz:1<vs.size)
 (hq:R (.ok (.ret .none)) ⟨(h.push (kq [])).update a (jo (·.setIfInBounds 0 (.ref h.objs.size))),g,d,t,os⟩):
 jx (bJ prog w) A (.call (.builtin "Exception.__init__") ⟨[.ref a],[]⟩) R ⟨h,g,d,t,os⟩:=by
 have F:=Jd
 have agu:=F.noStar
 have t1:Looks (bJ prog w) h (Nt (.ref a)) (.ref C):=(nJ ha).andThen .now
 have t2:Looks (bJ prog w) h (wc (.ref a) (.type "Exception")) ae:=t1.andThen Y.exc
 obtain⟨v0,h0⟩:∃v0,vs[0]?=aa v0:=⟨_,Array.getElem?_eq_getElem (by omega)⟩
 refine j8 F.init.plain F.initEntry ?_
 simp only[zC,F.initKind,F.initSplit,F.initRow]
 refine aO (t2.at ?_)
 rw[cP (by decide)]
 obtain⟨oc,od,cd,slc,hC,e1,e4,e5,e6⟩:=Y.obj
 show bL _ _ (Bind.checkArgs _ _ _) _ _ _
 unfold Bind.checkArgs
 repeat (first|(with_reducible refine wpAny_loadPart_at ha ?_)|(with_reducible refine wpAny_loadPart_at hC ?_)|wp_step)
 rw[h0]
 have ha2:(h.push (kq [])).get? a=aa ⟨.ref C,dd,.fields vs,sl⟩:=a9 _ ha
 refine bg (aO (Eo ha2 rfl (by omega) ?_))
 have fin:∀v:aY,bL (bJ prog w) A.in1 (match v with|cp a=>letGo [v]|x=>pure ()) (fun _ s'=>bL (bJ prog w) A.in1 (ret eF)
  (fun fin s'=>match fin with|Fin.done f=>R (lR f) s'|Fin.again c'=>c'.quiet=ae/\jx (bJ prog w) A c' R s') (fun e s'=>R (Di e) s') s') (fun e s'=>R (Di e) s')
  ⟨(h.push (kq [])).update a (jo (·.setIfInBounds 0 (.ref h.objs.size))),g,d,t,os⟩:=fun v=>by
  cases v with
  |ref b=>exact wpAny_letGo (bg hq)
  |_=>exact bg (bg hq)
 exact fin v0
end
def acO(K:aX)(t:TE):TE:=fun σ H Q=>t σ H fun x H1=>∃a C f d,x=.ref a/\H1 a=aa (lN a C d)/\pZ K C f=ae/\Q .j5 H1
theorem aeq(K:aX):wG K (.type "Exception") (.type "type") "__init__"=aa (.val (.builtin "Exception.__init__")):=by kernel_rfl
theorem acC:Nt (.type "Exception")=pure (.type "type"):=by kernel_rfl
theorem acU:Manifest.isStub "Exception"=af:=by kernel_rfl
theorem aeD:ij "Exception"=aa (.type "Exception"):=by kernel_rfl
section
variable{X:Cx}{k:Nat}{f C:Addr}{fd:gx}{ps:ak}{sp:Sp}{x m:Str}{p pos apos:Pos}{e o:Expr}{es:List Expr}{ta te:TE}{t:TA}
theorem Q7{pl:Sem Bool}(hg:Gl X "Exception")(hm:X.mg "Exception"=ab)(he:PE X e te)
 (KL:bW [e] X.env=(af,eval e X.env)::bW [] X.env:=by rfl)(yR:(gz pos (bW [] X.env)).any (·.1)=af:=by rfl)
 (ht:eval (.Call (.Attribute (.Name "Exception" p) "__init__" apos) [e] [] pos) X.env=(do
  let ov<-eval (.Name "Exception" p) X.env
  se apos.atName
  let(f,first)<-qG [ov] (pU ov "__init__" pl)
  sQ pos f first (gz pos (bW [e] X.env)) (wg pos (m6 [] X.env))):=by rfl):
 PE X (.Call (.Attribute (.Name "Exception" p) "__init__" apos) [e] [] pos) (acO X.K te):=by
 intro pins s σ H Q I h
 have hn:PE X (.Name "Exception" p) (tC (.ty "Exception")):=aad hg hm aeD rfl
 refine oZ (pl:=pl) (ib (hn pins s σ H (fun v H'=>v=.ty "Exception"/\H'=H) I ⟨rfl,rfl⟩) fun u s1 ⟨y,H1,I1,rx,ey,eH⟩=>?_) ht
 subst ey eH
 obtain rfl:u=iT "Exception":=rx
 obtain⟨mF,FR⟩:=I1.fr
 refine PySem.W.method_type FR I1.ok.mod.kin acC acU (aeq _) rfl ?_
 have I2:Inv X pins σ H1 {s1 with toks:=s1.toks+1}:=I1.tok _
 have Ml:bL (bJ X.prog X.w) X.A (EZ (gz pos (bW [e] X.env))) (AP X pins σ (fun vs H2=>match vs with|[x]=>∃a C f d,x=.ref a/\H2 a=aa (lN a C d)/\pZ X.K C f=ae/\Q .j5 H2|_=>False)) X.xe {s1 with toks:=s1.toks+1}:=
  (aP he bq KL) pos pins _ σ H1 _ I2 h
 rw[KL]at Ml⊢
 refine PySem.W.callWith_of (P:=fun _=>True) (by show((af||(gz pos (bW [] X.env)).any (·.1))||af)=af;rw[yR];rfl) (fun _ _=>⟨.machine,.inr (.inl rfl),Gq rfl⟩) (zG (ib Ml fun us s2 ⟨vs,H2,I3,r,q⟩=>⟨ju,?_⟩))
 match vs,r,q with
 |[x0],r,q=>
  obtain⟨a,C,f,d,rfl,ea,mm,q⟩:=q
  obtain⟨u,rfl,ru⟩:=vals1 r
  cases ru
  obtain⟨vs,sl,q1,q2,q3⟩:=Gh I3.gd ea
  obtain⟨hp,g,dr,tk,os⟩:=s2
  refine m5 (agk (mkX I3.wN mm) q1 q2 ?_)
  refine⟨.j5,H2,?_,rfl,q⟩
  have I4:=I3.kept (h':=hp.push (kq [])) (t':=tk) fun b u q=>a9 _ q
  have q1':(hp.push (kq [])).get? a=aa ⟨.ref C,d,.fields vs,sl⟩:=a9 _ q1
  have z:(⟨.ref C,d,.fields vs,sl⟩:Obj).mapFields (·.setIfInBounds 0 (.ref hp.objs.size))=⟨.ref C,d,.fields (vs.setIfInBounds 0 (.ref hp.objs.size)),sl⟩:=rfl
  have q5:=dO (jo (·.setIfInBounds 0 (.ref hp.objs.size))) q1' rfl
  rw[z]at q5
  have I5:=I4.write (x:=a) (e:=a) (o:=lN a C d) (h':=(hp.push (kq [])).update a (jo (·.setIfInBounds 0 (.ref hp.objs.size)))) (t':=tk) (by rw[ea];exact ju) (.inl rfl) (fun b u hb q=>by rw[cq _ _ (de hb)];exact q) ⟨_,q5⟩
   (LY q5 (by simpa using q2) (by rw[<-q3];simp))
  have e2:upd H2 a (lN a C d)=H2:=by
   funext b;by_cases hb:b=a
   ·rw[hb,ba,ea]
   rw[bB hb]
  rw[e2]at I5
  exact I5
theorem ma{CX:Qn}{E:XK}{ds:au}{Dc:ao}{pl:Sem Bool}(Ib:FO X.K C (.type "type")=ae)(VS:CQ X.K (.ref C) "__getattribute__"=aa (aa (.builtin "type.__getattribute__")))
 (hfc:wG X.K (.ref C) (.type "type") m=aa (.val (.ref f)))(hk:je X.K (.ref f)=ae)
 (F:dv X.prog X.w X.K X.mg X.base CX k f fd ps sp)(hr:gG k X.A)(hg:Gl X x)(hm:X.mg x=aa (.ref C))(hb:Binds X.K fd ps ds)(hd:Vals Dc ds)(hx:Passes CX X E)(ha:PA X (e::es) t)
 (AE:(x==("__debug__":Str))=af:=by decide)
 (KL:bW (e::es) X.env=(af,eval e X.env)::bW es X.env:=by rfl)(yR:(gz pos (bW es X.env)).any (·.1)=af:=by rfl)
 (ht:eval (.Call (.Attribute (.Name x p) m apos) (e::es) [] pos) X.env=(do
  let ov<-eval (.Name x p) X.env
  se apos.atName
  let(f,first)<-qG [ov] (pU ov m pl)
  sQ pos f first (gz pos (bW (e::es) X.env)) (wg pos (m6 [] X.env))):=by rfl):
 PE X (.Call (.Attribute (.Name x p) m apos) (e::es) [] pos) (SS sp Dc E t):=by
 intro pins s σ H Q I h
 have hn:PE X (.Name x p) (tC (.ref C)):=Gb hg hm rfl AE
 refine oZ (pl:=pl) (ib (hn pins s σ H (fun v H'=>v=.ref C/\H'=H) I ⟨rfl,rfl⟩) fun u s1 ⟨y,H1,I1,rx,ey,eH⟩=>?_) ht
 subst ey eH
 obtain rfl:u=cp C:=rx
 refine PySem.W.method_cls I1.wN VS (PySem.W.cls_value I1.wN Ib hfc rfl ?_)
 refine nu (first:=[]) (h₀:=X.base) I.ok.mod.kin hk (ib (ha pos pins _ σ H1 _ (I1.tok _) h) fun us s2 ⟨vs,H2,I2,r,q2⟩=>⟨I2.wN,?_⟩) KL yR
 exact LF F hr hb hd hx I2 r q2
end
section
variable{M:NU}{h:Heap}{C f Ci fi a:Addr}
theorem EO{b:Bool}{d:Option Addr}{vs:Array aY}{sl:Array (Option aY)}(Yi:Zr M h Ci fi)(ha:h.get? a=aa ⟨.ref C,d,.fields vs,sl⟩)(sb:Looks M h (r8 (.ref C) (.ref Ci)) b):
 Looks M h (Sr (.ref a) (.ref Ci)) b:=by
 have t1:Looks M h (Nt (.ref a)) (.ref C):=(nJ ha).andThen .now
 obtain⟨oc,od,cd,slc,hC,e1,e4,e5,e6⟩:=Yi.obj
 have t2:Looks M h (wc (.ref Ci) (.type "tuple")) af:=Yi.ty.andThen (Gq tc_notTuple)
 have t3:Looks M h (isType (.ref Ci)) ae:=(nJ (part:=aa headPart) hC).andThen .now
 have t4:Looks M h (isExcClass (.ref Ci)) ae:=t3.andThen Yi.YG
 intro A Q E s k q
 unfold Sr
 refine aO (t2 A _ E s k ?_)
 rw[cP (by decide)]
 refine aO (bg ?_)
 simp only[nN,tF]
 refine aO (aO (aO (t4 A _ E s k ?_)))
 refine bg (bg (aO (t1 A _ E s k (aO (aO (aO (sb A _ E s k ?_)))))))
 cases b with
 |true=>exact bg (bg (bg q))
 |false=>exact bg (bg (bg q))
end
section
variable{X:Cx}{pins:ah}{σ:L2.St}{H:Hp}{s:bf}
theorem name_goes{A:cX}{E:ar}{i:Nat}{n:Str}{pos:Pos}{Q:Unit->bf->Prop}(I:Inv X pins σ H s)(hN:X.N.Nodup)(hi:X.N[i]?=aa n)(hk:X.env.scope.names.lookup n=aa .local)
 (h:∀s',Inv X pins (σ.set i ab) H s'->Q () s'):bL M A (do bindName X.env n .none;unbindBehindTheSuite X.env n pos) Q E s:=by
 obtain⟨m,hn,hl⟩:=id I.loc
 have aec:(X.env.scope.kind== .class||(X.env.scope.kind== .module&&X.env.locals != X.env.globals))=af:=by
  rw[I.ok.kind];rfl
 have nl:∀{b:Addr}{o:Obj},X.DC.heap.get? b=aa o->b≠X.env.locals:=fun e=>cg (bI (bF e) I.ok.above)
 refine wpAny_nameGoes_keeps hk hn aec fun h' v n2 hs=>h _ ?_
 refine⟨I.ok,I.os,I.bare,⟨fun b o e z hb hx=>(hs.2 b (nl e)).trans (I.base.keep b o e z hb hx),fun b o e z hb hx=>?_,I.base.free,fun b o e hx=>?_,I.base.E8,I.base.Il,I.base.GC⟩,⟨_,n2,fun j y v' e1 e2 e3=>?_⟩,fun y c e=>?_,
  I.free,I.pY,fun p hp=>?_,fun b ob e=>?_,by rw[fK];exact I.len⟩
 ·obtain⟨sl,e1⟩:=I.base.slot b o e z hb hx
  exact⟨sl,(hs.2 b (nl e)).trans e1⟩
 ·obtain⟨o',e1⟩:=I.base.there b o e hx
  exact⟨o',(hs.2 b (nl e)).trans e1⟩
 ·have hj:j≠i:=fun q=>by
   subst q;rw[o4 (by rw[I.len];exact(aZ.mp e1).1)]at e2;cases e2
  rw[qN (de hj)]at e2
  obtain⟨u,r,q⟩:=hl j y v' e1 e2 e3
  refine⟨u,r,?_⟩
  rcases q with⟨k,e⟩|⟨k,c,e,z⟩
  ·refine .inl ⟨k,?_⟩
   have ny:y≠n:=fun q=>hj (BO hN e1 (q▸hi))
   show(if y=n then v else m y)=_
   rw[cP ny]
   exact e
  exact .inr ⟨k,c,e,z.sameBut hs (I.cne y c e)⟩
 ·obtain⟨w',z⟩:=I.cell y c e
  exact⟨w',z.sameBut hs (I.cne y c e)⟩
 ·obtain⟨e,z,ne,nf,d⟩:=I.pin p hp
  exact⟨(hs.2 p.1 ne).trans e,z,ne,nf,d⟩
 refine(I.gd b ob e).tJ (fun c w' hc q=>(hs.2 c fun z=>?_).trans q) (fun _ q=>q) fun _ _ q=>q
 rcases hc with hc|hc
 ·rw[<-hc,z,I.free]at e
  cases e
 rw[z,I.free]at hc
 cases hc
end
abbrev pin(X:Cx)(pn:ah):Cx:={X with pn:=pn}
abbrev hand(X:Cx)(a:Addr):Cx:={X with A:=X.A.mark (aa (.ref a)),calm:=af,xe:=fun _ _=>False}
section
variable{X:Cx}{pins:ah}{σ:L2.St}{H:Hp}{s:bf}{a:Addr}
theorem Inv.pinned(I:Inv X pins σ H s):Inv (pin X (X.pn++pins)) [] σ H s:=
 ⟨⟨I.ok.mod,I.ok.kind,I.ok.glob,I.ok.blt,I.ok.above,I.ok.inj,I.ok.has,I.ok.cab,I.ok.hd,I.ok.frames,I.ok.QQ,I.ok.exf,I.ok.bs,I.ok.R9,I.ok.LZ,I.ok.My,I.ok.ya,I.ok.Vj⟩,I.os,I.bare,I.base,I.loc,I.cell,I.free,I.pY,
  fun p hp=>I.pin p (by rw[ck]at hp;exact hp),I.gd,I.len⟩
theorem Inv.l7(I:Inv (pin X (X.pn++pins)) [] σ H s):Inv X pins σ H s:=
 ⟨⟨I.ok.mod,I.ok.kind,I.ok.glob,I.ok.blt,I.ok.above,I.ok.inj,I.ok.has,I.ok.cab,I.ok.hd,I.ok.frames,I.ok.QQ,I.ok.exf,I.ok.bs,I.ok.R9,I.ok.LZ,I.ok.My,I.ok.ya,I.ok.Vj⟩,I.os,I.bare,I.base,I.loc,I.cell,I.free,I.pY,
  fun p hp=>I.pin p (by rw[ck];exact hp),I.gd,I.len⟩
theorem Inv.hand(I:Inv X pins σ H s)(a:Addr):Inv (hand X a) pins σ H s:=
 ⟨⟨I.ok.mod,I.ok.kind,I.ok.glob,I.ok.blt,I.ok.above,I.ok.inj,I.ok.has,I.ok.cab,fun z=>(nomatch (show af=ae from z)),I.ok.frames,I.ok.QQ,I.ok.exf,I.ok.bs,I.ok.R9,I.ok.LZ,I.ok.My,I.ok.ya,I.ok.Vj⟩,I.os,I.bare,I.base,I.loc,I.cell,I.free,I.pY,I.pin,I.gd,I.len⟩
theorem Inv.Aj(c:X.calm=ae->X.A.handled=ab)(I:Inv (XL.hand X a) pins σ H s):Inv X pins σ H s:=
 ⟨⟨I.ok.mod,I.ok.kind,I.ok.glob,I.ok.blt,I.ok.above,I.ok.inj,I.ok.has,I.ok.cab,c,I.ok.frames,I.ok.QQ,I.ok.exf,I.ok.bs,I.ok.R9,I.ok.LZ,I.ok.My,I.ok.ya,I.ok.Vj⟩,I.os,I.bare,I.base,I.loc,I.cell,I.free,I.pY,I.pin,I.gd,I.len⟩
end
abbrev HR:=Addr->Hp->Ends->Prop
def PH(X:Cx)(E:XK)(hs:List yz)(t:HR):Prop:=
 ∀(pins:ah)(a:Addr)(H:Hp)(s:bf)(D:Ends),YX (pin X (X.pn++pins)) a H s->Ent s.heap a->t a H D->bL (bJ X.prog X.w) X.A (handleBy (.ref a) X.env hs) (SP X pins D) (YW X E) s
def aim(tb:XK->TS)(th:HR):TS:=fun D σ H=>tb (fun e _ H'=>∃a,e=.ref a/\th a H' D) D σ H
def WQ(X:Cx):L2.St:=cA X.N.length ab
theorem aao{pins:ah}:nb X<=nb (pin X (X.pn++pins)):=
 (B4 X.pn X.DC.heap.objs.size).2.2 _ (Tw (pin X (X.pn++pins))) fun p hp=>XC (X:=pin X (X.pn++pins)) (fI _ hp)
theorem YX.N8{X:Cx}{pins:ah}{H:Hp}(F:YX (pin X (X.pn++pins)) a H s):YX X a H s:=by
 obtain⟨⟨σ,I⟩,e,t⟩:=F;exact⟨⟨σ,(Inv.l7 I).BB fun p hp=>(nomatch hp)⟩,e,t.mono aao⟩
theorem SP.N8{X:Cx}{pins:ah}{f:Flow}(h:SP (pin X (X.pn++pins)) [] D f s):SP X pins D f s:=by
 cases f with
 |next=>obtain⟨σ,H,I,q⟩:=h;exact⟨σ,H,Inv.l7 I,q⟩
 |brk=>obtain⟨σ,H,I,q⟩:=h;exact⟨σ,H,Inv.l7 I,q⟩
 |cont=>obtain⟨σ,H,I,q⟩:=h;exact⟨σ,H,Inv.l7 I,q⟩
 |ret u=>obtain⟨v,σ,H,I,r,q⟩:=h;exact⟨v,σ,H,Inv.l7 I,r,q⟩
theorem SP.tH{E:ar}{f:Flow}(h:SP X pins D f s):SP (X.tH E) pins D f s:=by
 cases f with
 |next=>obtain⟨σ,H,I,q⟩:=h;exact⟨σ,H,I.tH E,q⟩
 |brk=>obtain⟨σ,H,I,q⟩:=h;exact⟨σ,H,I.tH E,q⟩
 |cont=>obtain⟨σ,H,I,q⟩:=h;exact⟨σ,H,I.tH E,q⟩
 |ret u=>obtain⟨v,σ,H,I,r,q⟩:=h;exact⟨v,σ,H,I.tH E,r,q⟩
section
variable{X:Cx}{E:XK}
theorem W8{h0:yz}{hs:List yz}{pos:Pos}{tb:XK->TS}{th:HR}(B:Bd X)(hb:∀pn E1,Nm (Pp (pin X pn) E1) body (tb E1))(hh:PH X E (h0::hs) th):
 PS (Pp X E) (.Try body (h0::hs) [] [] pos) (aim tb th):=by
 intro pins s σ H D I h
 have I1:=Inv.pinned I.o7
 refine wpAny_Try_except (eD (hb (X.pn++pins) _ [] s σ H D (I1.tH _) h) (fun f s1 q=>?_) fun e s1 q=>?_)
 ·have q2:SP (Pp X E) pins D f s1:=SP.tH (SP.N8 (q.o7))
  cases f with
  |next=>exact uj q2
  |brk=>exact q2
  |cont=>exact q2
  |ret u=>exact q2
 obtain⟨a,H1,e1,F,a',e2,q⟩:=q
 subst e1
 cases e2
 have B1:Bd (pin X (X.pn++pins)):=⟨B.QQ,B.fr⟩
 have hA:=I.ok.frames
 refine Xy (X:=pin X (X.pn++pins)) B1 hA F fun s2 F2 n2=>?_
 refine yT (X:=pin X (X.pn++pins)) B1 F2 fun s3 F3 n3=>?_
 exact ib (hh pins a H1 s3 D F3 (n3 n2) q) fun f s4 z=>SP.tH z
end
section
variable{X:Cx}{E:XK}
theorem Xg(B:Bd X):PH X E [] (fun a H _=>E (.ref a) ab H):=by
 intro pins a H s D F n h;refine wpAny_handleBy_nil ?_;unfold PySem.passOn;obtain⟨oe,vs,T,e1,e2,e3⟩:=n;refine aO (gY e1 e2 e3 ?_);rw[cP (show¬(cp T==eF)=ae from by simp)];refine aO (yT (X:=X) B (YX.N8 F) fun s' F' _=>?_);exact wpAny_throw ⟨a,H,rfl,F',h⟩
theorem SP.Aj{X:Cx}{f:Flow}(c:X.calm=ae->X.A.handled=ab)(h:SP (hand X a) pins D f s):SP X pins D f s:=by
 cases f with
 |next=>obtain⟨σ,H,I,q⟩:=h;exact⟨σ,H,Inv.Aj c I,q⟩
 |brk=>obtain⟨σ,H,I,q⟩:=h;exact⟨σ,H,Inv.Aj c I,q⟩
 |cont=>obtain⟨σ,H,I,q⟩:=h;exact⟨σ,H,Inv.Aj c I,q⟩
 |ret u=>obtain⟨v,σ,H,I,r,q⟩:=h;exact⟨v,σ,H,Inv.Aj c I,r,q⟩
theorem Kr{σ:L2.St}{H:Hp}(I:Inv X pins σ H s):Inv X pins (WQ X) H s:=
 I.weak (by unfold WQ;rw[ir,I.len]) fun i v e=>by
  unfold WQ at e;rw[Qg]at e;split at e<;>cases e
inductive agW(K:aX)(Ci:Addr)(ts:HR)(tr:HR)(a:Addr)(H:Hp)(D:L2.Ends):Prop
 |mk (C:_) (f:_) (d:_) (b:_) (_:H a=aa (D8 a C d)) (_:pZ K C f=ae) (_:Zz K (.ref C) (.ref Ci)=aa b) (_:if b=ae then ts a H D else tr a H D)
theorem Z8{x:Str}{np pos:Pos}{b0:Stmt}{Oh:List Stmt}{rest:List yz}{Ci fi:Addr}{ts:TS}{tr:HR}(B:Bd X)(hg:Gl X x)(hm:X.mg x=aa (.ref Ci))(hci:pZ X.K Ci fi=ae)
 (hs:∀pn a,Nm (hand (pin X pn) a) (b0::Oh) ts)(hr:PH X E rest tr)(AE:(x==("__debug__":Str))=af:=by decide):
 PH X E (.ExceptHandler (aa (.Name x np)) ab (b0::Oh) pos::rest) (agW X.K Ci (fun _ H D=>ts D (WQ X) H) tr):=by
 intro pins a H s D F n ⟨C,f,d,b,ea,m,sb,q⟩
 obtain⟨⟨σ,I⟩,_⟩:=id F
 obtain⟨vs,sl,q1,q2⟩:=Iv I.gd ea
 have B1:Bd (pin X (X.pn++pins)):=⟨B.QQ,B.fr⟩
 have Lm:Looks (bJ X.prog X.w) s.heap (Sr (.ref a) (.ref Ci)) b:=EO (mkX I.wN hci) q1 (Qr I.wN sb)
 have c:(pin X (X.pn++pins)).calm=ae->(pin X (X.pn++pins)).A.handled=ab:=I.ok.hd
 refine wpAny_handleBy_cons (Zw (sZ (X:=hand (pin X (X.pn++pins)) a) (Inv.hand I a) hg hm ?_ AE)) (by intro z;cases z)
 refine Lm.here ?_
 cases b with
 |true=>
  refine codeAny_handlers_suite (yT (X:=pin X (X.pn++pins)) B1 F fun s1 F1 _=>?_)
  obtain⟨⟨σ1,I1⟩,_⟩:=F1
  have I2:=Inv.hand (Kr I1) a
  refine eD (hs (X.pn++pins) a [] s1 _ H D I2 q) (fun f s2 z=>?_) fun _ _ z=>fq z
  exact SP.N8 (SP.Aj c z)
 |false=>exact hr pins a H s D F n q
def aek(i:Nat)(D:Ends):Ends where
 nx:=fun σ H=>D.nx (σ.set i ab) H
 rt:=D.rt
 bk:=fun σ H=>D.bk (σ.set i ab) H
 ct:=fun σ H=>D.ct (σ.set i ab) H
theorem Xh{x n:Str}{i:Nat}{np pos:Pos}{b0:Stmt}{Oh:List Stmt}{rest:List yz}{Ci fi:Addr}{ts:TS}{tr:HR}(B:Bd X)(hg:Gl X x)(hm:X.mg x=aa (.ref Ci))(hci:pZ X.K Ci fi=ae)
 (hN:X.N.Nodup)(hi:X.N[i]?=aa n)(hk:X.env.scope.names.lookup n=aa .local)
 (hs:∀pn a,Nm (hand (pin X pn) a) (b0::Oh) ts)(hr:PH X E rest tr)(AE:(x==("__debug__":Str))=af:=by decide):
 PH X E (.ExceptHandler (aa (.Name x np)) (aa n) (b0::Oh) pos::rest) (agW X.K Ci (fun a H D=>ts (aek i D) ((WQ X).set i (aa (.ref a))) H) tr):=by
 intro pins a H s D F n' ⟨C,f,d,b,ea,m,sb,q⟩
 obtain⟨⟨σ,I⟩,_⟩:=id F
 obtain⟨vs,sl,q1,q2⟩:=Iv I.gd ea
 have B1:Bd (pin X (X.pn++pins)):=⟨B.QQ,B.fr⟩
 have Lm:Looks (bJ X.prog X.w) s.heap (Sr (.ref a) (.ref Ci)) b:=EO (mkX I.wN hci) q1 (Qr I.wN sb)
 have c:(pin X (X.pn++pins)).calm=ae->(pin X (X.pn++pins)).A.handled=ab:=I.ok.hd
 refine wpAny_handleBy_cons (Zw (sZ (X:=hand (pin X (X.pn++pins)) a) (Inv.hand I a) hg hm ?_ AE)) (by intro z;cases z)
 refine Lm.here ?_
 cases b with
 |true=>
  refine codeAny_handlers_suite_as (yT (X:=pin X (X.pn++pins)) B1 F fun s1 F1 _=>?_)
  obtain⟨⟨σ1,I1⟩,_⟩:=F1
  have I2:=Inv.hand (Kr I1) a
  refine Bo (X:=hand (pin X (X.pn++pins)) a) I2 hN hi (.inl hk) (v:=.ref a) rfl (fun s2 I3=>?_) (.inr hk)
  refine eD (hs (X.pn++pins) a [] s2 _ H (aek i D) I3 q) (fun f s3 z=>?_) fun _ _ z=>fq z
  have z1:SP X pins (aek i D) f s3:=SP.N8 (SP.Aj c z)
  cases f with
  |next=>
   obtain⟨σ3,H3,I4,q4⟩:=z1
   exact name_goes I4 hN hi hk fun s4 I5=>⟨_,H3,I5,q4⟩
  |brk=>
   obtain⟨σ3,H3,I4,q4⟩:=z1
   exact name_goes I4 hN hi hk fun s4 I5=>⟨_,H3,I5,q4⟩
  |cont=>
   obtain⟨σ3,H3,I4,q4⟩:=z1
   exact name_goes I4 hN hi hk fun s4 I5=>⟨_,H3,I5,q4⟩
  |ret u=>
   obtain⟨v,σ3,H3,I4,r4,q4⟩:=z1
   exact name_goes I4 hN hi hk fun s4 I5=>⟨v,_,H3,I5,r4,q4⟩
 |false=>exact hr pins a H s D F n' q
end
end XL
end
section
namespace SR
inductive Uc{A0 A1:Type}(p:A0->A1->Prop):Prop
 |mk (a0:A0) (a1:A1) (_:p a0 a1)
inductive Ex3{A0 A1 A2:Type}(p:A0->A1->A2->Prop):Prop
 |mk (a0:A0) (a1:A1) (a2:A2) (_:p a0 a1 a2)
inductive Ex4{A0 A1 A2 A3:Type}(p:A0->A1->A2->A3->Prop):Prop
 |mk (a0:A0) (a1:A1) (a2:A2) (a3:A3) (_:p a0 a1 a2 a3)
inductive Ex5{A0 A1 A2 A3 A4:Type}(p:A0->A1->A2->A3->A4->Prop):Prop
 |mk (a0:A0) (a1:A1) (a2:A2) (a3:A3) (a4:A4) (_:p a0 a1 a2 a3 a4)
inductive Ex6{A0 A1 A2 A3 A4 A5:Type}(p:A0->A1->A2->A3->A4->A5->Prop):Prop
 |mk (a0:A0) (a1:A1) (a2:A2) (a3:A3) (a4:A4) (a5:A5) (_:p a0 a1 a2 a3 a4 a5)
inductive Ex9{A0 A1 A2 A3 A4 A5 A6 A7 A8:Type}(p:A0->A1->A2->A3->A4->A5->A6->A7->A8->Prop):Prop
 |mk (a0:A0) (a1:A1) (a2:A2) (a3:A3) (a4:A4) (a5:A5) (a6:A6) (a7:A7) (a8:A8) (_:p a0 a1 a2 a3 a4 a5 a6 a7 a8)
end SR
namespace SR
open PySem PySem.Spec PyProof.Rows L2 XL
def top(i:Nat):Stmt:=PySem.Challenge.pw_sharedrooms_s01_answers.main.body.getD i (.Pass ⟨0,0,0,0⟩)
abbrev rF:Stmt:=inClass (top 1) 0
theorem Fb:bU ["self","number"] ["self","number"] (bA rF):=by nofun
abbrev rE:Stmt:=inClass (top 2) 0
theorem E9:bU dR dR (bA rE):=by nofun
abbrev ph:Stmt:=inClass (top 3) 0
theorem Bt:bU Hj Hj (bA ph):=by nofun
abbrev pf:Stmt:=inClass (top 4) 0
theorem Bs:bU Hl Hl (bA pf):=by nofun
abbrev pA:Stmt:=inClass (top 5) 0
theorem Bx:bU dR dR (bA pA):=by nofun
abbrev pd:Stmt:=inClass (top 6) 0
theorem Br:bU dR dR (bA pd):=by nofun
abbrev mX:Stmt:=inClass (top 7) 0
theorem zf:bU dR dR (bA mX):=by nofun
abbrev lX:Stmt:=inClass (top 8) 0
theorem xt:bU dR dR (bA lX):=by nofun
abbrev mY:Stmt:=inClass (top 9) 0
theorem zh:bU dR dR (bA mY):=by nofun
abbrev pj:Stmt:=inClass (top 10) 0
theorem Bu:bU dR dR (bA pj):=by nofun
abbrev mV:Stmt:=inClass (top 11) 0
theorem zd:bU dR dR (bA mV):=by nofun
abbrev tT:Stmt:=top 13
theorem xg:bU ["program","times","time","statement"] jT (bA tT):=by nofun
abbrev Au:Stmt:=top 14
theorem EJ:bU ["program","statement"] jT (bA Au):=by nofun
abbrev vw:Stmt:=top 15
theorem zP:bU ["program","first","last","number","operands","operand","statement"] jT (bA vw):=by nofun
abbrev tR:Stmt:=top 16
theorem G9:bU jT jT (bA tR):=by nofun
abbrev qt:Stmt:=top 17
theorem uB:bU ["program","ranges","taker","taken","same_length"] Tg (bA qt):=by nofun
abbrev tS:Stmt:=top 18
theorem xf:bU ["program","ranges","time","total","number","statement"] Kv (bA tS):=by nofun
abbrev lW:Stmt:=top 19
theorem pX:bU ["program","ranges","time","longest","taker","operands","taken"] Kv (bA lW):=by nofun
abbrev n0:Stmt:=top 20
theorem rq:bU ["program","ranges","most","time","needed"] jT (bA n0):=by nofun
abbrev rD:Stmt:=top 23
theorem wk:bU ["program","plan","offset"] xF (bA rD):=by nofun
abbrev mR:Stmt:=top 24
theorem y9:bU ["program","a","b"] ["program","a","b"] (bA mR):=by nofun
abbrev Q0:Stmt:=top 25
theorem ZY:bU ON ON (bA Q0):=by nofun
abbrev DB:Stmt:=top 26
theorem G8:bU ["program","plan","a","b","a_end","b_end"] ["program","plan","a","b"] (bA DB):=by nofun
abbrev jY:Stmt:=top 27
theorem tK:bU BA BA (bA jY):=by nofun
abbrev LD:Stmt:=top 28
theorem WZ:bU BA BA (bA LD):=by nofun
abbrev tU:Stmt:=top 29
theorem xh:bU ["program","plan","ranges","a","b"] xF (bA tU):=by nofun
abbrev DA:Stmt:=top 30
theorem G7:bU ["program","plan","room","number","statement"] xF (bA DA):=by nofun
abbrev mM:Stmt:=top 32
theorem qI:bU ["program","plan","placed","offsets","other"] ["program","plan","placed"] (bA mM):=by nofun
abbrev mQ:Stmt:=top 33
theorem qK:bU ["program","ranges","plan","number","placed","other"] UL (bA mQ):=by nofun
abbrev LC:Stmt:=top 34
theorem Ow:bU ["program","ranges","plan","number","placed","offsets","offset"] UL (bA LC):=by nofun
abbrev tO:Stmt:=top 35
theorem xa:bU ["program","order","ranges","plan","placed","number"] ["program","order"] (bA tO):=by nofun
abbrev jv:Stmt:=top 36
theorem k8:bU ["program","plan","offset","statement"] jT (bA jv):=by nofun
abbrev qr:Stmt:=top 37
theorem Dx:bU jT jT (bA qr):=by nofun
abbrev lh:Stmt:=top 38
theorem oV:bU ["program","lengths","order","statement"] jT (bA lh):=by nofun
abbrev Dz:Stmt:=top 40
theorem QZ:bU BA BA (bA Dz):=by nofun
abbrev As:Stmt:=top 41
theorem EI:bU ["program","ranges","plan","number","members","looked_at","other"] ["program","ranges","plan","number"] (bA As):=by nofun
abbrev n6:Stmt:=top 42
theorem rA:bU ["program","ranges","plan","groups","grouped","number","members","member"] ["program","ranges","plan"] (bA n6):=by nofun
abbrev qu:Stmt:=top 43
theorem uC:bU ["program","ranges","plan","members","placed","member","other"] UM (bA qu):=by nofun
abbrev tP:Stmt:=top 44
theorem xb:bU ["program","ranges","plan","members","placed","offsets","offset","member"] UM (bA tP):=by nofun
abbrev tQ:Stmt:=top 45
theorem xc:bU ["program","plan","ranges","packed","placed","members"] xF (bA tQ):=by nofun
abbrev pq:Stmt:=inClass (top 47) 0
theorem Bv:bU Z6 Z6 (bA pq):=by nofun
abbrev rG:Stmt:=inClass (top 48) 0
theorem Fc:bU Tf Tf (bA rG):=by nofun
abbrev qv:Stmt:=top 49
theorem uD:bU ["program","number","statement"] jT (bA qv):=by nofun
abbrev nZ:Stmt:=top 50
theorem rp:bU ["statement","words"] ["statement"] (bA nZ):=by nofun
abbrev vq:Stmt:=top 51
theorem zM:bU ["program","statement"] jT (bA vq):=by nofun
abbrev vy:Stmt:=inClass (top 61) 0
theorem Jl:bU Xd Xd (bA vy):=by nofun
abbrev Ar:Stmt:=top 62
theorem Ox:bU ["byte"] ["byte"] (bA Ar):=by nofun
abbrev xA:Stmt:=top 63
theorem LA:bU ["byte"] ["byte"] (bA xA):=by nofun
abbrev vo:Stmt:=top 64
theorem zL:bU vH vH (bA vo):=by nofun
abbrev tL:Stmt:=top 65
theorem rn:bU vH vH (bA tL):=by nofun
abbrev Aq:Stmt:=top 66
theorem EH:bU vH vH (bA Aq):=by nofun
abbrev vt:Stmt:=top 67
theorem zN:bU vH vH (bA vt):=by nofun
abbrev xx:Stmt:=top 68
theorem vk:bU ["word_bytes","signs","byte"] ["word_bytes"] (bA xx):=by nofun
abbrev rC:Stmt:=top 69
theorem my:bU ["number_bytes","value","byte"] ["number_bytes"] (bA rC):=by nofun
abbrev vp:Stmt:=top 70
theorem pJ:bU ["text","position","byte","end"] vH (bA vp):=by nofun
abbrev tN:Stmt:=top 71
theorem k7:bU ["text","tokens","position","token"] ["text"] (bA tN):=by nofun
abbrev ua:Stmt:=inClass (top 80) 0
theorem Hd:bU ["self","tokens"] ["self","tokens"] (bA ua):=by nofun
abbrev t9:Stmt:=inClass (top 80) 1
theorem xr:bU ["self","kind","choices","token"] ["self","kind","choices"] (bA t9):=by nofun
abbrev qx:Stmt:=inClass (top 80) 2
theorem Dy:bU dR dR (bA qx):=by nofun
abbrev pz:Stmt:=inClass (top 80) 3
theorem sU:bU ["self","can_stand","token"] ["self","can_stand"] (bA pz):=by nofun
abbrev mS:Stmt:=inClass (top 80) 4
theorem za:bU ["self","choices"] ["self","choices"] (bA mS):=by nofun
abbrev mT:Stmt:=inClass (top 80) 5
theorem zb:bU ["self","sign"] ["self","sign"] (bA mT):=by nofun
abbrev mU:Stmt:=inClass (top 80) 6
theorem lV:bU ["self","token","is_name"] dR (bA mU):=by nofun
abbrev lq:Stmt:=inClass (top 80) 7
theorem oW:bU ["self","token"] dR (bA lq):=by nofun
abbrev lg:Stmt:=top 81
theorem oU:bU ["reader","names"] ["reader"] (bA lg):=by nofun
abbrev pb:Stmt:=top 82
theorem fO:bU ["reader","first_words","word","name","length","way","operand_names"] ["reader","first_words"] (bA pb):=by nofun
abbrev kh:Stmt:=top 83
theorem uA:bU ["statements"] ["statements"] (bA kh):=by nofun
abbrev nY:Stmt:=top 84
theorem mK:bU ["text","reader","statements"] ["text"] (bA nY):=by nofun
abbrev qw:Stmt:=top 85
theorem uE:bU ["statements","numbers","operands","number","statement","unknown","name"] ["statements"] (bA qw):=by nofun
abbrev rB:Stmt:=top 86
theorem wj:bU ["text","statements"] ["text"] (bA rB):=by nofun
abbrev vx:Stmt:=top 91
theorem Jk:bU ["number"] ["number"] (bA vx):=by nofun
abbrev mO:Stmt:=top 92
theorem y8:bU ["way","length","i"] ["way","length","i"] (bA mO):=by nofun
abbrev o9:Stmt:=top 93
theorem sR:bU ["program","plan","memory","number","i","way","total","weight","operand","length"] Th (bA o9):=by nofun
abbrev vn:Stmt:=top 94
theorem zK:bU Th ["program","plan","memory","number"] (bA vn):=by nofun
abbrev vm:Stmt:=top 95
theorem zJ:bU ["memory","offset","data","i","element"] ["memory","offset","data"] (bA vm):=by nofun
abbrev mP:Stmt:=top 96
theorem qJ:bU ["program","data","plan","memory","number","statement"] Hk (bA mP):=by nofun
abbrev tM:Stmt:=top 97
theorem w9:bU ["program","data","plan","memory","results","number","statement"] Hk (bA tM):=by nofun
abbrev vF:Stmt:=inClass (top 116) 0
theorem Jn:bU dR dR (bA vF):=by nofun
abbrev lj:Stmt:=inClass (top 116) 1
theorem wK:bU dR dR (bA lj):=by nofun
abbrev vD:Stmt:=inClass (top 116) 2
theorem zT:bU ["self","text","program"] ["self","text"] (bA vD):=by nofun
abbrev tW:Stmt:=inClass (top 116) 3
theorem xj:bU ["self","text","e"] ["self","text"] (bA tW):=by nofun
abbrev tX:Stmt:=inClass (top 116) 4
theorem xk:bU ["self","sign"] dR (bA tX):=by nofun
abbrev vE:Stmt:=inClass (top 116) 5
theorem zU:bU ["self","answer","first","last"] dR (bA vE):=by nofun
abbrev vC:Stmt:=inClass (top 116) 6
theorem Jm:bU dR dR (bA vC):=by nofun
abbrev tY:Stmt:=inClass (top 116) 7
theorem xp:bU ["self","plan","program","pair"] wm (bA tY):=by nofun
abbrev vz:Stmt:=inClass (top 116) 8
theorem zQ:bU ["self","plan","program"] wm (bA vz):=by nofun
abbrev vA:Stmt:=inClass (top 116) 9
theorem zR:bU ["self","kind","program"] ["self","kind"] (bA vA):=by nofun
abbrev vB:Stmt:=inClass (top 116) 10
theorem zS:bU ["self","plan","program"] wm (bA vB):=by nofun
abbrev px:Stmt:=inClass (top 116) 11
theorem sS:bU ["self","number","data","program","element"] ["self","number","data"] (bA px):=by nofun
abbrev kO:Stmt:=inClass (top 116) 12
theorem nX:bU ["self","program","number"] ["self","program"] (bA kO):=by nofun
abbrev xB:Stmt:=inClass (top 116) 13
theorem Bw:bU ["self","plan","program"] wm (bA xB):=by nofun
abbrev tZ:Stmt:=inClass (top 116) 14
theorem xq:bU ["self","program"] dR (bA tZ):=by nofun
abbrev xu:Stmt:=top 117
theorem Lz:bU Q6 Q6 (bA xu):=by nofun
abbrev tV:Stmt:=top 118
theorem xi:bU ["rooms","call","number","row","e"] Q6 (bA tV):=by nofun
abbrev uF:Stmt:=top 119
theorem Hc:bU ["calls","rooms","answered","position","call","number","row","row_end","answer"] ["calls"] (bA uF):=by nofun
end SR
end
section
namespace SR
open PySem PySem.Spec PyProof.Rows L2 XL
variable{P:b7}{w:cU}{K:aX}{mg:aj}{base:Heap}
inductive Kk(K:aX)(vs:ao)(H:Hp)(Q:VK)(z':XK):Prop
 |mk (a:_) (C:_) (f:_) (n:_) (_:vs=[.ref a,.int n]) (_:H a=aa (lN a C ab)) (_:pZ K C f=ae) (_:eQ K C "number") (_:∀dx,H dx=ab->Q .j5 (upd (upd H dx (Cq dx [("number",.int n)])) a (lN a C (aa dx))))
theorem Fl{f:Addr}(F:iF K "__init__" "Refusal.__init__" rF f fd)(hE:mg "Exception"=ab):dv P w K mg base eJ 1 f fd ["self","number"] (Kk K):=by
 refine F.ok Fb fun fA A outer s H vs Q E hr h=>?_;obtain⟨a,C,f,n,rfl,ha,m,na,k⟩:=h;refine⟨_,bh (dJ (Q7 rfl hE (pv 0))) (bj (Xa (pv 0) (pv 1) rfl)),?_⟩;refine⟨_,rfl,a,C,f,ab,rfl,ha,m,?_⟩;exact⟨_,rfl,_,rfl,a,C,f,rfl,ha,m,na,k⟩
structure RF(P:b7)(w:cU)(K:aX)(mg:aj)(base:Heap)(CR fR:Addr)(TY:gx):Prop where
 Zk:mg "Refusal"=aa (.ref CR)
 rd:FO K CR (.type "type")=ae
 sp:CQ K (.ref CR) "__getattribute__"=aa (aa (.builtin "type.__getattribute__"))
 fc:wG K (.ref CR) (.type "type") "__init__"=aa (.val (.ref fR))
 kp:je K (.ref fR)=ae
 b:Binds K TY ["self","number"] []
 G:dv P w K mg base eJ 1 fR TY ["self","number"] (Kk K)
inductive iK(K:aX)(n:Int)(vs:ao)(H:Hp)(Q:VK)(z':XK):Prop
 |mk (a:_) (C:_) (f:_) (_:vs=[.ref a]) (_:H a=aa (lN a C ab)) (_:pZ K C f=ae) (_:eQ K C "number") (_:∀dx,H dx=ab->Q .j5 (upd (upd H dx (Cq dx [("number",.int n)])) a (lN a C (aa dx))))
inductive Dv(K:aX)(n:Int)(x:Str)(vs:ao)(H:Hp)(Q:VK)(z':XK):Prop
 |mk (a:_) (C:_) (f:_) (z:_) (_:vs=[.ref a,.int z]) (_:H a=aa (lN a C ab)) (_:pZ K C f=ae) (_:eQ K C "number") (_:eQ K C x) (_:∀dx,H dx=ab->Q .j5 (upd (upd (upd H dx (Cq dx [("number",.int n)])) a (lN a C (aa dx))) dx (Cq dx (rK x (.int z) [("number",.int n)]))))
theorem Fj{f CR:Addr}(F:iF K "__init__" "TooLong.__init__" rE f fd)(R:RF P w K mg base CR fR TY):dv P w K mg base eJ 2 f fd dR (iK K (-1)):=by
 refine F.ok E9 fun fA A outer s H vs Q E hr h=>?_;obtain⟨a,C,f,rfl,ha,m,na,k⟩:=h;refine⟨_,bj (dJ (ma R.rd R.sp R.fc R.kp R.G hr rfl R.Zk R.b .nil rN (aP (pv 0) (aP (xH rk cE) bq)))),?_⟩;exact⟨_,rfl,1,rfl,a,C,f,_,rfl,ha,m,na,k⟩
theorem BM{f CR:Addr}(F:iF K "__init__" "NoProgram.__init__" pA f fd)(R:RF P w K mg base CR fR TY):dv P w K mg base eJ 2 f fd dR (iK K (-4)):=by
 refine F.ok Bx fun fA A outer s H vs Q E hr h=>?_;obtain⟨a,C,f,rfl,ha,m,na,k⟩:=h;refine⟨_,bj (dJ (ma R.rd R.sp R.fc R.kp R.G hr rfl R.Zk R.b .nil rN (aP (pv 0) (aP (xH rk cE) bq)))),?_⟩;exact⟨_,rfl,4,rfl,a,C,f,_,rfl,ha,m,na,k⟩
theorem BH{f CR:Addr}(F:iF K "__init__" "WrongPlan.__init__" pd f fd)(R:RF P w K mg base CR fR TY):dv P w K mg base eJ 2 f fd dR (iK K (-5)):=by
 refine F.ok Br fun fA A outer s H vs Q E hr h=>?_;obtain⟨a,C,f,rfl,ha,m,na,k⟩:=h;refine⟨_,bj (dJ (ma R.rd R.sp R.fc R.kp R.G hr rfl R.Zk R.b .nil rN (aP (pv 0) (aP (xH rk cE) bq)))),?_⟩;exact⟨_,rfl,5,rfl,a,C,f,_,rfl,ha,m,na,k⟩
theorem zp{f CR:Addr}(F:iF K "__init__" "MissingData.__init__" mV f fd)(R:RF P w K mg base CR fR TY):dv P w K mg base eJ 2 f fd dR (iK K (-10)):=by
 refine F.ok zd fun fA A outer s H vs Q E hr h=>?_;obtain⟨a,C,f,rfl,ha,m,na,k⟩:=h;refine⟨_,bj (dJ (ma R.rd R.sp R.fc R.kp R.G hr rfl R.Zk R.b .nil rN (aP (pv 0) (aP (xH rk cE) bq)))),?_⟩;exact⟨_,rfl,10,rfl,a,C,f,_,rfl,ha,m,na,k⟩
theorem BJ{f CR:Addr}(F:iF K "__init__" "WrongForm.__init__" ph f fd)(R:RF P w K mg base CR fR TY):dv P w K mg base eJ 2 f fd Hj (Dv K (-2) "position"):=by
 refine F.ok Bt fun fA A outer s H vs Q E hr h=>?_;obtain⟨a,C,f,z,rfl,ha,m,na,nx,k⟩:=h;refine⟨_,bh (dJ (ma R.rd R.sp R.fc R.kp R.G hr rfl R.Zk R.b .nil rN (aP (pv 0) (aP (xH rk cE) bq)))) (bj (Te (pv 0) (pv 1) rfl)),?_⟩;refine⟨_,rfl,2,rfl,a,C,f,_,rfl,ha,m,na,fun dx Mj=>?_⟩;have nd:dx≠a:=fun q=>by rw[q,ha]at Mj;cases Mj
 refine⟨_,rfl,_,rfl,a,C,f,dx,_,rfl,ba,?_,m,nx,(by show 1<1000;decide),k dx Mj⟩;rw[bB nd,ba]
theorem BI{f CR:Addr}(F:iF K "__init__" "WrongName.__init__" pf f fd)(R:RF P w K mg base CR fR TY):dv P w K mg base eJ 2 f fd Hl (Dv K (-3) "statement_number"):=by
 refine F.ok Bs fun fA A outer s H vs Q E hr h=>?_;obtain⟨a,C,f,z,rfl,ha,m,na,nx,k⟩:=h;refine⟨_,bh (dJ (ma R.rd R.sp R.fc R.kp R.G hr rfl R.Zk R.b .nil rN (aP (pv 0) (aP (xH rk cE) bq)))) (bj (Te (pv 0) (pv 1) rfl)),?_⟩;refine⟨_,rfl,3,rfl,a,C,f,_,rfl,ha,m,na,fun dx Mj=>?_⟩;have nd:dx≠a:=fun q=>by rw[q,ha]at Mj;cases Mj
 refine⟨_,rfl,_,rfl,a,C,f,dx,_,rfl,ba,?_,m,nx,(by show 1<1000;decide),k dx Mj⟩;rw[bB nd,ba]
def jC(E:XK)(H:Hp)(C:Addr)(fs:aq):Prop:=∀a dx H',bG H H'->H' a=aa (D8 a C (aa dx))->H' dx=aa (Cq dx fs)->E (.ref a) ab H'
theorem ac7{E:XK}{H:Hp}{f:Addr}{n:Int}{σ:L2.St}(M:pZ K C f=ae)(na:eQ K C "number")(h:jC E H C [("number",.int n)]):Lk K E (Al C (iK K n) Dp) D σ H:=by
 refine⟨cB _,fun a ha=>⟨a,C,f,rfl,ba,M,na,fun dx Mj=>⟨rfl,a,C,f,aa dx,rfl,ba,M,?_⟩⟩⟩;have nd:dx≠a:=fun q=>by rw[q,ba]at Mj;cases Mj
 rw[bB nd]at Mj;refine h a dx _ (fun b o e=>?_) ba ?_
 ·have b1:=bO e ha;have b2:=bO e Mj;rw[bB b1,bB b1,bB b2,bB b1];exact e
 rw[bB nd,bB nd,ba]
theorem ac6{E:XK}{H:Hp}{f:Addr}{n:Int}{σ:L2.St}{te:TE}(M:pZ K C f=ae)(na:eQ K C "number")(nx:eQ K C x)(he:te σ H fun v H'=>v=.int z/\H'=H)
 (mono:∀Q Q':VK,(∀v H',Q v H'->Q' v H')->te σ H Q->te σ H Q')(h:jC E H C (rK x (.int z) [("number",.int n)])):Lk K E (Al C (Dv K n x) (ED te Dp)) D σ H:=by
 refine mono _ _ (fun v H' q=>?_) he
 obtain⟨rfl,rfl⟩:=q
 refine⟨by show 1<=bz;decide,fun a ha=>⟨a,C,f,z,rfl,ba,M,na,nx,fun dx Mj=>⟨rfl,a,C,f,aa dx,rfl,?_,M,?_⟩⟩⟩
 ·have nd:dx≠a:=fun q=>by rw[q,ba]at Mj;cases Mj
  rw[bB (de nd),ba]
 have nd:dx≠a:=fun q=>by rw[q,ba]at Mj;cases Mj
 rw[bB nd]at Mj
 refine h a dx _ (fun b o e=>?_) ba ?_
 ·have b1:=bO e ha
  have b2:=bO e Mj
  rw[bB b1,bB b2,bB b1,bB b2,bB b1]
  exact e
 rw[bB nd,ba]
section
variable{X:Cx}
theorem iD{n:Int}{pos:Pos}(hg:Gl X x)(hm:∃t,X.mg x=aa (.int n t))(hd:(x==("__debug__":Str))=af:=by decide):PE X (.Name x pos) (tC (.int n)):=
 let⟨t,e⟩:=hm
 Gb hg e ⟨t,rfl⟩ hd
theorem Tn{pos:Pos}(hg:Gl X x)(hm:∃t,X.mg x=aa (.str z t))(hd:(x==("__debug__":Str))=af:=by decide):PE X (.Name x pos) (tC (.str z)):=
 let⟨t,e⟩:=hm
 Gb hg e ⟨t,rfl⟩ hd
theorem Hq{pos:Pos}(hg:Gl X x)(hm:X.mg x=aa (.ref a))(hd:(x==("__debug__":Str))=af:=by decide):PE X (.Name x pos) (tC (.ref a)):=Gb hg hm rfl hd
end
def tx(t:List Nat):ao:=t.map fun(n:Nat)=>V.int (n:Int)
theorem Gz{t:List Nat}{i:Nat}(h:t[i]?=aa c):(tx t)[i]?=aa (V.int c):=by
 unfold tx;rw[bK,h];rfl
def scan(f:Nat->Bool)(t:List Nat)(p:Nat):Nat:=p+((t.drop p).takeWhile f).length
theorem lK{f:Nat->Bool}{t:List Nat}{p:Nat}(h:t[p]?=aa c)(hf:f c=ae):scan f t p=scan f t (p+1):=by
 unfold scan;obtain⟨hl,e⟩:=aZ.mp h;rw[dZ hl,e,r9,c8 hf,cJ];omega
theorem Dw{f:Nat->Bool}{t:List Nat}{p:Nat}(h:t[p]?=aa c)(hf:f c=af):scan f t p=p:=by
 unfold scan;obtain⟨hl,e⟩:=aZ.mp h;rw[dZ hl,e,r9,cP (by rw[hf];decide)];rfl
theorem G6{f:Nat->Bool}{t:List Nat}{p:Nat}(h:t.length<=p):scan f t p=p:=by
 unfold scan;rw[kL h];rfl
inductive w8(g:Nat->Bool)(vs:ao)(H:Hp)(Q:VK)(z':XK):Prop
 |mk (c:Nat) (_:vs=[.int c]) (_:Q (.bl (g c)) H)
theorem OZ{f:Addr}(F:iF K "is_digit" "is_digit" Ar f fd)(hZ:∃t,mg "ZERO"=aa (.int 48 t))(hD:∃t,mg "DIGITS"=aa (.str "0123456789" t))(hl:mg "len"=ab):
 dv P w K mg base eJ 1 f fd ["byte"] (w8 cf):=by
 refine F.ok Ox fun fA A outer s H vs Q E hr h=>?_
 obtain⟨c,rfl,k⟩:=h
 refine⟨_,bj (b8 (Hr BE sY (iD (by rfl) hZ) (pv 0) (fX j3 (iD (by rfl) hZ) (dB vS (by rfl) hl cv (aP (Tn (by rfl) hD) bq))))),?_⟩
 refine⟨_,rfl,_,_,rfl,rfl,_,rfl,?_⟩
 unfold cf at k
 by_cases h1:(48:Int)<=(c:Int)
 ·rw[qi h1]
  refine dI ⟨_,rfl,(by show 10<=bz;decide),_,_,rfl,rfl,_,_,rfl,rfl,?_⟩
  have e:decide ((c:Int)<48+((("0123456789":Str).length:Nat):Int))=decide (48<=c/\c<=57):=by
   rw[show(("0123456789":Str).length:Nat)=10 from rfl,decide_eq_decide];omega
  show Q (V.bl (decide ((c:Int)<48+((("0123456789":Str).length:Nat):Int)))) H
  rw[e]
  exact k
 rw[gX h1]
 refine cD ?_
 have e:decide (48<=c/\c<=57)=af:=gX (by omega)
 rw[e]at k
 exact k
inductive Dq(K:aX)(g:Nat->Bool)(vs:ao)(H:Hp)(Q:VK)(z':XK):Prop
 |mk (a:Addr) (t:List Nat) (p:Nat) (_:vs=[.ref a,.int p]) (_:du K H a (tx t)) (_:p<=t.length) (_:Q (.int (scan g t p)) H)
theorem Ju{f:Addr}(F:iF K "remark_end" "remark_end" vo f fd)(hL:∃t,mg "LINE_FEED"=aa (.int 10 t))(hl:mg "len"=ab):
 dv P w K mg base eJ 1 f fd vH (Dq K fun c=>c != 10):=by
 refine F.ok zL fun fA A outer s H vs Q E hr h=>?_
 obtain⟨a,t,p,rfl,hS,hp,k⟩:=h
 refine⟨_,bh (n9 bV (xD (cR sY (pv 1) (dB cI (by rfl) hl cv (aP (pv 0) bq)) (da _)) (sV (cR wo (dU cT (pv 0) (pv 1) (fun _ _=>rfl)) (iD (by rfl) hL) (da _)))).pt
  (bj (rL (i:=1) zL.nd rfl (ur rfl) cE qz))) (bj (b8 (pv 1))),?_⟩
 refine⟨fun m σ H'=>∃q:Nat,m=t.length-q/\H'=H/\σ=[aa (.ref a),aa (.int q)]/\q<=t.length/\scan (fun c=>c != 10) t q=scan (fun c=>c != 10) t p,⟨_,p,rfl,rfl,rfl,hp,rfl⟩,?_⟩
 rintro m σ H' ⟨q,rfl,rfl,rfl,hq,eq⟩
 refine⟨_,rfl,_,rfl,a,_,rfl,.inl hS,_,_,rfl,rfl,_,rfl,?_⟩
 by_cases h1:(q:Int)<((tx t).length:Int)
 ·rw[qi h1]
  have Ic:q<t.length:=by
   unfold tx at h1;rw[aV]at h1;omega
  obtain⟨c,hc⟩:∃c,t[q]?=aa c:=⟨_,bE Ic⟩
  refine dI ⟨_,rfl,_,rfl,a,_,_,_,rfl,rfl,hS,at_of (j:=q) rfl (Gz hc),rfl,_,rfl,?_⟩
  by_cases h2:c=10
  ·have e2:(!decide (V.int (c:Int)=V.int 10))=af:=by rw[h2];decide
   rw[e2]
   refine cD ⟨_,rfl,?_⟩
   rw[<-eq,Dw hc (by rw[h2];rfl)]at k
   exact k
  have e2:(!decide (V.int (c:Int)=V.int 10))=ae:=by
   rw[gX fun z=>h2 (by have:=V.int.inj z;omega)];rfl
  rw[e2]
  refine dI ⟨fun σ' G=>∃q':Nat,t.length-q'<t.length-q/\G=H'/\σ'=[aa (.ref a),aa (.int q')]/\q'<=t.length/\scan (fun c=>c != 10) t q'=scan (fun c=>c != 10) t p,fun σ' G z=>?_,?_⟩
  ·obtain⟨q',z1,z2⟩:=z
   exact⟨_,z1,q',rfl,z2⟩
  exact⟨_,rfl,_,_,rfl,rfl,q+1,by omega,rfl,rfl,Ic,by rw[<-eq];exact(lK hc (by simpa using h2)).symm⟩
 rw[gX h1]
 refine cD (cD ⟨_,rfl,?_⟩)
 have hq2:t.length<=q:=by
  unfold tx at h1;rw[aV]at h1;omega
 rw[<-eq,G6 hq2]at k
 exact k
structure Fn(P:b7)(w:cU)(K:aX)(mg:aj)(base:Heap)(CX:Qn)(k:Nat)(x:Str)(ps:ak)(sp:Sp):Prop where
 ex:∃(f:Addr)(fd:gx),dv P w K mg base CX k f fd ps sp/\mg x=aa (.ref f)/\je K (.ref f)=ae/\Binds K fd ps []
section
variable{X:Cx}{k:Nat}{x:Str}{ps:ak}{sp:Sp}{e:Expr}{es:List Expr}{t:TA}{p pos:Pos}
theorem dG(C:Fn X.prog X.w X.K X.mg X.base eJ k x ps sp)(hr:gG k X.A)(hg:Gl X x)(ha:PA X (e::es) t)(AE:(x==("__debug__":Str))=af:=by decide)
 (he:bW (e::es) X.env=(af,eval e X.env)::bW es X.env:=by rfl)(yR:(gz pos (bW es X.env)).any (·.1)=af:=by rfl):PE X (.Call (.Name x p) (e::es) [] pos) (SS sp [] E0 t):=by
 obtain⟨f,fd,G,m,kp,b⟩:=C.ex
 exact Tp G hr hg m kp b .nil rN ha AE he yR
theorem rM{E:XK}(C:Fn X.prog X.w X.K X.mg X.base (k4 X.prog X.w) k x ps sp)(B:Bd X)(hr:gG k X.A)(hg:Gl X x)(ha:PA (Pp X E) (e::es) t)(AE:(x==("__debug__":Str))=af:=by decide)
 (he:bW (e::es) X.env=(af,eval e X.env)::bW es X.env:=by rfl)(yR:(gz pos (bW es X.env)).any (·.1)=af:=by rfl):PE (Pp X E) (.Call (.Name x p) (e::es) [] pos) (SS sp [] E t):=by
 obtain⟨f,fd,G,m,kp,b⟩:=C.ex
 exact Tp (X:=Pp X E) G hr hg m kp b .nil (LO B) ha AE he yR
end
theorem LX{f:Addr}(F:iF K "is_letter" "is_letter" xA f fd)(hZ:∃t,mg "SMALL_A"=aa (.int 97 t))(hD:∃t,mg "LETTERS"=aa (.str "abcdefghijklmnopqrstuvwxyz" t))(hl:mg "len"=ab):
 dv P w K mg base eJ 1 f fd ["byte"] (w8 jQ):=by
 refine F.ok LA fun fA A outer s H vs Q E hr h=>?_
 obtain⟨c,rfl,k⟩:=h
 refine⟨_,bj (b8 (Hr BE sY (iD (by rfl) hZ) (pv 0) (fX j3 (iD (by rfl) hZ) (dB vS (by rfl) hl cv (aP (Tn (by rfl) hD) bq))))),?_⟩
 refine⟨_,rfl,_,_,rfl,rfl,_,rfl,?_⟩
 unfold jQ at k
 by_cases h1:(97:Int)<=(c:Int)
 ·rw[qi h1]
  refine dI ⟨_,rfl,(by show 26<=bz;decide),_,_,rfl,rfl,_,_,rfl,rfl,?_⟩
  have e:decide ((c:Int)<97+((("abcdefghijklmnopqrstuvwxyz":Str).length:Nat):Int))=decide (97<=c/\c<=122):=by
   rw[show(("abcdefghijklmnopqrstuvwxyz":Str).length:Nat)=26 from rfl,decide_eq_decide];omega
  show Q (V.bl (decide ((c:Int)<97+((("abcdefghijklmnopqrstuvwxyz":Str).length:Nat):Int)))) H
  rw[e]
  exact k
 rw[gX h1]
 refine cD ?_
 have e:decide (97<=c/\c<=122)=af:=gX (by omega)
 rw[e]at k
 exact k
theorem SJ{t:List Nat}{q:Nat}(h:(q:Int)<((tx t).length:Int)):q<t.length:=by
 unfold tx at h;rw[aV]at h;omega
theorem SK{t:List Nat}{q:Nat}(h:¬(q:Int)<((tx t).length:Int)):t.length<=q:=by
 unfold tx at h;rw[aV]at h;omega
theorem Jx{f:Addr}(F:iF K "number_end" "number_end" vt f fd)(hl:mg "len"=ab)(Cd:Fn P w K mg base eJ 1 "is_digit" ["byte"] (w8 cf)):
 dv P w K mg base eJ 2 f fd vH (Dq K cf):=by
 refine F.ok zN fun fA A outer s H vs Q E hr h=>?_
 obtain⟨a,t,p,rfl,hS,hp,k⟩:=h
 refine⟨_,bh (n9 bV (xD (cR sY (pv 1) (dB cI (by rfl) hl cv (aP (pv 0) bq)) (da _)) (sV (jw (dG Cd hr (by rfl) (aP (dU cT (pv 0) (pv 1) (fun _ _=>rfl)) bq))))).pt
  (bj (rL (i:=1) zN.nd rfl (ur rfl) cE qz))) (bj (b8 (pv 1))),?_⟩
 refine⟨fun m σ H'=>∃q:Nat,m=t.length-q/\H'=H/\σ=[aa (.ref a),aa (.int q)]/\q<=t.length/\scan cf t q=scan cf t p,⟨_,p,rfl,rfl,rfl,hp,rfl⟩,?_⟩
 rintro m σ H' ⟨q,rfl,rfl,rfl,hq,eq⟩
 refine⟨_,rfl,_,rfl,a,_,rfl,.inl hS,_,_,rfl,rfl,_,rfl,?_⟩
 by_cases h1:(q:Int)<((tx t).length:Int)
 ·rw[qi h1]
  have Ic:=SJ h1
  obtain⟨c,hc⟩:∃c,t[q]?=aa c:=⟨_,bE Ic⟩
  refine dI ⟨_,rfl,_,rfl,a,_,_,_,rfl,rfl,hS,at_of (j:=q) rfl (Gz hc),c,rfl,_,rfl,?_⟩
  cases h2:cf c with
  |false=>
   refine cD ⟨_,rfl,?_⟩
   rw[<-eq,Dw hc h2]at k
   exact k
  |true=>
   refine dI ⟨fun σ' G=>∃q':Nat,t.length-q'<t.length-q/\G=H'/\σ'=[aa (.ref a),aa (.int q')]/\q'<=t.length/\scan cf t q'=scan cf t p,fun σ' G z=>?_,?_⟩
   ·obtain⟨q',z1,z2⟩:=z
    exact⟨_,z1,q',rfl,z2⟩
   exact⟨_,rfl,_,_,rfl,rfl,q+1,by omega,rfl,rfl,Ic,by rw[<-eq];exact(lK hc h2).symm⟩
 rw[gX h1]
 refine cD (cD ⟨_,rfl,?_⟩)
 rw[<-eq,G6 (SK h1)]at k
 exact k
theorem OR{f:Addr}(F:iF K "word_end" "word_end" Aq f fd)(hl:mg "len"=ab)(Cd:Fn P w K mg base eJ 1 "is_digit" ["byte"] (w8 cf))(Cl:Fn P w K mg base eJ 1 "is_letter" ["byte"] (w8 jQ)):
 dv P w K mg base eJ 2 f fd vH (Dq K dg):=by
 refine F.ok EH fun fA A outer s H vs Q E hr h=>?_
 obtain⟨a,t,p,rfl,hS,hp,k⟩:=h
 refine⟨_,bh (n9 bV (xD (cR sY (pv 1) (dB cI (by rfl) hl cv (aP (pv 0) bq)) (da _)) (sV (Ku (jw (dG Cl hr (by rfl) (aP (dU cT (pv 0) (pv 1) (fun _ _=>rfl)) bq))) (DF (jw (dG Cd hr (by rfl) (aP (dU cT (pv 0) (pv 1) (fun _ _=>rfl)) bq))))).pt)).pt
  (bj (rL (i:=1) EH.nd rfl (ur rfl) cE qz))) (bj (b8 (pv 1))),?_⟩
 refine⟨fun m σ H'=>∃q:Nat,m=t.length-q/\H'=H/\σ=[aa (.ref a),aa (.int q)]/\q<=t.length/\scan dg t q=scan dg t p,⟨_,p,rfl,rfl,rfl,hp,rfl⟩,?_⟩
 rintro m σ H' ⟨q,rfl,rfl,rfl,hq,eq⟩
 refine⟨_,rfl,_,rfl,a,_,rfl,.inl hS,_,_,rfl,rfl,_,rfl,?_⟩
 by_cases h1:(q:Int)<((tx t).length:Int)
 ·rw[qi h1]
  have Ic:=SJ h1
  obtain⟨c,hc⟩:∃c,t[q]?=aa c:=⟨_,bE Ic⟩
  have go:dg c=ae->∃N:L2.St->Hp->Prop,(∀σ' G,N σ' G->∃m',m'<t.length-q/\∃q':Nat,m'=t.length-q'/\G=H'/\σ'=[aa (.ref a),aa (.int q')]/\q'<=t.length/\scan dg t q'=scan dg t p)/\N [aa (.ref a),aa (.int (q+1))] H':=fun h2=>
   ⟨fun σ' G=>∃q':Nat,t.length-q'<t.length-q/\G=H'/\σ'=[aa (.ref a),aa (.int q')]/\q'<=t.length/\scan dg t q'=scan dg t p,fun σ' G ⟨q',z1,z2⟩=>⟨_,z1,q',rfl,z2⟩,q+1,by omega,rfl,rfl,Ic,by rw[<-eq];exact(lK hc h2).symm⟩
  refine dI ⟨_,rfl,_,rfl,a,_,_,_,rfl,rfl,hS,at_of (j:=q) rfl (Gz hc),c,rfl,_,rfl,?_⟩
  cases h2:jQ c with
  |true=>
   obtain⟨N,n1,n2⟩:=go (by unfold dg;rw[h2];rfl)
   exact dI (dI ⟨N,n1,_,rfl,_,_,rfl,rfl,n2⟩)
  |false=>
   refine cD ⟨_,rfl,_,rfl,a,_,_,_,rfl,rfl,hS,at_of (j:=q) rfl (Gz hc),c,rfl,_,rfl,?_⟩
   cases h3:cf c with
   |true=>
    obtain⟨N,n1,n2⟩:=go (by unfold dg;rw[h2,h3];rfl)
    exact dI ⟨N,n1,_,rfl,_,_,rfl,rfl,n2⟩
   |false=>
    refine cD ⟨_,rfl,?_⟩
    rw[<-eq,Dw hc (by unfold dg;rw[h2,h3];rfl)]at k
    exact k
 rw[gX h1]
 refine cD (cD ⟨_,rfl,?_⟩)
 rw[<-eq,G6 (SK h1)]at k
 exact k
structure KM(K:aX)(a:Addr)(f:Key->Option V):Prop where
 at_:∀(P:b7)(w:cU)(h:Heap),K.In h->∃g:Key->Option aY,h.MapOf (kY P w) a g/\∀k,qV (f k) (g k)
 ns:(a==jJ)=af
section
variable{X:Cx}{d i:Expr}{td ti:TE}{pos:Pos}
inductive aft(K:aX)(Q:VK)(y:V)(x:V)(H2:Hp):Prop
 |mk (a:_) (k:_) (f:_) (_:x=.ref a) (_:y=kV k) (_:KM K a f) (_:Q (.bl (f k).isSome) H2)
def ais(K:aX)(ti td:TE):TE:=fun σ H Q=>ti σ H fun y H1=>td σ H1 fun x H2=>aft K Q y x H2
inductive acN(K:aX)(Q:VK)(x:V)(y:V)(H2:Hp):Prop
 |mk (a:_) (k:_) (f:_) (v:_) (_:x=.ref a) (_:y=kV k) (_:KM K a f) (_:f k=aa v) (_:Q v H2)
def afu(K:aX)(td ti:TE):TE:=fun σ H Q=>td σ H fun x H1=>ti σ H1 fun y H2=>acN K Q x y H2
theorem UG{o:Option V}(r:qV o p):p.isSome=o.isSome:=by
 cases o<;>cases p<;>first|rfl|exact(show False from r).elim
theorem adj(hi:PE X i ti)(ho:PE X d td):PC X .In i d (ais X.K ti td):=by
 intro pins s σ H Q I h;refine ib (hi pins s σ H _ I h) fun iv s1 ⟨y,H1,I1,ry,q1⟩=>ib (ho pins s1 σ H1 _ I1 q1) fun u s2 ⟨x,H2,I2,rx,a,k,f,ex,ey,km,q2⟩=>?_;subst ex ey;obtain rfl:u=cp a:=rx;obtain⟨g,m,r⟩:=km.at_ X.prog X.w _ I2.wN;refine wpAny_in_of (HW ry) km.ns m ?_;rw[UG (r k)];exact⟨.bl _,H2,I2.tok _,rfl,q2⟩
theorem aac(ho:PE X d td)(hi:PE X i ti)(hs:aeL i):PE X (.Subscript d i pos) (afu X.K td ti):=by
 intro pins s σ H Q I h;refine SU Jc.lookup hs (ib (ho pins s σ H _ I h) fun u s1 ⟨x,H1,I1,rx,q1⟩=>ib (hi pins s1 σ H1 _ I1 q1) fun iv s2 ⟨y,H2,I2,ry,a,k,f,v,ex,ey,km,fv,q2⟩=>?_);subst ex ey;obtain rfl:u=cp a:=rx;obtain⟨g,m,r⟩:=km.at_ X.prog X.w _ I2.wN;obtain⟨u,hu,ru⟩:=qV.some_of (v:=v) (o:=g k) (by rw[<-fv];exact r k);exact⟨m.typeIs,wpAny_getItem_of (HW ry) m hu ⟨v,H2,I2.tok _,ru,q2⟩⟩
end
theorem adE{K:aX}{a:Addr}{i:Int}{y:Str}{n:Nat}(hi:hashInt i=i)(hj:hashInt j=j)(ne:i≠j)(ns:(a==jJ)=af)
 (lk:K.lookup a=aa ⟨.type "dict",ab,.dict #[⟨i,.int i t1,.str x t2⟩,⟨j,.int j t3,.str y t4⟩] n,#[]⟩):KM K a (fun k=>if k=cM i then aa (.str x)else if k=cM j then aa (.str y)else ab):=by
 refine⟨fun P w h KX=>⟨fun k=>if k=cM i then aa (.str x t2)else if k=cM j then aa (.str y t4)else ab,⟨_,_,n,KX _ _ lk,⟨rfl,rfl,rfl⟩,rfl,?_,fun k=>?_⟩,fun k=>?_⟩,ns⟩
 ·intro e he
  simp at he
  rcases he with rfl|rfl
  ·exact⟨cM i,by show kC i (.int i t1)=ae;simp[kC],hi.symm⟩
  exact⟨cM j,by show kC j (.int j t3)=ae;simp[kC],hj.symm⟩
 ·unfold findBy
  cases k with
  |inl z=>
   have e1:wq (cM z) (.int i t1)=decide (z=i):=by show kC z (.int i t1)=_;simp[kC,eq_comm,SE]
   have e2:wq (cM z) (.int j t3)=decide (z=j):=by show kC z (.int j t3)=_;simp[kC,eq_comm,SE]
   show((#[(⟨i,.int i t1,.str x t2⟩:DictEntry),⟨j,.int j t3,.str y t4⟩].find? fun e=>wq (cM z) e.key).map (·.val))=_
   rw[<-C0]
   simp only[List.find?,e1,e2]
   by_cases z1:z=i
   ·rw[qi z1,c8 (by rw[z1])]
    rfl
   rw[gX z1,cP (fun q=>z1 (qg q))]
   by_cases z2:z=j
   ·rw[qi z2,c8 (by rw[z2])]
    rfl
   rw[gX z2,cP (fun q=>z2 (qg q))]
   rfl
  |inr z=>
   show((#[(⟨i,.int i t1,.str x t2⟩:DictEntry),⟨j,.int j t3,.str y t4⟩].find? fun e=>wq (iL z) e.key).map (·.val))=_
   rw[<-C0]
   have e1:wq (iL z) (.int i t1)=af:=rfl
   have e2:wq (iL z) (.int j t3)=af:=rfl
   simp only[List.find?,e1,e2]
   rw[cP (by intro q;cases q),cP (by intro q;cases q)]
   rfl
 show qV (if k=cM i then aa (V.str x)else if k=cM j then aa (V.str y)else ab) (if k=cM i then aa (Ag x t2)else if k=cM j then aa (Ag y t4)else ab)
 by_cases z1:k=cM i
 ·rw[c8 z1,c8 z1]
  exact⟨t2,rfl⟩
 rw[cP z1,cP z1]
 by_cases z2:k=cM j
 ·rw[c8 z2,c8 z2]
  exact⟨t4,rfl⟩
 rw[cP z2,cP z2]
 exact ju
def zI(t:List Nat):Nat->Nat->Nat
 |0,p=>p
 |k+1,p=>match t[p]? with
  |none=>p
  |some c=>if rj c=ae then zI t k (p+1)else if c=35 then zI t k (scan (fun c=>c != 10) t p)else p
def skip(t:List Nat)(p:Nat):Nat:=zI t (t.length-p) p
theorem pI{f:Nat->Bool}{t:List Nat}{p:Nat}:p<=scan f t p:=by
 unfold scan;omega
theorem qP{f:Nat->Bool}{t:List Nat}{p:Nat}(h:p<=t.length):scan f t p<=t.length:=by
 unfold scan;have:=(SA (p:=f) (l:=t.drop p)).length_le;rw[qo]at this;omega
theorem GZ{t:List Nat}:∀(k j p:Nat),t.length-p<=k->t.length-p<=j->zI t k p=zI t j p:=by
 intro k;induction k with
 |zero=>
  intro j p h1 h2;have hp:t.length<=p:=by omega
  cases j with
  |zero=>rfl
  |succ j=>
   show p=match t[p]? with|none=>p|some c=>_
   rw[dY hp]
 |succ k ih=>
  intro j p h1 h2;cases hc:t[p]? with
  |none=>
   have e1:zI t (k+1) p=p:=by simp only[zI,hc]
   rw[e1];cases j with
   |zero=>rfl
   |succ j=>simp only[zI,hc]
  |some c=>
   have hp:=(aZ.mp hc).1;cases j with
   |zero=>omega
   |succ j=>
    simp only[zI,hc];split
    ·exact ih j (p+1) (by omega) (by omega)
    split
    ·rename_i Vc;have hs:scan (fun c=>c != 10) t p=scan (fun c=>c != 10) t (p+1):=lK hc (by rw[Vc];rfl);have:=pI (f:=fun c=>c != 10) (t:=t) (p:=p+1);exact ih j _ (by omega) (by omega)
    rfl
theorem uy{t:List Nat}{p:Nat}(h:t.length<=p):skip t p=p:=by
 unfold skip;rw[show t.length-p=0 by omega];rfl
theorem F6{t:List Nat}{p:Nat}(h:t[p]?=aa c):skip t p=if rj c=ae then skip t (p+1)else if c=35 then skip t (scan (fun c=>c != 10) t p)else p:=by
 have hp:=(aZ.mp h).1;unfold skip;obtain⟨k,hk⟩:∃k,t.length-p=k+1:=⟨t.length-p-1,by omega⟩;rw[hk];simp only[zI,h];split
 ·exact GZ _ _ _ (by omega) (by omega)
 split
 ·rename_i Vc;have hs:scan (fun c=>c != 10) t p=scan (fun c=>c != 10) t (p+1):=lK h (by rw[Vc];rfl);have:=pI (f:=fun c=>c != 10) (t:=t) (p:=p+1);exact GZ _ _ _ (by omega) (by omega)
 rfl
inductive KT(K:aX)(mg:aj)(x:Str)(xs:ao):Prop
 |mk (a:_) (_:mg x=aa (.ref a)) (_:∀H,wC K H a xs)
inductive WB(K:aX)(vs:ao)(H:Hp)(Q:VK)(z':XK):Prop
 |mk (a:Addr) (t:List Nat) (p:Nat) (_:vs=[.ref a,.int p]) (_:du K H a (tx t)) (_:p<=t.length) (_:Q (.int (skip t p)) H)
theorem X6(c:Nat):wu (.int (c:Int)) [.int 32,.int 9,.int 10,.int 13]=rj c:=by
 unfold wu rj;simp only[List.any,Yp,k6]
 have h:∀n:Nat,((n:Int)==(c:Int))=(c==n):=fun n=>by
  rw[eK,beq_iff_eq,beq_iff_eq];omega
 rw[show((32:Int)==(c:Int))=(c==32)from h 32,show((9:Int)==(c:Int))=(c==9)from h 9,show((10:Int)==(c:Int))=(c==10)from h 10,show((13:Int)==(c:Int))=(c==13)from h 13]
theorem Hx{f:Addr}(F:iF K "skip_blanks" "skip_blanks" tL f fd)(hl:mg "len"=ab)(hB:KT K mg "BLANKS" [.int 32,.int 9,.int 10,.int 13])(hR:∃t,mg "REMARK"=aa (.int 35 t))
 (Cr:Fn P w K mg base eJ 1 "remark_end" vH (Dq K fun c=>c != 10)):dv P w K mg base eJ 2 f fd vH (WB K):=by
 obtain⟨aB,hB1,hB2⟩:=hB
 refine F.ok rn fun fA A outer s H vs Q E hr h=>?_
 obtain⟨a,t,p,rfl,hS,hp,k⟩:=h
 refine⟨_,bh (n9 bV (cR sY (pv 1) (dB cI (by rfl) hl cv (aP (pv 0) bq)) (da _))
  (bj (d8 (cR yM (dU cT (pv 0) (pv 1) (fun _ _=>rfl)) (Hq (by rfl) hB1) (by rfl)) (bj (rL (i:=1) rn.nd rfl (ur rfl) cE qz))
   (bj (d8 (cR iW (dU cT (pv 0) (pv 1) (fun _ _=>rfl)) (iD (by rfl) hR) (da _)) (bj (jy 1 rn.nd (dG Cr hr (by rfl) (aP (pv 0) (aP (pv 1) bq))))) (bj (b8 (pv 1)))))))) (bj (b8 (pv 1))),?_⟩
 refine⟨fun m σ H'=>∃q:Nat,m=t.length-q/\H'=H/\σ=[aa (.ref a),aa (.int q)]/\q<=t.length/\skip t q=skip t p,⟨_,p,rfl,rfl,rfl,hp,rfl⟩,?_⟩
 rintro m σ H' ⟨q,rfl,rfl,rfl,hq,eq⟩
 refine⟨_,rfl,_,rfl,a,_,rfl,.inl hS,_,_,rfl,rfl,_,rfl,?_⟩
 by_cases h1:(q:Int)<((tx t).length:Int)
 ·rw[qi h1]
  have Ic:=SJ h1
  obtain⟨c,hc⟩:∃c,t[q]?=aa c:=⟨_,bE Ic⟩
  have sk:=F6 hc
  refine dI ⟨fun σ' G=>∃q':Nat,t.length-q'<t.length-q/\G=H'/\σ'=[aa (.ref a),aa (.int q')]/\q'<=t.length/\skip t q'=skip t p,fun σ' G ⟨q',z1,z2⟩=>⟨_,z1,q',rfl,z2⟩,?_⟩
  refine⟨_,rfl,_,rfl,a,_,_,_,rfl,rfl,hS,at_of (j:=q) rfl (Gz hc),aB,_,rfl,.inr (hB2 _),rfl,rfl,_,rfl,?_⟩
  have eb:=X6 c
  rw[eb]
  cases hb:rj c with
  |true=>
   rw[c8 hb]at sk
   exact dI ⟨_,rfl,_,_,rfl,rfl,q+1,by omega,rfl,rfl,Ic,by rw[<-eq,sk]⟩
  |false=>
   rw[cP (by rw[hb];decide)]at sk
   refine cD ⟨_,rfl,_,rfl,a,_,_,_,rfl,rfl,hS,at_of (j:=q) rfl (Gz hc),rfl,_,rfl,?_⟩
   by_cases Vc:c=35
   ·have e2:decide (V.int (c:Int)=V.int 35)=ae:=by rw[Vc];decide
    rw[e2]
    rw[c8 Vc]at sk
    have hs:scan (fun c=>c != 10) t q=scan (fun c=>c != 10) t (q+1):=lK hc (by rw[Vc];rfl)
    have g1:=pI (f:=fun c=>c != 10) (t:=t) (p:=q+1)
    have g2:=qP (f:=fun c=>c != 10) (t:=t) (p:=q) hq
    exact dI ⟨_,rfl,_,rfl,a,t,q,rfl,hS,hq,_,by omega,rfl,rfl,g2,by rw[<-eq,sk]⟩
   have e2:decide (V.int (c:Int)=V.int 35)=af:=gX fun z=>Vc (by have:=V.int.inj z;omega)
   rw[e2]
   rw[cP Vc]at sk
   refine cD ⟨_,rfl,?_⟩
   rw[<-eq,sk]at k
   exact k
 rw[gX h1]
 refine cD ⟨_,rfl,?_⟩
 rw[<-eq,uy (SK h1)]at k
 exact k
inductive SX(K:aX)(vs:ao)(H:Hp)(Q:VK)(z':XK):Prop
 |mk (a:Addr) (t:List Nat) (_:vs=[.ref a]) (_:du K H a (tx t)) (_:(∀c∈t,cf c=ae)) (_:Q (.int (iH t:Nat)) H)
theorem Lg(t:List Nat)(c:Nat):iH (t++[c])=10*iH t+(c-48):=by
 unfold iH;rw[hV];rfl
theorem take_snoc{α:Type}{l:List α}{i:Nat}{x:α}(h:l[i]?=aa x):l.take (i+1)=l.take i++[x]:=by
 obtain⟨hl,e⟩:=aZ.mp h;rw[List.take_succ_eq_append_getElem hl,e]
theorem Ff{f:Addr}(F:iF K "number_value" "number_value" rC f fd)(hZ:∃t,mg "ZERO"=aa (.int 48 t)):dv P w K mg base eJ 1 f fd ["number_bytes"] (SX K):=by
 refine F.ok my fun fA A outer s H vs Q E hr h=>?_;obtain⟨a,t,rfl,hS,hd,k⟩:=h
 refine⟨_,bh (jy 1 my.nd cE) (bh (eZ bV rfl (fP (pv 0)) (oX 2 my.nd)
  (bj (jy 1 my.nd (fX DL (fX j3 (fX Xr (pv 1) cE) (pv 2)) (iD (by rfl) hZ))))) (bj (b8 (pv 1)))),?_⟩
 refine⟨_,rfl,a,rfl,⟨_,hS⟩,fZ (K:=K) (a:=a) (xs:=tx t) (fun i σ H'=>∃v,H'=H/\σ=[aa (.ref a),aa (.int (iH (t.take i):Nat)),v]) ⟨ab,rfl,rfl⟩ (fun i σ H' _ ⟨_,e,_⟩=>by rw[e];exact hS) ?_ ?_⟩
 ·rintro i y σ H' hi ⟨v,rfl,rfl⟩
  obtain⟨c,hc,rfl⟩:∃c,t[i]?=aa c/\y=V.int (c:Int):=by
   unfold tx at hi;rw[bK]at hi;cases e:t[i]? with
   |none=>rw[e]at hi;cases hi
   |some c=>rw[e]at hi;exact⟨c,rfl,(bR hi).symm⟩
  have dc:=hd c (br hc)
  have d48:48<=c:=by
   unfold cf at dc;exact(of_decide_eq_true dc).1
  refine⟨_,rfl,_,_,rfl,rfl,.inr ⟨by decide,by decide⟩,_,rfl,_,_,rfl,rfl,_,_,rfl,rfl,?_⟩;refine⟨aa (.int c),rfl,?_⟩;rw[take_snoc hc,Lg];have e:((10*iH (t.take i)+(c-48):Nat):Int)=(iH (t.take i):Int)*10+(c:Int)-48:=by omega
  rw[e];rfl
 rintro σ H' ⟨v,rfl,rfl⟩;unfold tx;rw[aV,dy];exact⟨_,rfl,k⟩
def st(t:List Nat):Str:=⟨t.toArray⟩
theorem Wu(a b:List Nat):st a++st b=st (a++b):=by
 show(⟨a.toArray++b.toArray⟩:Str)=⟨(a++b).toArray⟩;simp
theorem join_cons(x:Str):∀l:ak,pD (st []) (x::l)=x++pD (st []) l
 |[]=>by
  show x=x++st [];show x=⟨x.cps++ #[]⟩;simp
 |y::r=>by
  show x++st []++pD (st []) (y::r)=x++pD (st []) (y::r)
  have e:x++st []=x:=by
   show(⟨x.cps++ #[]⟩:Str)=x;simp
  rw[e]
theorem join_ones:∀t:List Nat,pD (st []) (t.map fun c=>st [c])=st t
 |[]=>rfl
 |c::r=>by
  rw[dC,join_cons,join_ones r,Wu];rfl
theorem Vs:∀j,j<10->("0123456789":Str).cps.toList[j]?=aa (48+j):=by decide
theorem RD:∀j,j<26->("abcdefghijklmnopqrstuvwxyz":Str).cps.toList[j]?=aa (97+j):=by decide
def ones(t:List Nat):ao:=t.map fun c=>V.str (st [c])
inductive Wy(K:aX)(vs:ao)(H:Hp)(Q:VK)(z':XK):Prop
 |mk (a:Addr) (t:List Nat) (_:vs=[.ref a]) (_:du K H a (tx t)) (_:(∀c∈t,dg c=ae)) (_:t.length<=100000) (_:∀H',bG H H'->Q (.str (st t)) H')
theorem mJ{t:List Nat}{i:Nat}{y:V}(hi:(tx t)[i]?=aa y):∃c,t[i]?=aa c/\y=V.int (c:Int):=by
 unfold tx at hi;rw[bK]at hi;cases e:t[i]? with
 |none=>rw[e]at hi;cases hi
 |some c=>rw[e]at hi;exact⟨c,rfl,(bR hi).symm⟩
theorem bG.new{H:Hp}{o:HO}(h:H p=ab):bG H (upd H p o):=fun b u e=>by
 rw[bB (bO e h)];exact e
theorem bG.put{H H':Hp}{o:HO}(h:H p=ab)(s:bG H H'):bG H (upd H' p o):=fun b u e=>by
 rw[bB (bO e h)];exact s b u e
theorem Of:∀t:List Nat,((t.map fun c=>st [c]).map (·.length)).sum=t.length
 |[]=>rfl
 |c::r=>by
  rw[dC,dC,List.sum_cons,Of r,cJ];show 1+r.length=r.length+1;omega
theorem LS{f:Addr}(F:iF K "word_text" "word_text" xx f fd)(hZ:∃t,mg "ZERO"=aa (.int 48 t))(hA:∃t,mg "SMALL_A"=aa (.int 97 t))(hD:∃t,mg "DIGITS"=aa (.str "0123456789" t))
 (hL:∃t,mg "LETTERS"=aa (.str "abcdefghijklmnopqrstuvwxyz" t))(Cd:Fn P w K mg base eJ 1 "is_digit" ["byte"] (w8 cf)):dv P w K mg base eJ 2 f fd ["word_bytes"] (Wy K):=by
 refine F.ok vk fun fA A outer s H vs Q E hr h=>?_
 obtain⟨a,t,rfl,hS,hd,hz,k⟩:=h
 refine⟨_,bh (jy 1 vk.nd (eA bq)) (bh (eZ bV rfl (fP (pv 0)) (oX 2 vk.nd)
  (bj (d8 (jw (dG Cd hr (by rfl) (aP (pv 2) bq)))
   (bj (dJ (md cb c7 cZ iN (pv 1) (aP (dU X1 (Tn (by rfl) hD) (fX DL (pv 2) (iD (by rfl) hZ)) (fun _ _=>rfl)) bq))))
   (bj (dJ (md cb c7 cZ iN (pv 1) (aP (dU X1 (Tn (by rfl) hL) (fX DL (pv 2) (iD (by rfl) hA)) (fun _ _=>rfl)) bq)))))))
  (bj (b8 (LM eM (pv 1))))),?_⟩
 refine⟨cB _,fun p hp=>?_⟩
 have s1:bG H (upd H p (.lst [])):=bG.new hp
 refine⟨_,rfl,a,rfl,⟨_,s1.seq hS⟩,fZ (K:=K) (a:=a) (xs:=tx t) (fun i σ H'=>∃v,σ=[aa (.ref a),aa (.ref p),v]/\H' p=aa (.lst (ones (t.take i)))/\bG H H') ⟨ab,rfl,ba,s1⟩ (fun i σ H' _ ⟨_,_,_,s2⟩=>s2.seq hS) ?_ ?_⟩
 ·rintro i y σ H' hi ⟨v,rfl,hp',s2⟩
  obtain⟨c,hc,rfl⟩:=mJ hi
  have dc:=hd c (br hc)
  have il:=(aZ.mp hc).1
  have len:(ones (t.take i)).length<bz:=by
   unfold ones;rw[aV,dW,bX];omega
  have fin:∀x:V,x=V.str (st [c])->∃v,[aa (V.ref a),aa (V.ref p),aa (V.int (c:Int))]=[aa (V.ref a),aa (V.ref p),v]/\(upd H' p (.lst (ones (t.take i)++[x]))) p=aa (.lst (ones (t.take (i+1))))/\bG H (upd H' p (.lst (ones (t.take i)++[x]))):=fun x hx=>by
   refine⟨_,rfl,?_,bG.put hp s2⟩;rw[ba,take_snoc hc,hx];unfold ones;rw[b9];rfl
  refine⟨_,rfl,c,rfl,_,rfl,?_⟩
  cases h2:cf c with
  |true=>
   have dd:=of_decide_eq_true (show decide (48<=c/\c<=57)=ae from h2)
   refine dI ⟨_,rfl,.inl ⟨rfl,_,du.of hp'⟩,_,rfl,_,_,rfl,rfl,_,_,c,rfl,rfl,(by show 10<=bz;decide),?_,p,_,_,rfl,rfl,hp',len,fin _ rfl⟩
   have e:=Vs (c-48) (by omega)
   rw[show 48+(c-48)=c by omega]at e
   have e2:((c:Int)-48)=((c-48:Nat):Int):=by omega
   rw[e2]
   exact tE e
  |false=>
   have ld:jQ c=ae:=by
    unfold dg at dc;rw[h2,k6]at dc;exact dc
   have dd:=of_decide_eq_true (show decide (97<=c/\c<=122)=ae from ld)
   refine cD ⟨_,rfl,.inl ⟨rfl,_,du.of hp'⟩,_,rfl,_,_,rfl,rfl,_,_,c,rfl,rfl,(by show 26<=bz;decide),?_,p,_,_,rfl,rfl,hp',len,fin _ rfl⟩
   have e:=RD (c-97) (by omega)
   rw[show 97+(c-97)=c by omega]at e
   have e2:((c:Int)-97)=((c-97:Nat):Int):=by omega
   rw[e2]
   exact tE e
 rintro σ H' ⟨v,rfl,hp',s2⟩
 have el:t.take (tx t).length=t:=by
  unfold tx;rw[aV,dy]
 rw[el]at hp'
 refine⟨⟨_,rfl⟩,_,rfl,_,p,t.map fun c=>st [c],rfl,rfl,.inl (du.of ?_),?_,?_⟩
 ·rw[hp']
  unfold ones
  rw[dA]
  rfl
 ·rw[Of,aV]
  show t.length+t.length*0<=16777216
  omega
 rw[TL.join_eq]
 show Q (.str (pD (st []) (t.map fun c=>st [c]))) H'
 rw[join_ones]
 exact k H' s2
theorem jg{H:Hp}{o u:HO}:upd (upd H a o) a u=upd H a u:=by
 funext b;unfold upd;split<;>rfl
inductive Tk where
 |word (w:List Nat)|num (n:Nat)|sign (c:Nat)|bad|fin
def Tk.kind:Tk->Str
 |.word _=>"word"
 |.num _=>"number"
 |.sign _=>"sign"
 |.bad=>"none"
 |.fin=>"end"
def Tk.val:Tk->V
 |.word w=>.str (st w)
 |.num n=>.int (n:Int)
 |.sign c=>.str (st [c])
 |.bad=>.str ""
 |.fin=>.str ""
def y4(k v p e:V):aq:=[("kind",k),("value",v),("position",p),("end",e)]
structure Se(K:aX)(C:Addr):Prop where
 cl:Gj K C
 n1:eQ K C "kind"
 n2:eQ K C "value"
 n3:eQ K C "position"
 n4:eQ K C "end"
inductive yF(C:Addr)(vs:ao)(H:Hp)(Q:VK)(z':XK):Prop
 |mk (a dx:Addr) (k v p e:V) (_:vs=[.ref a,k,v,p,e]) (_:H a=aa (.ins C dx [])) (_:Q .j5 (upd H a (.ins C dx (y4 k v p e))))
structure Mc(P:b7)(w:cU)(K:aX)(mg:aj)(base:Heap)(k:Nat)(x:Str)(C:Addr)(ps:ak)(sp:Sp):Prop where
 ex:∃(f:Addr)(fd:gx),Mk K C f/\dv P w K mg base eJ k f fd ps sp/\mg x=aa (.ref C)/\Binds K fd ps []
theorem EL{X:Cx}{k:Nat}{sp:Sp}{e:Expr}{es:List Expr}{t:TA}{pos:Pos}(M:Mc X.prog X.w X.K X.mg X.base k x C ps sp)(hr:gG (k+1) X.A)(hg:Gl X x)(ha:PA X (e::es) t)(AE:(x==("__debug__":Str))=af:=by decide)
 (he:bW (e::es) X.env=(af,eval e X.env)::bW es X.env:=by rfl)(yR:(gz pos (bW es X.env)).any (·.1)=af:=by rfl):PE X (.Call (.Name x p) (e::es) [] pos) (Od C sp [] E0 t):=by
 obtain⟨f,fd,M,G,m,b⟩:=M.ex
 exact aaa M G hr hg m b .nil rN ha AE he yR
inductive P6(C:Addr)(H:Hp)(a:Addr)(τ:Tk)(p e:Nat):Prop
 |mk (dx:_) (_:H a=aa (.ins C dx (y4 (.str τ.kind) τ.val (.int (p:Int)) (.int (e:Int)))))
theorem JA{f:Addr}(F:iF K "__init__" "Token.__init__" vy f fd)(T:Se K C):dv P w K mg base eJ 1 f fd Xd (yF C):=by
 refine F.ok Jl fun fA A outer s H vs Q E hr h=>?_;obtain⟨a,dx,k,v,p,e,rfl,ha,q⟩:=h;refine⟨_,bh (lr (pv 0) (pv 1) rfl) (bh (lr (pv 0) (pv 2) rfl) (bh (lr (pv 0) (pv 3) rfl) (bj (lr (pv 0) (pv 4) rfl)))),?_⟩;refine⟨_,rfl,_,rfl,a,C,dx,_,rfl,ha,T.cl,T.n1,(by show 0<1000;decide),?_⟩;refine⟨_,rfl,_,rfl,a,C,dx,_,rfl,ba,T.cl,T.n2,(by show 1<1000;decide),?_⟩;refine⟨_,rfl,_,rfl,a,C,dx,_,rfl,ba,T.cl,T.n3,(by show 2<1000;decide),?_⟩;refine⟨_,rfl,_,rfl,a,C,dx,_,rfl,ba,T.cl,T.n4,(by show 3<1000;decide),?_⟩;rw[jg,jg,jg];exact q
theorem DW{H:Hp}{k v e:V}{Q:VK}(h:∀a dx H',bG H H'->H a=ab->H' a=aa (.ins C dx (y4 k v p e))->Q (.ref a) H'):
 ∀x dx,H x=ab->H dx=ab->dx≠x->yF C (.ref x::([k,v,p,e]++[])) (upd (upd H dx (.own x)) x (.ins C dx [])) (fun v H2=>v=.j5/\Q (.ref x) H2) E0:=fun x dx hx hd ne=>
 ⟨x,dx,k,v,p,e,rfl,ba,rfl,h x dx _ (fun b o z=>by rw[jg,bB (bO z hx),bB (bO z hd)];exact z) hx (by rw[ba])⟩
def cut(t:List Nat)(p e:Nat):List Nat:=(t.drop p).take (e-p)
def fC(t:List Nat)(p c:Nat):Tk×Nat:=
 if c=59\/c=61 then(.sign c,p+1)
 else if jQ c=ae then(.word (cut t p (scan dg t p)),scan dg t p)
 else if cf c=ae then(if c≠48\/scan cf t p=p+1 then(.num (iH (cut t p (scan cf t p))),scan cf t p)else(.bad,p))
 else(.bad,p)
theorem RU{t:List Nat}{p e:Nat}(hp:p<=t.length)(he:e<=t.length):CG (tx t) (aa (p:Int)) (aa (e:Int))=tx (cut t p e):=by
 unfold CG cut tx;rw[HT.yI,HT.yI,aV,Nat.min_eq_left hp,Nat.min_eq_left he,NV,List.map_drop]
theorem PL{f:Nat->Bool}{t:List Nat}:cut t p (scan f t p)=(t.drop p).takeWhile f:=by
 unfold cut scan;rw[Nat.add_sub_cancel_left];exact(List.prefix_iff_eq_take.mp (SA (p:=f) (l:=t.drop p))).symm
theorem MS{f:Nat->Bool}{t:List Nat}{p:Nat}:∀c∈cut t p (scan f t p),f c=ae:=by
 rw[PL];intro c hc;exact cV.mp (List.all_takeWhile) c hc
theorem T8{t:List Nat}{e:Nat}:(cut t p e).length<=t.length:=by
 unfold cut;rw[dW,qo];omega
def Kq:Key->Option V:=fun k=>if k=cM 59 then aa (.str ";")else if k=cM 61 then aa (.str "=")else ab
structure ahh(P:b7)(w:cU)(K:aX)(mg:aj)(base:Heap)(C:Addr):Prop where
 dig:Fn P w K mg base eJ 1 "is_digit" ["byte"] (w8 cf)
 aji:Fn P w K mg base eJ 1 "is_letter" ["byte"] (w8 jQ)
 we:Fn P w K mg base eJ 2 "word_end" vH (Dq K dg)
 ne:Fn P w K mg base eJ 2 "number_end" vH (Dq K cf)
 wt:Fn P w K mg base eJ 2 "word_text" ["word_bytes"] (Wy K)
 nv:Fn P w K mg base eJ 1 "number_value" ["number_bytes"] (SX K)
 Zj:Mc P w K mg base 1 "Token" C Xd (yF C)
 sg:∃a,mg "SIGNS"=aa (.ref a)/\KM K a Kq
 ze:∃t,mg "ZERO"=aa (.int 48 t)
inductive Kl(K:aX)(C:Addr)(vs:ao)(H:Hp)(Q:VK)(z':XK):Prop
 |mk (a:Addr) (t:List Nat) (p c:Nat) (_:vs=[.ref a,.int p]) (_:du K H a (tx t)) (_:t[p]?=aa c) (_:t.length<=100000) (_:∀b H',bG H H'->P6 C H' b (fC t p c).1 p (fC t p c).2->Q (.ref b) H')
theorem Jv{f:Addr}(F:iF K "read_token" "read_token" vp f fd)(T:ahh P w K mg base C):dv P w K mg base eJ 3 f fd vH (Kl K C):=by
 obtain⟨aS,hS1,hS2⟩:=T.sg;refine F.ok pJ fun fA A outer s H vs Q E hr h=>?_;obtain⟨a,t,p,c,rfl,hT,hc,hz,k⟩:=h;have Ib:gG 1 _:=hr.mono (by decide);have hp:=(aZ.mp hc).1
 have bad:fC t p c=(.bad,p)->∀b dx H',bG H H'->H b=ab->H' b=aa (.ins C dx (y4 (.str "none") (.str "") (.int p) (.int p)))->Q (.ref b) H':=fun e b dx H' s1 _ z=>by
  rw[e]at k;exact k b H' s1 ⟨dx,z⟩
 refine⟨_,bh (jy 2 pJ.nd (dU cT (pv 0) (pv 1) (fun _ _=>rfl)))
  (bh (d8 (DG (adj (pv 2) (Hq (by rfl) hS1))) (bj (b8 (EL T.Zj hr (by rfl) (aP eM (aP (aac (Hq (by rfl) hS1) (pv 2) (fun _ _=>rfl)) (aP (pv 1) (aP (fX j3 (pv 1) cE) bq))))))) cS)
  (bh (d8 (jw (dG T.aji Ib (by rfl) (aP (pv 2) bq)))
   (bh (jy 3 pJ.nd (dG T.we hr (by rfl) (aP (pv 0) (aP (pv 1) bq))))
    (bj (b8 (EL T.Zj hr (by rfl) (aP eM (aP (dG T.wt hr (by rfl) (aP (BC F5 (pv 0) (sX (pv 1)) (sX (pv 3))) bq)) (aP (pv 1) (aP (pv 3) bq)))))))) cS)
  (bh (d8 (jw (dG T.dig Ib (by rfl) (aP (pv 2) bq)))
   (bh (jy 3 pJ.nd (dG T.ne hr (by rfl) (aP (pv 0) (aP (pv 1) bq))))
    (bj (d8 (Ku (cR wo (pv 2) (iD (by rfl) T.ze) (da _)) (DF (cR iW (pv 3) (fX j3 (pv 1) cE) (da _)))).pt
     (bj (b8 (EL T.Zj hr (by rfl) (aP eM (aP (dG T.nv Ib (by rfl) (aP (BC F5 (pv 0) (sX (pv 1)) (sX (pv 3))) bq)) (aP (pv 1) (aP (pv 3) bq))))))) cS))) cS)
  (bj (b8 (EL T.Zj hr (by rfl) (aP eM (aP eM (aP (pv 1) (aP (pv 1) bq)))))))))),?_⟩
 refine⟨_,rfl,_,rfl,a,_,_,_,rfl,rfl,hT,at_of (j:=p) rfl (Gz hc),?_⟩;refine⟨_,rfl,aS,cM (c:Int),_,rfl,rfl,hS2,_,rfl,?_⟩;by_cases h1:c=59\/c=61
 ·have e1:∃x:Str,Kq (cM (c:Int))=aa (.str x)/\x=st [c]:=by
   rcases h1 with rfl|rfl
   ·exact⟨";",rfl,rfl⟩
   exact⟨"=",rfl,rfl⟩
  obtain⟨x,e1,e2⟩:=e1;have e3:(Kq (cM (c:Int))).isSome=ae:=by rw[e1];rfl
  rw[e3];refine dI ⟨_,rfl,aS,cM (c:Int),_,_,rfl,rfl,hS2,e1,_,rfl,_,rfl,_,_,rfl,rfl,DW fun b dx H' s1 _ z=>?_⟩
  have e4:fC t p c=(.sign c,p+1):=by
   unfold fC;rw[c8 h1]
  rw[e4]at k;refine k b H' s1 ⟨dx,?_⟩;rw[z,e2];rfl
 have e3:(Kq (cM (c:Int))).isSome=af:=by
  unfold Kq;rw[cP (fun q=>h1 (.inl (by have:=qg q;omega))),cP (fun q=>h1 (.inr (by have:=qg q;omega)))];rfl
 rw[e3];refine cD ⟨_,rfl,c,rfl,_,rfl,?_⟩;cases h2:jQ c with
 |true=>
  have e4:fC t p c=(.word (cut t p (scan dg t p)),scan dg t p):=by
   unfold fC;rw[cP h1,c8 h2]
  rw[e4]at k;have g2:=qP (f:=dg) (t:=t) (p:=p) (dm hp);refine dI ⟨_,rfl,_,rfl,a,t,p,rfl,hT,dm hp,?_⟩;refine⟨_,rfl,_,rfl,_,rfl,_,rfl,_,rfl,a,_,rfl,hT,fun q hq=>?_⟩;rw[RU (dm hp) g2];refine⟨q,_,rfl,du.of ba,MS,cQ T8 hz,fun H1 s1=>?_⟩;have s2:=(bG.new hq).trans s1;exact⟨_,rfl,_,rfl,DW fun b dx H' s3 _ z=>k b H' (s2.trans s3) ⟨dx,z⟩⟩
 |false=>
  refine cD ⟨_,rfl,c,rfl,_,rfl,?_⟩;cases h3:cf c with
  |true=>
   have g2:=qP (f:=cf) (t:=t) (p:=p) (dm hp)
   have num:(c≠48\/scan cf t p=p+1)->∀b dx H',bG H H'->H' b=aa (.ins C dx (y4 (.str "number") (.int (iH (cut t p (scan cf t p)):Nat)) (.int p) (.int (scan cf t p:Nat))))->Q (.ref b) H':=fun h4 b dx H' s1 z=>by
    have e4:fC t p c=(.num (iH (cut t p (scan cf t p))),scan cf t p):=by
     unfold fC;rw[cP h1,cP (by rw[h2];decide),c8 h3,c8 h4]
    rw[e4]at k;exact k b H' s1 ⟨dx,z⟩
   refine dI ⟨_,rfl,_,rfl,a,t,p,rfl,hT,dm hp,?_⟩;refine⟨_,rfl,rfl,_,rfl,?_⟩;by_cases h4:c=48
   ·have e5:(!decide (V.int (c:Int)=V.int 48))=af:=by rw[h4];decide
    rw[e5];refine cD ⟨_,rfl,_,rfl,_,_,rfl,rfl,rfl,_,rfl,?_⟩;by_cases h5:scan cf t p=p+1
    ·have e6:decide (V.int ((scan cf t p:Nat):Int)=V.int ((p:Int)+1))=ae:=by
      rw[h5];exact qi rfl
     rw[e6];refine dI ⟨_,rfl,_,rfl,_,rfl,_,rfl,_,rfl,a,_,rfl,hT,fun q hq=>?_⟩;rw[RU (dm hp) g2];exact⟨q,_,rfl,du.of ba,MS,_,rfl,_,rfl,DW fun b dx H' s3 _ z=>num (.inr h5) b dx H' ((bG.new hq).trans s3) z⟩
    have e6:decide (V.int ((scan cf t p:Nat):Int)=V.int ((p:Int)+1))=af:=gX fun z=>h5 (by have:=V.int.inj z;omega);rw[e6]
    have e4:fC t p c=(.bad,p):=by
     unfold fC;rw[cP h1,cP (by rw[h2];decide),c8 h3,cP (by rintro(z|z);exact z h4;exact h5 z)]
    exact cD ⟨_,rfl,_,rfl,DW (bad e4)⟩
   have e5:(!decide (V.int (c:Int)=V.int 48))=ae:=by
    rw[gX fun z=>h4 (by have:=V.int.inj z;omega)];rfl
   rw[e5];refine dI (dI ⟨_,rfl,_,rfl,_,rfl,_,rfl,_,rfl,a,_,rfl,hT,fun q hq=>?_⟩);rw[RU (dm hp) g2];exact⟨q,_,rfl,du.of ba,MS,_,rfl,_,rfl,DW fun b dx H' s3 _ z=>num (.inl h4) b dx H' ((bG.new hq).trans s3) z⟩
  |false=>
   have e4:fC t p c=(.bad,p):=by
    unfold fC;rw[cP h1,cP (by rw[h2];decide),cP (by rw[h3];decide)]
   exact cD ⟨_,rfl,_,rfl,DW (bad e4)⟩
abbrev kr:=Tk×Nat×Nat
def Tk.isBad:Tk->Bool
 |.bad=>ae
 |_=>af
def l9(t:List Nat):Nat->Nat->List kr
 |0,_=>[(.fin,t.length,t.length)]
 |k+1,p=>match t[p]? with
  |none=>[(.fin,t.length,t.length)]
  |some c=>((fC t p c).1,p,(fC t p c).2)::(if(fC t p c).1.isBad=ae then[]else l9 t k (skip t (fC t p c).2))
def toks(t:List Nat)(p:Nat):List kr:=l9 t (t.length-p) p
theorem Lw{t:List Nat}:∀(n p:Nat),t.length-p<=n->p<=skip t p:=by
 intro n;induction n with
 |zero=>intro p h;rw[uy (by omega)];exact bu _
 |succ n ih=>
  intro p h;cases hc:t[p]? with
  |none=>rw[uy (iq.mp hc)];exact bu _
  |some c=>
   have hp:=(aZ.mp hc).1;rw[F6 hc];split
   ·have:=ih (p+1) (by omega);omega
   split
   ·rename_i Vc;have hs:scan (fun c=>c != 10) t p=scan (fun c=>c != 10) t (p+1):=lK hc (by rw[Vc];rfl);have g:=pI (f:=fun c=>c != 10) (t:=t) (p:=p+1);have:=ih (scan (fun c=>c != 10) t p) (by omega);omega
   exact bu _
theorem S9{t:List Nat}:∀(n p:Nat),t.length-p<=n->p<=t.length->skip t p<=t.length:=by
 intro n;induction n with
 |zero=>intro p h hp;rw[uy (by omega)];exact hp
 |succ n ih=>
  intro p h hp;cases hc:t[p]? with
  |none=>rw[uy (iq.mp hc)];exact hp
  |some c=>
   have hp:=(aZ.mp hc).1;rw[F6 hc];split
   ·exact ih (p+1) (by omega) (by omega)
   split
   ·rename_i Vc;have hs:scan (fun c=>c != 10) t p=scan (fun c=>c != 10) t (p+1):=lK hc (by rw[Vc];rfl);have g:=pI (f:=fun c=>c != 10) (t:=t) (p:=p+1);exact ih (scan (fun c=>c != 10) t p) (by omega) (qP (by omega))
   omega
theorem Dn{t:List Nat}{p:Nat}(hc:t[p]?=aa c)(nb:(fC t p c).1.isBad=af):p<(fC t p c).2/\(fC t p c).2<=t.length:=by
 have hp:=(aZ.mp hc).1;unfold fC at nb⊢;split
 ·exact⟨eN _,hp⟩
 split
 ·rename_i h1 h2;have e:scan dg t p=scan dg t (p+1):=lK hc (by unfold dg;rw[h2];rfl);have g:=pI (f:=dg) (t:=t) (p:=p+1);have g2:=qP (f:=dg) (t:=t) (p:=p) (dm hp);exact⟨by show p<scan dg t p;omega,g2⟩
 rename_i h1 h2;rw[cP h1,cP h2]at nb;split
 ·rename_i h3;rw[c8 h3]at nb;have e:=lK hc h3;have g:=pI (f:=cf) (t:=t) (p:=p+1);have g2:=qP (f:=cf) (t:=t) (p:=p) (dm hp);split
  ·exact⟨by show p<scan cf t p;omega,g2⟩
  rename_i h4;rw[cP h4]at nb;cases nb
 rename_i h3;rw[cP h3]at nb;cases nb
theorem QJ{t:List Nat}:∀(k j p:Nat),t.length-p<=k->t.length-p<=j->l9 t k p=l9 t j p:=by
 intro k;induction k with
 |zero=>
  intro j p h1 h2;cases j with
  |zero=>rfl
  |succ j=>simp only[l9,dY (show t.length<=p by omega)]
 |succ k ih=>
  intro j p h1 h2;cases hc:t[p]? with
  |none=>
   cases j with
   |zero=>simp only[l9,hc]
   |succ j=>simp only[l9,hc]
  |some c=>
   have hp:=(aZ.mp hc).1;cases j with
   |zero=>omega
   |succ j=>
    simp only[l9,hc];cases nb:(fC t p c).1.isBad with
    |true=>rw[c8 rfl,c8 rfl]
    |false=>
     obtain⟨g1,g2⟩:=Dn hc nb;have g3:=Lw (t:=t) _ (fC t p c).2 (bu _);rw[cP (by decide),cP (by decide),ih j _ (by omega) (by omega)]
theorem GA{t:List Nat}{p:Nat}(h:t.length<=p):toks t p=[(.fin,t.length,t.length)]:=by
 unfold toks;rw[show t.length-p=0 by omega];rfl
theorem Lj{t:List Nat}{p:Nat}(hc:t[p]?=aa c):toks t p=((fC t p c).1,p,(fC t p c).2)::(if(fC t p c).1.isBad=ae then[]else toks t (skip t (fC t p c).2)):=by
 have hp:=(aZ.mp hc).1;unfold toks;obtain⟨k,hk⟩:∃k,t.length-p=k+1:=⟨t.length-p-1,by omega⟩;rw[hk];simp only[l9,hc];cases nb:(fC t p c).1.isBad with
 |true=>rw[c8 rfl,c8 rfl]
 |false=>
  obtain⟨g1,g2⟩:=Dn hc nb;have g3:=Lw (t:=t) _ (fC t p c).2 (bu _);rw[cP (by decide),cP (by decide),QJ _ _ _ (by omega) (bu _)]
def qD(C:Addr)(H:Hp)(as:ag)(ts:List kr):Prop:=fJ (fun a x=>P6 C H a x.1 x.2.1 x.2.2) as ts
theorem mZ{α β:Type}{F:α->β->Prop}:∀{l1 l2:List α}{m1 m2:List β},fJ F l1 m1->fJ F l2 m2->fJ F (l1++l2) (m1++m2)
 |_,_,_,_,.nil,s=>s
 |_,_,_,_,.cons r t,s=>.cons r (mZ t s)
theorem qD.same{H H':Hp}(h:qD C H as ts)(s:bG H H'):qD C H' as ts:=Paired.sC h fun a x ⟨dx,e⟩=>⟨dx,s _ _ e⟩
theorem qD.put{H:Hp}(h:qD C H as ts)(hl:H l=aa (.lst xs)):qD C (upd H l (.lst ys)) as ts:=Paired.sC h fun a x ⟨dx,e⟩=>
 ⟨dx,by rw[bB (lB e hl (by intro z;cases z))];exact e⟩
inductive Wz(K:aX)(C:Addr)(vs:ao)(H:Hp)(Q:VK)(z':XK):Prop
 |mk (a:Addr) (t:List Nat) (_:vs=[.ref a]) (_:du K H a (tx t)) (_:t.length<=100000) (_:∀l as H',bG H H'->H' l=aa (.lst (as.map V.ref))->qD C H' as (toks t (skip t 0))->Q (.ref l) H')
theorem XW(τ:Tk):decide (V.str τ.kind=V.str "none")=τ.isBad:=by cases τ<;>rfl
theorem uw{k v e:V}:(y4 k v p e).lookup ("kind":Str)=aa k:=by
 unfold y4;rfl
theorem wY{k v e:V}:(y4 k v p e).lookup ("value":Str)=aa v:=by
 unfold y4;rfl
theorem Wj{k v e:V}:(y4 k v p e).lookup ("position":Str)=aa p:=by
 unfold y4;rfl
theorem Wl{k v e:V}:(y4 k v p e).lookup ("end":Str)=aa e:=by
 unfold y4;rfl
theorem Oa{t:List Nat}:(toks t p).length<=t.length-p+1:=by
 unfold toks;generalize hk:t.length-p=k
 have:∀k p,(l9 t k p).length<=k+1:=by
  intro k;induction k with
  |zero=>intro p;exact bu _
  |succ k ih=>
   intro p;cases hc:t[p]? with
   |none=>
    simp only[l9,hc];exact IV (cB _)
   |some c=>
    simp only[l9,hc];split
    ·exact IV (cB _)
    exact IV (ih _)
 exact this k p
theorem Hz{f:Addr}(F:iF K "read_tokens" "read_tokens" tN f fd)(hl:mg "len"=ab)(T:Se K C)(M:Mc P w K mg base 1 "Token" C Xd (yF C))
 (Cs:Fn P w K mg base eJ 2 "skip_blanks" vH (WB K))(Ct:Fn P w K mg base eJ 3 "read_token" vH (Kl K C)):dv P w K mg base eJ 4 f fd ["text"] (Wz K C):=by
 refine F.ok k7 fun fA A outer s H vs Q E hr h=>?_
 obtain⟨a,t,rfl,hT,hz,k⟩:=h
 have RG:gG 2 _:=hr.mono (by decide)
 refine⟨_,bh (jy 1 k7.nd (eA bq)) (bh (jy 2 k7.nd (dG Cs RG (by rfl) (aP (pv 0) (aP cE bq))))
  (bh (n9 bV (cR sY (pv 2) (dB cI (by rfl) hl cv (aP (pv 0) bq)) (da _))
   (bh (jy 3 k7.nd (dG Ct hr (by rfl) (aP (pv 0) (aP (pv 2) bq))))
   (bh (dJ (md cb c7 cZ iN (pv 1) (aP (pv 3) bq)))
   (bh (d8 (cR iW (cu (pv 3) rfl) eM (da _)) (bj (b8 (pv 1))) cS)
   (bj (jy 2 k7.nd (dG Cs RG (by rfl) (aP (pv 0) (aP (cu (pv 3) rfl) bq)))))))))
  (bh (dJ (md cb c7 cZ iN (pv 1) (aP (EL M RG (by rfl) (aP eM (aP eM (aP (dB cI (by rfl) hl cv (aP (pv 0) bq)) (aP (dB cI (by rfl) hl cv (aP (pv 0) bq)) bq))))) bq)))
  (bj (b8 (pv 1)))))),?_⟩
 refine⟨cB _,fun l hl0=>?_⟩
 have s1:bG H (upd H l (.lst [])):=bG.new hl0
 refine⟨_,rfl,a,t,0,rfl,s1.seq hT,cB _,?_⟩
 have q0:=S9 (t:=t) _ 0 (bu _) (cB _)
 refine⟨fun m σ H'=>Ex4 fun(q:Nat)(v:Option V)(as:ag)(dn:List kr)=>m=t.length-q/\q<=t.length/\bG H H'/\H' l=aa (.lst (as.map V.ref))/\qD C H' as dn/\dn++toks t q=toks t (skip t 0)/\σ=[aa (.ref a),aa (.ref l),aa (.int q),v],
  ⟨_,skip t 0,ab,[],[],rfl,q0,s1,ba,.nil,rfl,rfl⟩,?_⟩
 rintro m σ H' ⟨q,v,as,dn,rfl,hq,s2,NL,ta,dq,rfl⟩
 have anF:=dM ta
 have agg:dn.length+(toks t q).length<=t.length+1:=by
  have:=congrArg IX dq;rw[bQ]at this;have h2:=Oa (t:=t) (p:=skip t 0);omega
 have am1:0<(toks t q).length:=by
  cases hc:t[q]? with
  |none=>rw[GA (iq.mp hc)];exact Nat.zero_lt_one
  |some c=>rw[Lj hc];exact Nat.succ_pos _
 have agf:(as.map V.ref).length<bz:=by
  rw[aV,bX];omega
 refine⟨_,rfl,_,rfl,a,_,rfl,.inl (s2.seq hT),_,_,rfl,rfl,_,rfl,?_⟩
 by_cases h1:(q:Int)<((tx t).length:Int)
 ·rw[qi h1]
  have Ic:=SJ h1
  obtain⟨c,hc⟩:∃c,t[q]?=aa c:=⟨_,bE Ic⟩
  have tq:=Lj hc
  refine dI ⟨fun σ' G=>Ex4 fun(q':Nat)(v:Option V)(as:ag)(dn:List kr)=>t.length-q'<t.length-q/\q'<=t.length/\bG H G/\G l=aa (.lst (as.map V.ref))/\qD C G as dn/\dn++toks t q'=toks t (skip t 0)/\σ'=[aa (.ref a),aa (.ref l),aa (.int q'),v],
   fun σ' G ⟨q',v,as,dn,z1,z2⟩=>⟨_,z1,q',v,as,dn,rfl,z2⟩,?_⟩
  refine⟨_,rfl,_,rfl,a,t,q,c,rfl,s2.seq hT,hc,hz,fun b H1 s3 tb=>?_⟩
  have uq:=s3 _ _ NL
  refine⟨_,rfl,.inl ⟨rfl,_,du.of uq⟩,_,rfl,l,_,_,rfl,rfl,uq,agf,?_⟩
  obtain⟨dx,hb⟩:=id tb
  have nb:=lB hb uq (by intro z;cases z)
  have Ih:(upd H1 l (.lst (as.map V.ref++[V.ref b]))) b=aa (.ins C dx (y4 (.str (fC t q c).1.kind) (fC t q c).1.val (.int (q:Int)) (.int ((fC t q c).2:Int)))):=by
   rw[bB nb];exact hb
  have lst:(upd H1 l (.lst (as.map V.ref++[V.ref b]))) l=aa (.lst ((as++[b]).map V.ref)):=by
   rw[ba,b9];rfl
  have ta2:qD C (upd H1 l (.lst (as.map V.ref++[V.ref b]))) (as++[b]) (dn++[((fC t q c).1,q,(fC t q c).2)]):=mZ ((ta.same s3).put uq) (.cons ⟨dx,Ih⟩ .nil)
  have s4:bG H (upd H1 l (.lst (as.map V.ref++[V.ref b]))):=bG.put hl0 (s2.trans s3)
  refine⟨_,rfl,b,C,dx,_,_,rfl,Ih,T.cl,T.n1,uw,rfl,_,rfl,?_⟩
  rw[XW]
  cases bd:(fC t q c).1.isBad with
  |true=>
   refine dI ⟨_,rfl,k l (as++[b]) _ s4 lst ?_⟩
   rw[tq,bd,c8 rfl]at dq
   rw[<-dq]
   exact ta2
  |false=>
   obtain⟨g1,g2⟩:=Dn hc bd
   have g3:=Lw (t:=t) _ (fC t q c).2 (bu _)
   have g4:=S9 (t:=t) _ (fC t q c).2 (bu _) g2
   refine cD ⟨_,rfl,_,rfl,b,C,dx,_,_,rfl,Ih,T.cl,T.n4,Wl,a,t,(fC t q c).2,rfl,s4.seq hT,g2,?_⟩
   refine⟨skip t (fC t q c).2,_,as++[b],dn++[((fC t q c).1,q,(fC t q c).2)],by omega,g4,s4,lst,ta2,?_,rfl⟩
   rw[tq,bd,cP (by decide)]at dq
   rw[<-dq,c9]
   rfl
 rw[gX h1]
 refine cD ⟨_,rfl,.inl ⟨rfl,_,du.of NL⟩,_,rfl,a,_,rfl,.inl (s2.seq hT),_,rfl,a,_,rfl,.inl (s2.seq hT),?_⟩
 intro b dx hbn hdn ndb
 refine⟨b,dx,_,_,_,_,rfl,ba,rfl,?_⟩
 generalize hH1:upd (upd (upd H' dx (.own b)) b (.ins C dx [])) b (.ins C dx (y4 (.str "end") (.str "") (.int ((tx t).length:Int)) (.int ((tx t).length:Int))))=H1
 have s3:bG H' H1:=fun y o z=>by
  rw[<-hH1,jg,bB (bO z hbn),bB (bO z hdn)];exact z
 have hb:H1 b=aa (.ins C dx (y4 (.str "end") (.str "") (.int ((tx t).length:Int)) (.int ((tx t).length:Int)))):=by
  rw[<-hH1,ba]
 have uq:=s3 _ _ NL
 refine⟨l,_,_,rfl,rfl,uq,agf,_,rfl,?_⟩
 have nb:=lB hb uq (by intro z;cases z)
 have lt:(tx t).length=t.length:=by
  unfold tx;exact aV _
 rw[GA (SK h1)]at dq
 refine k l (as++[b]) _ (bG.put hl0 (s2.trans s3)) ?_ ?_
 ·rw[ba,b9]
  rfl
 rw[<-dq]
 refine mZ ((ta.same s3).put uq) (.cons ⟨dx,?_⟩ .nil)
 rw[bB nb,hb,lt]
 rfl
structure Me(P:b7)(w:cU)(K:aX)(mg:aj)(base:Heap)(CX:Qn)(k:Nat)(C:Addr)(m:Str)(ps:ak)(sp:Sp):Prop where
 ex:∃(f:Addr)(fd:gx),Meth K C m f/\dv P w K mg base CX k f fd ps sp/\Binds K fd ps []
section
variable{X:Cx}{k:Nat}{C:Addr}{m:Str}{ps:ak}{sp:Sp}{o e:Expr}{es:List Expr}{ta:TE}{t:TA}{apos pos:Pos}
theorem Xk(c:Gj X.K C)(M:Me X.prog X.w X.K X.mg X.base eJ k C m ps sp)(hr:gG k X.A)(ho:PE X o ta)(ha:PA X (e::es) t)
 (KL:bW (e::es) X.env=(af,eval e X.env)::bW es X.env:=by rfl)(yR:(gz pos (bW es X.env)).any (·.1)=af:=by rfl)
 (ht:eval (.Call (.Attribute o m apos) (e::es) [] pos) X.env=(do
  let ov<-eval o X.env
  se apos.atName
  let(f,first)<-qG [ov] (pU ov m pl)
  sQ pos f first (gz pos (bW (e::es) X.env)) (wg pos (m6 [] X.env))):=by rfl):PE X (.Call (.Attribute o m apos) (e::es) [] pos) (GF C m sp [] E0 ta t):=by
 obtain⟨f,fd,M,G,b⟩:=M.ex
 exact Tj (pl:=pl) ho c M G hr b .nil rN ha KL yR ht
theorem adh(c:Gj X.K C)(M:Me X.prog X.w X.K X.mg X.base eJ k C m ps sp)(hr:gG k X.A)(ho:PE X o ta)
 (ht:eval (.Call (.Attribute o m apos) [] [] pos) X.env=(do
  let ov<-eval o X.env
  se apos.atName
  let(f,first)<-qG [ov] (pU ov m pl)
  sQ pos f first (gz pos (bW [] X.env)) (wg pos (m6 [] X.env))):=by rfl):PE X (.Call (.Attribute o m apos) [] [] pos) (GF C m sp [] E0 ta Dp):=by
 obtain⟨f,fd,M,G,b⟩:=M.ex
 exact OO (pl:=pl) ho c M G hr b .nil rN ht
theorem kP{E:XK}(B:Bd X)(c:Gj X.K C)(M:Me X.prog X.w X.K X.mg X.base (k4 X.prog X.w) k C m ps sp)(hr:gG k X.A)(ho:PE (Pp X E) o ta)(ha:PA (Pp X E) (e::es) t)
 (KL:bW (e::es) X.env=(af,eval e X.env)::bW es X.env:=by rfl)(yR:(gz pos (bW es X.env)).any (·.1)=af:=by rfl)
 (ht:eval (.Call (.Attribute o m apos) (e::es) [] pos) X.env=(do
  let ov<-eval o X.env
  se apos.atName
  let(f,first)<-qG [ov] (pU ov m pl)
  sQ pos f first (gz pos (bW (e::es) X.env)) (wg pos (m6 [] X.env))):=by rfl):PE (Pp X E) (.Call (.Attribute o m apos) (e::es) [] pos) (GF C m sp [] E ta t):=by
 obtain⟨f,fd,M,G,b⟩:=M.ex
 exact Tj (X:=Pp X E) (pl:=pl) ho c M G hr b .nil (LO B) ha KL yR ht
theorem jh{E:XK}(B:Bd X)(c:Gj X.K C)(M:Me X.prog X.w X.K X.mg X.base (k4 X.prog X.w) k C m ps sp)(hr:gG k X.A)(ho:PE (Pp X E) o ta)
 (ht:eval (.Call (.Attribute o m apos) [] [] pos) X.env=(do
  let ov<-eval o X.env
  se apos.atName
  let(f,first)<-qG [ov] (pU ov m pl)
  sQ pos f first (gz pos (bW [] X.env)) (wg pos (m6 [] X.env))):=by rfl):PE (Pp X E) (.Call (.Attribute o m apos) [] [] pos) (GF C m sp [] E ta Dp):=by
 obtain⟨f,fd,M,G,b⟩:=M.ex
 exact OO (X:=Pp X E) (pl:=pl) ho c M G hr b .nil (LO B) ht
end
structure RdC(K:aX)(C:Addr):Prop where
 cl:Gj K C
 n1:eQ K C "tokens"
 n2:eQ K C "place"
def VR(l:Addr)(i:Nat):aq:=[("tokens",.ref l),("place",.int (i:Int))]
structure vX(CT CR:Addr)(H:Hp)(r l:Addr)(as:ag)(ts:List kr)(i:Nat):Prop where
 rd:∃dx,H r=aa (.ins CR dx (VR l i))
 ls:H l=aa (.lst (as.map V.ref))
 tk:qD CT H as ts
 sm:∀(i:Nat)(w:List Nat)(p e:Nat),ts[i]?=aa (.word w,p,e)->w.length<=100000
theorem vX.tok{CR:Addr}{H:Hp}{i:Nat}(R:vX CT CR H r l as ts i)(h:ts[i]?=aa x):∃a,as[i]?=aa a/\P6 CT H a x.1 x.2.1 x.2.2:=by
 have key:∀{as:ag}{ts:List kr}{i:Nat},qD CT H as ts->ts[i]?=aa x->∃a,as[i]?=aa a/\P6 CT H a x.1 x.2.1 x.2.2:=by
  intro as ts i hp;induction hp generalizing i with
  |nil=>intro h;simp at h
  |cons r _ ih=>
   intro h;cases i with
   |zero=>
    simp at h;subst h;exact⟨_,rfl,r⟩
   |succ i=>exact ih (by simpa using h)
 exact key R.tk h
theorem iu{as:ag}{i:Nat}(h:as[i]?=aa a):(as.map V.ref)[i]?=aa (V.ref a):=by
 rw[bK,h];rfl
theorem OI{i:Nat}:(VR l i).lookup ("tokens":Str)=aa (.ref l):=rfl
theorem Kt{i:Nat}:(VR l i).lookup ("place":Str)=aa (.int (i:Int)):=rfl
inductive WC(K:aX)(CT CR:Addr)(vs:ao)(H:Hp)(Q:VK)(z':XK):Prop
 |mk (r l c:Addr) (as:ag) (ts:List kr) (i:Nat) (τ:Tk) (p e:Nat) (k:Str) (xs:ao) (_:vs=[.ref r,.str k,.ref c]) (_:vX CT CR H r l as ts i) (_:ts[i]?=aa (τ,p,e)) (_:wC K H c xs) (_:xs.all uU=ae) (_:Q (.bl (decide (τ.kind=k)&&wu τ.val xs)) H)
theorem Wh(τ:Tk):uU τ.val=ae:=by cases τ<;>rfl
theorem aag{f CR:Addr}(F:iF K "sees" "Reader.sees" t9 f fd)(T:Se K CT)(R:RdC K CR):dv P w K mg base eJ 1 f fd ["self","kind","choices"] (WC K CT CR):=by
 refine F.ok xr fun fA A outer s H vs Q E hr h=>?_;obtain⟨r,l,c,as,ts,i,τ,p,e,k,xs,rfl,ra,hi,hc,fl,q⟩:=h;obtain⟨dx,x8⟩:=ra.rd;obtain⟨a,ha,dt,ht⟩:=ra.tok hi
 refine⟨_,bh (jy 3 xr.nd (dU cT (cu (pv 0) rfl) (cu (pv 0) rfl) (fun _ _=>rfl)))
  (bj (b8 (vJ (jA iW (cu (pv 3) rfl) (pv 1) (da _)) (vI (jA yM (cu (pv 3) rfl) (pv 2) (by rfl)))))),?_⟩
 refine⟨_,rfl,r,CR,dx,_,_,rfl,x8,R.cl,R.n1,OI,_,rfl,r,CR,dx,_,_,rfl,x8,R.cl,R.n2,Kt,l,_,_,_,rfl,rfl,du.of ra.ls,tE (iu ha),?_⟩;refine⟨_,rfl,a,CT,dt,_,_,rfl,ht,T.cl,T.n1,uw,_,rfl,rfl,_,rfl,?_⟩;by_cases hk:τ.kind=k
 ·have e1:decide (V.str τ.kind=V.str k)=ae:=by rw[hk];exact qi rfl
  rw[e1];rw[qi hk,eG]at q;exact dI ⟨_,rfl,a,CT,dt,_,_,rfl,ht,T.cl,T.n2,wY,_,rfl,c,xs,rfl,.inr hc,Wh τ,fl,q⟩
 have e1:=gX fun z=>hk (V.str.inj z);rw[e1];rw[gX hk,eC]at q;exact cD q
structure Ec(P:b7)(w:cU)(K:aX)(mg:aj)(base:Heap)(x:Str)(C:Addr)(ps:ak)(sp:Sp):Prop where
 ex:∃(f:Addr)(fd:gx),pZ K C f=ae/\dv P w K mg base eJ 2 f fd ps sp/\mg x=aa (.ref C)/\Binds K fd ps []
 nn:eQ K C "number"
theorem abM{X:Cx}{sp:Sp}{e:Expr}{es:List Expr}{t:TA}{pos:Pos}(M:Ec X.prog X.w X.K X.mg X.base x C ps sp)(hr:gG 3 X.A)(hg:Gl X x)(ha:PA X (e::es) t)(AE:(x==("__debug__":Str))=af:=by decide)
 (he:bW (e::es) X.env=(af,eval e X.env)::bW es X.env:=by rfl)(yR:(gz pos (bW es X.env)).any (·.1)=af:=by rfl):PE X (.Call (.Name x p) (e::es) [] pos) (Al C sp t):=by
 obtain⟨f,fd,M,G,m,b⟩:=M.ex
 exact Xl M G hr hg m b ha AE he yR
theorem uc{X:Cx}{sp:Sp}{pos:Pos}(M:Ec X.prog X.w X.K X.mg X.base x C ps sp)(hr:gG 3 X.A)(hg:Gl X x)(AE:(x==("__debug__":Str))=af:=by decide):PE X (.Call (.Name x p) [] [] pos) (Al C sp Dp):=by
 obtain⟨f,fd,M,G,m,b⟩:=M.ex;exact UO M G hr hg m b AE
theorem jZ{E:XK}{H:Hp}{n:Int}{σ:L2.St}(M:Ec P w K mg base x C ps (iK K n))(h:jC E H C [("number",.int n)]):Lk K E (Al C (iK K n) Dp) D σ H:=by
 obtain⟨f,fd,m,_⟩:=M.ex;exact ac7 m M.nn h
theorem DE{E:XK}{H:Hp}{y:Str}{n:Int}(M:Ec P w K mg base x C ps (Dv K n y))(ny:eQ K C y)(h:jC E H C (rK y (.int z) [("number",.int n)])):
 ([V.int z]:ao).length<=bz/\∀a,H a=ab->Dv K n y (.ref a::[V.int z]) (upd H a (lN a C ab)) (fun v H2=>v=.j5/\∃a' C' f' d',V.ref a=.ref a'/\H2 a'=aa (lN a' C' d')/\pZ K C' f'=ae/\E (.ref a') ab (upd H2 a' (D8 a' C' d'))) E0:=by
 obtain⟨f,fd,m,_⟩:=M.ex
 exact ac6 (te:=tC (.int z)) (D:=⟨fun _ _=>True,fun _ _=>True,fun _ _=>False,fun _ _=>False⟩) (σ:=[]) m M.nn ny ⟨rfl,rfl⟩ (fun Q Q' hq h=>hq _ _ h) h
inductive Oo(CR:Addr)(vs:ao)(H:Hp)(Q:VK)(z':XK):Prop
 |mk (r dx l:Addr) (_:vs=[.ref r,.ref l]) (_:H r=aa (.ins CR dx [])) (_:Q .j5 (upd H r (.ins CR dx (VR l 0))))
theorem HH{f:Addr}(F:iF K "__init__" "Reader.__init__" ua f fd)(R:RdC K C):dv P w K mg base eJ 1 f fd ["self","tokens"] (Oo C):=by
 refine F.ok Hd fun fA A outer s H vs Q E hr h=>?_;obtain⟨r,dx,l,rfl,ha,q⟩:=h;refine⟨_,bh (lr (pv 0) (pv 1) rfl) (bj (lr (pv 0) cE rfl)),?_⟩;refine⟨_,rfl,_,rfl,r,C,dx,_,rfl,ha,R.cl,R.n1,(by show 0<1000;decide),?_⟩;refine⟨_,rfl,r,C,dx,_,rfl,ba,R.cl,R.n2,(by show 1<1000;decide),?_⟩;rw[jg];exact q
def Tk.nB:Tk->Bool
 |.fin=>ae
 |_=>af
theorem XU(τ:Tk):decide (V.str τ.kind=V.str "end")=τ.nB:=by cases τ<;>rfl
inductive S7(CT CR:Addr)(vs:ao)(H:Hp)(Q:VK)(z':XK):Prop
 |mk (r l:Addr) (as:ag) (ts:List kr) (i:Nat) (τ:Tk) (p e:Nat) (_:vs=[.ref r]) (_:vX CT CR H r l as ts i) (_:ts[i]?=aa (τ,p,e)) (_:Q (.bl τ.nB) H)
theorem UT{f CR:Addr}(F:iF K "at_end" "Reader.at_end" qx f fd)(T:Se K CT)(R:RdC K CR):dv P w K mg base eJ 1 f fd dR (S7 CT CR):=by
 refine F.ok Dy fun fA A outer s H vs Q E hr h=>?_;obtain⟨r,l,as,ts,i,τ,p,e,rfl,ra,hi,q⟩:=h;obtain⟨dx,x8⟩:=ra.rd;obtain⟨a,ha,dt,ht⟩:=ra.tok hi;refine⟨_,bj (b8 (jA iW (cu (dU cT (cu (pv 0) rfl) (cu (pv 0) rfl) (fun _ _=>rfl)) rfl) eM (da _))),?_⟩;refine⟨_,rfl,r,CR,dx,_,_,rfl,x8,R.cl,R.n1,OI,_,rfl,r,CR,dx,_,_,rfl,x8,R.cl,R.n2,Kt,l,_,_,_,rfl,rfl,du.of ra.ls,tE (iu ha),?_⟩;refine⟨a,CT,dt,_,_,rfl,ht,T.cl,T.n1,uw,rfl,?_⟩;rw[XU];exact q
inductive ux(CT CR CW:Addr)(vs:ao)(H:Hp)(Q:VK)(E:XK):Prop
 |mk (r l:Addr) (as:ag) (ts:List kr) (i:Nat) (τ:Tk) (p e:Nat) (b:Bool) (_:vs=[.ref r,.bl b]) (_:vX CT CR H r l as ts i) (_:ts[i]?=aa (τ,p,e)) (_:(b=ae->∀dx,H r=aa (.ins CR dx (VR l i))->Q τ.val (upd H r (.ins CR dx (VR l (i+1)))))) (_:(b=af->jC E H CW [("number",.int (-2)),("position",.int (p:Int))]))
theorem Rc{f CR:Addr}(F:iF K "take_if" "Reader.take_if" pz f fd)(T:Se K CT)(R:RdC K CR)(M:Ec P w K mg base "WrongForm" CW Hj (Dv K (-2) "position"))(ny:eQ K CW "position"):
 dv P w K mg base (k4 P w) 4 f fd ["self","can_stand"] (ux CT CR CW):=by
 refine DT F sU fun fA A outer s H vs Q E hr h=>?_
 obtain⟨r,l,as,ts,i,τ,p,e,b,rfl,ra,hi,q1,q2⟩:=h
 obtain⟨dx,x8⟩:=ra.rd
 obtain⟨a,ha,dt,ht⟩:=ra.tok hi
 refine⟨_,bh (jy 2 sU.nd (dU cT (cu (pv 0) rfl) (cu (pv 0) rfl) (fun _ _=>rfl)))
  (bh (d8 (ub (jw (pv 1))) (bj (kF kZ rfl (abM M hr (by rfl) (aP (cu (pv 2) rfl) bq)))) cS)
  (bh (UJ (pv 0) cE qz) (bj (b8 (cu (pv 2) rfl))))),?_⟩
 refine⟨_,rfl,r,CR,dx,_,_,rfl,x8,R.cl,R.n1,OI,_,rfl,r,CR,dx,_,_,rfl,x8,R.cl,R.n2,Kt,l,_,_,_,rfl,rfl,du.of ra.ls,tE (iu ha),?_⟩
 refine⟨_,rfl,b,rfl,?_⟩
 cases b with
 |false=>exact dI ⟨_,rfl,a,CT,dt,_,_,rfl,ht,T.cl,T.n3,Wj,DE M ny (q2 rfl)⟩
 |true=>
  refine cD ⟨_,rfl,r,CR,dx,_,_,rfl,x8,R.cl,R.n2,Kt,_,_,rfl,rfl,dx,_,x8,(by show 2<1000;decide),?_⟩
  have nr:a≠r:=fun z=>by
   rw[z,x8]at ht;have:=(HO.ins.inj (bR ht)).2.2;cases this
  exact⟨_,rfl,a,CT,dt,_,_,rfl,(bB nr).trans ht,T.cl,T.n2,wY,q1 rfl dx x8⟩
structure FH(CR:Addr)(H H':Hp)(r l:Addr)(i:Nat):Prop where
 rd:∃dx,H' r=aa (.ins CR dx (VR l i))
 kp:∀b o,b≠r->H b=aa o->H' b=aa o
theorem jC.mono{E:XK}{H H1:Hp}{fs:aq}(h:jC E H C fs)(s:bG H H1):jC E H1 C fs:=fun a dx H' s1 x y=>h a dx H' (s.trans s1) x y
theorem acE{CR:Addr}{H:Hp}{i:Nat}{e:Nat}(h:∃dx,H r=aa (.ins CR dx (VR l i)))(ht:P6 CT H a τ p e):a≠r:=fun z=>by
 obtain⟨dx,h⟩:=h;obtain⟨dt,ht⟩:=ht;rw[z,h]at ht;have:=(HO.ins.inj (bR ht)).2.2;cases this
theorem vX.YR{CR:Addr}{H H':Hp}{i:Nat}(R:vX CT CR H r l as ts i)(A:FH CR H H' r l j):vX CT CR H' r l as ts j:=by
 obtain⟨dx,h⟩:=id R.rd;refine⟨A.rd,A.kp l _ (lB R.ls h (by intro z;cases z)) R.ls,Paired.sC R.tk fun a x t=>?_,R.sm⟩;obtain⟨dt,t'⟩:=id t;exact⟨dt,A.kp a _ (acE R.rd t) t'⟩
theorem vX.same{CR:Addr}{H H':Hp}{i:Nat}(R:vX CT CR H r l as ts i)(s:bG H H'):vX CT CR H' r l as ts i:=by
 obtain⟨dx,h⟩:=R.rd;exact⟨⟨dx,s _ _ h⟩,s _ _ R.ls,R.tk.same s,R.sm⟩
inductive Take(CT CR CW:Addr)(g:Tk->Bool)(r:Addr)(H:Hp)(Q:VK)(E:XK):Prop
 |mk (l:Addr) (as:ag) (ts:List kr) (i:Nat) (τ:Tk) (p e:Nat) (_:vX CT CR H r l as ts i) (_:ts[i]?=aa (τ,p,e)) (_:(g τ=ae->∀H',FH CR H H' r l (i+1)->Q τ.val H')) (_:(g τ=af->jC E H CW [("number",.int (-2)),("position",.int (p:Int))]))
theorem Take.T9{CR:Addr}{g:Tk->Bool}{H H1:Hp}{Q:VK}{E:XK}{i:Nat}{τ:Tk}{p e:Nat}(ra:vX CT CR H r l as ts i)(s:bG H H1)(hi:ts[i]?=aa (τ,p,e))
 (q1:g τ=ae->∀H',FH CR H H' r l (i+1)->Q τ.val H')(q2:g τ=af->jC E H CW [("number",.int (-2)),("position",.int (p:Int))]):ux CT CR CW [.ref r,.bl (g τ)] H1 Q E:=
 ⟨r,l,as,ts,i,τ,p,e,g τ,rfl,ra.same s,hi,fun hg dx h=>q1 hg _ ⟨⟨dx,ba⟩,fun b o nb z=>by rw[bB nb];exact s b o z⟩,fun hg=>(q2 hg).mono s⟩
structure RdE(P:b7)(w:cU)(K:aX)(mg:aj)(base:Heap)(CT CR CW:Addr):Prop where
 tc:Se K CT
 rc:RdC K CR
 sees:Me P w K mg base eJ 1 CR "sees" ["self","kind","choices"] (WC K CT CR)
 tif:Me P w K mg base (k4 P w) 4 CR "take_if" ["self","can_stand"] (ux CT CR CW)
def jG(k:Str)(xs:ao)(τ:Tk):Bool:=decide (τ.kind=k)&&wu τ.val xs
inductive GN(K:aX)(CT CR CW:Addr)(vs:ao)(H:Hp)(Q:VK)(E:XK):Prop
 |mk (r c:Addr) (xs:ao) (_:vs=[.ref r,.ref c]) (_:wC K H c xs) (_:xs.all uU=ae) (_:Take CT CR CW (jG "word" xs) r H Q E)
inductive An(CT CR CW:Addr)(vs:ao)(H:Hp)(Q:VK)(E:XK):Prop
 |mk (r:Addr) (x:Str) (_:vs=[.ref r,.str x]) (_:Take CT CR CW (jG "sign" [.str x]) r H Q E)
theorem LU{f CR:Addr}(F:iF K "take_word" "Reader.take_word" mS f fd)(R:RdE P w K mg base CT CR CW):dv P w K mg base (k4 P w) 5 f fd ["self","choices"] (GN K CT CR CW):=by
 refine DT F za fun fA A outer s H vs Q E hr h=>?_;obtain⟨r,c,xs,rfl,hc,fl,l,as,ts,i,τ,p,e,ra,hi,q1,q2⟩:=h;obtain⟨dx,x8⟩:=id ra.rd;have Ib:gG 1 _:=hr.mono (by decide);refine⟨_,bj (b8 (kP kZ R.rc.cl R.tif hr (pv 0) (aP (Xk R.rc.cl R.sees Ib (pv 0) (aP eM (aP (pv 1) bq))) bq))),?_⟩;refine⟨_,rfl,r,dx,_,rfl,x8,rfl,_,rfl,r,dx,_,rfl,x8,rfl,_,rfl,r,l,c,as,ts,i,τ,p,e,_,xs,rfl,ra,hi,hc,fl,?_⟩;exact Take.T9 (g:=jG "word" xs) ra (bG.refl H) hi q1 q2
theorem LV{f CR:Addr}(F:iF K "take_sign" "Reader.take_sign" mT f fd)(R:RdE P w K mg base CT CR CW):dv P w K mg base (k4 P w) 5 f fd ["self","sign"] (An CT CR CW):=by
 refine DT F zb fun fA A outer s H vs Q E hr h=>?_;obtain⟨r,x,rfl,l,as,ts,i,τ,p,e,ra,hi,q1,q2⟩:=h;obtain⟨dx,x8⟩:=id ra.rd;have Ib:gG 1 _:=hr.mono (by decide);refine⟨_,bj (b8 (kP kZ R.rc.cl R.tif hr (pv 0) (aP (Xk R.rc.cl R.sees Ib (pv 0) (aP eM (aP (Ho (aP (pv 1) bq)) bq))) bq))),?_⟩;refine⟨_,rfl,r,dx,_,rfl,x8,rfl,_,rfl,r,dx,_,rfl,x8,rfl,_,rfl,(by show 1<=bz;decide),fun c hc=>?_⟩;have s1:bG H (upd H c (.tup [.str x])):=bG.new hc;refine⟨r,l,c,as,ts,i,τ,p,e,_,[.str x],rfl,ra.same s1,hi,wC.of ba,rfl,?_⟩;exact Take.T9 (g:=jG "sign" [.str x]) ra s1 hi q1 q2
def x5:ao:=[.str "in",.str "let",.str "out",.str "map",.str "turn"]
def iC:Tk->Bool
 |.word w=>!wu (.str (st w)) x5&&decide (w.length<=16)
 |_=>af
def pH:Tk->Bool
 |.num n=>decide (n<=64)
 |_=>af
inductive F4(CT CR CW:Addr)(g:Tk->Bool)(vs:ao)(H:Hp)(Q:VK)(E:XK):Prop
 |mk (r:Addr) (_:vs=[.ref r]) (_:Take CT CR CW g r H Q E)
theorem LW{f CR:Addr}(F:iF K "take_name" "Reader.take_name" mU f fd)(R:RdE P w K mg base CT CR CW)(hK:KT K mg "KEPT_WORDS" x5)(hN:∃t,mg "NAME_LIMIT"=aa (.int 16 t))(hl:mg "len"=ab):
 dv P w K mg base (k4 P w) 5 f fd dR (F4 CT CR CW iC):=by
 obtain⟨aK,hK1,hK2⟩:=hK
 refine DT F lV fun fA A outer s H vs Q E hr h=>?_
 obtain⟨r,rfl,l,as,ts,i,τ,p,e,ra,hi,q1,q2⟩:=h
 obtain⟨dx,x8⟩:=id ra.rd
 obtain⟨a,ha,dt,ht⟩:=ra.tok hi
 refine⟨_,bh (jy 1 lV.nd (dU cT (cu (pv 0) rfl) (cu (pv 0) rfl) (fun _ _=>rfl)))
  (bh (jy 2 lV.nd (vJ (jA iW (cu (pv 1) rfl) eM (da _)) (vJ (jA qQ (cu (pv 1) rfl) (Hq (by rfl) hK1) (by rfl)) (vI (jA BE (dB vS (by rfl) hl cv (aP (cu (pv 1) rfl) bq)) (iD (by rfl) hN) (da _))))))
  (bj (b8 (kP kZ R.rc.cl R.tif hr (pv 0) (aP (pv 2) bq))))),?_⟩
 refine⟨_,rfl,r,CR,dx,_,_,rfl,x8,R.rc.cl,R.rc.n1,OI,_,rfl,r,CR,dx,_,_,rfl,x8,R.rc.cl,R.rc.n2,Kt,l,_,_,_,rfl,rfl,du.of ra.ls,tE (iu ha),?_⟩
 refine⟨_,rfl,a,CT,dt,_,_,rfl,ht,R.tc.cl,R.tc.n1,uw,rfl,_,rfl,?_⟩
 have fin:∀b,b=iC τ->GF CR "take_if" (ux CT CR CW) [] E (Ak 0) (ED (Ak 2) Dp) [aa (V.ref r),aa (V.ref a),aa (V.bl b)] H Q:=fun b hb=>
  ⟨_,rfl,r,dx,_,rfl,x8,rfl,_,rfl,by rw[hb];exact Take.T9 (g:=iC) ra (bG.refl H) hi q1 q2⟩
 have no:τ.kind≠"word"->iC τ=af:=fun hk=>by
  cases τ with
  |word w=>exact absurd rfl hk
  |_=>rfl
 by_cases hk:τ.kind="word"
 ·obtain⟨wd,hw⟩:∃wd,τ=.word wd:=by
   cases τ with
   |word w=>exact⟨w,rfl⟩
   |num n=>exact absurd (show("number":Str)="word" from hk) (by decide)
   |sign c=>exact absurd (show("sign":Str)="word" from hk) (by decide)
   |bad=>exact absurd hk (by decide)
   |fin=>exact absurd hk (by decide)
  subst hw
  rw[show decide (V.str (Tk.word wd).kind=V.str "word")=ae from rfl]
  refine dI ⟨_,rfl,a,CT,dt,_,_,rfl,ht,R.tc.cl,R.tc.n2,wY,aK,x5,rfl,.inr (hK2 _),rfl,rfl,_,rfl,?_⟩
  rw[c8 (show ae=ae from rfl)]
  cases h2:wu (Tk.word wd).val x5 with
  |true=>
   refine cD (fin _ ?_)
   show af=(!wu (.str (st wd)) x5&&decide (wd.length<=16))
   rw[show wu (.str (st wd)) x5=ae from h2]
   rfl
  |false=>
   have sl:(st wd).length=wd.length:=by
    show wd.toArray.size=wd.length;simp
   refine dI ⟨_,rfl,a,CT,dt,_,_,rfl,ht,R.tc.cl,R.tc.n2,wY,_,rfl,?_,_,_,rfl,rfl,fin _ ?_⟩
   ·rw[sl,bX]
    have:=ra.sm i wd p e hi
    omega
   show decide ((((st wd).length:Nat):Int)<=16)=(!wu (.str (st wd)) x5&&decide (wd.length<=16))
   rw[show wu (.str (st wd)) x5=af from h2,sl,Ld,eG,decide_eq_decide]
   omega
 rw[show decide (V.str τ.kind=V.str "word")=af from gX fun z=>hk (V.str.inj z)]
 exact cD (fin _ (no hk).symm)
theorem Hw{f CR:Addr}(F:iF K "take_length" "Reader.take_length" lq f fd)(R:RdE P w K mg base CT CR CW)(hN:∃t,mg "LENGTH_LIMIT"=aa (.int 64 t)):
 dv P w K mg base (k4 P w) 5 f fd dR (F4 CT CR CW pH):=by
 refine DT F oW fun fA A outer s H vs Q E hr h=>?_
 obtain⟨r,rfl,l,as,ts,i,τ,p,e,ra,hi,q1,q2⟩:=h
 obtain⟨dx,x8⟩:=id ra.rd
 obtain⟨a,ha,dt,ht⟩:=ra.tok hi
 refine⟨_,bh (jy 1 oW.nd (dU cT (cu (pv 0) rfl) (cu (pv 0) rfl) (fun _ _=>rfl)))
  (bj (b8 (kP kZ R.rc.cl R.tif hr (pv 0) (aP (vJ (jA iW (cu (pv 1) rfl) eM (da _)) (vI (jA BE (cu (pv 1) rfl) (iD (by rfl) hN) (da _)))) bq)))),?_⟩
 refine⟨_,rfl,r,CR,dx,_,_,rfl,x8,R.rc.cl,R.rc.n1,OI,_,rfl,r,CR,dx,_,_,rfl,x8,R.rc.cl,R.rc.n2,Kt,l,_,_,_,rfl,rfl,du.of ra.ls,tE (iu ha),?_⟩
 refine⟨_,rfl,r,dx,_,rfl,x8,rfl,_,rfl,a,CT,dt,_,_,rfl,ht,R.tc.cl,R.tc.n1,uw,rfl,_,rfl,?_⟩
 have fin:=Take.T9 (g:=pH) (Q:=Q) (E:=E) ra (bG.refl H) hi q1 q2
 have no:τ.kind≠"number"->pH τ=af:=fun hk=>by
  cases τ with
  |num w=>exact absurd rfl hk
  |_=>rfl
 by_cases hk:τ.kind="number"
 ·obtain⟨n,hw⟩:∃n,τ=.num n:=by
   cases τ with
   |num n=>exact⟨n,rfl⟩
   |word w=>exact absurd (show("word":Str)="number" from hk) (by decide)
   |sign c=>exact absurd (show("sign":Str)="number" from hk) (by decide)
   |bad=>exact absurd hk (by decide)
   |fin=>exact absurd hk (by decide)
  subst hw
  rw[show decide (V.str (Tk.num n).kind=V.str "number")=ae from rfl]
  refine dI ⟨_,rfl,a,CT,dt,_,_,rfl,ht,R.tc.cl,R.tc.n2,wY,_,_,rfl,rfl,?_⟩
  have e1:decide ((n:Int)<=64)=pH (.num n):=by
   show decide ((n:Int)<=64)=decide (n<=64);rw[decide_eq_decide];omega
  show ux CT CR CW [.ref r,.bl (decide ((n:Int)<=64))] H Q E
  rw[e1]
  exact fin
 rw[show decide (V.str τ.kind=V.str "number")=af from gX fun z=>hk (V.str.inj z)]
 refine cD ?_
 show ux CT CR CW [.ref r,.bl af] H Q E
 rw[<-no hk]
 exact fin
theorem Hs{Ek:XK}(B:Bd X):PassesOwn (bJ X.prog X.w) X.A X.env (YW X Ek):=fun e s' ⟨a,H,q,F,z⟩=>by
 subst q;obtain⟨⟨σ,I⟩,_⟩:=id F;exact Xy B I.ok.frames F fun s2 F2 n2=>ahb B F2 n2 z
def NO(r:Addr)(H H':Hp):Prop:=∀b o,b≠r->H b=aa o->H' b=aa o
theorem NO.trans{H H1 H2:Hp}(a:NO r H H1)(b:NO r H1 H2):NO r H H2:=fun c o n e=>b c o n (a c o n e)
theorem NO.of{H H1:Hp}(s:bG H H1):NO r H H1:=fun b o _ e=>s b o e
def uZ(E:XK)(H:Hp)(r C:Addr)(fs:aq):Prop:=∀a dx H',NO r H H'->H' a=aa (D8 a C (aa dx))->H' dx=aa (Cq dx fs)->E (.ref a) ab H'
theorem uZ.at{E:XK}{H H1:Hp}{fs:aq}(h:uZ E H r C fs)(b:NO r H H1):jC E H1 C fs:=fun a dx H' s x y=>h a dx H' (b.trans (NO.of s)) x y
theorem uZ.on{E:XK}{H H1:Hp}{fs:aq}(h:uZ E H r C fs)(b:NO r H H1):uZ E H1 r C fs:=fun a dx H' s x y=>h a dx H' (b.trans s) x y
abbrev B3(p:Nat):aq:=[("number",.int (-2)),("position",.int (p:Int))]
def cG(ts:List kr)(i:Nat):kr:=ts[i]?.getD (.fin,0,0)
theorem yC{ts:List kr}{i:Nat}(h:i<ts.length):ts[i]?=aa (cG ts i):=by
 unfold cG;rw[bE h];rfl
def Ends(ts:List kr):Prop:=∀i,i<ts.length->(i+1=ts.length↔((cG ts i).1.nB=ae\/(cG ts i).1.isBad=ae))
theorem Ends.next(e:Ends ts){i:Nat}(h:i<ts.length)(n1:(cG ts i).1.nB=af)(n2:(cG ts i).1.isBad=af):i+1<ts.length:=by
 have q:=e i h;rcases jf (i+1) ts.length with z|z
 ·exact z
 have:=q.mp (by omega);rw[n1,n2]at this;rcases this with z|z<;>cases z
def Tk.h8:Tk->Bool
 |.sign c=>c==59
 |_=>af
def Tk.txt:Tk->List Nat
 |.word w=>w
 |_=>[]
theorem L4(h:iC τ=ae):τ.nB=af/\τ.isBad=af/\τ.val=.str (st τ.txt):=by
 cases τ with
 |word w=>exact⟨rfl,rfl,rfl⟩
 |num n=>cases h
 |sign c=>cases h
 |bad=>cases h
 |fin=>cases h
theorem F8(τ:Tk):jG "sign" [.str ";"] τ=τ.h8:=by
 cases τ with
 |sign c=>
  show(decide (("sign":Str)="sign")&&((V.str ";"::[]).any fun y=>Yp y (.str (st [c]))))=(c==59);rw[qi rfl,eG];show((((";":Str)==st [c]))||af)=(c==59);rw[k6,eK,beq_iff_eq,beq_iff_eq];constructor
  ·intro h;have:(st [59]).cps=(st [c]).cps:=congrArg Str.cps h;have h2:=congrArg Array.toList this;simp[st]at h2;exact h2.symm
  intro h;rw[h];rfl
 |word w=>rfl
 |num n=>rfl
 |bad=>rfl
 |fin=>rfl
def DM(ts:List kr):Nat->Nat->Except Nat (List (List Nat)×Nat)
 |0,i=>.ok ([],i)
 |k+1,i=>if(cG ts i).1.h8=ae then .ok ([],i)else if iC (cG ts i).1=ae then(DM ts k (i+1)).map (fun x=>((cG ts i).1.txt::x.1,x.2))else .error (cG ts i).2.1
def OQ(ts:List kr)(i:Nat):Except Nat (List (List Nat)×Nat):=if iC (cG ts i).1=ae then(DM ts 3 (i+1)).map (fun x=>((cG ts i).1.txt::x.1,x.2))else .error (cG ts i).2.1
def fS(ns:List (List Nat)):ao:=ns.map fun n=>V.str (st n)
inductive abF(CT CR CW:Addr)(vs:ao)(H:Hp)(Q:VK)(E:XK):Prop
 |mk (r l:Addr) (as:ag) (ts:List kr) (i:Nat) (_:vs=[.ref r]) (_:vX CT CR H r l as ts i) (_:i<ts.length) (_:Ends ts) (_:match OQ ts i with
 |.error p=>uZ E H r CW (B3 p)
 |.ok (ns,j)=>∀ln H',H ln=ab->FH CR H H' r l j->H' ln=aa (.lst (fS ns))->j<ts.length->Q (.ref ln) H')
structure RdM(P:b7)(w:cU)(K:aX)(mg:aj)(base:Heap)(CT CR CW:Addr):Prop extends RdE P w K mg base CT CR CW where
 aby:Me P w K mg base (k4 P w) 5 CR "take_word" ["self","choices"] (GN K CT CR CW)
 abA:Me P w K mg base (k4 P w) 5 CR "take_sign" ["self","sign"] (An CT CR CW)
 Wn:Me P w K mg base (k4 P w) 5 CR "take_name" dR (F4 CT CR CW iC)
 aif:Me P w K mg base (k4 P w) 5 CR "take_length" dR (F4 CT CR CW pH)
theorem FH.but{CR:Addr}{H H':Hp}{i:Nat}(a:FH CR H H' r l i):NO r H H':=a.kp
theorem wL{f CR:Addr}(F:iF K "read_operand_names" "read_operand_names" lg f fd)(R:RdM P w K mg base CT CR CW)(hN:∃t,mg "OPERAND_LIMIT"=aa (.int 4 t))(hl:mg "len"=ab):
 dv P w K mg base (k4 P w) 6 f fd ["reader"] (abF CT CR CW):=by
 refine DT F oU fun fA A outer s H vs Q E hr h=>?_
 obtain⟨r,l,as,ts,i,rfl,ra,hi,en,q⟩:=h
 obtain⟨dx,x8⟩:=id ra.rd
 have Ib:gG 1 _:=hr.mono (by decide)
 refine⟨_,bh (jy 1 oU.nd (eA (aP (jh kZ R.rc.cl R.Wn hr (pv 0)) bq)))
  (bh (n9 (Hs kZ) (xD (cR sY (dB cI (by rfl) hl cv (aP (pv 1) bq)) (iD (by rfl) hN) (da _)) (sV (ub (jw (Xk R.rc.cl R.sees Ib (pv 0) (aP eM (aP (Ho (aP eM bq)) bq))))))).pt
   (bj (dJ (md cb c7 cZ iN (pv 1) (aP (jh kZ R.rc.cl R.Wn hr (pv 0)) bq)))))
  (bj (b8 (pv 1)))),?_⟩
 refine⟨_,rfl,r,dx,_,rfl,x8,rfl,r,rfl,l,as,ts,i,(cG ts i).1,(cG ts i).2.1,(cG ts i).2.2,ra,yC hi,fun hn H1 a1=>?_,fun hn=>?_⟩
 ·unfold OQ at q
  rw[c8 hn]at q
  obtain⟨nf,nb,ev⟩:=L4 hn
  have hi1:=en.next hi nf nb
  refine⟨by show 1<=bz;decide,fun ln hln=>?_⟩
  have lnr:ln≠r:=fun z=>by
   obtain⟨dx1,z1⟩:=a1.rd;rw[z,z1]at hln;cases hln
  have aaB:H ln=ab:=by
   cases z:H ln with
   |none=>rfl
   |some o=>rw[a1.kp ln o lnr z]at hln;cases hln
  refine⟨fun m σ H'=>Ex3 fun(ns:List (List Nat))(k j:Nat)=>m=k/\ns.length+k=4/\j<ts.length/\σ=[aa (.ref r),aa (.ref ln)]/\FH CR H H' r l j/\H' ln=aa (.lst (fS ns))/\
   (match(DM ts k j).map (fun x=>(ns++x.1,x.2))with
    |.error p=>uZ E H r CW (B3 p)
    |.ok (ns,j)=>∀ln H',H ln=ab->FH CR H H' r l j->H' ln=aa (.lst (fS ns))->j<ts.length->Q (.ref ln) H'),
   ⟨3,[(cG ts i).1.txt],3,i+1,rfl,rfl,hi1,rfl,⟨?_,?_⟩,?_,q⟩,?_⟩
  ·obtain⟨dx1,z1⟩:=a1.rd
   exact⟨dx1,by rw[bB (de lnr)];exact z1⟩
  ·intro b o nb' z
   rw[bB (fun q2=>by rw[q2,aaB]at z;cases z)]
   exact a1.kp b o nb' z
  ·rw[ba,ev]
   rfl
  rintro m σ H' ⟨ns,k,j,rfl,hk,hj,rfl,av,uq,qq⟩
  have acY:(fS ns).length=ns.length:=aV _
  refine⟨_,rfl,ln,_,rfl,.inl (du.of uq),_,_,rfl,rfl,_,rfl,?_⟩
  cases m with
  |zero=>
   have e1:decide ((((fS ns).length:Nat):Int)<4)=af:=gX (by rw[acY];omega)
   rw[e1]
   refine cD (cD ⟨_,rfl,?_⟩)
   have q2:∀ln H',H ln=ab->FH CR H H' r l j->H' ln=aa (.lst (fS (ns++[])))->j<ts.length->Q (.ref ln) H':=qq
   rw[ck]at q2
   exact q2 ln H' aaB av uq hj
  |succ k=>
   have e1:decide ((((fS ns).length:Nat):Int)<4)=ae:=qi (by rw[acY];omega)
   rw[e1]
   obtain⟨dx2,RG⟩:=id av.rd
   have ra2:=ra.YR av
   refine dI ⟨_,rfl,r,dx2,_,rfl,RG,rfl,(by show 1<=bz;decide),fun c hc=>?_⟩
   have s1:bG H' (upd H' c (.tup [.str ";"])):=bG.new hc
   have av2:FH CR H (upd H' c (.tup [.str ";"])) r l j:=⟨⟨dx2,s1 _ _ RG⟩,fun b o nb z=>s1 _ _ (av.kp b o nb z)⟩
   have ra3:=ra2.same s1
   refine⟨r,l,c,as,ts,j,(cG ts j).1,(cG ts j).2.1,(cG ts j).2.2,_,[.str ";"],rfl,ra3,yC hj,wC.of ba,rfl,_,rfl,?_⟩
   have sm:(decide ((cG ts j).1.kind="sign")&&wu (cG ts j).1.val [.str ";"])=(cG ts j).1.h8:=F8 _
   rw[sm]
   have un:DM ts (k+1) j=if(cG ts j).1.h8=ae then .ok ([],j)else if iC (cG ts j).1=ae then(DM ts k (j+1)).map (fun x=>((cG ts j).1.txt::x.1,x.2))else .error (cG ts j).2.1:=rfl
   rw[un]at qq
   cases h2:(cG ts j).1.h8 with
   |true=>
    rw[c8 h2]at qq
    refine cD ⟨_,rfl,?_⟩
    have q2:∀ln H',H ln=ab->FH CR H H' r l j->H' ln=aa (.lst (fS (ns++[])))->j<ts.length->Q (.ref ln) H':=qq
    rw[ck]at q2
    exact q2 ln _ aaB av2 (s1 _ _ uq) hj
   |false=>
    rw[cP (by rw[h2];decide)]at qq
    refine dI ⟨fun σ' G=>Uc fun(ns:List (List Nat))(j:Nat)=>ns.length+k=4/\j<ts.length/\σ'=[aa (.ref r),aa (.ref ln)]/\FH CR H G r l j/\G ln=aa (.lst (fS ns))/\
     (match(DM ts k j).map (fun x=>(ns++x.1,x.2))with
      |.error p=>uZ E H r CW (B3 p)
      |.ok (ns,j)=>∀ln H',H ln=ab->FH CR H H' r l j->H' ln=aa (.lst (fS ns))->j<ts.length->Q (.ref ln) H'),
     fun σ' G ⟨ns,j,z⟩=>⟨k,eN _,ns,k,j,rfl,z⟩,?_⟩
    refine⟨_,rfl,.inl ⟨rfl,_,du.of (s1 _ _ uq)⟩,_,rfl,r,dx2,_,rfl,s1 _ _ RG,rfl,r,rfl,l,as,ts,j,(cG ts j).1,(cG ts j).2.1,(cG ts j).2.2,ra3,yC hj,fun hn H3 a3=>?_,fun hn=>?_⟩
    ·obtain⟨nf,nb,ev⟩:=L4 hn
     rw[c8 hn]at qq
     have hl3:=a3.kp _ _ lnr (s1 _ _ uq)
     refine⟨ln,_,_,rfl,rfl,hl3,by rw[acY,bX];omega,ns++[(cG ts j).1.txt],j+1,by rw[bQ];show ns.length+1+k=4;omega,en.next hj nf nb,rfl,⟨?_,?_⟩,?_,?_⟩
     ·obtain⟨dx3,z3⟩:=a3.rd
      exact⟨dx3,by rw[bB (de lnr)];exact z3⟩
     ·intro b o nb' z
      rw[bB (fun q2=>by rw[q2,aaB]at z;cases z)]
      exact a3.kp b o nb' (av2.kp b o nb' z)
     ·rw[ba,ev]
      unfold fS
      rw[b9]
      rfl
     have e5:((DM ts k (j+1)).map (fun x=>((cG ts j).1.txt::x.1,x.2))).map (fun x=>(ns++x.1,x.2))=(DM ts k (j+1)).map (fun x=>(ns++[(cG ts j).1.txt]++x.1,x.2)):=by
      cases DM ts k (j+1)with
      |error e=>rfl
      |ok x=>show lR (ns++((cG ts j).1.txt::x.1),x.2)=lR (ns++[(cG ts j).1.txt]++x.1,x.2);rw[c9];rfl
     rw[e5]at qq
     exact qq
    rw[cP (by rw[hn];decide)]at qq
    have q2:=qq
    exact q2.at av2.but
 unfold OQ at q
 rw[cP (by rw[hn];decide)]at q
 exact uZ.at q (NO.of (bG.refl H))
theorem FH.trans{CR:Addr}{H H1 H2:Hp}{i:Nat}(a:FH CR H H1 r l i)(b:FH CR H1 H2 r l j):FH CR H H2 r l j:=⟨b.rd,NO.trans a.kp b.kp⟩
theorem FH.same{CR:Addr}{H H1 H2:Hp}{i:Nat}(a:FH CR H H1 r l i)(s:bG H1 H2):FH CR H H2 r l i:=by
 obtain⟨dx,z⟩:=a.rd;exact⟨⟨dx,s _ _ z⟩,NO.trans a.kp (NO.of s)⟩
structure TS where
 word:List Nat
 name:List Nat
 len:Nat
 way:List Nat
 ops:List (List Nat)
def UB(a b c d e:V):aq:=[("word",a),("name",b),("length",c),("way",d),("operand_names",e)]
structure FE(K:aX)(C:Addr):Prop where
 cl:Gj K C
 n1:eQ K C "word"
 n2:eQ K C "name"
 n3:eQ K C "length"
 n4:eQ K C "way"
 n5:eQ K C "operand_names"
inductive Nj(C:Addr)(H:Hp)(a:Addr)(x:TS):Prop
 |mk (dx:_) (lo:_) (_:H a=aa (.ins C dx (UB (.str (st x.word)) (.str (st x.name)) (.int (x.len:Int)) (.str (st x.way)) (.ref lo)))) (_:H lo=aa (.lst (fS x.ops)))
inductive YT(C:Addr)(G H:Hp)(a:Addr)(x:TS):Prop
 |mk (dx:_) (lo:_) (_:H a=aa (.ins C dx (UB (.str (st x.word)) (.str (st x.name)) (.int (x.len:Int)) (.str (st x.way)) (.ref lo)))) (_:H lo=aa (.lst (fS x.ops))) (_:G lo=ab)
inductive Bq(C:Addr)(vs:ao)(H:Hp)(Q:VK)(z':XK):Prop
 |mk (a dx:Addr) (v1 v2 v3 v4 v5:V) (_:vs=[.ref a,v1,v2,v3,v4,v5]) (_:H a=aa (.ins C dx [])) (_:Q .j5 (upd H a (.ins C dx (UB v1 v2 v3 v4 v5))))
def tI:List Nat:=[105,110]
def Bm:List Nat:=[109,97,112]
def oS:List Nat:=[116,117,114,110]
def Tk.num?:Tk->Nat
 |.num n=>n
 |_=>0
def stI(ts:List kr)(fw:List (List Nat))(i:Nat):Except Nat (TS×Nat):=
 if jG "word" (fS fw) (cG ts i).1=ae then
  if iC (cG ts (i+1)).1=ae then
   if pH (cG ts (i+2)).1=ae then
    if(cG ts i).1.txt=tI then
     if(cG ts (i+3)).1.h8=ae then .ok (⟨(cG ts i).1.txt,(cG ts (i+1)).1.txt,(cG ts (i+2)).1.num?,[],[]⟩,i+4)else .error (cG ts (i+3)).2.1
    else if jG "sign" [.str "="] (cG ts (i+3)).1=ae then
     if jG "word" (fS [Bm,oS]) (cG ts (i+4)).1=ae then
      match OQ ts (i+5)with
      |.error p=>.error p
      |.ok (ns,j)=>if(cG ts j).1.h8=ae then .ok (⟨(cG ts i).1.txt,(cG ts (i+1)).1.txt,(cG ts (i+2)).1.num?,(cG ts (i+4)).1.txt,ns⟩,j+1)else .error (cG ts j).2.1
     else .error (cG ts (i+4)).2.1
    else .error (cG ts (i+3)).2.1
   else .error (cG ts (i+2)).2.1
  else .error (cG ts (i+1)).2.1
 else .error (cG ts i).2.1
theorem SH(h:jG "word" xs τ=ae):τ.nB=af/\τ.isBad=af/\τ.val=.str (st τ.txt):=by
 unfold jG at h;rw[cK]at h;have h1:=of_decide_eq_true h.1;cases τ with
 |word w=>exact⟨rfl,rfl,rfl⟩
 |num n=>exact absurd (show("number":Str)="word" from h1) (by decide)
 |sign c=>exact absurd (show("sign":Str)="word" from h1) (by decide)
 |bad=>exact absurd h1 (by decide)
 |fin=>exact absurd h1 (by decide)
theorem Lx(h:jG "sign" xs τ=ae):τ.nB=af/\τ.isBad=af:=by
 unfold jG at h;rw[cK]at h;have h1:=of_decide_eq_true h.1;cases τ with
 |word w=>exact absurd (show("word":Str)="sign" from h1) (by decide)
 |num n=>exact absurd (show("number":Str)="sign" from h1) (by decide)
 |sign c=>exact⟨rfl,rfl⟩
 |bad=>exact absurd h1 (by decide)
 |fin=>exact absurd h1 (by decide)
theorem adB(h:pH τ=ae):τ.nB=af/\τ.isBad=af/\τ.val=.int (τ.num?:Int):=by
 cases τ with
 |num n=>exact⟨rfl,rfl,rfl⟩
 |word w=>cases h
 |sign c=>cases h
 |bad=>cases h
 |fin=>cases h
theorem Kh(ns:List (List Nat)):(fS ns).all uU=ae:=by
 unfold fS;rw[Qy];exact cV.mpr fun _ _=>rfl
inductive WA(K:aX)(CT CR CW CS:Addr)(vs:ao)(H:Hp)(Q:VK)(E:XK):Prop
 |mk (r c l:Addr) (as:ag) (ts:List kr) (i:Nat) (fw:List (List Nat)) (_:vs=[.ref r,.ref c]) (_:wC K H c (fS fw)) (_:c≠r) (_:vX CT CR H r l as ts i) (_:i<ts.length) (_:Ends ts) (_:match stI ts fw i with
 |.error p=>uZ E H r CW (B3 p)
 |.ok (x,j)=>∀b H',FH CR H H' r l j->YT CS H H' b x->j<ts.length->Q (.ref b) H')
theorem BL{f:Addr}(F:iF K "__init__" "Statement.__init__" pq f fd)(T:FE K C):dv P w K mg base eJ 1 f fd Z6 (Bq C):=by
 refine F.ok Bv fun fA A outer s H vs Q E hr h=>?_;obtain⟨a,dx,v1,v2,v3,v4,v5,rfl,ha,q⟩:=h;refine⟨_,bh (lr (pv 0) (pv 1) rfl) (bh (lr (pv 0) (pv 2) rfl) (bh (lr (pv 0) (pv 3) rfl) (bh (lr (pv 0) (pv 4) rfl) (bj (lr (pv 0) (pv 5) rfl))))),?_⟩;refine⟨_,rfl,_,rfl,a,C,dx,_,rfl,ha,T.cl,T.n1,(by show 0<1000;decide),?_⟩;refine⟨_,rfl,_,rfl,a,C,dx,_,rfl,ba,T.cl,T.n2,(by show 1<1000;decide),?_⟩;refine⟨_,rfl,_,rfl,a,C,dx,_,rfl,ba,T.cl,T.n3,(by show 2<1000;decide),?_⟩;refine⟨_,rfl,_,rfl,a,C,dx,_,rfl,ba,T.cl,T.n4,(by show 3<1000;decide),?_⟩;refine⟨_,rfl,_,rfl,a,C,dx,_,rfl,ba,T.cl,T.n5,(by show 4<1000;decide),?_⟩;rw[jg,jg,jg,jg];exact q
theorem PV{H H':Hp}{a:Addr}(b:NO r H H')(n:a≠r)(h:H' a=ab):H a=ab:=by
 cases z:H a with
 |none=>rfl
 |some o=>rw[b a o n z]at h;cases h
theorem yD{CR:Addr}{g:Tk->Bool}{H:Hp}{Q:VK}{E:XK}{i:Nat}(ra:vX CT CR H r l as ts i)(hi:i<ts.length)(q1:g (cG ts i).1=ae->∀H',FH CR H H' r l (i+1)->Q (cG ts i).1.val H')
 (q2:g (cG ts i).1=af->jC E H CW (B3 (cG ts i).2.1)):Take CT CR CW g r H Q E:=⟨l,as,ts,i,(cG ts i).1,(cG ts i).2.1,(cG ts i).2.2,ra,yC hi,q1,q2⟩
theorem af9{H:Hp}{Q:VK}(h:∀a dx H',bG H H'->H' a=aa (.ins C dx (UB v1 v2 v3 v4 v5))->Q (.ref a) H'):
 ∀x dx,H x=ab->H dx=ab->dx≠x->Bq C (.ref x::([v1,v2,v3,v4,v5]++[])) (upd (upd H dx (.own x)) x (.ins C dx [])) (fun v H2=>v=.j5/\Q (.ref x) H2) E0:=fun x dx hx hd ne=>
 ⟨x,dx,v1,v2,v3,v4,v5,rfl,ba,rfl,h x dx _ (fun b o z=>by rw[jg,bB (bO z hx),bB (bO z hd)];exact z) (by rw[ba])⟩
theorem X5(t:List Nat):(!decide (V.str (st t)=V.str "in"))= !decide (t=tI):=by
 congr 1;rw[decide_eq_decide];constructor
 ·intro h;have h1:st t=st tI:=V.str.inj h;have h2:=congrArg (fun x:Str=>x.cps.toList) h1;simpa[st]using h2
 intro h;rw[h];rfl
theorem BG{f CR:Addr}(F:iF K "read_statement" "read_statement" pb f fd)(R:RdM P w K mg base CT CR CW)(hW:KT K mg "WAYS" (fS [Bm,oS]))(Co:Fn P w K mg base (k4 P w) 6 "read_operand_names" ["reader"] (abF CT CR CW))
 (M:Mc P w K mg base 1 "Statement" CS Z6 (Bq CS)):dv P w K mg base (k4 P w) 7 f fd ["reader","first_words"] (WA K CT CR CW CS):=by
 obtain⟨aW,hW1,hW2⟩:=hW
 refine DT F fO fun fA A outer s H vs Q E hr h=>?_
 obtain⟨r,c,l,as,ts,i,fw,rfl,hc,ncr,ra,hi,en,q⟩:=h
 have hr5:gG 5 _:=hr.mono (by decide)
 have RG:gG 2 _:=hr.mono (by decide)
 refine⟨_,bh (jy 2 fO.nd (kP kZ R.rc.cl R.aby hr5 (pv 0) (aP (pv 1) bq)))
  (bh (jy 3 fO.nd (jh kZ R.rc.cl R.Wn hr5 (pv 0)))
  (bh (jy 4 fO.nd (jh kZ R.rc.cl R.aif hr5 (pv 0)))
  (bh (jy 5 fO.nd eM)
  (bh (jy 6 fO.nd (eA bq))
  (bh (d8 (cR wo (pv 2) eM (da _))
   (bh (dJ (kP kZ R.rc.cl R.abA hr5 (pv 0) (aP eM bq)))
   (bh (jy 5 fO.nd (kP kZ R.rc.cl R.aby hr5 (pv 0) (aP (Hq (by rfl) hW1) bq)))
   (bj (jy 6 fO.nd (rM Co kZ hr (by rfl) (aP (pv 0) bq)))))) cS)
  (bh (dJ (kP kZ R.rc.cl R.abA hr5 (pv 0) (aP eM bq)))
  (bj (b8 (EL M RG (by rfl) (aP (pv 2) (aP (pv 3) (aP (pv 4) (aP (pv 5) (aP (pv 6) bq)))))))))))))),?_⟩
 unfold stI at q
 obtain⟨dx,x8⟩:=id ra.rd
 refine⟨_,rfl,r,dx,_,rfl,x8,rfl,_,rfl,r,c,fS fw,rfl,hc,Kh fw,yD ra hi (fun g0 H1 a1=>?_) (fun g0=>?_)⟩
 case refine_2=>
  rw[cP (by rw[g0];decide)]at q
  exact q.at (NO.of (bG.refl H))
 rw[c8 g0]at q
 obtain⟨f0,b0,e0⟩:=SH g0
 have i1:=en.next hi f0 b0
 have r1:=ra.YR a1
 obtain⟨dx1,z1⟩:=id r1.rd
 refine⟨_,rfl,r,dx1,_,rfl,z1,rfl,r,rfl,yD r1 i1 (fun g1 H2 a2=>?_) (fun g1=>?_)⟩
 case refine_2=>
  rw[cP (by rw[g1];decide)]at q
  exact q.at a1.but
 rw[c8 g1]at q
 obtain⟨f1,b1,e1⟩:=L4 g1
 have i2:=en.next i1 f1 b1
 have r2:=r1.YR a2
 have a12:=a1.trans a2
 obtain⟨dx2,z2⟩:=id r2.rd
 refine⟨_,rfl,r,dx2,_,rfl,z2,rfl,r,rfl,yD r2 i2 (fun g2 H3 a3=>?_) (fun g2=>?_)⟩
 case refine_2=>
  rw[cP (by rw[g2];decide)]at q
  exact q.at a12.but
 rw[c8 g2]at q
 obtain⟨f2,b2,e2⟩:=adB g2
 have i3:=en.next i2 f2 b2
 have a13:=a12.trans a3
 refine⟨by show 0<=bz;decide,fun lo D4=>?_⟩
 have s4:bG H3 (upd H3 lo (.lst [])):=bG.new D4
 have a14:=a13.same s4
 have r4:=ra.YR a14
 obtain⟨dx4,z4⟩:=id r4.rd
 have nlo:lo≠r:=fun z=>by
  obtain⟨dx3,z3⟩:=a3.rd;rw[z,z3]at D4;cases D4
 rw[e0,e1,e2]
 refine⟨_,rfl,rfl,_,rfl,?_⟩
 rw[X5]
 have last:∀(j:Nat)(wy:List Nat)(ns:List (List Nat))(lo:Addr)(H5:Hp),j<ts.length->FH CR H H5 r l j->H5 lo=aa (.lst (fS ns))->lo≠r->H lo=ab->
  (if(cG ts j).1.h8=ae then(∀b H',FH CR H H' r l (j+1)->YT CS H H' b ⟨(cG ts i).1.txt,(cG ts (i+1)).1.txt,(cG ts (i+2)).1.num?,wy,ns⟩->j+1<ts.length->Q (.ref b) H')else uZ E H r CW (B3 (cG ts j).2.1))->
  An CT CR CW [.ref r,.str ";"] H5 (fun _ H6=>Od CS (Bq CS) [] E0 (ED (Ak 2) (ED (Ak 3) (ED (Ak 4) (ED (Ak 5) (ED (Ak 6) Dp))))) [aa (.ref r),aa (.ref c),aa (.str (st (cG ts i).1.txt)),aa (.str (st (cG ts (i+1)).1.txt)),aa (.int ((cG ts (i+2)).1.num?:Int)),aa (.str (st wy)),aa (.ref lo)] H6 Q) E:=by
  intro j wy ns lo H5 hj a5 ajO ai7 fr5 q5
  refine⟨r,";",rfl,yD (ra.YR a5) hj (fun g H6 a6=>?_) (fun g=>?_)⟩
  ·rw[F8]at g
   rw[c8 g]at q5
   have g':=Lx (xs:=[.str ";"]) (by rw[F8];exact g)
   refine⟨_,rfl,_,rfl,_,rfl,_,rfl,_,rfl,af9 fun b dx H' s6 z=>?_⟩
   exact q5 b H' ((a5.trans a6).same s6) ⟨dx,lo,z,s6 _ _ (a6.kp lo _ ai7 ajO),fr5⟩ (en.next hj g'.1 g'.2)
  rw[F8]at g
  rw[cP (by rw[g];decide)]at q5
  exact q5.at a5.but
 by_cases hw:(cG ts i).1.txt=tI
 ·rw[c8 hw]at q
  rw[qi hw]
  refine cD ⟨_,rfl,r,dx4,_,rfl,z4,rfl,last (i+3) [] [] lo _ i3 a14 ba nlo (PV a13.but nlo D4) ?_⟩
  by_cases h:(cG ts (i+3)).1.h8=ae
  ·rw[c8 h]at q⊢
   exact q
  rw[cP h]at q⊢
  exact q
 rw[cP hw]at q
 rw[gX hw]
 refine dI ⟨_,rfl,r,dx4,_,rfl,z4,rfl,r,"=",rfl,yD r4 i3 (fun g3 H5 a5=>?_) (fun g3=>?_)⟩
 case refine_2=>
  rw[cP (by rw[g3];decide)]at q
  exact q.at a14.but
 rw[c8 g3]at q
 have i4:=en.next i3 (Lx g3).1 (Lx g3).2
 have a15:=a14.trans a5
 have r5:=ra.YR a15
 obtain⟨dx5,z5⟩:=id r5.rd
 refine⟨_,rfl,r,dx5,_,rfl,z5,rfl,r,aW,fS [Bm,oS],rfl,hW2 _,Kh _,yD r5 i4 (fun g4 H6 a6=>?_) (fun g4=>?_)⟩
 case refine_2=>
  rw[cP (by rw[g4];decide)]at q
  exact q.at a15.but
 rw[c8 g4]at q
 obtain⟨f4,b4,e4⟩:=SH g4
 have i5:=en.next i4 f4 b4
 have a16:=a15.trans a6
 have r6:=ra.YR a16
 rw[e4]
 refine⟨_,rfl,r,l,as,ts,i+5,rfl,r6,i5,en,?_⟩
 cases ho:OQ ts (i+5)with
 |error p=>
  rw[ho]at q
  exact uZ.on q a16.but
 |ok x=>
  obtain⟨ns,j⟩:=x
  rw[ho]at q
  intro ln H7 hln a7 hl7 hj
  have nln:ln≠r:=fun z=>by
   obtain⟨dx6,z6⟩:=a16.rd;rw[z,z6]at hln;cases hln
  have a17:=a16.trans a7
  obtain⟨dx7,z7⟩:=id a17.rd
  refine⟨_,rfl,r,dx7,_,rfl,z7,rfl,last j (cG ts (i+4)).1.txt ns ln H7 hj a17 hl7 nln (PV a16.but nln hln) ?_⟩
  have q':match(if(cG ts j).1.h8=ae then lR ((⟨(cG ts i).1.txt,(cG ts (i+1)).1.txt,(cG ts (i+2)).1.num?,(cG ts (i+4)).1.txt,ns⟩:TS),j+1)else Di (cG ts j).2.1:Except Nat (TS×Nat))with
   |.error p=>uZ E H r CW (B3 p)
   |.ok (x,j)=>∀b H',FH CR H H' r l j->YT CS H H' b x->j<ts.length->Q (.ref b) H':=q
  by_cases h:(cG ts j).1.h8=ae
  ·rw[c8 h]at q'⊢
   exact q'
  rw[cP h]at q'⊢
  exact q'
def wB(C:Addr)(H:Hp)(bs:ag)(xs:List TS):Prop:=fJ (Nj C H) bs xs
theorem Nj.same{H H':Hp}{x:TS}(h:Nj C H a x)(s:bG H H'):Nj C H' a x:=let⟨dx,lo,e1,e2⟩:=h;⟨dx,lo,s _ _ e1,s _ _ e2⟩
theorem wB.same{H H':Hp}{bs:ag}(h:wB C H bs xs)(s:bG H H'):wB C H' bs xs:=Paired.sC h fun _ _ z=>Nj.same z s
def sy:List Nat:=[108,101,116]
def o6:List Nat:=[111,117,116]
def qT(xs:List TS):List (List Nat):=if xs.length=24 then[]else match xs.getLast? with
 |some x=>if x.word=tI then[tI,sy,o6]else[sy,o6]
 |none=>[tI,sy,o6]
inductive S6(CS:Addr)(vs:ao)(H:Hp)(Q:VK)(z':XK):Prop
 |mk (ls:Addr) (bs:ag) (xs:List TS) (_:vs=[.ref ls]) (_:H ls=aa (.lst (bs.map V.ref))) (_:wB CS H bs xs) (_:∀c,H c=ab->Q (.ref c) (upd H c (.tup (fS (qT xs)))))
theorem EM{α β:Type}{F:α->β->Prop}:∀{l:List α}{m:List β},fJ F l m->l=[]/\m=[]\/∃l' x m' y,l=l'++[x]/\m=m'++[y]/\F x y
 |_,_,.nil=>.inl ⟨rfl,rfl⟩
 |x::l,y::m,.cons r t=>by
  rcases EM t with⟨e1,e2⟩|⟨l',x',m',y',e1,e2,f⟩
  ·subst e1 e2;exact .inr ⟨[],x,[],y,rfl,rfl,r⟩
  subst e1 e2;exact .inr ⟨x::l',x',y::m',y',rfl,rfl,f⟩
theorem nU{b e:V}:(UB a b c d e).lookup ("word":Str)=aa a:=rfl
theorem uI{f:Addr}(F:iF K "possible_first_words" "possible_first_words" kh f fd)(S:FE K CS)(hN:∃t,mg "STATEMENT_LIMIT"=aa (.int 24 t))(hl:mg "len"=ab):
 dv P w K mg base eJ 1 f fd ["statements"] (S6 CS):=by
 refine F.ok uA fun fA A outer s H vs Q E hr h=>?_
 obtain⟨ls,bs,xs,rfl,lY,sa,k⟩:=h
 have le:=dM sa
 have lm:((bs.map V.ref).length:Int)=(xs.length:Int):=by rw[aV,le]
 refine⟨_,bh (d8 (cR iW (dB cI (by rfl) hl cv (aP (pv 0) bq)) (iD (by rfl) hN) (da _)) (bj (b8 (Ho bq))) cS)
  (bh (d8 (xD (cR zW (dB cI (by rfl) hl cv (aP (pv 0) bq)) cE (da _)) (sV (cR wo (cu (dU cT (pv 0) (xH rk cE) (fun _ _=>rfl)) rfl) eM (da _)))).pt
   (bj (b8 (Ho (aP eM (aP eM bq))))) cS)
  (bj (b8 (Ho (aP eM (aP eM (aP eM bq))))))),?_⟩
 refine⟨_,rfl,ls,_,rfl,.inl (du.of lY),rfl,_,rfl,?_⟩
 rw[lm]
 by_cases h24:xs.length=24
 ·rw[qi (show V.int (xs.length:Int)=V.int 24 by rw[h24];rfl)]
  refine dI ⟨by show 0<=bz;decide,fun c hc=>?_⟩
  have:=k c hc
  unfold qT at this
  rw[c8 h24]at this
  exact this
 rw[gX (show¬V.int (xs.length:Int)=V.int 24 from fun z=>h24 (by have:=V.int.inj z;omega))]
 refine cD ⟨_,rfl,ls,_,rfl,.inl (du.of lY),_,_,rfl,rfl,_,rfl,?_⟩
 have kk:∀c,H c=ab->Q (.ref c) (upd H c (.tup (fS (match xs.getLast? with|some x=>if x.word=tI then[tI,sy,o6]else[sy,o6]|none=>[tI,sy,o6])))):=fun c hc=>by
  have:=k c hc;unfold qT at this;rw[cP h24]at this;exact this
 rw[lm]
 rcases EM sa with⟨e1,e2⟩|⟨bs',b,xs',x,e1,e2,sx⟩
 ·subst e2
  rw[gX (show¬(0:Int)<(([]:List TS).length:Int)by decide)]
  exact cD (cD ⟨by show 3<=bz;decide,fun c hc=>kk c hc⟩)
 subst e1 e2
 have X8:(0:Int)<((xs'++[x]).length:Int):=by
  rw[bQ];show(0:Int)<((xs'.length+1:Nat):Int);omega
 rw[qi X8]
 obtain⟨dx,lo,hb,D4⟩:=sx
 rw[Ul]at kk
 refine dI ⟨_,rfl,1,rfl,ls,_,_,_,rfl,rfl,du.of lY,(by rw[b9];exact YI _ _),b,CS,dx,_,_,rfl,hb,S.cl,S.n1,nU,rfl,_,rfl,?_⟩
 rw[X5]
 by_cases hw:x.word=tI
 ·rw[qi hw]
  refine cD ⟨by show 3<=bz;decide,fun c hc=>?_⟩
  have:=kk c hc
  rw[show([x].getLast?.or xs'.getLast?)=aa x from rfl]at this
  simp only[c8 hw]at this
  exact this
 rw[gX hw]
 refine dI ⟨by show 2<=bz;decide,fun c hc=>?_⟩
 have:=kk c hc
 rw[show([x].getLast?.or xs'.getLast?)=aa x from rfl]at this
 simp only[cP hw]at this
 exact this
def Sh:List kr->Prop
 |[]=>False
 |x::r=>(r=[]/\(x.1.nB=ae\/x.1.isBad=ae))\/(x.1.nB=af/\x.1.isBad=af/\Sh r)
theorem Sh.pos(h:Sh ts):0<ts.length:=by
 cases ts with
 |nil=>exact h.elim
 |cons x r=>exact Nat.succ_pos _
theorem Sh.ends:∀{ts:List kr},Sh ts->Ends ts
 |[],h=>h.elim
 |x::r,h=>by
  intro i hi;rcases h with⟨rfl,h⟩|⟨h1,h2,h3⟩
  ·have:i=0:=by
    have:i<1:=hi;omega
   subst this;exact⟨fun _=>h,fun _=>rfl⟩
  cases i with
  |zero=>
   have:=h3.pos;refine⟨fun z=>?_,fun z=>?_⟩
   ·have:0+1=r.length+1:=z;omega
   have z2:x.1.nB=ae\/x.1.isBad=ae:=z;rw[h1,h2]at z2;rcases z2 with q|q<;>cases q
  |succ i=>
   have hi2:i<r.length:=by
    have:i+1<r.length+1:=hi;omega
   have q:=h3.ends i hi2
   have e:cG (x::r) (i+1)=cG r i:=by
    unfold cG;rw[oH]
   rw[e,<-q];show i+1+1=r.length+1↔i+1=r.length;omega
theorem Kd{t:List Nat}:(fC t p c).1.nB=af:=by
 unfold fC;split
 ·rfl
 split
 ·rfl
 split
 ·split<;>rfl
 rfl
theorem QK{t:List Nat}:∀(k p:Nat),Sh (l9 t k p):=by
 intro k;induction k with
 |zero=>exact fun p=>.inl ⟨rfl,.inl rfl⟩
 |succ k ih=>
  intro p;cases hc:t[p]? with
  |none=>
   simp only[l9,hc];exact .inl ⟨rfl,.inl rfl⟩
  |some c=>
   simp only[l9,hc];cases nb:(fC t p c).1.isBad with
   |true=>
    rw[c8 rfl];exact .inl ⟨rfl,.inr nb⟩
   |false=>
    rw[cP (by decide)];exact .inr ⟨Kd,nb,ih _⟩
theorem yB{t:List Nat}:Sh (toks t p):=QK _ _
theorem Wm{t:List Nat}{w:List Nat}(h:(fC t p c).1=.word w):w.length<=t.length:=by
 unfold fC at h;split at h
 ·cases h
 split at h
 ·cases h;exact T8
 split at h
 ·split at h<;>cases h
 cases h
theorem Wi{t:List Nat}:∀(k p:Nat)(x:kr)(w:List Nat),x∈l9 t k p->x.1=.word w->w.length<=t.length:=by
 intro k;induction k with
 |zero=>
  intro p x w hx h;have e:=bT.mp hx;rw[e]at h;cases h
 |succ k ih=>
  intro p x w hx h;cases hc:t[p]? with
  |none=>
   simp only[l9,hc]at hx;have e:=bT.mp hx;rw[e]at h;cases h
  |some c=>
   simp only[l9,hc]at hx;rcases bP.mp hx with e|e
   ·rw[e]at h;exact Wm h
   split at e
   ·cases e
   exact ih _ x w e h
theorem ZJ{t:List Nat}(hz:t.length<=100000):∀(i:Nat)(w:List Nat)(q e:Nat),(toks t p)[i]?=aa (.word w,q,e)->w.length<=100000:=fun i w q e h=>
 cQ (Wi _ _ _ w (br h) rfl) hz
def Ej(ts:List kr):Nat->Nat->List TS->Except Nat (List TS)
 |0,_,acc=>.ok acc
 |k+1,i,acc=>if(cG ts i).1.nB=ae then .ok acc else match stI ts (qT acc) i with
  |.error p=>.error p
  |.ok (x,j)=>Ej ts k j (acc++[x])
def allI(ts:List kr):Except Nat (List TS):=Ej ts ts.length 0 []
theorem adn:∀(k i:Nat)(ns:List (List Nat))(j:Nat),DM ts k i=.ok (ns,j)->i<=j:=by
 intro k;induction k with
 |zero=>
  intro i ns j h;cases h;exact bu _
 |succ k ih=>
  intro i ns j h;unfold DM at h;split at h
  ·cases h;exact bu _
  split at h
  ·cases ho:DM ts k (i+1)with
   |error p=>rw[ho]at h;cases h
   |ok x=>
    obtain⟨ns',j'⟩:=x;rw[ho]at h;cases h;have:=ih (i+1) ns' j' ho;omega
  cases h
theorem Wv{i j:Nat}{x:TS}(h:stI ts fw i=.ok (x,j)):i<j:=by
 unfold stI at h;split at h
 ·split at h
  ·split at h
   ·split at h
    ·split at h
     ·cases h;omega
     cases h
    split at h
    ·split at h
     ·unfold OQ at h;split at h
      ·cases h
      rename_i ns j' ho;split at ho
      ·cases h1:DM ts 3 (i+5+1)with
       |error p=>rw[h1]at ho;cases ho
       |ok y=>
        obtain⟨ns',j''⟩:=y;rw[h1]at ho;cases ho;have:=adn _ _ _ _ h1;split at h
        ·cases h;omega
        cases h
      cases ho
     cases h
    cases h
   cases h
  cases h
 cases h
inductive S1(K:aX)(CW CS:Addr)(vs:ao)(H:Hp)(Q:VK)(E:XK):Prop
 |mk (a:Addr) (t:List Nat) (_:vs=[.ref a]) (_:du K H a (tx t)) (_:t.length<=100000) (_:match allI (toks t (skip t 0))with
 |.error p=>jC E H CW (B3 p)
 |.ok xs=>∀ls bs H',bG H H'->H' ls=aa (.lst (bs.map V.ref))->wB CS H' bs xs->Q (.ref ls) H')
inductive Qk(C ls:Addr)(H:Hp)(a:Addr)(x:TS):Prop
 |mk (dx:_) (lo:_) (_:H a=aa (.ins C dx (UB (.str (st x.word)) (.str (st x.name)) (.int (x.len:Int)) (.str (st x.way)) (.ref lo)))) (_:H lo=aa (.lst (fS x.ops))) (_:lo≠ls)
theorem Qk.st{ls:Addr}{H:Hp}{x:TS}(h:Qk C ls H a x):Nj C H a x:=let⟨dx,lo,e1,e2,_⟩:=h;⟨dx,lo,e1,e2⟩
theorem Qk.but{CR ls:Addr}{H H':Hp}{i:Nat}{x:TS}(h:Qk C ls H a x)(rd:∃dx,H r=aa (.ins CR dx (VR l i)))(b:NO r H H'):Qk C ls H' a x:=by
 obtain⟨dx,lo,e1,e2,n⟩:=h;obtain⟨dr,e3⟩:=rd;refine⟨dx,lo,b a _ (fun z=>?_) e1,b lo _ (lB e2 e3 (by intro z;cases z)) e2,n⟩;rw[z,e3]at e1;have:=(HO.ins.inj (bR e1)).2.2;cases this
theorem Qk.put{ls:Addr}{H:Hp}{x:TS}(h:Qk C ls H a x)(hl:H ls=aa (.lst xs)):Qk C ls (upd H ls (.lst ys)) a x:=by
 obtain⟨dx,lo,e1,e2,n⟩:=h;exact⟨dx,lo,by rw[bB (lB e1 hl (by intro z;cases z))];exact e1,by rw[bB n];exact e2,n⟩
theorem Ax{f CR:Addr}(F:iF K "read_statements" "read_statements" nY f fd)(R:RdC K CR)(MR:Mc P w K mg base 1 "Reader" CR ["self","tokens"] (Oo CR))(Ct:Fn P w K mg base eJ 4 "read_tokens" ["text"] (Wz K CT))
 (Me':Me P w K mg base eJ 1 CR "at_end" dR (S7 CT CR))(Cs:Fn P w K mg base (k4 P w) 7 "read_statement" ["reader","first_words"] (WA K CT CR CW CS))(Cf:Fn P w K mg base eJ 1 "possible_first_words" ["statements"] (S6 CS)):
 dv P w K mg base (k4 P w) 8 f fd ["text"] (S1 K CW CS):=by
 refine DT F mK fun fA A outer s H vs Q E hr h=>?_
 obtain⟨a,t,rfl,hT,hz,q⟩:=h
 have NJ:gG 4 _:=hr.mono (by decide)
 have RG:gG 2 _:=hr.mono (by decide)
 have Ib:gG 1 _:=hr.mono (by decide)
 refine⟨_,bh (jy 1 mK.nd (EL MR RG (by rfl) (aP (dG Ct NJ (by rfl) (aP (pv 0) bq)) bq)))
  (bh (jy 2 mK.nd (eA bq))
  (bh (n9 (Hs kZ) (ub (jw (adh R.cl Me' Ib (pv 1))))
   (bj (dJ (md cb c7 cZ iN (pv 2) (aP (rM Cs kZ hr (by rfl) (aP (pv 1) (aP (dG Cf Ib (by rfl) (aP (pv 2) bq)) bq))) bq)))))
  (bj (b8 (pv 2))))),?_⟩
 refine⟨_,rfl,a,t,rfl,hT,hz,fun l as H1 s1 hl tk r dr hrn hdn ndr=>?_⟩
 generalize hts:toks t (skip t 0)=ts at q tk
 have en:Ends ts:=by rw[<-hts];exact yB.ends
 have ps:0<ts.length:=by rw[<-hts];exact yB.pos
 have sm:∀(i:Nat)(w:List Nat)(q e:Nat),ts[i]?=aa (.word w,q,e)->w.length<=100000:=by rw[<-hts];exact ZJ hz
 refine⟨r,dr,l,rfl,ba,rfl,?_⟩
 generalize Yf:upd (upd (upd H1 dr (.own r)) r (.ins CR dr [])) r (.ins CR dr (VR l 0))=H2
 have s2:bG H1 H2:=fun y o z=>by
  rw[<-Yf,jg,bB (bO z hrn),bB (bO z hdn)];exact z
 have agy:H2 r=aa (.ins CR dr (VR l 0)):=by rw[<-Yf,ba]
 have ra0:vX CT CR H2 r l as ts 0:=⟨⟨dr,agy⟩,s2 _ _ hl,tk.same s2,sm⟩
 have rH:=s1.free hrn
 refine⟨by show 0<=bz;decide,fun ls lY=>?_⟩
 have s3:bG H2 (upd H2 ls (.lst [])):=bG.new lY
 have lsH:=(s1.trans s2).free lY
 have lsr:ls≠r:=fun z=>by rw[z,agy]at lY;cases lY
 refine⟨fun m σ H'=>Ex3 fun(i:Nat)(bs:ag)(xs:List TS)=>ts.length-i<=m/\i<ts.length/\σ=[aa (.ref a),aa (.ref r),aa (.ref ls)]/\bG H H'/\vX CT CR H' r l as ts i/\H' ls=aa (.lst (bs.map V.ref))/\fJ (Qk CS ls H') bs xs/\xs.length+m<=ts.length/\Ej ts m i xs=allI ts,
  ⟨ts.length,0,[],[],Nat.sub_le _ _,ps,rfl,(s1.trans s2).trans s3,ra0.same s3,ba,.nil,by show 0+ts.length<=ts.length;omega,rfl⟩,?_⟩
 rintro m σ H' ⟨i,bs,xs,hm,hi,rfl,s4,ra,hl4,sn,lx,al⟩
 obtain⟨dx4,z4⟩:=id ra.rd
 refine⟨_,rfl,r,dx4,_,rfl,z4,rfl,r,l,as,ts,i,(cG ts i).1,(cG ts i).2.1,(cG ts i).2.2,rfl,ra,yC hi,_,rfl,?_⟩
 obtain⟨k,rfl⟩:∃k,m=k+1:=⟨m-1,by omega⟩
 have un:Ej ts (k+1) i xs=if(cG ts i).1.nB=ae then .ok xs else match stI ts (qT xs) i with|.error p=>.error p|.ok (x,j)=>Ej ts k j (xs++[x]):=rfl
 rw[un]at al
 cases hf:(cG ts i).1.nB with
 |true=>
  rw[c8 hf]at al
  rw[<-al]at q
  exact cD ⟨_,rfl,q ls bs H' s4 hl4 (Paired.sC sn fun _ _ z=>Qk.st z)⟩
 |false=>
  rw[cP (by rw[hf];decide)]at al
  refine dI ⟨fun σ' G=>Ex3 fun(i:Nat)(bs:ag)(xs:List TS)=>ts.length-i<=k/\i<ts.length/\σ'=[aa (.ref a),aa (.ref r),aa (.ref ls)]/\bG H G/\vX CT CR G r l as ts i/\G ls=aa (.lst (bs.map V.ref))/\fJ (Qk CS ls G) bs xs/\xs.length+k<=ts.length/\Ej ts k i xs=allI ts,
   fun σ' G z=>⟨k,eN _,z⟩,?_⟩
  refine⟨_,rfl,.inl ⟨rfl,_,du.of hl4⟩,_,rfl,_,rfl,ls,bs,xs,rfl,hl4,Paired.sC sn (fun _ _ z=>Qk.st z),fun c hc=>?_⟩
  have s5:bG H' (upd H' c (.tup (fS (qT xs)))):=bG.new hc
  have ncr:c≠r:=fun z=>by rw[z,z4]at hc;cases hc
  refine⟨r,c,l,as,ts,i,qT xs,rfl,wC.of ba,ncr,ra.same s5,hi,en,?_⟩
  cases hs:stI ts (qT xs) i with
  |error p=>
   rw[hs]at al
   rw[<-al]at q
   exact fun a' dx' H'' b x y=>q a' dx' H'' (fun u o z=>b u o (fun e=>by rw[e,rH]at z;cases z) (s5 _ _ (s4 _ _ z))) x y
  |ok y=>
   obtain⟨x,j⟩:=y
   rw[hs]at al
   intro b H6 av sf hj
   obtain⟨dx6,lo6,e6,e7,e8⟩:=sf
   have hl6:=av.kp _ _ lsr (s5 _ _ hl4)
   have rd5:∃dx,(upd H' c (.tup (fS (qT xs)))) r=aa (.ins CR dx (VR l i)):=⟨dx4,s5 _ _ z4⟩
   have sn6:fJ (Qk CS ls H6) bs xs:=Paired.sC sn fun _ _ z=>by
    obtain⟨d1,l1,y1,y2,y3⟩:=z;exact Qk.but ⟨d1,l1,s5 _ _ y1,s5 _ _ y2,y3⟩ rd5 av.but
   have agd:lo6≠ls:=fun z=>by
    rw[z,s5 _ _ hl4]at e8;cases e8
   have gt:=Wv hs
   have lb:=dM sn
   refine⟨ls,_,_,rfl,rfl,hl6,?_,j,bs++[b],xs++[x],by omega,hj,rfl,?_,?_,?_,?_,?_,al⟩
   ·rw[aV,lb,bX]
    have:ts.length<=t.length+1:=by
     rw[<-hts];have:=Oa (t:=t) (p:=skip t 0);omega
    omega
   ·refine bG.put lsH fun u o z=>av.kp u o (fun e=>by rw[e,rH]at z;cases z) (s5 _ _ (s4 _ _ z))
   ·have ra6:=(ra.same s5).YR av
    obtain⟨d6,y6⟩:=id ra6.rd
    refine⟨⟨d6,by rw[bB (de lsr)];exact y6⟩,?_,ra6.tk.put hl6,sm⟩
    have nl:l≠ls:=fun z=>by
     have y1:=s2 _ _ hl;rw[z,lY]at y1;cases y1
    rw[bB nl]
    exact ra6.ls
   ·rw[ba,b9]
    rfl
   ·refine mZ (Paired.sC sn6 fun _ _ z=>Qk.put z hl6) (.cons (Qk.put ⟨dx6,lo6,e6,e7,agd⟩ hl6) .nil)
   rw[bQ]
   show xs.length+1+k<=ts.length
   omega
def Tk.tok:Tk->Vaarrl.Token
 |.word w=>.word w
 |.num n=>.num n
 |.sign c=>.sign c
 |.bad=>.none
 |.fin=>.none
def kr.told(x:kr):Nat×Vaarrl.Token:=(x.2.1,x.1.tok)
theorem Ea{f:Nat->Bool}{t:List Nat}:(t.drop p).dropWhile f=t.drop (scan f t p):=by
 unfold scan;rw[<-lQ];generalize t.drop p=l;induction l with
 |nil=>rfl
 |cons x l ih=>
  rw[List.dropWhile_cons,r9];split
  ·rw[ih];rfl
  rfl
theorem near{a b c k:Nat}(h:a-b<k+1)(g:b+1<=c)(l:b<a):a-c<k:=by omega
theorem Ob{t:List Nat}:∀(k p:Nat),t.length-p<k->p<=t.length->Y8 t.length k (t.drop p)=(toks t (skip t p)).map kr.told:=by
 intro k;induction k with
 |zero=>intro p h;omega
 |succ k ih=>
  intro p h hp;cases hc:t[p]? with
  |none=>
   have hge:=iq.mp hc;rw[kL hge,uy hge,GA hge];rfl
  |some c=>
   obtain⟨hl,e⟩:=aZ.mp hc;rw[dZ hl,e];have pe:t.length-((t.drop (p+1)).length+1)=p:=by rw[qo];clear h hp ih e hc;omega
   simp only[Y8,pe];rw[F6 hc];by_cases h1:rj c=ae
   ·rw[c8 h1,c8 h1];exact ih (p+1) (near h (bu _) hl) hl
   rw[cP h1,cP h1];by_cases h2:c=35
   ·rw[c8 h2,c8 h2];have e1:scan (fun c=>c != 10) t p=scan (fun c=>c != 10) t (p+1):=lK hc (by rw[h2];rfl);rw[Ea,e1];have g1:=pI (f:=fun c=>c != 10) (t:=t) (p:=p+1);have g2:=qP (f:=fun c=>c != 10) (t:=t) (p:=p+1) hl;exact ih _ (near h g1 hl) g2
   rw[cP h2,cP h2,Lj hc]
   have ag8:∀f:Nat->Bool,f c=ae->cut t p (scan f t p)=c::(t.drop (p+1)).takeWhile f:=fun f hf=>by
    rw[PL,dZ hl,e,r9,c8 hf]
   unfold fC;by_cases h3:jQ c=ae
   ·have n3:¬(c=59\/c=61):=fun z=>by
     rcases z with z|z
     ·exact absurd h3 (by rw[z];decide)
     exact absurd h3 (by rw[z];decide)
    have zX:dg c=ae:=by unfold dg;rw[h3];rfl
    have e1:=lK hc zX;have g1:=pI (f:=dg) (t:=t) (p:=p+1);have g2:=qP (f:=dg) (t:=t) (p:=p+1) hl;rw[c8 h3,cP n3,c8 h3,ag8 _ zX,Ea,ih _ (near h g1 hl) g2,e1];rfl
   rw[cP h3,cP h3];by_cases h4:cf c=ae
   ·have n3:¬(c=59\/c=61):=fun z=>by
     rcases z with z|z
     ·exact absurd h4 (by rw[z];decide)
     exact absurd h4 (by rw[z];decide)
    have e1:=lK hc h4;have g1:=pI (f:=cf) (t:=t) (p:=p+1);have g2:=qP (f:=cf) (t:=t) (p:=p+1) hl;rw[c8 h4,cP n3,c8 h4]
    have em:(((t.drop (p+1)).takeWhile cf).isEmpty=af)↔scan cf t p≠p+1:=by
     rw[e1];unfold scan;cases(t.drop (p+1)).takeWhile cf with
     |nil=>simp
     |cons x l=>simp
    by_cases h5:c=48/\((t.drop (p+1)).takeWhile cf).isEmpty=af
    ·rw[c8 h5,cP (fun z=>by rcases z with z|z;exact z h5.1;exact em.mp h5.2 z)];rfl
    have h6:c≠48\/scan cf t p=p+1:=by
     by_cases z:c=48
     ·right;exact eO fun q=>h5 ⟨z,em.mpr q⟩
     exact .inl z
    rw[cP h5,c8 h6,ag8 _ h4,Ea,ih _ (near h g1 hl) g2,e1];rfl
   rw[cP h4,cP h4];by_cases h5:c=59\/c=61
   ·rw[c8 h5,c8 h5,ih (p+1) (near h (bu _) hl) hl];rfl
   rw[cP h5,cP h5];rfl
theorem Ux(t:List Nat):Vaarrl.tokens t=(toks t (skip t 0)).map kr.told:=Ob (t.length+1) 0 (by omega) (cB _)
abbrev pW(ts:List kr):Vaarrl.Toks:=ts.map kr.told
theorem BQ(ts:List kr)(i:Nat):Vaarrl.next ((pW ts).drop i)=(cG ts i).1.tok:=by
 unfold Vaarrl.next pW cG;rw[List.head?_drop,bK];cases ts[i]?<;>rfl
theorem BY(ts:List kr)(i:Nat):Vaarrl.here ((pW ts).drop i)=(cG ts i).2.1:=by
 unfold Vaarrl.here pW cG;rw[List.head?_drop,bK];cases ts[i]?<;>rfl
theorem GI{b:List Nat}(h:st a=st b):a=b:=by
 have h2:=congrArg (fun x:Str=>x.cps.toList) h;simpa[st]using h2
theorem TR(w:List Nat)(fw:List (List Nat)):wu (.str (st w)) (fS fw)=fw.contains w:=by
 unfold wu fS;rw[Qx,eK,fg,dN];constructor
 ·rintro⟨x,hx,h⟩;have h1:(st x==st w)=ae:=h;rw[beq_iff_eq]at h1;rw[<-GI h1];exact hx
 intro h;exact⟨w,h,(by show(st w==st w)=ae;exact beq_self_eq_true _)⟩
theorem uu(fw:List (List Nat))(w:List Nat):jG "word" (fS fw) (.word w)=fw.contains w:=by
 unfold jG;show(decide (("word":Str)="word")&&wu (.str (st w)) (fS fw))=_;rw[qi rfl,eG,TR]
theorem uz(τ:Tk):τ.h8=ae↔τ.tok=.sign 59:=by
 cases τ with
 |sign c=>
  show(c==59)=ae↔Nz c=.sign 59;rw[beq_iff_eq];exact⟨fun h=>by rw[h],fun h=>De h⟩
 |word w=>exact⟨fun h=>(by cases h),fun h=>(by cases h)⟩
 |num w=>exact⟨fun h=>(by cases h),fun h=>(by cases h)⟩
 |bad=>exact⟨fun h=>(by cases h),fun h=>(by cases h)⟩
 |fin=>exact⟨fun h=>(by cases h),fun h=>(by cases h)⟩
theorem Yo(τ:Tk):jG "sign" [.str "="] τ=ae↔τ.tok=.sign 61:=by
 cases τ with
 |sign c=>
  show(decide (("sign":Str)="sign")&&((V.str "="::[]).any fun y=>Yp y (.str (st [c]))))=ae↔Nz c=.sign 61;rw[qi rfl,eG];show((((st [61]:Str)==st [c]))||af)=ae↔_;rw[k6,beq_iff_eq];constructor
  ·intro h;have:=GI h;rw[List.cons.inj this|>.1]
  intro h;rw[De h]
 |word w=>exact⟨fun h=>(by cases h),fun h=>(by cases h)⟩
 |num w=>exact⟨fun h=>(by cases h),fun h=>(by cases h)⟩
 |bad=>exact⟨fun h=>(by cases h),fun h=>(by cases h)⟩
 |fin=>exact⟨fun h=>(by cases h),fun h=>(by cases h)⟩
theorem aax:V0=[tI,sy,o6,Bm,oS]:=by decide
theorem HK(τ:Tk):Vaarrl.isName τ.tok=iC τ:=by
 cases τ with
 |word w=>
  show(decide (w.length<=16)&& !V0.contains w)=(!wu (.str (st w)) x5&&decide (w.length<=16));rw[Bool.and_comm,aax,<-TR];rfl
 |num n=>rfl
 |sign c=>rfl
 |bad=>rfl
 |fin=>rfl
theorem aau(τ:Tk):Vaarrl.isLength τ.tok=pH τ:=by cases τ<;>rfl
theorem N3(τ:Tk):Vaarrl.wordOf τ.tok=τ.txt:=by cases τ<;>rfl
theorem aaj(τ:Tk):Vaarrl.numOf τ.tok=τ.num?:=by cases τ<;>rfl
def opS(ts:List kr)(k i:Nat):Except Nat (List (List Nat)×Nat):=match DM ts k i with
 |.error p=>.error p
 |.ok (ns,j)=>if(cG ts j).1.h8=ae then .ok (ns,j+1)else .error (cG ts j).2.1
theorem ab1(ts:List kr)(i:Nat):((pW ts).drop i).drop 1=(pW ts).drop (i+1):=lQ
theorem OP(ts:List kr):∀(k i:Nat),Gn k ((pW ts).drop i)=(opS ts k i).map fun x=>(x.1,(pW ts).drop x.2):=by
 intro k;induction k with
 |zero=>
  intro i;rw[Gn,BQ,BY,ab1];unfold opS;show _=js _ (if(cG ts i).1.h8=ae then _ else _);by_cases h:(cG ts i).1.h8=ae
  ·rw[c8 h,c8 ((uz _).mp h)];rfl
  rw[cP h,cP (fun z=>h ((uz _).mpr z))];rfl
 |succ k ih=>
  intro i;rw[Gn,BQ,BY,ab1,HK,N3];unfold opS;have un:DM ts (k+1) i=if(cG ts i).1.h8=ae then .ok ([],i)else if iC (cG ts i).1=ae then(DM ts k (i+1)).map (fun x=>((cG ts i).1.txt::x.1,x.2))else .error (cG ts i).2.1:=rfl
  rw[un];by_cases h:(cG ts i).1.h8=ae
  ·rw[c8 h,c8 ((uz _).mp h)];show _=js _ (if(cG ts i).1.h8=ae then _ else _);rw[c8 h];rfl
  rw[cP h,cP (fun z=>h ((uz _).mpr z))];by_cases h2:iC (cG ts i).1=ae
  ·rw[c8 h2,c8 h2,ih];unfold opS;cases DM ts k (i+1)with
   |error p=>rfl
   |ok x=>
    obtain⟨ns,j⟩:=x;show js _ (js _ (if(cG ts j).1.h8=ae then _ else _))=js _ (if(cG ts j).1.h8=ae then _ else _);by_cases h3:(cG ts j).1.h8=ae
    ·rw[c8 h3,c8 h3];rfl
    rw[cP h3,cP h3];rfl
  rw[cP h2,cP h2];rfl
def TS.told(x:TS):Vaarrl.Told:={name:=x.name,length:=x.len,input:=x.word==tI,out:=x.word==o6,turn:=x.way==oS,uses:=x.ops}
def fwB(b:Bool):List (List Nat):=if b=ae then[tI,sy,o6]else[sy,o6]
theorem GB{τ:Tk}{w:List Nat}(h:τ.tok=.word w):τ=.word w:=by
 cases τ with
 |word v=>rw[jV h]
 |num n=>cases h
 |sign c=>cases h
 |bad=>cases h
 |fin=>cases h
theorem Pq(b:Bool)(τ:Tk):jG "word" (fS (fwB b)) τ=ae↔(τ.tok=.word tI/\b=ae)\/τ.tok=.word sy\/τ.tok=.word o6:=by
 constructor
 ·intro h;cases τ with
  |word w=>
   rw[uu]at h;have h1:=dN.mp h;cases b with
   |true=>
    simp only[fwB,if_true,bP,kb,or_false]at h1;rcases h1 with rfl|rfl|rfl
    ·exact .inl ⟨rfl,rfl⟩
    ·exact .inr (.inl rfl)
    exact .inr (.inr rfl)
   |false=>
    have h2:w=sy\/w=o6:=by
     have:w∈[sy,o6]:=h1;simpa using this
    rcases h2 with rfl|rfl
    ·exact .inr (.inl rfl)
    exact .inr (.inr rfl)
  |num n=>cases h
  |sign c=>cases h
  |bad=>cases h
  |fin=>cases h
 rintro(⟨h,rfl⟩|h|h)<;>rw[GB h,uu]
 ·rfl
 ·cases b<;>rfl
 cases b<;>rfl
theorem QD(τ:Tk):jG "word" (fS [Bm,oS]) τ=ae↔τ.tok=.word Bm\/τ.tok=.word oS:=by
 constructor
 ·intro h;cases τ with
  |word w=>
   rw[uu]at h;have h1:=dN.mp h;have h2:w=Bm\/w=oS:=by simpa using h1
   rcases h2 with rfl|rfl
   ·exact .inl rfl
   exact .inr rfl
  |num n=>cases h
  |sign c=>cases h
  |bad=>cases h
  |fin=>cases h
 rintro(h|h)<;>rw[GB h,uu]<;>rfl
theorem acT:lF "in"=tI:=by decide
theorem ZS:lF "let"=sy:=by decide
theorem ZR:lF "out"=o6:=by decide
theorem SV:lF "map"=Bm:=by decide
theorem Oi:lF "turn"=oS:=by decide
theorem Dl{τ:Tk}{w:List Nat}(h:τ.tok=.word w):τ.txt=w:=by rw[GB h];rfl
def Ia(acc:List TS):Bool:=match acc.getLast? with
 |some x=>x.word==tI
 |none=>ae
theorem Lp(ts:List kr)(b:Bool)(i:Nat):E2 b ((pW ts).drop i)=(stI ts (fwB b) i).map fun x=>(x.1.told,(pW ts).drop x.2):=by
 unfold E2 stI;simp only[lQ,BQ,BY,acT,ZS,ZR,HK,aau,N3,aaj];by_cases h0:jG "word" (fS (fwB b)) (cG ts i).1=ae
 ·rw[c8 h0];have h1:=(Pq b _).mp h0
  have c1:¬((cG ts i).1.tok≠ .word tI/\(cG ts i).1.tok≠ .word sy/\(cG ts i).1.tok≠ .word o6):=by
   rintro⟨a,b,c⟩;rcases h1 with h|h|h
   ·exact a h.1
   ·exact b h
   exact c h
  have c2:¬((cG ts i).1.tok=.word tI/\b=af):=by
   rintro⟨a,c⟩;rcases h1 with h|h|h
   ·rw[h.2]at c;cases c
   ·rw[h]at a;exact absurd (jV a) (by decide)
   rw[h]at a;exact absurd (jV a) (by decide)
  rw[cP c1,cP c2];by_cases g1:iC (cG ts (i+1)).1=ae
  ·rw[c8 g1,cP (by rw[g1];decide)];by_cases g2:pH (cG ts (i+2)).1=ae
   ·rw[c8 g2,cP (by rw[show i+1+1=i+2 from rfl,g2];decide)];simp only[show i+1+1=i+2 from rfl,show i+1+2=i+3 from rfl,show i+3+1=i+4 from rfl]
    have tw:(cG ts i).1.tok=.word (cG ts i).1.txt:=by
     rcases h1 with h|h|h
     ·rw[h.1,Dl h.1]
     ·rw[h,Dl h]
     rw[h,Dl h]
    by_cases hw:(cG ts i).1.txt=tI
    ·rw[c8 hw,c8 (by rw[tw,hw])];by_cases g3:(cG ts (i+3)).1.h8=ae
     ·rw[c8 g3,c8 ((uz _).mp g3)];show lR _=lR _;congr 2;show _=TS.told _;unfold TS.told;simp only[hw];rfl
     rw[cP g3,cP (fun z=>g3 ((uz _).mpr z))];rfl
    rw[cP hw,cP (fun z=>hw (Dl z))];by_cases g3:jG "sign" [.str "="] (cG ts (i+3)).1=ae
    ·rw[c8 g3,c8 ((Yo _).mp g3)];unfold Vaarrl.working;simp only[lQ,BQ,BY,SV,Oi,HK];by_cases g4:jG "word" (fS [Bm,oS]) (cG ts (i+4)).1=ae
     ·have w4:=(QD _).mp g4;rw[c8 g4,cP (by rintro⟨a,b⟩;rcases w4 with h|h;exact a h;exact b h)];simp only[show i+4+1=i+5 from rfl]
      have tw4:(cG ts (i+4)).1.tok=.word (cG ts (i+4)).1.txt:=by
       rcases w4 with h|h
       ·rw[h,Dl h]
       rw[h,Dl h]
      have wn:((cG ts i).1.txt==tI)=af:=by
       rw[beq_eq_false_iff_ne];exact hw
      have bo:((cG ts i).1.tok==Ny o6)=((cG ts i).1.txt==o6):=by
       rw[tw,eK,beq_iff_eq,beq_iff_eq];exact⟨fun h=>jV h,fun h=>by rw[h]⟩
      have bt:((cG ts (i+4)).1.tok==Ny oS)=((cG ts (i+4)).1.txt==oS):=by
       rw[tw4,eK,beq_iff_eq,beq_iff_eq];exact⟨fun h=>jV h,fun h=>by rw[h]⟩
      unfold OQ;by_cases g5:iC (cG ts (i+5)).1=ae
      ·rw[c8 g5,cP (by rw[g5];decide),OP]
       have ns:¬(cG ts (i+5)).1.h8=ae:=fun z=>by
        cases hx:(cG ts (i+5)).1 with
        |word w=>rw[hx]at z;cases z
        |num w=>rw[hx]at g5;cases g5
        |sign w=>rw[hx]at g5;cases g5
        |bad=>rw[hx]at g5;cases g5
        |fin=>rw[hx]at g5;cases g5
       unfold opS;have un:DM ts 4 (i+5)=if(cG ts (i+5)).1.h8=ae then .ok ([],i+5)else if iC (cG ts (i+5)).1=ae then(DM ts 3 (i+5+1)).map (fun x=>((cG ts (i+5)).1.txt::x.1,x.2))else .error (cG ts (i+5)).2.1:=rfl
       rw[un,cP ns,c8 g5];cases DM ts 3 (i+5+1)with
       |error p=>rfl
       |ok x=>
        obtain⟨ns',j⟩:=x;show js _ (js _ (if(cG ts j).1.h8=ae then _ else _))=js _ (if(cG ts j).1.h8=ae then _ else _);by_cases g6:(cG ts j).1.h8=ae
        ·rw[c8 g6,c8 g6];refine congrArg lR ?_;simp only[TS.told,wn,bo,bt]
        rw[cP g6,cP g6];rfl
      rw[cP g5,c8 (by simpa using g5)];rfl
     rw[cP g4,c8 ⟨fun z=>g4 ((QD _).mpr (.inl z)),fun z=>g4 ((QD _).mpr (.inr z))⟩];rfl
    rw[cP g3,cP (fun z=>g3 ((Yo _).mpr z))];rfl
   rw[cP g2,c8 (by simpa using g2)];rfl
  rw[cP g1,c8 (by simpa using g1)];rfl
 rw[cP h0];have h1:=fun z=>h0 ((Pq b _).mpr z);by_cases c1:(cG ts i).1.tok≠ .word tI/\(cG ts i).1.tok≠ .word sy/\(cG ts i).1.tok≠ .word o6
 ·rw[c8 c1];rfl
 rw[cP c1]
 have c2:(cG ts i).1.tok=.word tI/\b=af:=by
  have n1:(cG ts i).1.tok≠ .word sy:=fun z=>h1 (.inr (.inl z));have n2:(cG ts i).1.tok≠ .word o6:=fun z=>h1 (.inr (.inr z));have n3:=eO fun z=>c1 ⟨z,n1,n2⟩;refine⟨n3,?_⟩;cases b with
  |false=>rfl
  |true=>exact absurd (.inl ⟨n3,rfl⟩) h1
 rw[c8 c2];rfl
theorem acW(en:Ends ts){i j:Nat}{x:TS}(h:stI ts fw i=.ok (x,j)):j<ts.length:=by
 have key:∀k,(cG ts k).1.h8=ae->k+1<ts.length:=fun k hk=>by
  have hl:k<ts.length:=by
   refine eO fun z=>?_
   have e:cG ts k=(.fin,0,0):=by
    unfold cG;rw[dY (by omega)];rfl
   rw[e]at hk;cases hk
  refine en.next hl ?_ ?_
  ·cases hx:(cG ts k).1 with
   |fin=>rw[hx]at hk;cases hk
   |_=>rfl
  cases hx:(cG ts k).1 with
  |bad=>rw[hx]at hk;cases hk
  |_=>rfl
 unfold stI at h;split at h
 ·split at h
  ·split at h
   ·split at h
    ·split at h
     ·rename_i hs;cases h;exact key _ hs
     cases h
    split at h
    ·split at h
     ·split at h
      ·cases h
      split at h
      ·rename_i hs;cases h;exact key _ hs
      cases h
     cases h
    cases h
   cases h
  cases h
 cases h
theorem aaH{acc:List TS}(h:acc.length≠24):qT acc=fwB (Ia acc):=by
 unfold qT Ia fwB;rw[cP h];cases acc.getLast? with
 |none=>rfl
 |some x=>
  show(if x.word=tI then _ else _)=(if(x.word==tI)=ae then _ else _);by_cases q:x.word=tI
  ·rw[c8 q,c8 (by rw[beq_iff_eq];exact q)]
  rw[cP q,cP (by rw[beq_iff_eq];exact q)]
theorem X3(acc:List TS)(x:TS):Ia (acc++[x])=x.told.input:=by
 unfold Ia;rw[Ul];rfl
def aca(n:Nat)(ts:List kr):Prop:=∀i,i<ts.length->((cG ts i).1.nB=ae↔((cG ts i).2.1=n/\(cG ts i).1.tok=.none))
theorem Ji{n:Nat}(en:Ends ts)(fa:aca n ts):∀(f i:Nat)(acc:List TS),i<ts.length->ts.length-i<=f->acc.length<=24->
 (gS n (24-acc.length) (Ia acc) ((pW ts).drop i)).map (fun l=>acc.map TS.told++l)=(Ej ts f i acc).map (fun l=>l.map TS.told):=by
 intro f
 induction f with
 |zero=>intro i acc h1 h2;omega
 |succ f ih=>
  intro i acc h1 h2 h3
  unfold gS
  have un:Ej ts (f+1) i acc=if(cG ts i).1.nB=ae then .ok acc else match stI ts (qT acc) i with|.error p=>.error p|.ok (x,j)=>Ej ts f j (acc++[x]):=rfl
  rw[un,BY,BQ]
  by_cases hf:(cG ts i).1.nB=ae
  ·rw[c8 hf,c8 ((fa i h1).mp hf)]
   exact congrArg lR (ck _)
  rw[cP hf,cP (fun z=>hf ((fa i h1).mpr z))]
  by_cases h24:acc.length=24
  ·have e:24-acc.length=0:=by omega
   rw[e]
   have e2:stI ts (qT acc) i=.error (cG ts i).2.1:=by
    unfold stI;have:qT acc=[]:=by unfold qT;rw[c8 h24]
    rw[this,cP];intro z;cases hx:(cG ts i).1<;>rw[hx]at z<;>cases z
   rw[e2]
   rfl
  obtain⟨k,hk⟩:∃k,24-acc.length=k+1:=⟨23-acc.length,by omega⟩
  rw[hk,aaH h24]
  show js _ (match E2 (Ia acc) ((pW ts).drop i)with|.error e=>.error e|.ok x=>(gS n k x.1.input x.2).map fun l=>x.1::l)=_
  rw[Lp]
  cases hs:stI ts (fwB (Ia acc)) i with
  |error p=>rfl
  |ok y=>
   obtain⟨x,j⟩:=y
   have hj:=acW en hs
   have gt:=Wv hs
   have:=ih j (acc++[x]) hj (by omega) (by rw[bQ];show acc.length+1<=24;omega)
   rw[X3,bQ,show 24-(acc.length+[x].length)=k by show 24-(acc.length+1)=k;omega]at this
   show js _ (js (fun l=>x.told::l) (gS n k x.told.input ((pW ts).drop j)))=js _ (Ej ts f j (acc++[x]))
   rw[<-this]
   cases gS n k x.told.input ((pW ts).drop j)with
   |error e=>rfl
   |ok l=>
    refine congrArg lR ?_
    show acc.map TS.told++(x.told::l)=(acc++[x]).map TS.told++l
    rw[b9,c9]
    rfl
theorem Uw{t:List Nat}:∀(k p:Nat)(x:kr),x∈l9 t k p->(x.1.nB=ae->x.2.1=t.length)/\(x.1.isBad=ae->x.2.1<t.length):=by
 intro k;induction k with
 |zero=>
  intro p x hx;have e:=bT.mp hx;rw[e];exact⟨fun _=>rfl,fun z=>by cases z⟩
 |succ k ih=>
  intro p x hx;cases hc:t[p]? with
  |none=>
   simp only[l9,hc]at hx;have e:=bT.mp hx;rw[e];exact⟨fun _=>rfl,fun z=>by cases z⟩
  |some c=>
   have hp:=(aZ.mp hc).1;simp only[l9,hc]at hx;rcases bP.mp hx with e|e
   ·rw[e];exact⟨fun z=>(by rw[Kd]at z;cases z),fun _=>hp⟩
   split at e
   ·cases e
   exact ih _ x e
theorem QI(t:List Nat)(p:Nat):aca t.length (toks t p):=fun i hi=>by
 have hm:=br (yC hi);obtain⟨f1,f2⟩:=Uw _ _ _ hm;constructor
 ·intro z;refine⟨f1 z,?_⟩;cases hx:(cG (toks t p) i).1 with
  |fin=>rfl
  |bad=>rfl
  |_=>rw[hx]at z;cases z
 rintro⟨z1,z2⟩;cases hx:(cG (toks t p) i).1 with
 |fin=>rfl
 |bad=>
  have:=f2 (by rw[hx];rfl);omega
 |_=>rw[hx]at z2;cases z2
theorem aeG(t:List Nat):gS t.length Vaarrl.MOST ae (Vaarrl.tokens t)=(allI (toks t (skip t 0))).map (fun l=>l.map TS.told):=by
 have en:=(yB (t:=t) (p:=skip t 0)).ends;have:=Ji en (QI t _) (toks t (skip t 0)).length 0 [] yB.pos (Nat.sub_le _ _) (cB _);rw[List.drop_zero]at this;rw[Ux];unfold allI;rw[<-this];show gS t.length 24 ae (pW _)=js _ (gS t.length 24 ae (pW _));cases gS t.length 24 ae (pW (toks t (skip t 0)))<;>rfl
theorem oo{K:aX}{xs:ao}{g:TG}{tb:L2.TS}{D:L2.Ends}{σ:L2.St}{H:Hp}(Pv:Nat->L2.St->Hp->Prop)(h0:Pv 0 σ H)(hl:∀i σ H,i<=xs.length->Pv i σ H->du K H a xs)
 (hs:∀i x σ H T,xs[i]?=aa x->Pv i σ H->H T=ab->g (.ref T) σ (upd H T (.tup [.int (i:Nat),x])) fun σ2 H2=>tb {D with nx:=Pv (i+1),ct:=Pv (i+1),bk:=D.nx} σ2 H2)(hd:∀σ H,Pv xs.length σ H->D.nx σ H):
 ∃W:Nat->Nat->L2.St->Hp->Prop,(∃m,W 0 m σ H)/\∀i m σ H,W i m σ H->
  ((Ite K a).stop i H/\D.nx σ H)\/((Ite K a).go i H/\∃N:L2.St->Hp->Prop,(∀σ' H',N σ' H'->∃m',m'<m/\W (i+1) m' σ' H')/\∀x H',(Ite K a).We i H x H'->g x σ H' fun σ2 H2=>tb {D with nx:=N,ct:=N,bk:=D.nx} σ2 H2):=by
 refine⟨fun i m σ H=>m=xs.length-i/\i<=xs.length/\Pv i σ H,⟨xs.length,by simp,cB _,h0⟩,?_⟩
 rintro i m σ H ⟨rfl,hi,p⟩
 have q:=hl i σ H hi p
 by_cases zu:i<xs.length
 ·refine .inr ⟨⟨xs,xs[i],q,by simp[zu]⟩,Pv (i+1),fun σ' H' p'=>⟨xs.length-(i+1),by omega,rfl,zu,p'⟩,fun x H' y=>?_⟩
  obtain⟨T,x,e,hT,e2,y⟩:=y
  subst e e2
  exact hs i x σ _ T (y xs q) p hT
 have e:i=xs.length:=by omega
 subst e
 exact .inl ⟨⟨xs,q,bu _⟩,hd σ H p⟩
def oj(ns:List (List Nat)):List (Key×V):=ns.zipIdx.map fun x=>(iL (st x.1),V.int (x.2:Int))
theorem O4(ns:List (List Nat))(u:List Nat):oj (ns++[u])=oj ns++[(iL (st u),V.int (ns.length:Int))]:=by
 unfold oj;rw[List.zipIdx_append,b9];simp
theorem Rq(ns:List (List Nat)):(oj ns).length=ns.length:=by
 unfold oj;simp
theorem ZI(u:List Nat):∀(ns:List (List Nat))(k:Nat),l6 ((ns.zipIdx k).map fun x=>((iL (st x.1):Key),V.int (x.2:Int))) (iL (st u))=if ns.contains u=ae then aa (V.int ((k+ns.findIdx (fun n=>n==u):Nat):Int))else ab:=by
 intro ns;induction ns with
 |nil=>intro k;rfl
 |cons n ns ih=>
  intro k;rw[ZC,dC];by_cases h:n=u
  ·subst h;rw[kD rfl,c8 (by simp),Zg];simp
  rw[kE (fun z=>h (GI (Qe z))),ih (k+1),Zg];have e1:(n==u)=af:=by rw[beq_eq_false_iff_ne];exact h
  have e2:(n::ns).contains u=ns.contains u:=by
   rw[List.contains_cons];have:(u==n)=af:=by rw[beq_eq_false_iff_ne];exact de h
   rw[this,NY]
  rw[e1,e2];simp only[cond_false];by_cases h2:ns.contains u=ae
  ·rw[c8 h2,c8 h2];congr 3;omega
  rw[cP h2,cP h2]
theorem HL(ns:List (List Nat))(u:List Nat):l6 (oj ns) (iL (st u))=if ns.contains u=ae then aa (V.int ((ns.findIdx (fun n=>n==u):Nat):Int))else ab:=by
 have:=ZI u ns 0;rw[Sy]at this;exact this
theorem KC(ns:List (List Nat))(u:List Nat):(l6 (oj ns) (iL (st u))).isSome=ns.contains u:=by
 rw[HL];cases h:ns.contains u
 ·rw[cP (by decide)];rfl
 rw[c8 rfl];rfl
theorem Rp(ns:List (List Nat))(u:List Nat)(h:ns.contains u=af):putK (oj ns) (iL (st u)) (V.int (ns.length:Int))=oj (ns++[u]):=by
 unfold putK;rw[cP,O4];intro z;rw[fg]at z;obtain⟨kv,hm,hk⟩:=z;have hk:=of_decide_eq_true hk;unfold oj at hm;obtain⟨x,hx,e⟩:=dh.mp hm;subst e;have e2:=GI (Qe hk);have e3:=(List.mem_zipIdx' hx).2▸Gr _;rw[e2]at e3;rw[dN.mpr e3]at h;cases h
abbrev XD(n:Nat):aq:=[("number",.int (-3)),("statement_number",.int (n:Int))]
def EX(H:Hp)(os:ag)(uss:List (List Nat)):Prop:=fJ (fun a us=>H a=aa (.lst (tx us))) os uss
inductive WM(CS CN:Addr)(vs:ao)(H:Hp)(Q:VK)(E:XK):Prop
 |mk (ls:Addr) (bs:ag) (xs:List TS) (_:vs=[.ref ls]) (_:H ls=aa (.lst (bs.map V.ref))) (_:wB CS H bs xs) (_:xs.length<=1000) (_:(∀x∈xs,x.ops.length<=1000)) (_:match gy (xs.map TS.told) [] []with
 |.error n=>jC E H CN (XD n)
 |.ok p=>∀lo os H',bG H H'->H' lo=aa (.lst (os.map V.ref))->EX H' os (p.map fun s=>s.uses)->Q (.ref lo) H')
theorem lA{α β:Type}{F:α->β->Prop}:∀{l:List α}{m:List β}{i:Nat}{a:α},fJ F l m->l[i]?=aa a->∃b,m[i]?=aa b/\F a b
 |_,_,_,_,.nil,h=>by simp at h
 |_,_,0,_,.cons r t,h=>by
  simp at h;subst h;exact⟨_,rfl,r⟩
 |_,_,i+1,_,.cons r t,h=>by
  have:=lA t (i:=i) (by simpa using h);simpa using this
theorem DS{f CS CN:Addr}{fd:gx}(F:iF K "find_operands" "find_operands" qw f fd)(S:FE K CS)(M:Ec P w K mg base "WrongName" CN Hl (Dv K (-3) "statement_number"))(ny:eQ K CN "statement_number")
 (hl:mg "len"=ab)(KO:mg "enumerate"=ab):dv P w K mg base (k4 P w) 4 f fd ["statements"] (WM CS CN):=by
 refine DT F uE fun fA A outer s H vs Q E hr h=>?_
 obtain⟨ls,bs,xs,rfl,lY,sa,sz,oz,q⟩:=h
 have hu:=Pe hr
 have nd:=uE.nd
 refine⟨_,bh (Q3 (i:=1) nd rfl (ZA rfl) BD)
  (bh (jy 2 nd (eA bq))
  (bh (eZ (Hs kZ) rfl (pK (by rfl) KO (aP (pv 0) bq)) (qy rfl (fh (oX 3 nd) (fh (oX 4 nd) mz)))
   (bh (W9 (i:=5) (own:=[("name",6)]) rfl nd rfl rfl (ZQ rfl rfl rfl rfl) (fP (cu (pv 4) rfl)) (rX (by rfl)) (fun s H C cl fp=>oX 6 nd) (fun s H C cl fp=>LJ (DG (DJ hu (pv 6) (pv 1)))) (fun s H C cl fp=>pv 6))
   (bh (d8 (Ku (DG (adl hu (cu (pv 4) rfl) (pv 1))) (DF (cR zW (dB cI (by rfl) hl cv (aP (pv 5) bq)) cE (da _)))).pt
    (bj (kF kZ rfl (abM M (hr.mono (by decide)) (by rfl) (aP (pv 3) bq)))) cS)
   (bh (dJ (md cb c7 cZ iN (pv 2) (aP (Kx (own:=[("name",6)]) rfl nd (fP (cu (pv 4) rfl)) (rX (by rfl)) (fun s H C cl fp=>oX 6 nd) (fun s H C cl fp=>F9) (fun s H C cl fp=>To hu (pv 1) (pv 6) (fun _ _=>rfl))) bq)))
   (bj (LK hu (pv 1) (cu (pv 4) rfl) (pv 3) rfl))))))
  (bj (b8 (pv 2))))),?_⟩
 intro nm hnm
 have s1:bG H (upd H nm (.dK [])):=bG.new hnm
 refine⟨by show 0<=bz;decide,fun op hop=>?_⟩
 have nop:nm≠op:=fun z=>by rw[z,ba]at hop;cases hop
 have opH:H op=ab:=s1.free hop
 have s2:bG H (upd (upd H nm (.dK [])) op (.lst [])):=s1.trans (bG.new hop)
 refine⟨_,rfl,ls,_,rfl,du.of (s2 _ _ lY),oo (xs:=bs.map V.ref) (fun i σ H'=>Ex5 fun(v3 v4 v5:Option V)(os:ag)(p:aT)=>σ=[aa (.ref ls),aa (.ref nm),aa (.ref op),v3,v4,v5,ab]/\bG H H'/\H' nm=aa (.dK (oj ((xs.take i).map TS.name)))/\
  H' op=aa (.lst (os.map V.ref))/\fJ (fun a us=>H' a=aa (.lst (tx us))/\a≠op) os (p.map fun s=>s.uses)/\p.length=i/\gy ((xs.drop i).map TS.told) ((xs.take i).map TS.name) p=gy (xs.map TS.told) [] []) ?_ ?_ ?_ ?_⟩
 ·refine⟨ab,ab,ab,[],[],rfl,s2,?_,ba,.nil,rfl,rfl⟩
  rw[bB nop,ba]
  rfl
 ·rintro i σ H' _ ⟨v3,v4,v5,os,p,rfl,sm,_⟩
  exact du.of (sm _ _ lY)
 ·rintro i x σ H' T hx ⟨v3,v4,v5,os,p,rfl,sm,hd,ho,pr,pl,rs⟩ hT
  obtain⟨b,hb,rfl⟩:∃b,bs[i]?=aa b/\x=.ref b:=by
   rw[bK]at hx;cases hb:bs[i]? with
   |none=>rw[hb]at hx;cases hx
   |some b=>rw[hb]at hx;exact⟨b,rfl,(bR hx).symm⟩
  obtain⟨x,hxi,dx,lo,hbH,ajN⟩:=lA sa hb
  have sT:bG H' (upd H' T (.tup [.int (i:Nat),.ref b])):=bG.new hT
  have s3:=sm.trans sT
  refine⟨T,_,rfl,wC.of ba,rfl,_,_,rfl,_,_,rfl,rfl,?_⟩
  generalize hH1:upd H' T (.tup [.int (i:Nat),.ref b])=H1 at s3 sT
  have hb1:=s3 _ _ hbH
  have aaA:=s3 _ _ ajN
  have hd1:=sT _ _ hd
  have ho1:=sT _ _ ho
  generalize hns:(xs.take i).map TS.name=ns at hd hd1 rs
  have nsl:ns.length=i:=by
   rw[<-hns,aV,dW];have:=(aZ.mp hxi).1;omega
  have xm:x∈xs:=br hxi
  have ox:=oz x xm
  refine⟨_,rfl,b,CS,dx,_,_,rfl,hb1,S.cl,S.n5,rfl,lo,rfl,⟨_,du.of aaA⟩,fun D hD=>?_⟩
  have nlD:lo≠D:=bO aaA hD
  have nnD:nm≠D:=bO hd1 hD
  have strAt:∀{j:Nat}{v:V},(fS x.ops)[j]?=aa v->∃u,x.ops[j]?=aa u/\v=.str (st u):=fun{j v} hj=>by
   unfold fS at hj;rw[bK]at hj;cases hb:x.ops[j]? with
   |none=>rw[hb]at hj;cases hj
   |some u=>rw[hb]at hj;exact⟨u,rfl,(bR hj).symm⟩
  have Tt:(fS x.ops).length=x.ops.length:=aV _
  have un:gy ((xs.drop i).map TS.told) ns p=match nq ns x.told with|none=>.error p.length|some s=>gy ((xs.drop (i+1)).map TS.told) (ns++[x.name]) (p++[s]):=by
   obtain⟨zu,e⟩:=aZ.mp hxi;rw[dZ zu,e,dC];rfl
  rw[un]at rs
  refine BV (xs:=fS x.ops) (fun j G=>G=upd H1 D (.lst (fS ((x.ops.take j).filter fun u=>!ns.contains u)))) rfl ?_ ?_ ?_
  ·rintro j G _ rfl
   refine du.of ?_
   rw[bB nlD]
   exact aaA
  ·rintro j v G hj rfl
   obtain⟨u,hju,rfl⟩:=strAt hj
   have tk:x.ops.take (j+1)=x.ops.take j++[u]:=take_snoc hju
   refine⟨rfl,_,rfl,_,rfl,nm,_,rfl,zB.k (k:=iL (st u)) (by rw[bB nnD];exact hd1),_,rfl,?_⟩
   rw[KC,tk,kK]
   cases hc:ns.contains u
   ·refine dI ⟨_,rfl,_,ba,?_,?_⟩
    ·unfold fS
     rw[aV,bX]
     have h1:=qh (fun u=>!ns.contains u) (x.ops.take j)
     rw[dW]at h1
     omega
    rw[jg]
    congr 2
    unfold fS
    rw[b9]
    congr 1
    rw[fD (by rw[hc];rfl)]
    rfl
   refine cD ?_
   rw[gM (by rw[hc];decide),k5,ck]
  rintro G rfl
  rw[Tt,dy]
  generalize hun:(x.ops.filter fun u=>!ns.contains u)=unk
  have sD:bG H1 (upd H1 D (.lst (fS unk))):=bG.new hD
  have s4:=s3.trans sD
  generalize Yf:upd H1 D (.lst (fS unk))=H2 at sD s4
  have hD2:H2 D=aa (.lst (fS unk)):=by rw[<-Yf,ba]
  have Ih:=sD _ _ hb1
  have hd2:=sD _ _ hd1
  have ho2:=sD _ _ ho1
  have ad4:=sD _ _ aaA
  have bad:(ns.contains x.name=ae\/x.ops.all (fun u=>ns.contains u)=af)->jC E H2 CN (XD i):=fun hh=>by
   have e:nq ns x.told=ab:=c8 hh;rw[e]at rs;rw[<-rs,pl]at q;exact fun a dx H' sx=>q a dx H' (s4.trans sx)
  refine⟨_,rfl,b,CS,dx,_,_,rfl,Ih,S.cl,S.n2,rfl,_,rfl,nm,_,rfl,zB.k (k:=iL (st x.name)) hd2,_,rfl,?_⟩
  rw[KC]
  cases hn:ns.contains x.name
  ·refine cD ⟨_,rfl,D,_,rfl,.inl (du.of hD2),_,_,rfl,rfl,_,rfl,?_⟩
   have lu:((fS unk).length:Int)=(unk.length:Int):=by unfold fS;rw[aV]
   rw[lu]
   by_cases hz:unk=[]
   ·have Ml:x.ops.all (fun u=>ns.contains u)=ae:=by
     rw[cV];intro u hu';refine eO fun z=>?_;have:u∈(x.ops.filter fun u=>!ns.contains u):=cH.mpr ⟨hu',by simpa using z⟩;rw[hun,hz]at this;cases this
    rw[gX (show¬(0:Int)<(unk.length:Int)by rw[hz];decide)]
    obtain⟨s0,e,us0⟩:∃s0:dQ,nq ns x.told=aa s0/\s0.uses=x.ops.map fun u=>ns.findIdx fun n=>n==u:=by
     refine⟨_,cP (?_:¬(ns.contains x.name=ae\/x.ops.all (fun u=>ns.contains u)=af)),rfl⟩;rw[hn,Ml];decide
    rw[e]at rs
    refine cD ⟨_,rfl,.inl ⟨rfl,_,du.of ho2⟩,_,rfl,b,CS,dx,_,_,rfl,Ih,S.cl,S.n5,rfl,lo,rfl,⟨_,du.of ad4⟩,fun D2 aaE=>?_⟩
    have nl2:lo≠D2:=bO ad4 aaE
    have nn2:nm≠D2:=bO hd2 aaE
    have UY:op≠D2:=bO ho2 aaE
    refine BV (xs:=fS x.ops) (fun j G=>G=upd H2 D2 (.lst (tx ((x.ops.take j).map fun u=>ns.findIdx fun n=>n==u)))) rfl ?_ ?_ ?_
    ·rintro j G _ rfl
     refine du.of ?_
     rw[bB nl2]
     exact ad4
    ·rintro j v G hj rfl
     obtain⟨u,hju,rfl⟩:=strAt hj
     have tk:x.ops.take (j+1)=x.ops.take j++[u]:=take_snoc hju
     have hcu:ns.contains u=ae:=cV.mp Ml u (br hju)
     have g1:zB (upd H2 D2 (.lst (tx ((x.ops.take j).map fun u=>ns.findIdx fun n=>n==u)))) nm (kV (iL (st u))) (aa (.int ((ns.findIdx (fun n=>n==u):Nat):Int))):=by
      have g0:=zB.k (k:=iL (st u)) (show(upd H2 D2 (.lst (tx ((x.ops.take j).map fun u=>ns.findIdx fun n=>n==u)))) nm=aa (.dK (oj ns))by rw[bB nn2];exact hd2);rw[HL,c8 hcu]at g0;exact g0
     refine⟨rfl,?_⟩
     unfold Uz
     refine dI ⟨_,rfl,_,rfl,nm,_,rfl,g1,_,ba,?_,?_⟩
     ·unfold tx
      rw[aV,aV,dW,bX]
      omega
     rw[jg,tk]
     congr 2
     unfold tx
     rw[b9,b9]
     rfl
    rintro G rfl
    rw[Tt,dy]
    have s5:bG H2 (upd H2 D2 (.lst (tx (x.ops.map fun u=>ns.findIdx fun n=>n==u)))):=bG.new aaE
    generalize Zn:upd H2 D2 (.lst (tx (x.ops.map fun u=>ns.findIdx fun n=>n==u)))=H3 at s5
    have hD3:H3 D2=aa (.lst (tx (x.ops.map fun u=>ns.findIdx fun n=>n==u))):=by rw[<-Zn,ba]
    have lo':os.length=i:=by
     have:=dM pr;rw[aV,pl]at this;exact this
    have hi1:i<xs.length:=(aZ.mp hxi).1
    refine⟨op,_,_,rfl,rfl,s5 _ _ ho2,by rw[aV,bX];omega,?_⟩
    have hb4:(upd H3 op (.lst (os.map V.ref++[.ref D2]))) b=aa (.ins CS dx (UB (.str (st x.word)) (.str (st x.name)) (.int (x.len:Int)) (.str (st x.way)) (.ref lo))):=by
     rw[bB (lB (s5 _ _ Ih) (s5 _ _ ho2) (by intro z;cases z))];exact s5 _ _ Ih
    have hd4:(upd H3 op (.lst (os.map V.ref++[.ref D2]))) nm=aa (.dK (oj ns)):=by
     rw[bB nop];exact s5 _ _ hd2
    refine⟨_,rfl,_,rfl,_,rfl,b,CS,dx,_,_,rfl,hb4,S.cl,S.n2,rfl,nm,_,rfl,Si.k (k:=iL (st x.name)) hd4 (by rw[Rq,nsl,bX];omega),?_⟩
    have e2:(xs.take (i+1)).map TS.name=ns++[x.name]:=by
     rw[take_snoc hxi,b9,hns];rfl
    refine⟨_,_,_,os++[D2],p++[s0],rfl,?_,?_,?_,?_,?_,?_⟩
    ·exact bG.put hnm (bG.put opH (s4.trans s5))
    ·rw[ba]
     have e3:=Rp ns x.name hn
     rw[nsl]at e3
     rw[e2,<-e3]
    ·rw[bB (de nop),ba,b9]
     rfl
    ·rw[b9]
     have keep:∀{a:Addr}{us:ao},H3 a=aa (.lst us)->a≠op->(upd (upd H3 op (.lst (os.map V.ref++[.ref D2]))) nm (.dK (putK (oj ns) (iL (st x.name)) (V.int (i:Int))))) a=aa (.lst us):=fun{a us} h1 h2=>by
      rw[bB (lB h1 (s5 _ _ hd2) (by intro z;cases z)),bB h2];exact h1
     refine mZ (Paired.sC pr fun a us z=>⟨keep (s5 _ _ (sD _ _ (sT _ _ z.1))) z.2,z.2⟩) (.cons ⟨?_,de UY⟩ .nil)
     show _=aa (HO.lst (tx s0.uses))
     rw[us0]
     exact keep hD3 (de UY)
    ·rw[bQ,pl]
     rfl
    rw[e2]
    exact rs
   rw[qi (show(0:Int)<(unk.length:Int)by
    have:=List.length_pos_iff.mpr hz;omega)]
   refine dI ⟨_,rfl,DE M ny (bad (.inr ?_))⟩
   obtain⟨u,hu'⟩:=List.exists_mem_of_ne_nil _ hz
   rw[<-hun]at hu'
   obtain⟨h1,h2⟩:=cH.mp hu'
   refine Bool.eq_false_iff.mpr fun z=>?_
   have:=cV.mp z u h1
   rw[this]at h2
   cases h2
  exact dI (dI ⟨_,rfl,DE M ny (bad (.inl hn))⟩)
 rintro σ H' ⟨v3,v4,v5,os,p,rfl,sm,hd,ho,pr,pl,rs⟩
 refine⟨_,rfl,?_⟩
 have le:bs.length=xs.length:=dM sa
 rw[aV,le,Gv]at rs
 have rs2:lR p=gy (xs.map TS.told) [] []:=rs
 rw[<-rs2]at q
 exact q op os H' sm ho (Paired.sC pr fun _ _ z=>z.1)
structure WfT(x:TS):Prop where
 len:x.len<=64
 nm:x.name.length<=16
 fm:(x.word=tI/\x.way=[]/\x.ops=[])\/((x.word=sy\/x.word=o6)/\(x.way=Bm\/x.way=oS)/\1<=x.ops.length/\x.ops.length<=4)
theorem WfT.j6{x:TS}(h:WfT x):x.ops.length<=4:=by
 rcases h.fm with⟨_,_,e⟩|⟨_,_,_,e⟩
 ·rw[e];decide
 exact e
inductive u6(xs:List TS):Prop
 |mk (m:_) (_:m<=xs.length) (_:∀i x,xs[i]?=aa x->(x.word=tI↔i<m))
theorem aaf:∀(k i:Nat)(ns:List (List Nat))(j:Nat),DM ts k i=.ok (ns,j)->ns.length<=k:=by
 intro k;induction k with
 |zero=>
  intro i ns j h;cases h;exact bu _
 |succ k ih=>
  intro i ns j h;unfold DM at h;split at h
  ·cases h;exact cB _
  split at h
  ·cases ho:DM ts k (i+1)with
   |error p=>rw[ho]at h;cases h
   |ok x=>
    obtain⟨ns',j'⟩:=x;rw[ho]at h;cases h;have:=ih (i+1) ns' j' ho;show ns'.length+1<=k+1;omega
  cases h
theorem N5(h:jG "word" (fS fw) τ=ae):τ.txt∈fw:=by
 cases τ with
 |word w=>
  rw[uu]at h;exact dN.mp h
 |num n=>cases h
 |sign c=>cases h
 |bad=>cases h
 |fin=>cases h
theorem ael{w:List Nat}(h:w∈qT acc):w=tI\/w=sy\/w=o6:=by
 unfold qT at h;split at h
 ·cases h
 split at h
 ·split at h
  ·simpa using h
  right;simpa using h
 simpa using h
theorem adC(h:pH τ=ae):τ.num?<=64:=by
 cases τ with
 |num n=>exact of_decide_eq_true h
 |word w=>cases h
 |sign c=>cases h
 |bad=>cases h
 |fin=>cases h
theorem aap(h:iC τ=ae):τ.txt.length<=16:=by
 cases τ with
 |word w=>
  have h:(!wu (.str (st w)) x5&&decide (w.length<=16))=ae:=h;rw[cK]at h;exact of_decide_eq_true h.2
 |num n=>cases h
 |sign c=>cases h
 |bad=>cases h
 |fin=>cases h
theorem acV{i j:Nat}{x:TS}(h:stI ts (qT acc) i=.ok (x,j)):WfT x/\x.word∈qT acc:=by
 unfold stI at h;split at h
 ·rename_i g0;have m0:=N5 g0;split at h
  ·rename_i g1;have n1:=aap g1;split at h
   ·rename_i g2;have l2:=adC g2;split at h
    ·rename_i hw;split at h
     ·cases h;exact⟨⟨l2,n1,.inl ⟨hw,rfl,rfl⟩⟩,m0⟩
     cases h
    rename_i hw;split at h
    ·split at h
     ·rename_i g4;have m4:=N5 g4;split at h
      ·cases h
      rename_i ns j' ho;split at h
      ·cases h;refine⟨⟨l2,n1,.inr ⟨?_,?_,?_⟩⟩,m0⟩
       ·rcases ael m0 with e|e|e
        ·exact absurd e hw
        ·exact .inl e
        exact .inr e
       ·simpa using m4
       show 1<=ns.length/\ns.length<=4;unfold OQ at ho;split at ho
       ·cases h1:DM ts 3 (i+5+1)with
        |error p=>rw[h1]at ho;cases ho
        |ok y=>
         obtain⟨ns',j''⟩:=y;rw[h1]at ho;cases ho;have:=aaf _ _ _ _ h1;show 1<=ns'.length+1/\ns'.length+1<=4;omega
       cases ho
      cases h
     cases h
    cases h
   cases h
  cases h
 cases h
theorem JE{x:TS}(h:u6 acc)(hx:x.word∈qT acc):u6 (acc++[x]):=by
 obtain⟨m,hm,f⟩:=h
 have at_:∀i y,(acc++[x])[i]?=aa y->(i<acc.length/\acc[i]?=aa y)\/(i=acc.length/\y=x):=fun i y hy=>by
  rcases lH i acc.length with q|q|q
  ·rw[eV q]at hy;exact .inl ⟨q,hy⟩
  ·subst q;rw[hJ (bu _),FQ]at hy;exact .inr ⟨rfl,(bR hy).symm⟩
  rw[hJ (by omega),dY (by show 1<=_;omega)]at hy;cases hy
 by_cases hw:x.word=tI
 ·have hm2:m=acc.length:=by
   rcases jf m acc.length with q|q
   ·exfalso;have X8:acc≠[]:=fun z=>by rw[z]at q;cases q
    have hl:acc[acc.length-1]?=aa (acc.getLast X8):=by
     rw[List.getLast_eq_getElem,bE]
    have n1:¬(acc.getLast X8).word=tI:=fun z=>by
     have:=(f _ _ hl).mp z;omega
    unfold qT at hx;split at hx
    ·cases hx
    rw[List.getLast?_eq_getLast X8]at hx;simp only[cP n1]at hx;rw[hw]at hx;revert hx;decide
   omega
  subst hm2;refine⟨acc.length+1,by rw[bQ];exact bu _,fun i y hy=>?_⟩;rcases at_ i y hy with⟨q,z⟩|⟨q,z⟩
  ·have:=f i y z;rw[this];omega
  subst z;exact⟨fun _=>by omega,fun _=>hw⟩
 refine⟨m,by rw[bQ];omega,fun i y hy=>?_⟩;rcases at_ i y hy with⟨q,z⟩|⟨q,z⟩
 ·exact f i y z
 subst z;exact⟨fun z=>absurd z hw,fun z=>by omega⟩
theorem aa1:∀(n i:Nat)(acc xs:List TS),(∀x∈acc,WfT x)->u6 acc->acc.length<=24->Ej ts n i acc=.ok xs->(∀x∈xs,WfT x)/\u6 xs/\xs.length<=24:=by
 intro n;induction n with
 |zero=>
  intro i acc xs h1 h2 h3 h;cases h;exact⟨h1,h2,h3⟩
 |succ n ih=>
  intro i acc xs h1 h2 h3 h;have un:Ej ts (n+1) i acc=if(cG ts i).1.nB=ae then .ok acc else match stI ts (qT acc) i with|.error p=>.error p|.ok (x,j)=>Ej ts n j (acc++[x]):=rfl
  rw[un]at h;split at h
  ·cases h;exact⟨h1,h2,h3⟩
  cases hs:stI ts (qT acc) i with
  |error p=>rw[hs]at h;cases h
  |ok y=>
   obtain⟨x,j⟩:=y;rw[hs]at h;obtain⟨wf,hx⟩:=acV hs;refine ih j (acc++[x]) xs (fun y hy=>?_) (JE h2 hx) ?_ h
   ·rcases d5.mp hy with q|q
    ·exact h1 y q
    rw[bT.mp q];exact wf
   rw[bQ];show acc.length+1<=24
   have:acc.length≠24:=fun z=>by
    unfold qT at hx;rw[c8 z]at hx;cases hx
   omega
theorem aa0(h:allI ts=.ok xs):(∀x∈xs,WfT x)/\u6 xs/\xs.length<=24:=
 aa1 _ _ [] xs (fun x hx=>by cases hx) ⟨0,bu _,fun i x h=>by simp at h⟩ (cB _) h
theorem OF:∀(l:List Vaarrl.Told)(names:List Vaarrl.Text)(q p:aT),gy l names q=.ok p->∃r,p=q++r/\r.length=l.length/\∀i t,l[i]?=aa t->∃s,r[i]?=aa s/\nq (names++(l.take i).map fun t=>t.name) t=aa s:=by
 intro l;induction l with
 |nil=>
  intro names q p h;cases h;exact⟨[],(ck _).symm,rfl,fun i t h=>by simp at h⟩
 |cons t l ih=>
  intro names q p h;unfold gy at h;cases hn:nq names t with
  |none=>rw[hn]at h;cases h
  |some s=>
   rw[hn]at h;obtain⟨r,e,el,f⟩:=ih _ _ _ h;refine⟨s::r,by rw[e,c9];rfl,by show r.length+1=l.length+1;rw[el],fun i t' ht=>?_⟩;cases i with
   |zero=>
    simp at ht;subst ht;exact⟨s,rfl,by rw[List.take_zero,E4,ck];exact hn⟩
   |succ i=>
    obtain⟨s',e1,e2⟩:=f i t' (by simpa using ht);refine⟨s',by simpa using e1,?_⟩;rw[List.take_succ_cons,dC];rw[c9]at e2;exact e2
def l8(p:aT)(s:dQ):TS:=⟨if s.input=ae then tI else if s.out=ae then o6 else sy,s.name,s.length,if s.input=ae then[]else if s.turn=ae then oS else Bm,s.uses.map (kT p)⟩
structure uh(p:aT):Prop where
 j6:p.length<=24
 ins:∃m,m<=p.length/\∀(i:Nat)(s:dQ),p[i]?=aa s->(s.input=ae↔i<m)
 len:∀s∈p,s.length<=64
 nam:∀s∈p,s.name.length<=16
 uses:∀(i:Nat)(s:dQ),p[i]?=aa s->∀u∈s.uses,u<i
 inp:∀s∈p,s.input=ae->s.out=af/\s.turn=af/\s.uses=[]
 ops:∀s∈p,s.uses.length<=4
 op1:∀s∈p,s.input=af->1<=s.uses.length
theorem OE{xs:List TS}{p:aT}(wf:∀x∈xs,WfT x)(fi:u6 xs)(j6:xs.length<=24)(h:gy (xs.map TS.told) [] []=.ok p):p.map (l8 p)=xs/\uh p:=by
 obtain⟨r,e,el,f⟩:=OF _ _ _ _ h;rw[nM]at e;subst e;rw[aV]at el
 have g:∀i x,xs[i]?=aa x->∃s,p[i]?=aa s/\(∀u∈x.ops,u∈(xs.take i).map TS.name)/\s={name:=x.name,length:=x.len,input:=x.word==tI,out:=x.word==o6,turn:=x.way==oS,uses:=x.ops.map fun u=>((xs.take i).map TS.name).findIdx fun n=>n==u}:=fun i x hx=>by
  obtain⟨s,e1,e2⟩:=f i x.told (by rw[bK,hx];rfl);refine⟨s,e1,?_⟩
  have e3:(([]:List Vaarrl.Text)++((xs.map TS.told).take i).map fun t=>t.name)=(xs.take i).map TS.name:=by
   rw[nM,<-NV,dA];rfl
  rw[e3]at e2;unfold nq at e2;split at e2
  ·cases e2
  rename_i hh;refine⟨fun u hu=>?_,(bR e2).symm⟩
  have Ml:x.told.uses.all (fun u=>((xs.take i).map TS.name).contains u)=ae:=by
   cases z:x.told.uses.all (fun u=>((xs.take i).map TS.name).contains u)with
   |true=>rfl
   |false=>exact absurd (.inr z) hh
  exact dN.mp (cV.mp Ml u hu)
 have back:∀i s,p[i]?=aa s->∃x,xs[i]?=aa x:=fun i s hs=>by
  have hi:=(aZ.mp hs).1;exact⟨xs[i]'(by omega),bE _⟩
 have af8:∀k x,xs[k]?=aa x->kT p k=x.name:=fun k x hx=>by
  obtain⟨s,e1,_,e2⟩:=g k x hx;unfold kT;rw[e1,e2];rfl
 have idx:∀i u,u∈(xs.take i).map TS.name->(((xs.take i).map TS.name).findIdx fun n=>n==u)<i/\kT p (((xs.take i).map TS.name).findIdx fun n=>n==u)=u:=fun i u hu=>by
  have h1:(((xs.take i).map TS.name).findIdx fun n=>n==u)<((xs.take i).map TS.name).length:=List.findIdx_lt_length_of_exists ⟨u,hu,by simp⟩;have h0:=List.findIdx_getElem (w:=h1);have h2:(((xs.take i).map TS.name)[((xs.take i).map TS.name).findIdx fun n=>n==u]'h1)=u:=by simpa using h0
  clear h0;generalize((xs.take i).map TS.name).findIdx (fun n=>n==u)=k at h1 h2⊢;rw[aV,dW]at h1;refine⟨by omega,?_⟩;have hk:xs[k]?=aa (xs[k]'(by omega)):=bE _;rw[af8 k _ hk];rw[<-h2];simp
 constructor
 ·refine va fun i=>?_;rw[bK];cases hx:xs[i]? with
  |none=>
   have:=iq.mp hx;rw[dY (by omega)];rfl
  |some x=>
   obtain⟨s,e1,e2,e3⟩:=g i x hx;rw[e1];show aa (l8 p s)=aa x;congr 1
   have us:(x.ops.map (fun u=>((xs.take i).map TS.name).findIdx fun n=>n==u)).map (kT p)=x.ops:=by
    rw[dA]
    have:x.ops.map (kT p∘fun u=>((xs.take i).map TS.name).findIdx fun n=>n==u)=x.ops.map id:=by
     refine dj fun u hu=>?_;exact(idx i u (e2 u hu)).2
    rw[this,qM]
   have wx:=wf x (br hx);unfold l8;rw[e3];obtain⟨xw,xn,xl,xy,xo⟩:=x;simp only at us;simp only[us];rcases wx.fm with⟨a1,a2,a3⟩|⟨a1,a2,a3⟩
   ·simp only at a1 a2 a3;subst a1 a2 a3;rfl
   simp only at a1 a2 a3;rcases a1 with rfl|rfl<;>rcases a2 with rfl|rfl<;>rfl
 refine⟨by omega,?_,?_,?_,?_,?_,?_,?_⟩
 ·obtain⟨m,hm,fm⟩:=fi;refine⟨m,by omega,fun i s hs=>?_⟩;obtain⟨x,hx⟩:=back i s hs;obtain⟨s',e1,_,e3⟩:=g i x hx;rw[hs]at e1;cases e1;rw[e3,<-fm i x hx];exact beq_iff_eq
 ·intro s hs;obtain⟨i,hi⟩:=cw hs;obtain⟨x,hx⟩:=back i s hi;obtain⟨s',e1,_,e3⟩:=g i x hx;rw[hi]at e1;cases e1;rw[e3];exact(wf x (br hx)).len
 ·intro s hs;obtain⟨i,hi⟩:=cw hs;obtain⟨x,hx⟩:=back i s hi;obtain⟨s',e1,_,e3⟩:=g i x hx;rw[hi]at e1;cases e1;rw[e3];exact(wf x (br hx)).nm
 ·intro i s hs u hu;obtain⟨x,hx⟩:=back i s hs;obtain⟨s',e1,e2,e3⟩:=g i x hx;rw[hs]at e1;cases e1;rw[e3]at hu;obtain⟨v,hv,rfl⟩:=dh.mp hu;exact(idx i v (e2 v hv)).1
 ·intro s hs zX;obtain⟨i,hi⟩:=cw hs;obtain⟨x,hx⟩:=back i s hi;obtain⟨s',e1,_,e3⟩:=g i x hx;rw[hi]at e1;cases e1;rw[e3]at zX⊢;have hw:x.word=tI:=beq_iff_eq.mp zX;rcases(wf x (br hx)).fm with⟨a1,a2,a3⟩|⟨a1,a2,a3⟩
  ·simp only[a1,a2,a3];exact⟨rfl,rfl,rfl⟩
  rw[hw]at a1;rcases a1 with a1|a1<;>exact absurd a1 (by decide)
 ·intro s hs;obtain⟨i,hi⟩:=cw hs;obtain⟨x,hx⟩:=back i s hi;obtain⟨s',e1,_,e3⟩:=g i x hx;rw[hi]at e1;cases e1;rw[e3];show(x.ops.map _).length<=4;rw[aV];exact(wf x (br hx)).j6
 intro s hs zX;obtain⟨i,hi⟩:=cw hs;obtain⟨x,hx⟩:=back i s hi;obtain⟨s',e1,_,e3⟩:=g i x hx;rw[hi]at e1;cases e1;rw[e3]at zX⊢;show 1<=(x.ops.map _).length;rw[aV];rcases(wf x (br hx)).fm with⟨a1,a2,a3⟩|⟨a1,a2,a3,_⟩
 ·have zX:(x.word==tI)=af:=zX;rw[a1]at zX;cases zX
 exact a3
def pgF(a b:V):aq:=[("statements",a),("operands",b)]
structure FF(K:aX)(C:Addr):Prop where
 cl:Gj K C
 n1:eQ K C "statements"
 n2:eQ K C "operands"
inductive jH(CS CP:Addr)(H:Hp)(a:Addr)(p:aT):Prop
 |mk (dx:_) (ls:_) (lo:_) (bs:_) (os:_) (_:H a=aa (.ins CP dx (pgF (.ref ls) (.ref lo)))) (_:H ls=aa (.lst (bs.map V.ref))) (_:wB CS H bs (p.map (l8 p))) (_:H lo=aa (.lst (os.map V.ref))) (_:EX H os (p.map fun s=>s.uses))
theorem EX.same{H H':Hp}{os:ag}(h:EX H os uss)(s:bG H H'):EX H' os uss:=Paired.sC h fun _ _ z=>s _ _ z
theorem jH.same{H H':Hp}(h:jH CS CP H a p)(s:bG H H'):jH CS CP H' a p:=
 let⟨dx,ls,lo,bs,os,h1,h2,h3,h4,h5⟩:=h
 ⟨dx,ls,lo,bs,os,s _ _ h1,s _ _ h2,wB.same h3 s,s _ _ h4,EX.same h5 s⟩
inductive GW(C:Addr)(vs:ao)(H:Hp)(Q:VK)(z':XK):Prop
 |mk (a dx:Addr) (v1 v2:V) (_:vs=[.ref a,v1,v2]) (_:H a=aa (.ins C dx [])) (_:Q .j5 (upd H a (.ins C dx (pgF v1 v2))))
theorem aga{H:Hp}{Q:VK}(h:∀a dx H',bG H H'->H' a=aa (.ins C dx (pgF v1 v2))->Q (.ref a) H'):
 ∀x dx,H x=ab->H dx=ab->dx≠x->GW C (.ref x::([v1,v2]++[])) (upd (upd H dx (.own x)) x (.ins C dx [])) (fun v H2=>v=.j5/\Q (.ref x) H2) E0:=fun x dx hx hd ne=>
 ⟨x,dx,v1,v2,rfl,ba,rfl,h x dx _ (fun b o z=>by rw[jg,bB (bO z hx),bB (bO z hd)];exact z) (by rw[ba])⟩
def yn(E:XK)(H:Hp)(CL CW CN:Addr)(e:Nat×Nat):Prop:=if e.1=1 then jC E H CL [("number",.int (-1))]else if e.1=2 then jC E H CW (B3 e.2)else jC E H CN (XD e.2)
inductive QV(K:aX)(CS CP CL CW CN:Addr)(vs:ao)(H:Hp)(Q:VK)(E:XK):Prop
 |mk (a:Addr) (t:List Nat) (_:vs=[.ref a]) (_:du K H a (tx t)) (_:t.length<=100000) (_:match eE t with
 |.error e=>yn E H CL CW CN e
 |.ok p=>uh p->∀b H',bG H H'->jH CS CP H' b p->Q (.ref b) H')
theorem jC.on{E:XK}{H H1:Hp}{fs:aq}(h:jC E H C fs)(s:bG H H1):jC E H1 C fs:=fun a dx H' sx=>h a dx H' (s.trans sx)
theorem Fm{f:Addr}(F:iF K "__init__" "Program.__init__" rG f fd)(T:FF K C):dv P w K mg base eJ 1 f fd Tf (GW C):=by
 refine F.ok Fc fun fA A outer s H vs Q E hr h=>?_;obtain⟨a,dx,v1,v2,rfl,ha,q⟩:=h;refine⟨_,bh (lr (pv 0) (pv 1) rfl) (bj (lr (pv 0) (pv 2) rfl)),?_⟩;refine⟨_,rfl,_,rfl,a,C,dx,_,rfl,ha,T.cl,T.n1,(by show 0<1000;decide),?_⟩;refine⟨_,rfl,_,rfl,a,C,dx,_,rfl,ba,T.cl,T.n2,(by show 1<1000;decide),?_⟩;rw[jg];exact q
theorem Fe{f:Addr}(F:iF K "read_program" "read_program" rB f fd)(hl:mg "len"=ab)(hL:∃t,mg "TEXT_LIMIT"=aa (.int 4096 t))(ML:Ec P w K mg base "TooLong" CL dR (iK K (-1)))
 (Cs:Fn P w K mg base (k4 P w) 8 "read_statements" ["text"] (S1 K CW CS))(Cf:Fn P w K mg base (k4 P w) 4 "find_operands" ["statements"] (WM CS CN))(MP:Mc P w K mg base 1 "Program" CP Tf (GW CP)):
 dv P w K mg base (k4 P w) 9 f fd ["text"] (QV K CS CP CL CW CN):=by
 refine DT F wj fun fA A outer s H vs Q E hr h=>?_
 obtain⟨a,t,rfl,hT,hz,q⟩:=h
 refine⟨_,bh (d8 (cR zW (dB cI (by rfl) hl cv (aP (pv 0) bq)) (iD (by rfl) hL) (da _)) (bj (kF kZ rfl (uc ML (hr.mono (by decide)) (by rfl)))) cS)
  (bh (jy 1 wj.nd (rM Cs kZ hr (by rfl) (aP (pv 0) bq)))
  (bj (b8 (EL MP (hr.mono (by decide)) (by rfl) (aP (pv 1) (aP (rM Cf kZ (hr.mono (by decide)) (by rfl) (aP (pv 1) bq)) bq)))))),?_⟩
 refine⟨_,rfl,a,_,rfl,.inl hT,_,_,rfl,rfl,_,rfl,?_⟩
 have lt:((tx t).length:Int)=(t.length:Int):=by unfold tx;rw[aV]
 rw[lt]
 unfold eE at q
 by_cases h4:4096<t.length
 ·rw[qi (show(4096:Int)<(t.length:Int)by omega)]
  rw[c8 h4]at q
  exact dI (jZ ML q)
 rw[gX (show¬(4096:Int)<(t.length:Int)by omega)]
 rw[cP h4,aeG]at q
 refine cD ⟨_,rfl,a,t,rfl,hT,hz,?_⟩
 cases ha:allI (toks t (skip t 0))with
 |error e=>
  rw[ha]at q
  exact q
 |ok xs=>
  rw[ha]at q
  obtain⟨wf,fi,j6⟩:=aa0 ha
  intro ls bs H1 s1 lY sa
  refine⟨_,rfl,_,rfl,ls,bs,xs,rfl,lY,sa,by omega,fun x hx=>cQ (wf x hx).j6 (by decide),?_⟩
  have q:match(match gy (xs.map TS.told) [] []with|.error n=>Di (3,n)|.ok p=>lR p:Except (Nat×Nat) aT)with
   |.error e=>yn E H CL CW CN e
   |.ok p=>uh p->∀b H',bG H H'->jH CS CP H' b p->Q (.ref b) H':=q
  cases hr:gy (xs.map TS.told) [] []with
  |error n=>
   rw[hr]at q
   have q:=q
   exact q.on s1
  |ok p=>
   rw[hr]at q
   obtain⟨ex,pw⟩:=OE wf fi j6 hr
   intro lo os H2 s2 D4 oa
   refine aga fun b dx H3 s3 hb=>q pw b H3 ((s1.trans s2).trans s3) ⟨dx,ls,lo,bs,os,hb,s3 _ _ (s2 _ _ lY),?_,s3 _ _ D4,oa.same s3⟩
   rw[ex]
   exact wB.same sa (s2.trans s3)
theorem aav{K:aX}{xs:ao}{g:TG}{tt:TT}{te:TE}{σ:L2.St}{H1:Hp}{Qd:Hp->Prop}(Pv:Nat->Hp->Prop)(h0:Pv 0 (upd H1 D (.lst [])))(hl:∀i H,i<=xs.length->Pv i H->du K H a xs)
 (hs:∀i x H T,xs[i]?=aa x->Pv i H->H T=ab->g (.ref T) (wipe σ vs) (upd H T (.tup [.int (i:Nat),x])) fun σ2 H2=>wipe σ2 vs=wipe σ vs/\tt σ2 H2 fun b H3=>
  if b=ae then te σ2 H3 fun y H4=>∃acc,H4 D=aa (.lst acc)/\acc.length<bz/\Pv (i+1) (upd H4 D (.lst (acc++[y])))else Pv (i+1) H3)(hd:∀H,Pv xs.length H->Qd H):
 ∃W:Nat->Nat->Hp->Prop,(∃m,W 0 m (upd H1 D (.lst [])))/\∀i m H,W i m H->
  ((Ite K a).stop i H/\Qd H)\/((Ite K a).go i H/\∃Nx:Hp->Prop,(∀H',Nx H'->∃m',m'<m/\W (i+1) m' H')/\∀x H',(Ite K a).We i H x H'->g x (wipe σ vs) H' fun σ2 H2=>wipe σ2 vs=wipe σ vs/\tt σ2 H2 fun b H3=>
   if b=ae then te σ2 H3 fun y H4=>∃acc,H4 D=aa (.lst acc)/\acc.length<bz/\Nx (upd H4 D (.lst (acc++[y])))else Nx H3):=by
 refine⟨fun i m H=>m=xs.length-i/\i<=xs.length/\Pv i H,⟨xs.length,by simp,cB _,h0⟩,?_⟩
 rintro i m H ⟨rfl,hi,p⟩
 have q:=hl i H hi p
 by_cases zu:i<xs.length
 ·refine .inr ⟨⟨xs,xs[i],q,by simp[zu]⟩,Pv (i+1),fun H' p'=>⟨xs.length-(i+1),by omega,rfl,zu,p'⟩,fun x H' y=>?_⟩
  obtain⟨T,x,e,hT,e2,y⟩:=y
  subst e e2
  exact hs i x _ T (y xs q) p hT
 have e:i=xs.length:=by omega
 subst e
 exact .inl ⟨⟨xs,q,bu _⟩,hd H p⟩
theorem uH{α β:Type}{F:α->β->Prop}:∀{l:List α}{m:List β}{i:Nat}{b:β},fJ F l m->m[i]?=aa b->∃a,l[i]?=aa a/\F a b
 |_,_,_,_,.nil,h=>by simp at h
 |_,_,0,_,.cons r t,h=>by
  simp at h;subst h;exact⟨_,rfl,r⟩
 |_,_,i+1,_,.cons r t,h=>by
  have:=uH t (i:=i) (by simpa using h);simpa using this
theorem jN{b:V}:(pgF a b).lookup ("statements":Str)=aa a:=rfl
theorem Ti{b:V}:(pgF a b).lookup ("operands":Str)=aa b:=rfl
theorem Ww{b e:V}:(UB a b c d e).lookup ("name":Str)=aa b:=rfl
theorem iM{b e:V}:(UB a b c d e).lookup ("length":Str)=aa c:=rfl
theorem Lq{b e:V}:(UB a b c d e).lookup ("way":Str)=aa d:=rfl
theorem ZW{b e:V}:(UB a b c d e).lookup ("operand_names":Str)=aa e:=rfl
theorem F0{H:Hp}{bs:ag}{p:aT}{i:Nat}(h:wB CS H bs (p.map (l8 p)))(hs:p[i]?=aa s):∃b,bs[i]?=aa b/\Nj CS H b (l8 p s):=
 uH h (by rw[bK,hs];rfl)
theorem yE(t w:List Nat):decide (V.str (st t)=V.str (st w))=decide (t=w):=by
 rw[decide_eq_decide];exact⟨fun h=>GI (V.str.inj h),fun h=>by rw[h]⟩
theorem FX(p:aT)(s:dQ):decide (V.str (st (l8 p s).word)=V.str "in")=s.input:=by
 have e:(V.str "in")=V.str (st tI):=rfl;rw[e,yE];unfold l8;cases s.input with
 |true=>rfl
 |false=>cases s.out<;>rfl
theorem N4(p:aT)(s:dQ)(h:s.input=ae->s.out=af):decide (V.str (st (l8 p s).word)=V.str "out")=s.out:=by
 have e:(V.str "out")=V.str (st o6):=rfl;rw[e,yE];unfold l8;cases hi:s.input with
 |true=>rw[h hi];rfl
 |false=>cases s.out<;>rfl
theorem ZH(p:aT)(s:dQ):decide (V.str (st (l8 p s).way)=V.str "map")=(!s.input&& !s.turn):=by
 have e:(V.str "map")=V.str (st Bm):=rfl;rw[e,yE];unfold l8;cases s.input with
 |true=>rfl
 |false=>cases s.turn<;>rfl
theorem Wf(p:aT)(s:dQ):decide (V.str (st (l8 p s).way)=V.str "turn")=(!s.input&&s.turn):=by
 have e:(V.str "turn")=V.str (st oS):=rfl;rw[e,yE];unfold l8;cases s.input with
 |true=>rfl
 |false=>cases s.turn<;>rfl
theorem vG{α:Type}(n:Nat)(f:Nat->Bool):(bw (n+1)).filter f=(bw n).filter f++(if f n=ae then[n]else[]):=by
 rw[eY,kK];congr 1;by_cases h:f n=ae
 ·rw[c8 h,fD h,k5]
 rw[cP h,gM h,k5]
inductive w6(CS CP:Addr)(vs:ao)(H:Hp)(Q:VK)(z':XK):Prop
 |mk (a:Addr) (p:aT) (_:vs=[.ref a]) (_:jH CS CP H a p) (_:p.length<=24) (_:∀l H',H l=ab->bG H H'->H' l=aa (.lst (tx (dw p)))->Q (.ref l) H')
theorem DR{f:Addr}(F:iF K "input_numbers" "input_numbers" qv f fd)(S:FE K CS)(G:FF K CP)(KO:mg "enumerate"=ab):dv P w K mg base eJ 1 f fd jT (w6 CS CP):=by
 refine F.ok uD fun fA A outer s H vs Q E hr h=>?_;obtain⟨a,p,rfl,pa,j6,k⟩:=h;obtain⟨dp,ls,lo,bs,os,ha,lY,sa,D4,oa⟩:=id pa;have nd:=uD.nd
 refine⟨_,bj (b8 (Kx (own:=[("number",1),("statement",2)]) (g:=agX K 2 (Yl (zY 1) (Yl (zY 2) agY))) (tt:=SO (tOp rEq (ZM K (Ak 2) "word") (tC (.str "in")))) rfl nd (pK (by rfl) KO (aP (cu (pv 0) rfl) bq)) (rX (by rfl))
  (fun s H C cl fp=>qy rfl (fh (oX 1 nd) (fh (oX 2 nd) mz)))
  (fun s H C cl fp=>LJ (cR iW (cu (pv 2) rfl) eM (da _))) (fun s H C cl fp=>pv 1))),?_⟩
 refine⟨_,rfl,a,CP,dp,_,_,rfl,ha,G.cl,G.n1,jN,ls,_,rfl,du.of lY,fun D hD=>?_⟩
 have le:bs.length=p.length:=by
  have:=dM sa;rw[aV]at this;exact this
 refine aav (xs:=bs.map V.ref) (fun i G=>bG H G/\G D=aa (.lst (tx ((bw i).filter fun a=>((p[a]?).map fun s=>s.input).getD af)))) ⟨bG.new hD,ba⟩ ?_ ?_ ?_
 ·rintro i G _ ⟨sg,_⟩;exact du.of (sg _ _ lY)
 ·rintro i x G T hx ⟨sg,hG⟩ hT
  have hi:i<p.length:=by
   have:=(aZ.mp hx).1;rw[aV,le]at this;exact this
  obtain⟨s,hs⟩:∃s,p[i]?=aa s:=⟨_,bE hi⟩;obtain⟨b,hb,db,lb,e1,e2⟩:=F0 sa hs
  have ex:x=.ref b:=by
   rw[iu hb]at hx;exact(bR hx).symm
  subst ex;have sT:bG G (upd G T (.tup [.int (i:Nat),.ref b])):=bG.new hT;have s3:=sg.trans sT;refine⟨T,_,rfl,wC.of ba,rfl,_,_,rfl,_,_,rfl,rfl,rfl,?_⟩;refine⟨_,rfl,b,CS,db,_,_,rfl,s3 _ _ e1,S.cl,S.n1,nU,rfl,_,rfl,?_⟩;rw[FX,vG (α:=Nat)];have gi:(((p[i]?).map fun s=>s.input).getD af)=s.input:=by rw[hs];rfl
  rw[gi];cases zX:s.input with
  |true=>
   refine dI ⟨_,rfl,_,sT _ _ hG,?_,bG.put hD s3,?_⟩
   ·unfold tx;rw[aV,bX];have:=qh (fun a=>((p[a]?).map fun s=>s.input).getD af) (bw i);rw[bZ]at this;omega
   rw[ba];unfold tx;rw[c8 rfl,b9];rfl
  |false=>
   refine cD ⟨s3,?_⟩;rw[cP (by decide),ck];exact sT _ _ hG
 rintro G ⟨sg,hG⟩;rw[aV,le]at hG;exact k D G hD sg hG
end SR
end
section
namespace SR
open PySem PySem.Spec PyProof.Rows L2 XL
open TL (tl me FY join_eq)
variable{P:b7}{w:cU}{K:aX}{mg:aj}{base:Heap}
theorem int_text:∀n:Nat,n<65->(jd (toString ((n:Nat):Int)):Str)=st (fG n):=by decide+kernel
def wordsOf(x:TS):List (List Nat):=[x.word,x.name,fG x.len]++(if x.word=tI then[]else[[61],x.way]++x.ops)
def oh(x:TS):List Nat:=me [32] (wordsOf x)++[59,10]
theorem SM(a:List Nat):tl (st a)=a:=by
 unfold tl st;rfl
theorem abC(x:Str):st (tl x)=x:=by
 unfold tl st;rfl
theorem Mf(ws:List (List Nat)):qX (st [32]) (ws.map st)=st (me [32] ws):=by
 rw[join_eq,<-abC (pD (st [32]) (ws.map st)),FY,SM,dA];congr 2;have:(tl∘st)=id:=funext fun a=>SM a;rw[this,qM]
theorem Ln(ws:List (List Nat)):fS ws=(ws.map st).map V.str:=by
 unfold fS;rw[dA];rfl
theorem QO{k:Nat}:∀{l:List Nat},(∀x∈l,x<=k)->l.sum<=k*l.length
 |[],_=>cB _
 |x::l,h=>by
  have h1:=QO (l:=l) fun y hy=>h y (bC _ hy);have h2:=h x (bM ..);rw[List.sum_cons,cJ,Nat.mul_add];omega
theorem HX:∀(l:List (List Nat)),(∀z∈l,z.length<=16)->(me [32] l).length<=17*l.length
 |[],_=>cB _
 |[p],h=>by
  have:=h p (bT.mpr rfl);show p.length<=17*1;omega
 |p::q::r,h=>by
  have h1:=HX (q::r) fun z hz=>h z (bC _ hz);have h2:=h p (bM ..);show(p++([32]++me [32] (q::r))).length<=17*(r.length+1+1);rw[bQ,bQ];have h1:(me [32] (q::r)).length<=17*(r.length+1):=h1;show p.length+(1+_)<=_;omega
structure Nk(x:TS):Prop where
 len:x.len<=64
 w:x.word.length<=16
 n:x.name.length<=16
 y:x.way.length<=16
 o:x.ops.length<=4
 u:∀z∈x.ops,z.length<=16
theorem Vt:∀n,n<65->(fG n).length<=16:=by decide+kernel
theorem EC{x:TS}(h:Nk x):(∀z∈wordsOf x,z.length<=16)/\(wordsOf x).length<=9:=by
 have d:=Vt x.len (by have:=h.len;omega)
 have b:∀z∈[x.word,x.name,fG x.len],z.length<=16:=fun z hz=>by
  simp only[bP,kb,or_false]at hz;rcases hz with rfl|rfl|rfl
  ·exact h.w
  ·exact h.n
  exact d
 unfold wordsOf;by_cases hw:x.word=tI
 ·rw[c8 hw,ck];exact⟨b,(by show 3<=9;decide)⟩
 rw[cP hw];constructor
 ·intro z hz;rcases d5.mp hz with q|q
  ·exact b z q
  rcases d5.mp q with q|q
  ·simp only[bP,kb,or_false]at q;rcases q with rfl|rfl
   ·decide
   exact h.y
  exact h.u z q
 rw[bQ,bQ];have:=h.o;show 3+(2+x.ops.length)<=9;omega
inductive Oq(CS:Addr)(vs:ao)(H:Hp)(Q:VK)(z':XK):Prop
 |mk (b:Addr) (x:TS) (_:vs=[.ref b]) (_:Nj CS H b x) (_:Nk x) (_:∀H',bG H H'->Q (.str (st (oh x))) H')
theorem Ay{f CS:Addr}{fd:gx}(F:iF K "plain_statement" "plain_statement" nZ f fd)(S:FE K CS)(KL:mg "str"=ab):dv P w K mg base eJ 1 f fd ["statement"] (Oq CS):=by
 refine F.ok rp fun fA A outer s H vs Q E hr h=>?_;obtain⟨b,x,rfl,sa,sm,k⟩:=h;obtain⟨db,lo,hb,D4⟩:=id sa;have nd:=rp.nd
 refine⟨_,bh (jy 1 nd (eA (aP (cu (pv 0) rfl) (aP (cu (pv 0) rfl) (aP (pB MY (by rfl) KL (by decide+kernel) (aP (cu (pv 0) rfl) bq)) bq)))))
  (bh (d8 (cR wo (cu (pv 0) rfl) eM (da _))
   (bh (dJ (md cb gb f9 pC (pv 1) (aP (eA (aP eM (aP (cu (pv 0) rfl) bq))) bq)))
   (bj (dJ (md cb gb f9 pC (pv 1) (aP (cu (pv 0) rfl) bq))))) cS)
  (bj (b8 (fX Rb (LM eM (pv 1)) eM)))),?_⟩
 refine⟨_,rfl,b,CS,db,_,_,rfl,hb,S.cl,S.n1,nU,_,rfl,b,CS,db,_,_,rfl,hb,S.cl,S.n2,Ww,_,rfl,b,CS,db,_,_,rfl,hb,S.cl,S.n3,iM,_,rfl,?_,by show 3<=bz;decide,fun l hl=>?_⟩
 ·show x.len.log2<1920;have:=Nat.log2_le_self x.len;have:=sm.len;omega
 have lt:=int_text x.len (by have:=sm.len;omega);have s1:bG H (upd H l (.lst (fS [x.word,x.name,fG x.len]))):=bG.new hl;have eL:(HO.lst [V.str (st x.word),V.str (st x.name),V.str (jd (toString ((x.len:Nat):Int)))])=HO.lst (fS [x.word,x.name,fG x.len]):=by rw[lt];rfl
 obtain⟨ws1,ws2⟩:=EC sm
 have z1:(((wordsOf x).map st).map (·.length)).sum+((wordsOf x).map st).length*(" ":Str).length<=16777216:=by
  have h1:(((wordsOf x).map st).map (·.length)).sum<=16*(((wordsOf x).map st).map (·.length)).length:=QO fun n hn=>by
   obtain⟨y,hy,rfl⟩:=dh.mp hn;obtain⟨z,hz,rfl⟩:=dh.mp hy;exact ws1 z hz
  rw[aV,aV]at h1;rw[aV,show(" ":Str).length=1 from rfl];omega
 have z2:(st (me [32] (wordsOf x))).length+(";\n":Str).length<=bz:=by
  rw[show(st (me [32] (wordsOf x))).length=(me [32] (wordsOf x)).length from rfl,show(";\n":Str).length=2 from rfl,bX];have:=HX (wordsOf x) ws1;omega
 have q1:∀H',bG H H'->Q (.str (qX " " ((wordsOf x).map st)++";\n")) H':=fun H' sx=>by
  have e:qX (" ":Str) ((wordsOf x).map st)=st (me [32] (wordsOf x)):=Mf _;have e2:st (me [32] (wordsOf x))++(";\n":Str)=st (oh x):=Wu _ [59,10];rw[e,e2];exact k H' sx
 rw[eL];refine⟨_,rfl,b,CS,db,_,_,rfl,s1 _ _ hb,S.cl,S.n1,nU,rfl,_,rfl,?_⟩;rw[X5];by_cases hw:x.word=tI
 ·rw[qi hw]
  have ew:wordsOf x=[x.word,x.name,fG x.len]:=by
   unfold wordsOf;rw[c8 hw,ck]
  refine cD ⟨⟨_,rfl⟩,_,rfl," ",l,(wordsOf x).map st,rfl,rfl,.inl (du.of ?_),z1,_,_,rfl,rfl,?_,q1 _ s1⟩
  ·rw[ba,<-Ln,ew]
  have e:qX (" ":Str) ((wordsOf x).map st)=st (me [32] (wordsOf x)):=Mf _;rw[e];exact z2
 rw[gX hw]
 have ew:wordsOf x=[x.word,x.name,fG x.len]++[[61],x.way]++x.ops:=by
  unfold wordsOf;rw[cP hw,c9]
 refine dI ⟨_,rfl,.inl ⟨rfl,_,du.of ba⟩,_,rfl,b,CS,db,_,_,rfl,s1 _ _ hb,S.cl,S.n4,Lq,by show 2<=bz;decide,fun l2 uq=>?_⟩;have nl:l2≠l:=fun z=>by rw[z,ba]at uq;cases uq
 have nlo:lo≠l:=fun z=>by rw[z,hl]at D4;cases D4
 have ajj:(fS [x.word,x.name,fG x.len]).length+([V.str "=",V.str (st x.way)]:ao).length<=bz:=by
  show 3+2<=bz;decide
 refine⟨l,l2,_,_,rfl,rfl,by rw[bB (de nl),ba],ba,ajj,?_⟩;generalize Yf:upd (upd (upd H l (.lst (fS [x.word,x.name,fG x.len]))) l2 (.lst [V.str "=",V.str (st x.way)])) l (.lst (fS [x.word,x.name,fG x.len]++[V.str "=",V.str (st x.way)]))=H2
 have s2:bG H H2:=by
  rw[<-Yf];exact bG.put hl (s1.trans (bG.new uq))
 have hl3:H2 l=aa (.lst (fS [x.word,x.name,fG x.len]++[V.str "=",V.str (st x.way)])):=by rw[<-Yf,ba]
 have so:=sm.o;refine⟨_,rfl,.inl ⟨rfl,_,du.of hl3⟩,_,rfl,b,CS,db,_,_,rfl,s2 _ _ hb,S.cl,S.n5,ZW,l,lo,_,_,rfl,rfl,hl3,s2 _ _ D4,?_,?_⟩
 ·show 5+(fS x.ops).length<=bz;rw[show(fS x.ops).length=x.ops.length from aV _,bX];omega
 have s3:bG H (upd H2 l (.lst (fS [x.word,x.name,fG x.len]++[V.str "=",V.str (st x.way)]++fS x.ops))):=bG.put hl s2;refine⟨⟨_,rfl⟩,_,rfl," ",l,(wordsOf x).map st,rfl,rfl,.inl (du.of ?_),z1,_,_,rfl,rfl,?_,q1 _ s3⟩
 ·rw[ba,<-Ln,ew];unfold fS;rw[b9,b9];rfl
 have e:qX (" ":Str) ((wordsOf x).map st)=st (me [32] (wordsOf x)):=Mf _;rw[e];exact z2
theorem vK:∀(a:List Nat)(l:List (List Nat)),me [32] (a::l)=a++l.flatMap fun u=>32::u
 |a,[]=>(ck a).symm
 |a,b::l=>by
  show a++([32]++me [32] (b::l))=_;rw[vK b l,iU];rfl
theorem OM(p:aT)(s:dQ):oh (l8 p s)=Gm p s:=by
 unfold oh Gm wordsOf;have n1:¬o6=tI:=by decide
 have n2:¬sy=tI:=by decide
 have e1:lF "in "=tI++[32]:=by decide
 have e2:lF "out "=o6++[32]:=by decide
 have e3:lF "let "=sy++[32]:=by decide
 have e4:lF " = "=[32,61,32]:=by decide
 have e5:lF ";\n"=[59,10]:=by decide
 unfold l8;rw[e1,e2,e3,e4,e5,SV,Oi];cases s.input with
 |true=>
  simp only[if_true,ck,vK,iU,qp,c9,wI,nM]
 |false=>
  cases s.out with
  |true=>
   simp only[if_true,if_false,cC,n1,vK,iU,qp,c9,wI,nM,Gu]
  |false=>
   simp only[if_true,if_false,cC,n2,vK,iU,qp,c9,wI,nM,Gu]
theorem GY(w:uh p){s:dQ}(hs:s∈p):Nk (l8 p s):=by
 refine⟨w.len s hs,?_,w.nam s hs,?_,?_,?_⟩
 ·show(if s.input=ae then tI else if s.out=ae then o6 else sy).length<=16;cases s.input<;>cases s.out<;>decide
 ·show(if s.input=ae then[]else if s.turn=ae then oS else Bm).length<=16;cases s.input<;>cases s.turn<;>decide
 ·show(s.uses.map (kT p)).length<=4;rw[aV];exact w.ops s hs
 intro z hz;obtain⟨u,hu,rfl⟩:=dh.mp hz;unfold kT;cases hq:p[u]? with
 |none=>exact cB _
 |some t=>exact w.nam t (br hq)
theorem KH:∀l:List (List Nat),me [] l=l.flatten
 |[]=>rfl
 |[a]=>by simp[me]
 |a::b::l=>by
  show a++([]++me [] (b::l))=_;rw[KH (b::l)];rfl
theorem X0(ws:List (List Nat)):qX ("":Str) (ws.map st)=st ws.flatten:=by
 have e:("":Str)=st []:=rfl;rw[e,join_eq,<-abC (pD (st []) (ws.map st)),FY,SM,dA];have:(tl∘st)=id:=funext fun a=>SM a;rw[this,qM,KH]
theorem plain_len{x:TS}(h:Nk x):(oh x).length<=200:=by
 obtain⟨a,b⟩:=EC h;unfold oh;rw[bQ];have:=HX _ a;show _+2<=200;omega
inductive S2(CS CP:Addr)(vs:ao)(H:Hp)(Q:VK)(z':XK):Prop
 |mk (a:Addr) (p:aT) (_:vs=[.ref a]) (_:jH CS CP H a p) (_:uh p) (_:∀H',bG H H'->Q (.str (st (eX p))) H')
theorem Jw{f:Addr}(F:iF K "plain_text" "plain_text" vq f fd)(S:FE K CS)(G:FF K CP)(C1:Fn P w K mg base eJ 1 "plain_statement" ["statement"] (Oq CS)):dv P w K mg base eJ 2 f fd jT (S2 CS CP):=by
 refine F.ok zM fun fA A outer s H vs Q E hr h=>?_;obtain⟨a,p,rfl,pa,pw,k⟩:=h;obtain⟨dp,ls,lo,bs,os,ha,lY,sa,D4,oa⟩:=id pa;have nd:=zM.nd
 refine⟨_,bj (b8 (LM eM (Kx (own:=[("statement",1)]) rfl nd (fP (cu (pv 0) rfl)) (rX (by rfl)) (fun s H C cl fp=>oX 1 nd) (fun s H C cl fp=>F9)
  (fun s H C cl fp=>dG C1 hr (by rfl) (aP (pv 1) bq))))),?_⟩
 refine⟨⟨_,rfl⟩,_,rfl,a,CP,dp,_,_,rfl,ha,G.cl,G.n1,jN,ls,rfl,⟨_,du.of lY⟩,fun D hD=>?_⟩
 have le:bs.length=p.length:=by
  have:=dM sa;rw[aV]at this;exact this
 refine BV (xs:=bs.map V.ref) (fun i G=>bG H G/\G D=aa (.lst (fS ((p.take i).map fun s=>oh (l8 p s))))) ⟨bG.new hD,ba⟩ ?_ ?_ ?_
 ·rintro i G _ ⟨sg,_⟩;exact du.of (sg _ _ lY)
 ·rintro i x G hx ⟨sg,hG⟩
  have hi:i<p.length:=by
   have:=(aZ.mp hx).1;rw[aV,le]at this;exact this
  obtain⟨s,hs⟩:∃s,p[i]?=aa s:=⟨_,bE hi⟩;obtain⟨b,hb,z⟩:=F0 sa hs
  have ex:x=.ref b:=by
   rw[iu hb]at hx;exact(bR hx).symm
  subst ex;refine⟨rfl,?_⟩;unfold Uz;refine dI ⟨_,rfl,b,l8 p s,rfl,z.same sg,GY pw (br hs),fun G2 s2=>?_⟩;refine⟨_,s2 _ _ hG,?_,bG.put hD (sg.trans s2),?_⟩
  ·unfold fS;rw[aV,aV,dW,bX];have:=pw.j6;omega
  rw[ba,take_snoc hs];unfold fS;rw[b9,b9];rfl
 rintro G ⟨sg,hG⟩;rw[aV,le,dy]at hG
 have e1:qX ("":Str) ((p.map fun s=>oh (l8 p s)).map st)=st (eX p):=by
  rw[X0];unfold eX;rw[List.flatMap_def];congr 2;exact dj fun s _=>OM p s
 refine⟨"",D,(p.map fun s=>oh (l8 p s)).map st,rfl,rfl,.inl (du.of ?_),?_,?_⟩
 ·rw[hG,<-Ln]
 ·have h1:(((p.map fun s=>oh (l8 p s)).map st).map (·.length)).sum<=200*(((p.map fun s=>oh (l8 p s)).map st).map (·.length)).length:=QO fun n hn=>by
   obtain⟨y,hy,rfl⟩:=dh.mp hn;obtain⟨z,hz,rfl⟩:=dh.mp hy;obtain⟨s,hs,rfl⟩:=dh.mp hz;exact plain_len (GY pw hs)
  rw[aV,aV,aV]at h1;rw[aV,aV,show("":Str).length=0 from rfl];have:=pw.j6;omega
 rw[e1];exact k G sg
end SR
end
section
namespace sI
open PySem
def Qm(l:List Nat):Prop:=l.Pairwise (· <·)
theorem YH(xs:Array Nat)(j:Nat):∀(fuel lo hi:Nat),Qm xs.toList->lo<=hi->hi<=xs.size->hi-lo<=fuel->
 (∀k x,k<lo->xs[k]?=aa x->x<j)->(∀k x,hi<=k->xs[k]?=aa x->j<=x)->
 ∃r,J4 xs j fuel lo hi=r/\r<=xs.size/\(∀k x,k<r->xs[k]?=aa x->x<j)/\(∀k x,r<=k->xs[k]?=aa x->j<=x):=by
 intro fuel
 induction fuel with
 |zero=>
  intro lo hi _ h1 h2 h3 a b
  have e:lo=hi:=by omega
  subst e
  exact⟨lo,rfl,h2,a,b⟩
 |succ f ih=>
  intro lo hi ri h1 h2 h3 a b
  unfold J4
  by_cases hl:lo<hi
  ·rw[c8 hl]
   have hm:(lo+hi)/2<xs.size:=by omega
   have gm:xs.getD ((lo+hi)/2) j=xs[(lo+hi)/2]:=by simp[CY,hm]
   have gq:xs[(lo+hi)/2]?=aa xs[(lo+hi)/2]:=by simp[hm]
   dsimp only
   rw[gm]
   have mono:∀{p q x y:Nat},p<q->xs[p]?=aa x->xs[q]?=aa y->x<y:=fun{p q x y} hpq hx hy=>by
    rw[<-eI]at hx hy;obtain⟨l1,e1⟩:=aZ.mp hx;obtain⟨l2,e2⟩:=aZ.mp hy;have:=fQ.mp ri p q l1 l2 hpq;rw[e1,e2]at this;exact this
   by_cases hc:xs[(lo+hi)/2]<j
   ·rw[c8 hc]
    refine ih _ _ ri (by omega) h2 (by omega) (fun k x hk hx=>?_) b
    rcases jf k ((lo+hi)/2)with q|q
    ·exact mf (mono q hx gq) hc
    have e:k=(lo+hi)/2:=by omega
    subst e
    rw[gq]at hx
    cases hx
    exact hc
   rw[cP hc]
   refine ih _ _ ri (by omega) (by omega) (by omega) a fun k x hk hx=>?_
   rcases jf ((lo+hi)/2) k with q|q
   ·exact dm (oB (Zd.mp hc) (mono q gq hx))
   have e:k=(lo+hi)/2:=by omega
   subst e
   rw[gq]at hx
   cases hx
   exact Zd.mp hc
  rw[cP hl]
  have e:lo=hi:=by omega
  subst e
  exact⟨lo,rfl,h2,a,b⟩
theorem below_at{xs:Array Nat}(ri:Qm xs.toList)(j:Nat):d4 xs j<=xs.size/\(∀k x,k<d4 xs j->xs[k]?=aa x->x<j)/\(∀k x,d4 xs j<=k->xs[k]?=aa x->j<=x):=by
 obtain⟨r,e,h⟩:=YH xs j xs.size 0 xs.size ri (cB _) (bu _) (by omega) (fun k x hk=>absurd hk (Nat.not_lt_zero _)) fun k x hk hx=>by
  have:=(fH.mp hx).1;omega
 unfold d4;rw[e];exact h
theorem Sb{xs:Array Nat}(ri:Qm xs.toList):d4 xs 0=0:=by
 obtain⟨h1,h2,_⟩:=below_at ri 0;rcases oC (d4 xs 0)with e|e
 ·exact e
 have hs:0<xs.size:=by omega
 exact absurd (h2 0 xs[0] e (by simp[hs])) (Nat.not_lt_zero _)
theorem Sd{xs:Array Nat}(ri:Qm xs.toList){i:Nat}(hx:xs[i]?=aa x):d4 xs (x+1)=i+1:=by
 obtain⟨h1,h2,h3⟩:=below_at ri (x+1);have hi:=(fH.mp hx).1;rcases lH (d4 xs (x+1)) (i+1)with q|q|q
 ·have:=h3 i x (by omega) hx;omega
 ·exact q
 have hl:i+1<xs.size:=by omega
 have:=h2 (i+1) xs[i+1] q (by simp[hl])
 have mono:x<xs[i+1]:=by
  obtain⟨l1,e1⟩:=fH.mp hx;have z:=fQ.mp ri i (i+1) (by simpa using l1) (by simpa using hl) (by omega);simp only[zH]at z;rw[e1]at z;exact z
 omega
theorem Q2{xs:Array Nat}(ri:Qm xs.toList){j:Nat}(hj:j∉xs.toList):Qm (SetTable.insertAt xs (d4 xs j) j).toList:=by
 obtain⟨h1,h2,h3⟩:=below_at ri j;rw[SetTable.toList_insertAt];unfold Qm;rw[Uk];refine⟨ri.sublist (Ze _ _),?_,fun a ha b hb=>?_⟩
 ·rw[dE];refine⟨fun b hb=>?_,ri.sublist (List.drop_sublist _ _)⟩;obtain⟨k,hk⟩:=cw hb;rw[Dg,eI]at hk;have:=h3 _ b (iG _ k) hk;have ne:b≠j:=fun e=>hj (e▸List.mem_of_mem_drop hb);omega
 have la:a<j:=by
  obtain⟨k,hk⟩:=cw ha;have hkl:=(aZ.mp hk).1;rw[dW]at hkl;rw[nG (by omega),eI]at hk;exact h2 k a (by omega) hk
 rcases bP.mp hb with e|hb
 ·rw[e];exact la
 obtain⟨k,hk⟩:=cw hb;rw[Dg,eI]at hk;exact bI la (h3 _ b (iG _ k) hk)
theorem Kp{t:oQ}(ri:Qm t.place.toList)(h:∀i,t.slot j≠ .live i):j∉t.place.toList:=fun hm=>by
 obtain⟨k,hk⟩:=cw hm;rw[eI]at hk;obtain⟨h1,h2,h3⟩:=below_at ri j
 have e:d4 t.place j=k:=by
  rcases lH (d4 t.place j) k with q|q|q
  ·exfalso;have hb:=mf q (fH.mp hk).1;have z:=h3 _ t.place[d4 t.place j] (bu _) (by simp[hb]);obtain⟨l1,e1⟩:=fH.mp hk;have y:=fQ.mp ri (d4 t.place j) k (by simpa using hb) (by simpa using l1) q;simp only[zH]at y;rw[e1]at y;exact absurd y (Zd.mpr z)
  ·exact q
  exact absurd (h2 k j q hk) (gC _)
 apply h (d4 t.place j);unfold SetTable.slot;simp only;rw[e,hk,c8 (by simp)]
theorem Xb(t:oQ)(f:Nat->Int)(h:Int):∀(fuel:Nat)(p:V1)(j:Nat)(d:Option Nat),(∀x,p.dummy=aa x->∀i,t.slot x≠ .live i)->J3 t f h fuel p=aa (.empty j d)->
 (∀i,t.slot j≠ .live i)/\∀x,d=aa x->∀i,t.slot x≠ .live i:=by
 intro fuel
 induction fuel with
 |zero=>intro p j d _ h;cases h
 |succ n ih=>
  intro p j d hd hp
  unfold J3 at hp
  have YR:∀q:V1,(t.advance q).dummy=q.dummy:=fun q=>by
   unfold SetTable.advance;split<;>rfl
  cases hs:t.slot p.j with
  |empty=>
   rw[hs]at hp
   cases hp
   exact⟨fun i z=>(by rw[hs]at z;cases z),hd⟩
  |dummy=>
   rw[hs]at hp
   refine ih _ j d (fun x hx=>?_) hp
   rw[YR]at hx
   cases hx
   intro i z
   rw[hs]at z
   cases z
  |live i=>
   rw[hs]at hp
   dsimp only at hp
   split at hp
   ·cases hp
   refine ih _ j d (fun x hx=>?_) hp
   rw[YR]at hx
   exact hd x hx
theorem Vk{t:oQ}(ri:Qm t.place.toList){j:Nat}{b:Bool}(e:t.freeSlot h=aa (j,b)):j∉t.place.toList:=by
 unfold SetTable.freeSlot at e;cases hp:t.probe (fun _=>h+1) h (t.probeStart h)with
 |none=>rw[hp]at e;cases e
 |some m=>
  rw[hp]at e;cases m with
  |candidate _ _ _=>cases e
  |empty k d=>
   dsimp only at e;obtain⟨h1,h2⟩:=Xb t _ h _ _ k d (fun x hx=>by cases hx) hp;cases d with
   |none=>
    cases e;exact Kp ri h1
   |some x=>
    cases e;exact Kp ri (h2 _ rfl)
def TJ(led:Bool)(t:oQ):Prop:=t.led=led/\(t.plain=ae->Qm t.place.toList)
theorem TJ.fresh(led:Bool):TJ led (.fresh 0 0 led):=⟨rfl,fun _=>kg⟩
theorem TJ.standIn{t:oQ}(h:TJ led t)(n:Nat):TJ led (t.standIn n):=⟨h.1,fun z=>by cases z⟩
theorem TJ.layNew{t:oQ}(h:TJ led t)(es:Array (Int×aY))(k:Int)(x:aY):TJ led (layNew t es k x).2.1:=by
 unfold PySem.layNew;cases hf:t.freeSlot k with
 |none=>exact h.standIn _
 |some y=>
  obtain⟨j,b⟩:=y;dsimp only;have hp:TJ led (t.put j).1:=⟨h.1,fun z=>Q2 (h.2 z) (Vk (h.2 z) hf)⟩;unfold SetTable.orStandIn;split
  ·exact hp
  exact hp.standIn _
theorem Jr(n:Nat)(f:Nat->Option Nat):Qm (((bw n).filterMap fun j=>(f j).map (j,·)).map (·.1)):=by
 unfold Qm;rw[jR];refine List.Pairwise.filterMap _ (R:=(· <·)) (fun a b Ye x hx y hy=>?_) Qv;cases ha:f a with
 |none=>rw[ha]at hx;cases hx
 |some u=>
  cases hb:f b with
  |none=>rw[hb]at hy;cases hy
  |some v=>
   rw[ha]at hx;rw[hb]at hy;cases hx;cases hy;exact Ye
theorem TJ.afJ{t:oQ}(h:TJ led t)(es:Array (Int×aY))(n:Nat):TJ led (wb t es n).2.1:=by
 unfold wb;cases hr:t.relaid (es.map (·.1)) n with
 |none=>exact h.standIn _
 |some y=>
  obtain⟨t',order⟩:=y;dsimp only;split
  ·unfold SetTable.relaid SetTable.laid at hr;cases ho:SetTable.layClean (Qq n-1) (es.map (·.1))with
   |none=>rw[ho]at hr;cases hr
   |some owner=>
    rw[ho]at hr;cases hr;refine⟨h.1,fun _=>?_⟩;have:=Jr (Qq n-1+1) fun j=>owner.getD j ab;simpa using this
  exact h.standIn _
end sI
end
section
namespace sI
open PySem PySem.Spec PyProof.Rows
section
variable{P:b7}{w:cU}
def qU(P:b7)(w:cU)(h:Heap)(a:Addr)(led:Bool)(S:Int->Bool)(n:Nat):Prop:=
 ∃o es ep t,h.get? a=aa o/\o.ExactSet/\o.data=.set es ep t/\ElemsOf (jP P w) es.toList/\(∀k,S k=ae↔∃e∈es.toList,(jP P w).is k e.2=ae)/\es.size<pS/\t.fits es.size=ae/\es.size=n/\TJ led t
theorem qU.keep{h':Heap}{S:Int->Bool}{n:Nat}(x:qU P w h a led S n)(k:∀o,h.get? a=aa o->h'.get? a=aa o):qU P w h' a led S n:=
 let⟨o,es,ep,t,e,r⟩:=x
 ⟨o,es,ep,t,k o e,r⟩
theorem qU.same{S S':Int->Bool}{n n':Nat}(x:qU P w h a led S n)(e:∀k,S k=S' k)(en:n=n'):qU P w h a led S' n':=by
 have z:=funext e;subst z;subst en;exact x
theorem qU.store{h:Heap}{o:Obj}{Vp:Array (Int×aY)}{t t':oQ}{S:Int->Bool}(e:h.get? a=aa o)(x:o.ExactSet)(d:o.data=.set es ep t)(el:ElemsOf (jP P w) Vp.toList)
 (mb:∀k,S k=ae↔∃y∈Vp.toList,(jP P w).is k y.2=ae)(b:Vp.size<pS)(f:t'.fits Vp.size=ae)(j:TJ led t'):
 (h.update a (Zb Vp t')).get? a=aa {o with data:=.set Vp (ep+1) t'}/\qU P w (h.update a (Zb Vp t')) a led S Vp.size:=by
 obtain⟨g,_⟩:=SetOf_store (knd:=jP P w) (S':=S) e x d el mb b f
 exact⟨g,_,Vp,ep+1,t',g,x,rfl,el,mb,b,f,rfl,j⟩
variable{A:cX}{E:ar}{s:bf}
theorem aa2{g:Bool->Sem Unit}(hg:∀(b:Bool)(s₁:bf)(Q':Unit->bf->Prop),Q' () s₁->bL (bJ P w) A (g b) Q' E s₁){o:Obj}{Ad:Array (Int×aY)}{t t1:oQ}{b0:Bool}{S:Int->Bool}
 (e:s.heap.get? a=aa o)(x:o.ExactSet)(d:o.data=.set es ep t)(el:ElemsOf (jP P w) Ad.toList)(mb:∀k,S k=ae↔∃y∈Ad.toList,(jP P w).is k y.2=ae)(b:Ad.size<pS)(f:t1.fits Ad.size=ae)(j:TJ led t1)
 {R:Option Bool->bf->Prop}(h:∀h',kN a s.heap h'->qU P w h' a led S Ad.size->R (aa ae) {s with heap:=h'}):
 bL (bJ P w) A (storeSet a Ad t1>>=fun _=>if(!b0&&t1.tooFull)=ae then(g (wb t1 Ad (iB Ad.size)).2.2>>=fun _=>storeSet a (wb t1 Ad (iB Ad.size)).1 (wb t1 Ad (iB Ad.size)).2.1>>=fun _=>pure (aa ae))else pure (aa ae)) R E s:=by
 refine aO (wpAny_storeSet_of e d ?_ (fits_of_scanBound b))
 obtain⟨e1,x1⟩:=qU.store e x d el mb b f j
 have sb:=J5 s.heap a (Zb Ad t1)
 by_cases hc:(!b0&&t1.tooFull)=ae
 ·rw[c8 hc]
  have pm:=relayAll_perm t1 Ad (iB Ad.size)
  have ft:=relayAll_fits t1 Ad (iB Ad.size)
  have jr:=j.afJ Ad (iB Ad.size)
  generalize wb t1 Ad (iB Ad.size)=Z at pm ft jr⊢
  obtain⟨es2,t2,gv⟩:=Z
  simp only at pm ft jr⊢
  have sz:es2.size=Ad.size:=by rw[<-cY,pm.length_eq,cY]
  have b2:=sz▸b
  refine aO (hg _ _ _ (aO (wpAny_storeSet_of e1 rfl ?_ (fits_of_scanBound b2))))
  obtain⟨_,x2⟩:=qU.store (S:=S) e1 x rfl (el.perm pm) (fun k=>(mb k).trans ⟨fun⟨y,hy,q⟩=>⟨y,pm.mem_iff.mpr hy,q⟩,fun⟨y,hy,q⟩=>⟨y,pm.mem_iff.mp hy,q⟩⟩) b2 ft jr
  exact bg (h _ (sb.trans (J5 _ a _)) (x2.same (fun _=>rfl) sz))
 rw[cP hc]
 exact bg (h _ sb x1)
theorem add_int{a:Addr}{led:Bool}{S:Int->Bool}{n:Nat}{k:Int}{tk:Tok}{Q:Bool->bf->Prop}(hS:qU P w s.heap a led S n)(hr:n+1<pS)
 (h:∀h',kN a s.heap h'->qU P w h' a led (fun i=>S i||decide (i=k)) (if S k then n else n+1)->Q (!S k) {s with heap:=h'}):
 bL (bJ P w) A (setAddHashed a (.int k tk) ((jP P w).hash k)) Q E s:=by
 obtain⟨o,es,ep,t,e,x,d,el,mb,b,f,en,j⟩:=hS
 have ik:(jP P w).is k (.int k tk)=ae:=intKind_is _ _ _ _
 unfold setAddHashed setAddHashedIn
 refine d7 (aO (i8 e d f ?_))
 simp only
 rw[byScan_of (x:=.int k tk) rfl b el]
 simp only[↓reduceIte]
 unfold setAddByScan
 refine aO (aO (IK (aO (wpAny_setScan_of ik e d f el ?_))))
 cases hr:List.findIdx? (fun y=>(jP P w).is k y.2) es.toList with
 |some i=>
  simp only
  obtain⟨hi,hp,_⟩:=List.findIdx?_eq_some_iff_getElem.mp hr
  have sk:S k=ae:=(mb k).mpr ⟨_,Gr hi,hp⟩
  refine bg (bg ?_)
  have z:=h s.heap (NF a s.heap) ⟨o,es,ep,t,e,x,d,el,fun i=>by
   rw[yA,decide_eq_true_eq,<-mb i];exact⟨fun q=>q.elim id fun y=>y▸sk,.inl⟩,b,f,by rw[sk];exact en,j⟩
  rw[sk]at z
  exact z
 |none=>
  simp only
  have sk:S k=af:=by
   cases hk:S k with
   |false=>rfl
   |true=>
    obtain⟨y,hy,hp⟩:=(mb k).mp hk;rw[List.findIdx?_eq_none_iff.mp hr y hy]at hp;cases hp
  have pm:=layNew_perm t es ((jP P w).hash k) (.int k tk)
  have ft:=layNew_fits t es ((jP P w).hash k) (.int k tk)
  have jn:=j.layNew es ((jP P w).hash k) (.int k tk)
  generalize layNew t es ((jP P w).hash k) (.int k tk)=Z at pm ft jn⊢
  obtain⟨Ad,t1,b0,gv⟩:=Z
  simp only at pm ft jn⊢
  rw[EB]at pm
  have sz:Ad.size=n+1:=by rw[<-cY,pm.length_eq,bQ,cY,en];rfl
  have hq:∀h',kN a s.heap h'->qU P w h' a led (fun i=>S i||decide (i=k)) Ad.size->Q ae {s with heap:=h'}:=fun h' sb y=>by
   have z:=h h' sb;rw[sk]at z;exact z (y.same (fun _=>rfl) sz)
  have gg:∀(b:Bool)(s₁:bf)(Q':Unit->bf->Prop),Q' () s₁->bL (bJ P w) A (match b with|true=>rule "set.scan.the-table-gave-way"|false=>pure ()) Q' E s₁:=fun b s₁ Q' q=>by
   cases b
   ·exact bg q
   exact IK q
  have fin:bL (bJ P w) A (storeSet a Ad t1>>=fun _=>if(!b0&&t1.tooFull)=ae then((match(wb t1 Ad (iB Ad.size)).2.2 with|true=>rule "set.scan.the-table-gave-way"|false=>pure ())>>=fun _=>storeSet a (wb t1 Ad (iB Ad.size)).1 (wb t1 Ad (iB Ad.size)).2.1>>=fun _=>pure (aa ae))else pure (aa ae))
   (fun r s'=>bL (bJ P w) A (match r with|some added=>pure added|none=>setAddHashedIn a (.int k tk) ((jP P w).hash k) 99999) Q E s') E s:=
   aa2 gg e x d ((el.push ik rfl).perm pm) (mem_push_iff ik mb pm) (by omega) ft jn fun h' sb y=>bg (hq h' sb y)
  refine aO (gg _ _ _ ?_)
  cases hp:t1.plain with
  |true=>
   simp only[↓reduceIte]
   refine aO ?_
   rw[hashByValue_scannable 8 (x:=.int k tk) rfl]
   refine bg ?_
   exact fin
  |false=>
   simp only[cC,↓reduceIte]
   refine aO (bg ?_)
   simp only[↓reduceIte]
   exact fin
end
def nA(w:cU):Bool:=!w.params.followText "set-order"
section
variable{P:b7}{w:cU}{A:cX}
theorem WU{R:Ew->bf->Prop}{G:Array J6->Array J6->Prop}{n:Nat}{V:Nat->aY->Prop}{St:Nat->bf->Prop}(W:WalksS P w A.in1 I fp wr G n V St)(S:Addr)(nS:S∉fp)(val:Nat->Int)
 (hv:∀i v,V i v->∃t,v=.int (val i) t)(j6:n+1<pS):∀(k i:Nat)(s:bf),n-i=k->i<=n->St i s->qU P w s.heap S led (fun z=>(m7 val i).any (· ==z)) (m7 val i).length->
  (∀s',Moved (S::wr) G s s'->qU P w s'.heap S led (fun z=>(m7 val n).any (· ==z)) (m7 val n).length->R (.ok (.ret .none)) s')->jx (bJ P w) A (.builtin "set.update.loop" ⟨[.ref S,.ref I],[]⟩) R s:=by
 have nW:S∉wr:=fun z=>nS (W.sub _ z)
 intro k
 induction k with
 |zero=>
  intro i s hk hi st hS q
  have e:i=n:=by omega
  subst e
  refine jc Um ?_
  rw[iJ yy _]
  show bL _ A.in1 (qF (.ref I)>>=_) _ _ s
  refine aO (W.done s _ _ st fun s' mv=>?_)
  show bL _ A.in1 (ret eF) _ _ s'
  exact bg (q s' (mv.mono fun b z=>bC _ z) (hS.keep fun o e=>mv.heap S o nW e))
 |succ k ih=>
  intro i s hk hi st hS q
  have lt:i<n:=by omega
  refine jc Um ?_
  rw[iJ yy _]
  show bL _ A.in1 (qF (.ref I)>>=_) _ _ s
  refine aO (W.item i s _ _ lt st fun v s' pv GJ mv=>?_)
  obtain⟨t,rfl⟩:=hv i v pv
  have hS':=hS.keep (h':=s'.heap) fun o e=>mv.heap S o nW e
  show bL _ A.in1 (qG [lZ (val i) t] (setAdd S (.int (val i) t))>>=_) _ _ s'
  refine aO (d7 ?_)
  unfold setAdd
  refine d7 (aO ((jP P w).pyHash (k:=val i) (intKind_is _ _ _ _) ?_))
  have rm:(m7 val i).length+1<pS:=by have:=firstMet_length_le val i;omega
  refine add_int (s:={s' with toks:=s'.toks+1}) hS' rm fun h' sb x=>?_
  have y:qU P w h' S led (fun z=>(m7 val (i+1)).any (· ==z)) (m7 val (i+1)).length:=x.same (fun z=>by rw[VO,step_any]) (by rw[VO,step_length])
  refine bg ⟨oN yy _,ih (i+1) _ (by omega) lt (W.frame _ s' _ _ GJ (qY _) fun b hb o e=>?_) y fun s2 m2 y2=>?_⟩
  ·rw[sb.2 b fun z:b=S=>nS (z▸hb)]
   exact e
  refine q s2 (Moved.trans W.gtrans ((mv.mono fun b z=>bC _ z).then_heap (qY _) fun b o hb e=>?_) m2) y2
  rw[sb.2 b fun z:b=S=>hb (z▸bM)]
  exact e
variable{E:ar}{s:bf}
def Ly(led:Bool):Obj:={cls:=.type "set",dict:=ab,data:=.set #[] 0 (.fresh 0 0 led)}
theorem WT(a:aY){Q:ar}(h:Q (.ref s.heap.objs.size) {s with heap:=s.heap.push (Ly (nA w))}):jx (bJ P w) A (.call (.builtin "set.__new__") ⟨[.type "set",a],[]⟩) (wants Q E) s:=by
 refine Bg ?_;show bL _ A.in1 (zC "set.__new__" ⟨[.type "set",a],[]⟩>>=fun _=>again (.builtin "set.__new__" ⟨[.type "set",a],[]⟩)) _ _ s;refine aO (wpAny_of_eq (F.newCall_set_1 a) (bg ⟨oN NT _,jc PySem.F.entry_set_new ?_⟩));rw[iJ NT _];unfold Builtin.«set.__new__» abu;have adU:=sub_set_self;obtain⟨hp,g,d,tk,os⟩:=s;simp only;wp_walk;refine Nr (bg ?_);simp only[newObj];exact aO (Es (bg (bg h)))
theorem qU.start{h:Heap}(e:h.get? a=aa (Ly led)):qU P w h a led (fun _=>af) 0:=
 ⟨_,#[],0,.fresh 0 0 led,e,⟨rfl,rfl,rfl⟩,rfl,fun e he=>by simp at he,fun k=>by simp,by decide,rfl,rfl,TJ.fresh led⟩
theorem YA{ns:List Int}{Q:ar}(hh:A.handled=ab)(hl:s.heap.IsList l its)(hi:kM its.toList ns)(j6:its.size+1<pS)
 (h:∀(h':Heap)(tk:Nat),qU P w h' s.heap.objs.size (nA w) (fun z=>(m7 (fun i=>ns.getD i 0) its.size).any (· ==z)) (m7 (fun i=>ns.getD i 0) its.size).length->(∀b o,s.heap.get? b=aa o->h'.get? b=aa o)->
  Q (.ref s.heap.objs.size) {s with heap:=h',toks:=tk}):bL (bJ P w) A (call (.type "set") [.ref l]) Q E s:=by
 obtain⟨c,tl,ajL⟩:=ip.mro
 have agE:=ip.made
 have adU:=ip.sub
 refine m5 (Bg ?_)
 show bL _ _ (callAny (.type "set") _) _ _ _
 refine bg ⟨tG _ (by decide+kernel),jc PySem.F.entry_type_call ?_⟩
 rw[Uq (weight_type_call_type "set" [.ref l] []) rfl]
 have h1:=ip.notType
 have h2:=ip.canCreate
 have hct:=PySem.F.typeCall_set_1 (.ref l)
 repeat (any_goals (first|assumption|wp_step))
 refine iS (WT (.ref l) (E:=E) (Q:=fun v s₁=>v=.ref s.heap.objs.size/\s₁={s with heap:=s.heap.push (Ly (nA w))}) ⟨rfl,rfl⟩) fun r s₁ hr=>?_
 cases r with
 |error e=>exact hr
 |ok fl=>
  cases fl with
  |next=>exact hr.elim
  |brk=>exact hr.elim
  |cont=>exact hr.elim
  |ret obj=>
   obtain⟨rfl,rfl⟩:=hr
   have g0:(s.heap.push (Ly (nA w))).get? s.heap.objs.size=aa (Ly (nA w)):=bH _ rfl
   have hT:Shared.TypeIs {s with heap:=s.heap.push (Ly (nA w))} (.ref s.heap.objs.size) "set":=⟨_,g0,rfl⟩
   have NK:=ip.init.lookup
   have hbi:=ip.init.bind (.ref s.heap.objs.size)
   repeat (any_goals (first|assumption|wp_step))
   refine iS (j8 (R:=wants (fun r s₂=>r=.none/\∃h' tk,s₂={s with heap:=h',toks:=tk}/\
    qU P w h' s.heap.objs.size (nA w) (fun z=>(m7 (fun i=>ns.getD i 0) its.size).any (· ==z)) (m7 (fun i=>ns.getD i 0) its.size).length/\
    (∀b o,s.heap.get? b=aa o->h'.get? b=aa o)) E) ip.init.plain PySem.F.entry_set_init (check_set_init_1 hT ?_)) fun r₂ s₂ hr₂=>?_
   ·obtain⟨ol,hol,JG,nl,hdl⟩:=hl
    obtain⟨ana,af0,akW,adm⟩:=ol
    simp only at JG hdl
    subst JG;subst hdl
    have ajC:(s.heap.push (Ly (nA w))).get? l=aa {cls:=.type "list",dict:=af0,data:=.seq its nl,slots:=adm}:=a9 _ hol
    have anV:=PySem.F.sub_list_set
    have anW:=PySem.F.sub_list_frozenset
    have Ie:(iT "list"==iT "dict")=af:=by decide
    have NL:(s.heap.push (Ly (nA w))).IsList l its:=⟨_,ajC,rfl,nl,rfl⟩
    have hS1:=g0
    unfold Builtin.«set.__init__» noKeywords abq
    generalize hPI:Sm=PI
    wp_walk
    subst hPI
    refine wQ NL (aO (wpAny_runValue ?_))
    have lS:=bF hol
    have hh3:A.in1.in1.in1.handled=ab:=by simp[hh]
    have sz:(s.heap.push (Ly (nA w))).objs.size=s.heap.objs.size+1:=dz _ _
    refine WU ((Walks.list hh3 _ l (by rw[sz];exact cg (eP lS)) its).toS) s.heap.objs.size ?_ (fun i=>ns.getD i 0) (fun i v hv=>yx hi i v (by rw[eI];exact hv)) j6 (its.size-0) 0 _ (by omega) (cB _)
     ⟨⟨_,bH _ rfl,rfl,rfl⟩,(NL.push _)⟩ (qU.same (qU.start (a9 _ g0)) (fun _=>rfl) rfl) ?_
    ·rw[sz]
     simp only[bP,bT,kb,or_false,not_or]
     exact⟨cg (eN _),dk lS⟩
    intro s' mv hS'
    obtain⟨h',g',d',tk',os'⟩:=s'
    have eg:=mv.gens
    have ed:=mv.drawn
    have eo:=mv.os
    subst eg ed eo
    show bL _ _ _ _ _ _
    refine bg ?_
    show bL _ _ (ret eF) _ _ _
    refine bg ⟨rfl,h',tk',rfl,hS',fun b o e=>?_⟩
    have hb:=bF e
    refine mv.heap b o ?_ (a9 _ (a9 _ e))
    rw[sz]
    simp only[bP,bT,kb,or_false,not_or]
    exact⟨cg hb,cg (eP hb)⟩
   cases r₂ with
   |error e=>exact hr₂
   |ok fl₂=>
    cases fl₂ with
    |next=>exact hr₂.elim
    |brk=>exact hr₂.elim
    |cont=>exact hr₂.elim
    |ret r=>
     obtain⟨rfl,h',tk,rfl,hS',hk'⟩:=hr₂
     repeat (any_goals (first|assumption|wp_step))
     exact h _ _ hS' hk'
end
theorem Hn{α:Type}{l:List α}{i:Nat}{x:α}(h:l[i]?=aa x):(x::l.eraseIdx i).Perm l:=by
 obtain⟨hi,e⟩:=aZ.mp h;rw[List.eraseIdx_eq_take_drop_succ]
 have z:l=l.take i++x::l.drop (i+1):=by
  rw[<-e,<-dZ hi,List.take_append_drop]
 refine Ey ZD.symm ?_;rw[<-z]
theorem Z7{α:Type}(f:Nat->Nat):∀(n k:Nat)(l:List α)(out:Array α),l.length=n->(J1 f n k l out).toList.Perm (out.toList++l):=by
 intro n;induction n with
 |zero=>
  intro k l out h;have e:=oG.mp h;subst e;unfold J1;rw[ck]
 |succ n ih=>
  intro k l out h;unfold J1;have zu:f k%l.length<l.length:=Ex _ (by omega);have hx:=bE zu;rw[hx];simp only;refine(ih (k+1) _ _ (by rw[Lc zu,h];rfl)).trans ?_;rw[EB,c9];exact List.Perm.append_left _ (Hn hx)
theorem Kw{α:Type}(f:Nat->Nat)(xs:Array α):(pT f xs).toList.Perm xs.toList:=by
 unfold pT;have:=Z7 f xs.size 0 xs.toList #[] (cY);simpa using this
section
variable{P:b7}{w:cU}{A:cX}{E:ar}
theorem R0{n:Nat}(hn:n≠0){Q:Nat->bf->Prop}{s:bf}(h:∀i d',i<n->Q i {s with drawn:=d'}):bL (bJ P w) A (choose src n) Q E s:=
 fun Γ p hΓ=>⟨hn,h _ _ (Ex _ (Zc hn))⟩
theorem RP{α:Type}:∀(n:Nat)(l:List α)(s:bf)(Q:List α->bf->Prop),l.length=n->(∀ys d',ys.Perm l->Q ys {s with drawn:=d'})->bL (bJ P w) A (VW n l) Q E s:=by
 intro n;induction n with
 |zero=>
  intro l s Q h q;have e:=oG.mp h;subst e;unfold VW;exact bg (q [] s.drawn (gO _))
 |succ n ih=>
  intro l s Q h q;cases l with
  |nil=>cases h
  |cons a r=>
   generalize hl:a::r=l at h q;have hp:0<l.length:=by omega
   have un:(VW (n+1) l:Sem (List α))=(choose .order l.length>>=fun i=>match l[i]? with|some x=>(VW n (l.eraseIdx i)>>=fun t=>pure (x::t))|none=>wU "internal:drawOrder"):=by
    rw[<-hl];rfl
   rw[un];refine aO (R0 (by omega) fun i d' hi=>?_);have hx:=bE hi;rw[hx];simp only;refine aO (ih (l.eraseIdx i) _ _ (by rw[Lc hi,h];rfl) fun ys d2 pm=>bg ?_);exact q _ d2 ((VQ _ pm).trans (Hn hx))
end
theorem Xp:Manifest.owners.lookup (String.ofList ['r','o','t','a','r','e','t','i','_','t','e','s'].reverse)=aa Manifest.sig_set_iterator:=by kernel_rfl
theorem vj:Slot "set_iterator" "__next__" "set_iterator.__next__":=.of (owner:="set_iterator") (n:="__next__") (by rw[Bc,rf];kernel_rfl) (by decide+kernel) (by decide+kernel) (by decide+kernel) (by first|exact .inl (by decide+kernel)|exact .inr (by decide+kernel)) (by rw[Sq];kernel_rfl)
theorem Pw:entryFor table "set_iterator.__next__"=aa Builtin.«set_iterator.__next__»:=entryFor_of_tree (by kernel_rfl)
theorem Ub(a:aY):Y7 "set_iterator.__next__" ⟨[a],[]⟩:=by
 unfold Y7;rw[signature?_of (id:="set_iterator.__next__") (n:=['_','_','t','x','e','n','_','_']) (o:=['r','o','t','a','r','e','t','i','_','t','e','s']) (by kernel_rfl) Xp];kernel_rfl
theorem S8:Slot "set_iterator" "__iter__" "set_iterator.__iter__":=.of (owner:="set_iterator") (n:="__iter__") (by rw[Bc,rf];kernel_rfl) (by decide+kernel) (by decide+kernel) (by decide+kernel) (by first|exact .inl (by decide+kernel)|exact .inr (by decide+kernel)) (by rw[Sq];kernel_rfl)
theorem Ys:entryFor table "set_iterator.__iter__"=aa Builtin.«dict_keyiterator.__iter__»:=entryFor_alias (id':="dict_keyiterator.__iter__") (by kernel_rfl) rfl (by decide+kernel) (by kernel_rfl)
theorem aaY(a:aY):Y7 "set_iterator.__iter__" ⟨[a],[]⟩:=by
 unfold Y7;rw[signature?_of (id:="set_iterator.__iter__") (n:=['_','_','r','e','t','i','_','_']) (o:=['r','o','t','a','r','e','t','i','_','t','e','s']) (by kernel_rfl) Xp];kernel_rfl
theorem Yr:entryFor table "set.__iter__"=aa Builtin.«frozenset.__iter__»:=entryFor_alias (id':="frozenset.__iter__") (by kernel_rfl) rfl (by decide+kernel) (by kernel_rfl)
def TQ(first:aY)(i:Nat)(a:Addr)(n ep:Nat):Obj:={cls:=.type "set_iterator",data:=.fields #[first,.int i 0,.ref a,.int n 0,.int ep 0]}
section
variable{P:b7}{w:cU}{A:cX}{E:ar}{s:bf}{I a:Addr}{o:Obj}{es:Array (Int×aY)}{ep i:Nat}{t:oQ}{Q:Option aY->bf->Prop}
theorem Hh{Q:PySem.Fin->bf->Prop}(hh:A.handled=ab)(h:∀h' x,(∀b o,s.heap.get? b=aa o->h'.get? b=aa o)->(∃o,h'.get? x=aa o/\o.cls=.type "StopIteration")->E (.ref x) {s with heap:=h'}):
 bL (bJ P w) A (do raiseNew (<-newExc (.type "StopIteration") [])) Q E s:=by
 refine aO ?_
 simp only[newExc,newTuple]
 refine aO (j7 ?_ (by size_fits))
 refine aO (m:=firstArgMember _ _) (wpAny_of_eq (a:=eF) (by first|rfl|(simp only[firstArgMember];rfl)) ?_)
 refine j7 ?_ (by size_fits)
 simp only[raiseNew]
 refine aO (wpAny_handled ?_)
 rw[hh]
 exact aO (bg (wpAny_throw (h _ _ (fun b o e=>a9 _ (a9 _ e)) ⟨_,bH _ rfl,rfl⟩)))
theorem BP{slot:Nat}(hh:A.handled=ab)(hI:s.heap.get? I=aa (TQ (.int slot 0) i a es.size ep))(ha:s.heap.get? a=aa o)(hd:o.data=.set es ep t)(hf:t.fits es.size=ae)(r:Option (aY×Nat))
 (hn:∀(Q':Option (aY×Nat)->bf->Prop)(E':ar),Q' r s->bL (bJ P w) A.in1 (Y4 a slot i ep) Q' E' s)
 (h:match r with|some (x,nx)=>∀h',h'.get? I=aa (TQ (.int nx 0) (i+1) a es.size ep)->(∀b u,b≠I->s.heap.get? b=aa u->h'.get? b=aa u)->Q (aa x) {s with heap:=h'}|none=>∀h',(∀b u,b≠I->s.heap.get? b=aa u->h'.get? b=aa u)->Q ab {s with heap:=h'}):
 bL (bJ P w) A (qF (.ref I)) Q E s:=by
 have hT:s.TypeIs (.ref I) "set_iterator":=⟨_,hI,rfl⟩
 unfold qF
 refine aO (oM (kQ (name:=jd "__next__") hT vj (jD vj hT Pw ?_ (Ub _))))
 unfold Builtin.«set_iterator.__next__»
 refine aO (bg ?_)
 refine aO (wpAny_fieldsOf hI rfl ?_)
 simp only[TQ]
 refine aO (FI ha hd hf ?_)
 have e0:(((es.size:Nat):Int) != ((es.size:Nat):Int))=af:=by simp
 rw[e0]
 simp only[cC,↓reduceIte]
 refine aO (hn _ _ ?_)
 cases r with
 |some y=>
  obtain⟨x,nx⟩:=y
  simp only
  refine aO (jI hI (by simp) fun h1 g1 b1=>?_)
  refine aO (jI g1 (by simp) fun h2 g2 b2=>?_)
  refine bg ⟨x,rfl,bg ?_⟩
  refine h h2 ?_ fun b u nb e=>(b2.2 b nb).trans ((b1.2 b nb).trans e)
  rw[g2]
  simp[TQ,j4]
 |none=>
  simp only
  refine aO (jI hI (by simp) fun h1 g1 b1=>?_)
  refine Hh (s:={s with heap:=h1}) hh fun h' x k ⟨ox,hx,hc⟩=>?_
  refine aO (rZ (T:="StopIteration") (b:=ae) ⟨ox,hx,hc⟩ Et ?_)
  exact bg (h h' fun b u nb e=>k b u ((b1.2 b nb).trans e))
theorem HJ{T:Addr}{pl:List Nat}(hh:A.handled=ab)(hI:s.heap.get? I=aa (TQ (.ref T) i a es.size ep))(hTT:s.heap.get? T=aa {cls:=.type "tuple",data:=.seq (pl.map fun(i:Nat)=>j4 i).toArray})
 (ha:s.heap.get? a=aa o)(hd:o.data=.set es ep t)(hf:t.fits es.size=ae)
 (h:match pl[i]? with|some p=>∃e,es[p]?=aa e/\∀h',h'.get? I=aa (TQ (.ref T) (i+1) a es.size ep)->(∀b u,b≠I->s.heap.get? b=aa u->h'.get? b=aa u)->Q (aa e.2) {s with heap:=h'}|none=>∀h',(∀b u,b≠I->s.heap.get? b=aa u->h'.get? b=aa u)->Q ab {s with heap:=h'}):
 bL (bJ P w) A (qF (.ref I)) Q E s:=by
 have hT:s.TypeIs (.ref I) "set_iterator":=⟨_,hI,rfl⟩
 unfold qF
 refine aO (oM (kQ (name:=jd "__next__") hT vj (jD vj hT Pw ?_ (Ub _))))
 unfold Builtin.«set_iterator.__next__»
 refine aO (bg ?_)
 refine aO (wpAny_fieldsOf hI rfl ?_)
 simp only[TQ]
 refine aO (FI ha hd hf ?_)
 have e0:(((es.size:Nat):Int) != ((es.size:Nat):Int))=af:=by simp
 rw[e0]
 simp only[cC,↓reduceIte]
 refine aO (Ep hTT rfl ?_)
 simp only
 have ge:((pl.map fun(i:Nat)=>j4 i).toArray)[((i:Nat):Int).toNat]?=(pl[i]?).map fun(i:Nat)=>j4 i:=by simp
 rw[ge]
 cases hp:pl[i]? with
 |some p=>
  rw[hp]at h
  obtain⟨e,he,h⟩:=h
  simp only[jF,j4]
  refine aO ?_
  unfold setNextDrawn
  refine aO (i8 ha hd hf ?_)
  have e1:(ep != ((ep:Nat):Int).toNat)=af:=by simp
  have e2:((p:Nat):Int).toNat=p:=by simp
  simp only[e1,e2,cC,↓reduceIte,he]
  refine bg ?_
  refine aO (jI hI (by simp) fun h2 g2 b2=>?_)
  refine bg ⟨e.2,rfl,bg ?_⟩
  refine h h2 ?_ fun b u nb e=>(b2.2 b nb).trans e
  rw[g2]
  simp[TQ,j4]
 |none=>
  rw[hp]at h
  simp only[Option.map_none]
  refine aO (jI hI (by simp) fun h0 g0 b0=>?_)
  refine aO (jI g0 (by simp) fun h1 g1 b1=>?_)
  refine Hh (s:={s with heap:=h1}) hh fun h' x k ⟨ox,hx,hc⟩=>?_
  refine aO (rZ (T:="StopIteration") (b:=ae) ⟨ox,hx,hc⟩ Et ?_)
  exact bg (h h' fun b u nb e=>k b u ((b1.2 b nb).trans ((b0.2 b nb).trans e)))
theorem D3{first:aY}{n:Nat}{Q:ar}(hI:s.heap.get? I=aa (TQ first i a n ep))(h:Q (.ref I) s):bL (bJ P w) A (Sm (.ref I)) Q E s:=by
 have hT:s.TypeIs (.ref I) "set_iterator":=⟨_,hI,rfl⟩;refine wpAny_pyIter_slot hT S8 (jD S8 hT Ys ?_ (aaY _));unfold Builtin.«dict_keyiterator.__iter__»;refine aO (bg ?_);exact bg ⟨_,rfl,"set_iterator",_,hT,vj.lookup,h⟩
end
section
variable{P:b7}{w:cU}{A:cX}{E:ar}{s:bf}{I a:Addr}{o:Obj}{es:Array (Int×aY)}{ep i:Nat}{t:oQ}
theorem Gg{Q:Bool->bf->Prop}(h:Q (!nA w) s):bL (bJ P w) A setsByText Q E s:=by
 unfold setsByText;refine aO (Nr (bg ?_));unfold nA at h;rw[Bool.not_not]at h;exact h
theorem HI{slot k:Nat}(hl:nA w=ae)(ha:s.heap.get? a=aa o)(hd:o.data=.set es ep t)(hf:t.fits es.size=ae)(tl:t.led=ae)(pl:t.plain=ae\/es.size<=1)(ri:Qm t.place.toList)
 {Q:Option (aY×Nat)->bf->Prop}(h:Q (match es[d4 t.place slot]?,t.place[d4 t.place slot]? with|some (_,x),aa j=>aa (x,j+1)|_,_=>ab) s):
 bL (bJ P w) A (Y4 a slot k ep) Q E s:=by
 unfold Y4
 refine aO (i8 ha hd hf ?_)
 refine aO (Gg ?_)
 rw[hl]
 simp only[NX,cC,↓reduceIte]
 refine jb (fun z=>?_) fun _=>?_
 ·have z:(!t.plain&&decide (es.size>1))=ae:=z
  rw[cK]at z
  rcases pl with q|q
  ·rw[q]at z;cases z.1
  exact absurd (of_decide_eq_true z.2) (by omega)
 refine aO (m:=(if(!t.led&& !es.isEmpty)=ae then wU "set:maker-not-led" else pure ())) ?_
 rw[tl]
 simp only[NX,eC,cC,↓reduceIte]
 exact bg (bg h)
theorem Kz{slot k:Nat}(hl:nA w=af)(ha:s.heap.get? a=aa o)(hd:o.data=.set es ep t)(hf:t.fits es.size=ae)
 {Q:Option (aY×Nat)->bf->Prop}(h:Q (((pT (w.params.setOrder a ep) es)[k]?).map fun e=>(e.2,slot)) s):bL (bJ P w) A (Y4 a slot k ep) Q E s:=by
 unfold Y4
 refine aO (i8 ha hd hf ?_)
 refine aO (Gg ?_)
 rw[hl]
 simp only[Ld,↓reduceIte,bne_self_eq_false,cC]
 unfold setWalk
 refine aO (aO (i8 ha hd hf ?_))
 refine aO (Gg ?_)
 rw[hl]
 simp only[Ld,↓reduceIte]
 exact aO (Nr (bg (bg h)))
structure YS(P:b7)(w:cU)(a:Addr)(o:Obj)(I:Addr)(ord:au)(n ep:Nat)(fp:ag)(St:Nat->Heap->Prop):Prop where
 sub:I∈fp
 walks:∀A:cX,A.handled=ab->Walks P w A I fp [I] n (fun i v=>ord[i]?=aa v) St
theorem QE(hl:nA w=ae)(hd:o.data=.set es ep t)(hf:t.fits es.size=ae)(tl:t.led=ae)(pl:t.plain=ae\/es.size<=1)(ri:Qm t.place.toList)(ne:a≠I):
 YS P w a o I (es.toList.map (·.2)) es.size ep [I,a] fun i h=>h.get? a=aa o/\h.get? I=aa (TQ (.int ((match i with|0=>0|k+1=>t.place.getD k 0+1:Nat)) 0) i a es.size ep):=by
 have ps:t.place.size=es.size:=by
  unfold Y9 at hf;rw[cK]at hf;exact beq_iff_eq.mp hf.1
 have bl:∀i,i<=es.size->d4 t.place (match i with|0=>0|k+1=>t.place.getD k 0+1:Nat)=i:=fun i hi=>by
  cases i with
  |zero=>exact Sb ri
  |succ k=>
   have hk:k<t.place.size:=by omega
   exact Sd ri (by simp[CY,hk])
 refine⟨by simp,fun A hh=>⟨fun b hb=>by simp at hb;simp[hb],fun i h h' st k=>⟨k a (by simp) o st.1,k I (by simp) _ st.2⟩,fun i s Q E hi st q=>?_,fun s Q E st q=>?_,fun i s Q E st q=>D3 st.2 q⟩⟩
 ·have e1:es[i]?=aa es[i]:=by simp[hi]
  have hp:i<t.place.size:=by omega
  have e2:t.place[i]?=aa t.place[i]:=by simp[hp]
  refine BP hh st.2 st.1 hd hf (aa (es[i].2,t.place[i]+1)) (fun Q' E' q'=>HI hl st.1 hd hf tl pl ri ?_) fun h' g k=>?_
  ·rw[bl i (by omega),e1,e2]
   exact q'
  refine q _ h' s.toks (by simp[hi]) ⟨k a o ne st.1,?_⟩ fun b u nb e=>k b u (by simpa using nb) e
  rw[g]
  simp[CY,hp]
 refine BP hh st.2 st.1 hd hf ab (fun Q' E' q'=>HI hl st.1 hd hf tl pl ri ?_) fun h' k=>q h' s.toks fun b u nb e=>k b u (by simpa using nb) e
 rw[bl es.size (bu _)]
 have e1:es[es.size]?=ab:=by simp
 rw[e1]
 exact q'
theorem Us(hl:nA w=af)(hd:o.data=.set es ep t)(hf:t.fits es.size=ae)(ne:a≠I):
 YS P w a o I ((pT (w.params.setOrder a ep) es).toList.map (·.2)) es.size ep [I,a] fun i h=>h.get? a=aa o/\h.get? I=aa (TQ (.int (0:Nat) 0) i a es.size ep):=by
 have sz:(pT (w.params.setOrder a ep) es).size=es.size:=by
  have:=(Kw (w.params.setOrder a ep) es).length_eq;simpa using this
 refine⟨by simp,fun A hh=>⟨fun b hb=>by simp at hb;simp[hb],fun i h h' st k=>⟨k a (by simp) o st.1,k I (by simp) _ st.2⟩,fun i s Q E hi st q=>?_,fun s Q E st q=>?_,fun i s Q E st q=>D3 st.2 q⟩⟩
 ·have hp:i<(pT (w.params.setOrder a ep) es).size:=by omega
  have e2:(pT (w.params.setOrder a ep) es)[i]?=aa (pT (w.params.setOrder a ep) es)[i]:=by simp[hp]
  refine BP hh st.2 st.1 hd hf (aa ((pT (w.params.setOrder a ep) es)[i].2,0)) (fun Q' E' q'=>Kz hl st.1 hd hf ?_) fun h' g k=>?_
  ·rw[e2]
   exact q'
  refine q _ h' s.toks (by simp[hp]) ⟨k a o ne st.1,g⟩ fun b u nb e=>k b u (by simpa using nb) e
 refine BP hh st.2 st.1 hd hf ab (fun Q' E' q'=>Kz hl st.1 hd hf ?_) fun h' k=>q h' s.toks fun b u nb e=>k b u (by simpa using nb) e
 have e1:(pT (w.params.setOrder a ep) es)[es.size]?=ab:=by simp[sz]
 rw[e1]
 exact q'
theorem QF{T:Addr}{pl:List Nat}(hd:o.data=.set es ep t)(hf:t.fits es.size=ae)(pm:pl.Perm (bw es.size))(ne:a≠I)(nT:T≠I):
 YS P w a o I (pl.map fun p=>(es.getD p (0,.none)).2) es.size ep [I,a,T] fun i h=>h.get? a=aa o/\h.get? T=aa {cls:=.type "tuple",data:=.seq (pl.map fun(i:Nat)=>j4 i).toArray}/\h.get? I=aa (TQ (.ref T) i a es.size ep):=by
 have len:pl.length=es.size:=by
  have:=pm.length_eq;simpa using this
 refine⟨by simp,fun A hh=>⟨fun b hb=>by simp at hb;simp[hb],fun i h h' st k=>⟨k a (by simp) o st.1,k T (by simp) _ st.2.1,k I (by simp) _ st.2.2⟩,fun i s Q E hi st q=>?_,fun s Q E st q=>?_,fun i s Q E st q=>D3 st.2.2 q⟩⟩
 ·have hp:i<pl.length:=by omega
  have e2:pl[i]?=aa pl[i]:=by simp[hp]
  have hm:pl[i]<es.size:=by
   have:=pm.mem_iff.mp (Gr hp);simpa using this
  refine HJ hh st.2.2 st.2.1 st.1 hd hf ?_
  rw[e2]
  refine⟨es[pl[i]],by simp[hm],fun h' g k=>?_⟩
  exact q _ h' s.toks (by simp[hp,CY,hm]) ⟨k a o ne st.1,k T _ nT st.2.1,g⟩ fun b u nb e=>k b u (by simpa using nb) e
 refine HJ hh st.2.2 st.2.1 st.1 hd hf ?_
 have e1:pl[es.size]?=ab:=by simp[len]
 rw[e1]
 exact fun h' k=>q h' s.toks fun b u nb e=>k b u (by simpa using nb) e
end
def Kept(h h':Heap):Prop:=∀b o,h.get? b=aa o->h'.get? b=aa o
theorem Kept.trans(a:Kept h h1)(b:Kept h1 h2):Kept h h2:=fun x o e=>b x o (a x o e)
theorem Kept.push{o:Obj}:Kept h (h.push o):=fun _ _ e=>a9 _ e
section
variable{P:b7}{w:cU}{A:cX}{E:ar}{s:bf}{r:Addr}{T:String}{n:Nat}
theorem IA{OK:(Nat->aY->Prop)->Prop}{R:au->bf->Prop}(hT:s.TypeIs (.ref r) T)(nl:(iT T==iT "list")=af)(nt:(iT T==iT "tuple")=af)(hn:n<=bz)
 (hint:∀(E:ar)(s':bf)(Q:Bool->bf->Prop),Kept s.heap s'.heap->(∀b tk,Q b {s' with toks:=tk})->bL (bJ P w) A.in1 (iO (.ref r)) Q E s')
 (iter:∀(E:ar)(s':bf)(Q:ar),Kept s.heap s'.heap->(∀I h' d' V fp St,Kept s'.heap h'->(∀b∈fp,b=r\/s'.heap.objs.size<=b)->s'.heap.objs.size<=I->OK V->Walks P w A.in1 I fp [I] n V St->St 0 h'->Q (.ref I) {s' with heap:=h',drawn:=d'})->
  bL (bJ P w) A.in1 (Sm (.ref r)) Q E s')
 (q:∀h' tk d' V acc,Kept s.heap h'->s.heap.objs.size<h'.objs.size->OK V->ItemsOf V acc n->R acc.toList {s with heap:=h',toks:=tk,drawn:=d'}):bL (bJ P w) A (collect (.ref r)) R E s:=by
 unfold collect
 refine aO (wpAny_runValue (jc entry_proto_collect' ?_))
 rw[iJ PySem.F.plain_proto_collect _]
 show bL _ A.in1 (newList []>>=fun l=>again (.builtin "list.__iadd__" ⟨[l,.ref r],[]⟩)) _ _ s
 refine aO (j7 (bg ⟨oN K9 _,jc entry_list_iadd' ?_⟩))
 rw[iJ K9 _]
 generalize hS0:s.heap.objs.size=S
 have g0:(s.heap.push {cls:=.type "list",data:=.seq ([]:au).toArray}).get? S=aa {cls:=.type "list",data:=.seq #[]}:=by rw[<-hS0];exact bH _ rfl
 show bL _ A.in1 (iP (.ref S) (.ref r) (.ref S)) _ _ _
 generalize hp:s.heap.push {cls:=.type "list",data:=.seq ([]:au).toArray}=h0 at g0
 have k0:=hp▸Kept.push
 have rS:r<S:=by
  obtain⟨o,ho,_⟩:=hT;rw[<-hS0];exact bF ho
 unfold iP
 refine aO (Y0 (T:=T) (s:={s with heap:=h0}) (let⟨o,ho,hc⟩:=hT;⟨o,k0 _ _ ho,hc⟩) ?_)
 have e1:lJ (.ref S) (.ref r)=af:=by simp[lJ,dk rS]
 simp only[e1,nl,nt,k6,cC,if_false]
 refine aO (iter _ {s with heap:=h0} _ k0 fun I h1 d1 V fp St k1 fpo Io ok W st=>?_)
 have s0:=bF g0
 have g1:=k1 _ _ g0
 have nS:S∉fp:=fun z=>by
  rcases fpo S z with e|e
  ·exact absurd e (dk rS)
  exact absurd (bI s0 e) (gC _)
 have key:∀(h:Heap)(c₁ tk:Nat),St 0 h->(∀b o,b≠S->h1.get? b=aa o->h.get? b=aa o)->h.get? S=aa {cls:=.type "list",data:=.seq #[] c₁}->
  jx (bJ P w) A (.builtin "list.extend.loop" ⟨[.ref S,.ref I,.ref S],[]⟩) (fun q s'=>∃h' tk acc c,q=.ok (.ret (.ref S))/\s'={s with heap:=h',toks:=tk,drawn:=d1}/\Kept s.heap h'/\h'.get? S=aa {cls:=.type "list",dict:=ab,data:=.seq acc c,slots:=#[]}/\ItemsOf V acc n)
   {s with heap:=h,toks:=tk,drawn:=d1}:=fun h c₁ tk GJ k g=>by
  refine codeAny_extend_loopS W.toS hn S nS (.ref S) n 0 _ #[] c₁ rfl (cB _) GJ g (ItemsOf.nil _) fun s' acc c mv g' it=>?_
  rw[Moved.eq_with mv]
  refine⟨s'.heap,s'.toks,acc,c,rfl,rfl,fun b o e=>?_,g',it⟩
  have hb:b<S:=by rw[<-hS0];exact bF e
  refine mv.heap b o (fun z=>?_) (k b o (cg hb) (k1 b o (k0 b o e)))
  rcases bP.mp z with z|z
  ·exact absurd z (cg hb)
  exact absurd (bT.mp z) (cg (bI (mf hb s0) Io))
 have fin:∀(x:Ew)(s':bf),(∃h' tk acc c,x=.ok (.ret (.ref S))/\s'={s with heap:=h',toks:=tk,drawn:=d1}/\Kept s.heap h'/\h'.get? S=aa {cls:=.type "list",dict:=ab,data:=.seq acc c,slots:=#[]}/\ItemsOf V acc n)->
  ∀v,x=.ok (.ret v)->bL (bJ P w) A (match v with|.ref a=>(load a>>=fun o=>match o.data with|.seq xs _=>pure xs.toList|_=>wU "internal:collect")|_=>wU "internal:collect") R E s':=fun x s' ⟨h',tk,acc,c,e,es,kk,g',it⟩ v ev=>by
  subst e
  cases ev
  subst es
  exact aO (IL g' (bg (q h' tk d1 V acc kk (hS0▸bF g') ok it)))
 have loop:∀(h:Heap)(c₁ tk:Nat),St 0 h->(∀b o,b≠S->h1.get? b=aa o->h.get? b=aa o)->h.get? S=aa {cls:=.type "list",data:=.seq #[] c₁}->
  jx (bJ P w) A (.builtin "list.extend.loop" ⟨[.ref S,.ref I,.ref S],[]⟩) (fun x s'=>match x with|.ok (.ret v)=>bL (bJ P w) A (match v with|.ref a=>(load a>>=fun o=>match o.data with|.seq xs _=>pure xs.toList|_=>wU "internal:collect")|_=>wU "internal:collect") R E s'|.ok _=>False|.error e=>E e s')
   {s with heap:=h,toks:=tk,drawn:=d1}:=fun h c₁ tk GJ k g=>by
  refine iS (key h c₁ tk GJ k g) fun x s' y=>?_
  obtain⟨h',tk',acc,c,e,r⟩:=id y
  subst e
  exact fin _ s' y _ rfl
 refine aO (d7 (hint _ _ _ (k0.trans k1) fun b tk=>?_))
 refine jb (fun _=>?_) (fun _=>bg ⟨oN ic _,loop h1 0 tk st (fun b o _ e=>e) g1⟩)
 refine aO (IK (aO ?_))
 show bL _ _ (EY S (·.push .none)>>=fun _=>EY S (·.pop)) _ _ _
 refine aO (oY g1 rfl ?_)
 have g2:=dO (dS (·.push eF)) g1 rfl
 refine oY (hz:=by seq_fits) g2 rfl ?_
 have g3:=dO (dS (·.pop)) g2 rfl
 have Ts:∀b o,b≠S->h1.get? b=aa o->((h1.update S (dS (·.push eF))).update S (dS (·.pop))).get? b=aa o:=fun b o hb e=>
  (cq _ _ (de hb)).trans ((cq _ _ (de hb)).trans e)
 exact bg ⟨oN ic _,loop _ _ tk (W.frame 0 _ _ st fun b hb o e=>Ts b o (fun z=>nS (z▸hb)) e) Ts g3⟩
end
theorem xG{α:Type}[DecidableEq α]:∀{l m:List α},l.Nodup->(∀x∈l,x∈m)->m.length=l.length->l.Perm m
 |[],m,_,_,h=>by
  have e:=oG.mp h;subst e;exact gO _
 |a::l,m,nd,sub,h=>by
  have hm:=sub a (bM ..);have p:=List.perm_cons_erase hm;obtain⟨na,nl⟩:=iV.mp nd;refine Ey (VQ a (xG nl (fun x hx=>?_) ?_)) p.symm
  ·have ne:x≠a:=fun z=>na (z▸hx);exact(List.mem_erase_of_ne ne).mpr (sub x (bC _ hx))
  rw[List.length_erase_of_mem hm,h];rfl
theorem uL(val:Nat->Int):∀i,(m7 val i).Nodup
 |0=>by rw[firstMet_zero];exact Lb
 |i+1=>by
  rw[VO];unfold step_dedup;split
  ·exact uL val i
  rename_i hn;rw[u9];refine⟨uL val i,by simp,fun a ha b hb e=>?_⟩;rw[bT]at hb;subst hb;subst e;exact hn (fg.mpr ⟨_,ha,by simp⟩)
theorem range_getD(ns:List Int):(bw ns.length).map (fun i=>ns.getD i 0)=ns:=by
 refine jq (by simp) fun i h1 h2=>?_;simp[bE h2]
def met(ns:List Int):List Int:=m7 (fun i=>ns.getD i 0) ns.length
theorem BR(ns:List Int)(k:Int):k∈met ns↔k∈ns:=by
 have e:=firstMet_any (fun i=>ns.getD i 0) ns.length k;rw[range_getD]at e;have f:∀l:List Int,l.any (· ==k)=ae↔k∈l:=fun l=>by simp
 rw[<-f ns,<-e,f];rfl
theorem Tx(ns:List Int):(met ns).length<=ns.length:=firstMet_length_le _ _
def ab4(P:b7)(w:cU)(a:Addr)(ns:List Int)(h:Heap):Prop:=qU P w h a (nA w) (fun z=>(met ns).any (· ==z)) (met ns).length
theorem ints_of{w:cU}:∀{l:List (Int×aY)},ElemsOf (jP P w) l->∃ms,kM (l.map (·.2)) ms/\∀k,k∈ms↔∃e∈l,(jP P w).is k e.2=ae
 |[],_=>⟨[],.nil,fun k=>by simp⟩
 |e::l,h=>by
  obtain⟨⟨k,hk,_⟩,_⟩:=h.head;obtain⟨ms,h1,h2⟩:=ints_of h.tail;obtain⟨t,et⟩:=VZ hk;refine⟨k::ms,by rw[dC,et];exact .cons k t h1,fun j=>?_⟩;rw[bP,h2];constructor
  ·rintro(z|⟨x,hx,z⟩)
   ·subst z;exact⟨e,bM ..,hk⟩
   exact⟨x,bC _ hx,z⟩
  rintro⟨x,hx,z⟩;rcases bP.mp hx with q|q
  ·subst q;exact .inl ((jP P w).inj _ _ _ z hk)
  exact .inr ⟨x,q,z⟩
theorem U8:∀{vs us:au},us.Perm vs->∀{ms:List Int},kM vs ms->∃ns,kM us ns/\ns.Perm ms:=fun{vs us} p=>by
 induction p with
 |nil=>intro ms h;exact⟨ms,h,gO _⟩
 |cons x _ ih=>
  intro ms h;cases h with
  |cons n t h=>
   obtain⟨ns,a,b⟩:=ih h;exact⟨n::ns,.cons n t a,b.cons n⟩
 |swap x y l=>
  intro ms h;cases h with
  |cons n t h=>
   cases h with
   |cons m u h=>exact⟨m::n::_,.cons m u (.cons n t h),FU ..⟩
 |trans _ _ ih1 ih2=>
  intro ms h;obtain⟨a,a1,a2⟩:=ih2 h;obtain⟨b,b1,b2⟩:=ih1 a1;exact⟨b,b1,b2.trans a2⟩
section
variable{P:b7}{w:cU}{A:cX}{E:ar}{s:bf}{a:Addr}{ns:List Int}
theorem WW{Q:Bool->bf->Prop}(hT:s.TypeIs (.ref a) "set")(h:Q af s):bL (bJ P w) A (iO (.ref a)) Q E s:=by
 unfold iO;refine aO (Bb hT PySem.F.slot_set_len.lookup ?_);generalize hid:("set.__len__":String)=id0;wp_delta;rw[show splitId id0=aa ("set","__len__")from by subst hid;decide+kernel];subst hid;refine aO (rZ (T:="set") (b:=ae) hT (by rw[Sq];kernel_rfl) ?_);refine jb (fun z=>absurd z (by decide)) fun _=>?_;refine jb (fun _=>aO (Y0 hT (bg h))) fun z=>absurd (by decide+kernel) z
theorem WV{o:Obj}{t:oQ}(hh:A.handled=ab)(ha:s.heap.get? a=aa o)(hx:o.ExactSet)(hd:o.data=.set es ep t)(hf:t.fits es.size=ae)(tj:TJ (nA w) t)(j6:es.size<pS){Q:ar}
 (q:∀I h' d' V fp St,Kept s.heap h'->(∀b∈fp,b=a\/s.heap.objs.size<=b)->s.heap.objs.size<=I->(∃ord:au,V=(fun i v=>ord[i]?=aa v)/\ord.Perm (es.toList.map (·.2)))->Walks P w A I fp [I] es.size V St->St 0 h'->Q (.ref I) {s with heap:=h',drawn:=d'}):
 bL (bJ P w) A (Sm (.ref a)) Q E s:=by
 have hT:s.TypeIs (.ref a) "set":=⟨o,ha,hx.1⟩
 have la:=bF ha
 refine wpAny_pyIter_slot hT NS (jD NS hT Yr ?_ (PySem.F.args_set_iter_1 _))
 unfold Builtin.«frozenset.__iter__» abr abt setDrawn
 refine aO (aO (bg (bg ?_)))
 refine aO (aO (FI ha hd hf (bg ?_)))
 refine aO ?_
 refine aO (i8 ha hd hf ?_)
 refine aO (Gg (bg ?_))
 refine jb (fun z=>?_) fun z=>?_
 ·have z:=z
  refine aO (RP es.size (bw es.size) s _ (by simp) fun pl d' pm=>?_)
  have len:pl.length=es.size:=by have:=pm.length_eq;simpa using this
  refine aO (Sj ?_ (by rw[aV,len,bX];unfold pS at j6;omega))
  refine aO ?_
  unfold setEpoch
  refine aO (i8 (a9 _ ha) hd hf (bg ?_))
  refine aO (j7 (bg ⟨_,rfl,"set_iterator",_,⟨_,bH _ rfl,rfl⟩,vj.lookup,?_⟩) (by size_fits))
  have sz:(s.heap.push {cls:=.type "tuple",data:=.seq (pl.map fun(i:Nat)=>j4 i).toArray}).objs.size=s.heap.objs.size+1:=dz _ _
  rw[sz]
  have Wk:=QF (P:=P) (w:=w) (a:=a) (o:=o) (I:=s.heap.objs.size+1) (T:=s.heap.objs.size) hd hf pm (cg (eP la)) (cg (eN _))
  refine q (s.heap.objs.size+1) _ d' _ _ _ (Kept.push.trans Kept.push) (fun b hb=>?_) (qY _) ⟨_,rfl,?_⟩ (Wk.walks A hh) ⟨a9 _ (a9 _ ha),a9 _ (bH _ rfl),?_⟩
  ·simp only[bP,kb,or_false]at hb
   rcases hb with e|e|e
   ·exact .inr (e▸qY _)
   ·exact .inl e
   exact .inr (e▸bu _)
  ·have e:es.toList.map (·.2)=(bw es.size).map fun p=>(es.getD p (0,.none)).2:=by
    refine jq (by simp) fun i h1 h2=>?_;have hi:i<es.size:=by simpa using h1
    simp[CY,hi]
   rw[e]
   exact pm.map _
  rw[<-sz]
  exact bH _ rfl
 have z:¬(!!nA w&&(!t.plain&&decide (es.size>1)))=ae:=z
 refine aO (bg (aO ?_))
 unfold setEpoch
 refine aO (i8 ha hd hf (bg ?_))
 refine aO (j7 (bg ⟨_,rfl,"set_iterator",_,⟨_,bH _ rfl,rfl⟩,vj.lookup,?_⟩) (by size_fits))
 have fo:∀b∈[s.heap.objs.size,a],b=a\/s.heap.objs.size<=b:=fun b hb=>by
  simp only[bP,kb,or_false]at hb;rcases hb with e|e
  ·exact .inr (e▸bu _)
  exact .inl e
 have gI:(s.heap.push (TQ (.int (0:Nat) 0) 0 a es.size ep)).get? s.heap.objs.size=aa (TQ (.int (0:Nat) 0) 0 a es.size ep):=bH _ rfl
 cases hl:nA w with
 |false=>exact q s.heap.objs.size _ s.drawn _ _ _ Kept.push fo (bu _) ⟨_,rfl,(Kw _ es).map _⟩ ((Us hl hd hf (cg la)).walks A hh) ⟨a9 _ ha,gI⟩
 |true=>
  rw[hl]at z tj
  have pl:t.plain=ae\/es.size<=1:=by
   cases hp:t.plain with
   |true=>exact .inl rfl
   |false=>
    rw[hp]at z;right;rcases jf 1 es.size with y|y
    ·exact absurd (by simp[y]) z
    exact y
  have ps:t.place.size=es.size:=by
   unfold Y9 at hf;rw[cK]at hf;exact beq_iff_eq.mp hf.1
  have ri:Qm t.place.toList:=by
   rcases pl with y|y
   ·exact tj.2 y
   unfold Qm;have l1:t.place.toList.length<=1:=by rw[cY,ps];exact y
   match hq:t.place.toList,l1 with
   |[],_=>exact kg
   |[x],_=>exact oF _ _
  exact q s.heap.objs.size _ s.drawn _ _ _ Kept.push fo (bu _) ⟨_,rfl,gO _⟩ ((QE hl hd hf tj.1 pl ri (cg la)).walks A hh) ⟨a9 _ ha,gI⟩
theorem QY(hh:A.handled=ab)(hS:ab4 P w a ns s.heap)(j6:ns.length<64){Q:ar}
 (q:∀D h' tk d' out ms c,Kept s.heap h'->s.heap.objs.size<=D->h'.get? D=aa (iR "list" out c)->kM out.toList ms->ms.Pairwise (· <·)->(∀k,k∈ms↔k∈ns)->Q (.ref D) {s with heap:=h',toks:=tk,drawn:=d'}):
 bL (bJ P w) A (call (.builtin "sorted") [.ref a]) Q E s:=by
 obtain⟨o,es,ep,t,ha,hx,hd,el,mb,b,hf,en,tj⟩:=hS
 have hT:s.TypeIs (.ref a) "set":=⟨o,ha,hx.1⟩
 have l1:=Tx ns
 refine Calls.call_function_entry kind_sorted plain_sorted entry_sorted (args_sorted1 _) ?_
 unfold Builtin.«sorted»
 refine aO (m:=checkCount "sorted" 1 1 _) (bg ?_)
 refine aO (IA (A:=A.in1) (n:=es.size) (OK:=fun V=>∃ord:au,V=(fun i v=>ord[i]?=aa v)/\ord.Perm (es.toList.map (·.2))) hT (by decide) (by decide) (by rw[bX];omega)
  (fun E s' Q k h=>WW ⟨o,k _ _ ha,hx.1⟩ (h af s'.toks)) (fun E s' Q k h=>WV (by simpa using hh) (k _ _ ha) hx hd hf tj b h) fun h' tk d' V acc k big ok it=>?_)
 obtain⟨ord,rfl,pm⟩:=ok
 obtain⟨m0,i0,i1⟩:=ints_of el
 obtain⟨m1,j0,j1⟩:=U8 pm i0
 have e0:acc.toList=ord:=by
  have hl:ord.length=es.size:=by have:=pm.length_eq;simpa using this
  refine va fun i=>?_;rcases jf i es.size with y|y
  ·have hi:i<acc.size:=by rw[it.1];exact y
   have:=it.2 i acc[i] (by simp[hi]);rw[this];simp[hi]
  rw[dY (by rw[cY,it.1];exact y),dY (by omega)]
 rw[e0]
 have ol:ord.length=es.size:=by have:=pm.length_eq;simpa using this
 refine aO (VM ?_ (by rw[ol,bX];omega))
 have gD:(h'.push (iR "list" ord.toArray 0)).get? h'.objs.size=aa (iR "list" ord.toArray 0):=bH _ rfl
 refine aO (d7 (jD slot_list_sort ⟨_,gD,rfl⟩ entry_list_sort (list_sort_tree (n:=0) gD j0 (by omega) fun out ms p1 p2 p3=>⟨_,rfl,?_⟩) (args_list_sort _)))
 obtain⟨c,gE⟩:=sortedHeap_at (out:=out) gD
 have pk:∀k,k∈m0↔k∈ns:=fun k=>by
  rw[i1,<-mb];have z:(met ns).any (· ==k)=ae↔k∈met ns:=by simp
  rw[z,BR]
 have nd:m0.Nodup:=by
  have lm:m0.length=(met ns).length:=by rw[<-i0.length,aV,cY,en]
  have pp:=xG (uL _ _) (fun x hx=>(pk x).mpr ((BR ns x).mp hx)) lm;exact pp.nodup_iff.mp (uL _ _)
 have nd2:=(p2.trans j1).nodup_iff.mpr nd
 refine bg ⟨_,rfl,q _ _ tk d' out ms c (fun b u e=>?_) ?_ gE p1 ?_ fun k=>?_⟩
 ·have hb:=bF (k b u e)
  rw[sortedHeap_old (cg hb) (bI hb (by rw[dz];exact qY _))]
  exact a9 _ (k b u e)
 ·exact dm big
 ·have:=p3.and nd2
  exact this.imp fun h=>by omega
 rw[(p2.trans j1).mem_iff,pk]
end
end sI
end
section
namespace XL
open PySem PySem.Spec PyProof.Rows L2 sI
section
variable{X:Cx}{pins:ah}{σ:L2.St}{H:Hp}{s:bf}
theorem Inv.drawn(I:Inv X pins σ H s)(d:Drawn):Inv X pins σ H {s with drawn:=d}:=⟨I.ok,I.os,I.bare,I.base,I.loc,I.cell,I.free,I.pY,I.pin,I.gd,I.len⟩
def ZX(P:b7)(w:cU)(a:Addr)(ns:List Int):HO:=.ext (ab4 P w a ns)
inductive aiR(X:Cx)(vs:ao)(H:Hp)(Q:VK):Prop
 |mk (a:Addr) (ns:List Int) (_:vs=[V.ref a]) (_:du X.K H a (ns.map V.int)) (_:ns.length<64) (_:∀p,H p=ab->Q (.ref p) (upd H p (ZX X.prog X.w p ns)))
theorem aey(hc:X.calm=ae):wD X (.type "set") (aiR X):=by
 intro pins s σ H vs us Q I r h;obtain⟨a,ns,rfl,hs,j6,q⟩:=h;obtain⟨its,rv,hl,_⟩:=I.list hs;rw[Vals.ac5 r];have hi:=rv.ints;have hz:its.toArray.size=ns.length:=by rw[bY];exact hi.length
 refine YA (ns:=ns) (I.ok.hd hc) hl.isList (by simpa using hi) (by rw[hz];unfold pS;omega) fun h' tk sj k=>?_;rw[hz]at sj;refine⟨.ref _,upd H s.heap.objs.size (ZX X.prog X.w s.heap.objs.size ns),I.laid (t':=tk) k (bu _) ⟨sj,?_,fun h1 h2 x kk=>x.keep kk⟩,rfl,q _ (I.gd.fresh (bu _))⟩;obtain⟨o,_,_,_,e,_⟩:=sj;exact⟨o,e⟩
inductive W5(X:Cx)(vs:ao)(H:Hp)(Q:VK):Prop
 |mk (a:Addr) (ns:List Int) (_:vs=[V.ref a]) (_:H a=aa (ZX X.prog X.w a ns)) (_:ns.length<64) (_:∀(ms:List Int)(p:Addr),ms.Pairwise (· <·)->(∀k,k∈ms↔k∈ns)->H p=ab->Q (.ref p) (upd H p (.lst (ms.map V.int))))
theorem RV(hc:X.calm=ae):wD X (.builtin "sorted") (W5 X):=by
 intro pins s σ H vs us Q I r h;obtain⟨a,ns,rfl,hs,j6,q⟩:=h;obtain⟨sj,_⟩:=I.gd a _ hs;rw[Vals.ac5 r];refine QY (I.ok.hd hc) sj j6 fun D h' tk d' out ms c k big g i0 so mem=>?_;have nd:ms.Nodup:=so.imp fun h=>by omega
 have len:ms.length<=64:=by
  have p:(ms.Perm (met ns)):=xG nd (fun x hx=>(BR ns x).mpr ((mem x).mp hx)) (by
   have p2:(met ns).length=ms.length:=by
    have a1:(met ns).Nodup:=uL _ _;exact Nat.le_antisymm (jS a1 fun x hx=>(mem x).mpr ((BR ns x).mp hx)) (jS nd fun x hx=>(BR ns x).mpr ((mem x).mp hx))
   exact p2)
  have:=p.length_eq;have:=Tx ns;omega
 exact⟨.ref D,upd H D (.lst (ms.map V.int)),Inv.drawn (I.laid (o:=.lst (ms.map V.int)) (t':=tk) k big ⟨by rw[aV,bX];omega,out.toList,c,qO i0,g⟩) d',rfl,q ms D so mem (I.gd.fresh big)⟩
end
end XL
end
section
namespace sI
open PySem PySem.Spec PyProof.Rows
def zO(f:aY)(b:Bool)(TI TO:Addr):Obj:={cls:=.type "zip",dict:=ab,data:=.fields #[f,.bool b,.bool af,.ref TI,.ref TO],slots:=#[]}
section
variable{P:b7}{w:cU}{A:cX}{E:ar}{s:bf}{z TI TO i1 i2 l1 l2 T:Addr}{b:Bool}{k:Nat}{xs ys:Array aY}
theorem N1{Q:Bool->bf->Prop}(hz:s.heap.get? z=aa (zO (.int (T:Nat) 0) b TI TO))(al:∃o,s.heap.get? T=aa o)(q:∀h',h'.get? z=aa (zO (.int (T:Nat) 0) ae TI TO)->kN z s.heap h'->Q af {s with heap:=h'}):
 bL (bJ P w) A (uo (.ref z)) Q E s:=by
 unfold uo
 refine aO (gY hz rfl (x:=.int (T:Nat) 0) rfl ?_)
 obtain⟨o,ho⟩:=al
 simp only
 have e:((T:Nat):Int).toNat=T:=by simp
 rw[e]
 refine aO (m:=loadIfAlive T) ?_
 have la:bL (bJ P w) A (loadIfAlive T) (fun r s'=>r=aa o/\s'=s) E s:=by
  intro Γ p hΓ;exact⟨ho,rfl⟩
 refine eD la (fun r s' h=>?_) fun _ _ h=>h
 obtain⟨rfl,rfl⟩:=h
 simp only[Option.isNone_some,cC,↓reduceIte]
 refine aO (gY hz rfl (x:=.bool b) rfl ?_)
 cases b with
 |true=>
  simp only[bne_self_eq_false,cC,↓reduceIte]
  exact bg (q s'.heap hz (NF _ _))
 |false=>
  refine jb (fun _=>?_) fun n=>absurd rfl n
  refine aO (jI hz (by simp) fun h1 g1 b1=>?_)
  exact bg (q h1 g1 b1)
theorem Lf{Q:Option aY->bf->Prop}{y:aY}(D:Sw z TI TO i1 i2 l1 l2)(hz:s.heap.get? z=aa (zO (.int (T:Nat) 0) b TI TO))(al:∃o,s.heap.get? T=aa o)(hTI:yw s.heap TI (.ref i1) (.ref i2))
 (h1:s.heap.IsListIter i1 l1 k)(h2:s.heap.IsListIter i2 l2 k)(NL:s.heap.IsList l1 xs)(uq:s.heap.IsList l2 ys)(hx:xs[k]?=aa x)(hy:ys[k]?=aa y)
 (q:∀h',h'.get? z=aa (zO (.int (T:Nat) 0) ae TI TO)->h'.IsListIter i1 l1 (k+1)->h'.IsListIter i2 l2 (k+1)->yw h' s.heap.objs.size x y->(∀c o,c≠z->c≠i1->c≠i2->s.heap.get? c=aa o->h'.get? c=aa o)->Q (aa (.ref s.heap.objs.size)) {s with heap:=h'}):
 bL (bJ P w) A (qF (.ref z)) Q E s:=by
 have hT:s.TypeIs (.ref z) "zip":=⟨_,hz,rfl⟩
 unfold qF
 refine aO (oM (kQ (name:=jd "__next__") hT o3 (jD o3 hT ND ?_ (La _))))
 unfold Builtin.«zip.__next__»
 refine aO (bg ?_)
 simp only
 refine aO (gY hz rfl (x:=.bool af) rfl ?_)
 refine aO (gY hz rfl (x:=.ref TI) rfl ?_)
 refine aO (Ep hTI rfl ?_)
 refine aO (N1 hz al fun h0 z0 s0=>?_)
 simp only[cC,↓reduceIte]
 refine aO ?_
 rw[<-CZ]
 simp only[nN,tF]
 refine aO (aO (d7 ?_))
 show bL _ _ (o5 (.ref i1)>>=_) _ _ _
 refine aO (Y2 (h1.extBut s0.extBut D.i1z) (NL.extBut s0.extBut D.l1z) hx fun h2 g2 b2=>bg (bg ?_))
 refine aO (aO (d7 ?_))
 show bL _ _ (o5 (.ref i2)>>=_) _ _ _
 refine aO (Y2 ((‹s.heap.IsListIter i2 l2 k›.extBut s0.extBut D.i2z).extBut b2.extBut D.i12.symm) ((uq.extBut s0.extBut D.l2z).extBut b2.extBut D.l2i1) hy fun h4 g4 b4=>bg (bg (bg ?_)))
 simp only
 refine aO (Sj ?_ (by show 2<=bz;decide))
 have sz:h4.objs.size=s.heap.objs.size:=by rw[b4.1,b2.1,s0.1]
 refine bg ⟨_,rfl,bg ?_⟩
 rw[sz]
 refine q _ (a9 _ (b4.extBut _ _ D.i2z.symm (b2.extBut _ _ D.i1z.symm z0))) ((g2.extBut b4.extBut D.i12).at fun o e=>a9 _ e) (g4.at fun o e=>a9 _ e) (by rw[<-sz];exact bH _ rfl) fun c o c1 c2 c3 e=>a9 _ (b4.extBut _ _ c3 (b2.extBut _ _ c2 (s0.extBut _ _ c1 e)))
theorem N0{Q:Option aY->bf->Prop}(hh:A.handled=ab)(D:Sw z TI TO i1 i2 l1 l2)(hz:s.heap.get? z=aa (zO (.int (T:Nat) 0) b TI TO))(al:∃o,s.heap.get? T=aa o)(hTI:yw s.heap TI (.ref i1) (.ref i2))
 (h1:s.heap.IsListIter i1 l1 k)(NL:s.heap.IsList l1 xs)(hx:xs[k]?=ab)(q:∀h',(∀c o,c≠z->c≠i1->s.heap.get? c=aa o->h'.get? c=aa o)->Q ab {s with heap:=h'}):
 bL (bJ P w) A (qF (.ref z)) Q E s:=by
 have hT:s.TypeIs (.ref z) "zip":=⟨_,hz,rfl⟩
 unfold qF
 refine aO (oM (kQ (name:=jd "__next__") hT o3 (jD o3 hT ND ?_ (La _))))
 unfold Builtin.«zip.__next__»
 refine aO (bg ?_)
 simp only
 refine aO (gY hz rfl (x:=.bool af) rfl ?_)
 refine aO (gY hz rfl (x:=.ref TI) rfl ?_)
 refine aO (Ep hTI rfl ?_)
 refine aO (N1 hz al fun h0 z0 s0=>?_)
 simp only[cC,↓reduceIte]
 refine aO ?_
 rw[<-CZ]
 simp only[nN,tF]
 refine aO (aO (d7 ?_))
 show bL _ _ (o5 (.ref i1)>>=_) _ _ _
 refine aO (Zu (by simpa using hh) (h1.extBut s0.extBut D.i1z) (NL.extBut s0.extBut D.l1z) hx fun h2 e k2 ⟨o,ho,hc⟩=>?_)
 refine aO (rZ (T:="StopIteration") (b:=ae) ⟨o,ho,hc⟩ Et ?_)
 exact bg (q h2 fun c o c1 c2 e=>k2 c o c2 (s0.extBut _ _ c1 e))
end
structure Zs(z TI TO i1 i2 l1 l2 S lo:Addr)(xs ys:Array aY)(h:Heap)(ts:ag):Prop where
 zip:(ts=[]/\IsZip h z TI TO .none/\∃a b,yw h TO a b)\/(∃T b,ts.head?=aa T/\h.get? z=aa (zO (.int (T:Nat) 0) b TI TO))
 ti:yw h TI (.ref i1) (.ref i2)
 it1:h.IsListIter i1 l1 ts.length
 it2:h.IsListIter i2 l2 ts.length
 ls1:h.IsList l1 xs
 ls2:h.IsList l2 ys
 got:∀(j:Nat)(t:Addr),ts[j]?=aa t->lo<=t/\∃x y,xs[j]?=aa x/\ys[j]?=aa y/\yw h t x y
 lst:∃c,h.get? S=aa {cls:=.type "list",dict:=ab,data:=.seq (ts.map cp).toArray c,slots:=#[]}
 rise:ts.Pairwise (· <·)
 big:lo<=h.objs.size
theorem Zs.low{TI TO lo:Addr}(d:Zs z TI TO i1 i2 l1 l2 S lo xs ys h ts):∀t∈ts,t<h.objs.size:=fun t ht=>by
 obtain⟨j,hj⟩:=cw ht;obtain⟨_,_,_,_,_,e⟩:=d.got j t hj;exact bF e
section
variable{P:b7}{w:cU}{A:cX}{E:ar}{z TI TO i1 i2 l1 l2 S lo:Addr}{xs ys:Array aY}
theorem Zs.next{h':Heap}{y:aY}{T:Addr}{b:Bool}(D:Sw z TI TO i1 i2 l1 l2)(nS:S≠z/\S≠TO/\S≠i1/\S≠i2/\S≠TI/\S≠l1/\S≠l2)(lw:z<lo/\TO<lo/\i1<lo/\i2<lo/\S<lo)(d:Zs z TI TO i1 i2 l1 l2 S lo xs ys h ts)
 (hx:xs[ts.length]?=aa x)(hy:ys[ts.length]?=aa y)(hT:(ts++[h.objs.size]).head?=aa T)(hz:h'.get? z=aa (zO (.int (T:Nat) 0) b TI TO))(g1:h'.IsListIter i1 l1 (ts.length+1))(g2:h'.IsListIter i2 l2 (ts.length+1))
 (gp:yw h' h.objs.size x y)(k:∀c o,c≠z->c≠TO->c≠i1->c≠i2->h.get? c=aa o->h'.get? c=aa o):
 ∃c,h'.get? S=aa {cls:=.type "list",dict:=ab,data:=.seq (ts.map cp).toArray c,slots:=#[]}/\Zs z TI TO i1 i2 l1 l2 S lo xs ys (h'.update S (dS (·.push (.ref h.objs.size)))) (ts++[h.objs.size]):=by
 obtain⟨c,hS⟩:=d.lst
 have hS':=k S _ nS.1 nS.2.1 nS.2.2.1 nS.2.2.2.1 hS
 have up:∀b o,b≠S->h'.get? b=aa o->(h'.update S (dS (·.push (.ref h.objs.size)))).get? b=aa o:=fun b o hb e=>(cq _ _ (de hb)).trans e
 have big:=d.big
 have nlo:∀t,lo<=t->t≠z/\t≠TO/\t≠i1/\t≠i2/\t≠S:=fun t ht=>
  ⟨dk (bI lw.1 ht),dk (bI lw.2.1 ht),dk (bI lw.2.2.1 ht),dk (bI lw.2.2.2.1 ht),dk (bI lw.2.2.2.2 ht)⟩
 have len:(ts++[h.objs.size]).length=ts.length+1:=by simp
 refine⟨c,hS',⟨.inr ⟨T,b,hT,up z _ nS.1.symm hz⟩,up TI _ nS.2.2.2.2.1.symm (k TI _ D.TIz D.TITO D.TIi1 D.TIi2 d.ti),?_,?_,?_,?_,fun j t hj=>?_,?_,?_,?_⟩⟩
 ·rw[len]
  exact g1.at fun o e=>up i1 o nS.2.2.1.symm e
 ·rw[len]
  exact g2.at fun o e=>up i2 o nS.2.2.2.1.symm e
 ·exact d.ls1.at fun o e=>up l1 o nS.2.2.2.2.2.1.symm (k l1 o D.l1z D.l1TO D.l1i1 D.l1i2 e)
 ·exact d.ls2.at fun o e=>up l2 o nS.2.2.2.2.2.2.symm (k l2 o D.l2z D.l2TO D.l2i1 D.l2i2 e)
 ·rcases lH j ts.length with q|q|q
  ·rw[eV q]at hj
   obtain⟨a,x',y',e1,e2,e3⟩:=d.got j t hj
   obtain⟨n1,n2,n3,n4,n5⟩:=nlo t a
   exact⟨a,x',y',e1,e2,up t _ n5 (k t _ n1 n2 n3 n4 e3)⟩
  ·subst q
   rw[hJ (bu _),FQ]at hj
   cases hj
   exact⟨big,x,y,hx,hy,up _ _ (nlo _ big).2.2.2.2 gp⟩
  rw[dY (by rw[len];omega)]at hj
  cases hj
 ·have g:=dO (dS (·.push (cp h.objs.size))) hS' rfl
  have e:((ts++[h.objs.size]).map cp).toArray=(ts.map cp).toArray.push (.ref h.objs.size):=by simp
  rw[e]
  exact⟨_,g⟩
 ·rw[Uk]
  refine⟨d.rise,oF _ _,fun a ha b hb=>?_⟩
  rw[bT.mp hb]
  exact d.low a ha
 rw[l5]
 have:=bF gp
 exact cQ big (dm this)
theorem Wc{R:Ew->bf->Prop}(hh:A.handled=ab)(D:Sw z TI TO i1 i2 l1 l2)(nS:S≠z/\S≠TO/\S≠i1/\S≠i2/\S≠TI/\S≠l1/\S≠l2)(lw:z<lo/\TO<lo/\i1<lo/\i2<lo/\S<lo)(res:aY)(sz:xs.size=ys.size)(j6:xs.size<=1000):
 ∀(m:Nat)(s:bf)(ts:ag),xs.size-ts.length=m->ts.length<=xs.size->Zs z TI TO i1 i2 l1 l2 S lo xs ys s.heap ts->
  (∀(h':Heap)(us:ag)(c:Nat),us.length=xs.size->us.Pairwise (· <·)->(∀(j:Nat)(t:Addr),us[j]?=aa t->lo<=t/\∃x y,xs[j]?=aa x/\ys[j]?=aa y/\yw h' t x y)->h'.get? S=aa {cls:=.type "list",dict:=ab,data:=.seq (us.map cp).toArray c,slots:=#[]}->
   (∀b o,b≠S->b≠z->b≠TO->b≠i1->b≠i2->s.heap.get? b=aa o->h'.get? b=aa o)->R (.ok (.ret res)) {s with heap:=h'})->
  jx (bJ P w) A (.builtin "list.extend.loop" ⟨[.ref S,.ref z,res],[]⟩) R s:=by
 intro m
 have nlo:∀t,lo<=t->t≠z/\t≠TO/\t≠i1/\t≠i2/\t≠S:=fun t ht=>
  ⟨dk (bI lw.1 ht),dk (bI lw.2.1 ht),dk (bI lw.2.2.1 ht),dk (bI lw.2.2.2.1 ht),dk (bI lw.2.2.2.2 ht)⟩
 induction m with
 |zero=>
  intro s ts hk hi d q
  have e:ts.length=xs.size:=by omega
  refine jc Je ?_
  rw[iJ ic _]
  show bL _ A.in1 (qF (.ref z)>>=_) _ _ s
  have hh1:A.in1.handled=ab:=by simpa using hh
  obtain⟨c,hS⟩:=d.lst
  have fin:∀h',(∀c o,c≠z->c≠TO->c≠i1->c≠i2->s.heap.get? c=aa o->h'.get? c=aa o)->R (.ok (.ret res)) {s with heap:=h'}:=fun h' k=>by
   refine q h' ts c e d.rise (fun j t hj=>?_) (k S _ nS.1 nS.2.1 nS.2.2.1 nS.2.2.2.1 hS) fun b o _ b1 b2 b3 b4 x=>k b o b1 b2 b3 b4 x;obtain⟨a,x',y',e1,e2,e3⟩:=d.got j t hj;obtain⟨n1,n2,n3,n4,n5⟩:=nlo t a;exact⟨a,x',y',e1,e2,k t _ n1 n2 n3 n4 e3⟩
  have hn:xs[ts.length]?=ab:=by simp[e]
  rcases d.zip with⟨en,hz,a,b,Zm⟩|⟨T,b,hT,hz⟩
  ·exact aO (wpAny_pyNext_zip_end hh1 D hz d.ti Zm d.it1 d.it2 d.ls1 d.ls2 (.inl hn) fun h' k=>bg (fin h' k))
  have al:∃o,s.heap.get? T=aa o:=by
   cases ts with
   |nil=>cases hT
   |cons t r=>
    cases hT;obtain⟨_,_,_,_,_,g⟩:=d.got 0 T rfl;exact⟨_,g⟩
  exact aO (N0 hh1 D hz al d.ti d.it1 d.ls1 hn fun h' k=>bg (fin h' fun c o c1 _ c3 _ x=>k c o c1 c3 x))
 |succ m ih=>
  intro s ts hk hi d q
  have lt:ts.length<xs.size:=by omega
  obtain⟨x,hx⟩:∃x,xs[ts.length]?=aa x:=⟨xs[ts.length],by simp[lt]⟩
  obtain⟨y,hy⟩:∃y,ys[ts.length]?=aa y:=⟨ys[ts.length]'(by omega),by simp[show ts.length<ys.size by omega]⟩
  refine jc Je ?_
  rw[iJ ic _]
  show bL _ A.in1 (qF (.ref z)>>=_) _ _ s
  have on:∀(h':Heap)(T:Addr)(b:Bool),(ts++[s.heap.objs.size]).head?=aa T->h'.get? z=aa (zO (.int (T:Nat) 0) b TI TO)->h'.IsListIter i1 l1 (ts.length+1)->h'.IsListIter i2 l2 (ts.length+1)->yw h' s.heap.objs.size x y->
   (∀c o,c≠z->c≠TO->c≠i1->c≠i2->s.heap.get? c=aa o->h'.get? c=aa o)->
   bL (bJ P w) A.in1 (FW (.ref S) (·.push (.ref s.heap.objs.size))>>=fun _=>again (.builtin "list.extend.loop" ⟨[.ref S,.ref z,res],[]⟩))
    (fun fin s'=>match fin with|.done f=>R (.ok f) s'|.again c'=>c'.quiet=ae/\jx (bJ P w) A c' R s') (fun e s'=>R (.error e) s') {s with heap:=h'}:=fun h' T b hT hz g1 g2 gp k=>by
   obtain⟨c,hS,dn⟩:=d.next D nS lw hx hy hT hz g1 g2 gp k
   have len:(ts++[s.heap.objs.size]).length=ts.length+1:=by simp
   show bL _ A.in1 (EY S (·.push (.ref s.heap.objs.size))>>=_) _ _ _
   refine aO (oY hS rfl (bg ⟨oN ic _,ih _ (ts++[s.heap.objs.size]) (by rw[len];omega) (by rw[len];omega) dn fun h2 us c2 e1 e2 e3 e4 e5=>?_⟩) ?_)
   ·exact q h2 us c2 e1 e2 e3 e4 fun b o b0 b1 b2 b3 b4 x=>e5 b o b0 b1 b2 b3 b4 ((cq _ _ (de b0)).trans (k b o b1 b2 b3 b4 x))
   simp[bX]
   omega
  rcases d.zip with⟨en,hz,a,b,Zm⟩|⟨T,b,hT,hz⟩
  ·refine aO (wpAny_pyNext_zip_item D hz d.ti Zm d.it1 d.it2 d.ls1 d.ls2 hx hy fun h' z' p' g1 g2 gp _ k=>?_)
   exact on h' s.heap.objs.size af (by rw[en];rfl) z' g1 g2 gp k
  have al:∃o,s.heap.get? T=aa o:=by
   cases ts with
   |nil=>cases hT
   |cons t r=>
    cases hT;obtain⟨_,_,_,_,_,g⟩:=d.got 0 T rfl;exact⟨_,g⟩
  refine aO (Lf D hz al d.ti d.it1 d.it2 d.ls1 d.ls2 hx hy fun h' z' g1 g2 gp k=>?_)
  refine on h' T ae ?_ z' g1 g2 gp fun c o c1 _ c3 c4 x=>k c o c1 c3 c4 x
  cases ts with
  |nil=>cases hT
  |cons t r=>exact hT
end
end sI
end
section
namespace sI
open PySem PySem.Spec PyProof.Rows
theorem Ur:AV (.type "zip") "__len__"=pure ab:=by rw[Bc,rf];kernel_rfl
theorem QB:AV (.type "zip") "__length_hint__"=pure ab:=by rw[Bc,rf];kernel_rfl
section
variable{P:b7}{w:cU}{A:cX}{E:ar}{s:bf}{z TI TO i1 i2 l1 l2:Addr}{xs ys:Array aY}
theorem Wd{Q:Bool->bf->Prop}(hT:s.TypeIs (.ref z) "zip")(h:Q ae s):bL (bJ P w) A (iO (.ref z)) Q E s:=by
 unfold iO;refine aO (Bb hT Ur ?_);refine jb (fun z=>absurd z (by decide)) fun _=>?_;refine jb (fun z=>absurd z (by decide)) fun _=>?_;refine aO (Bb hT QB ?_);exact bg h
theorem XS{Q:ar}(hh:A.handled=ab)(D:Sw z TI TO i1 i2 l1 l2)(hz:IsZip s.heap z TI TO .none)(hTI:yw s.heap TI (.ref i1) (.ref i2))(Zm:∃a b,yw s.heap TO a b)(h1:s.heap.IsListIter i1 l1 0)(h2:s.heap.IsListIter i2 l2 0)
 (NL:s.heap.IsList l1 xs)(uq:s.heap.IsList l2 ys)(sz:xs.size=ys.size)(j6:xs.size<=1000)
 (q:∀(h':Heap)(us:ag)(c:Nat),us.length=xs.size->us.Pairwise (· <·)->(∀(j:Nat)(t:Addr),us[j]?=aa t->s.heap.objs.size<t/\∃x y,xs[j]?=aa x/\ys[j]?=aa y/\yw h' t x y)->h'.get? s.heap.objs.size=aa {cls:=.type "list",dict:=ab,data:=.seq (us.map cp).toArray c,slots:=#[]}->
  (∀b o,b≠z->b≠TO->b≠i1->b≠i2->s.heap.get? b=aa o->h'.get? b=aa o)->Q (.ref s.heap.objs.size) {s with heap:=h'}):
 bL (bJ P w) A (call (.type "list") [.ref z]) Q E s:=by
 refine callType_codes (Q₁:=fun v s₁=>v=.ref s.heap.objs.size/\s₁={s with heap:=s.heap.push {cls:=.type "list",data:=.seq #[]}}) PySem.F.called_list (PySem.F.typeCall_list_1 _) PySem.F.entry_list_init (code_list_new _ ⟨rfl,rfl⟩) fun obj s₁ e₁=>?_
 obtain⟨rfl,rfl⟩:=e₁
 have g0:(s.heap.push {cls:=.type "list",data:=.seq #[]}).get? s.heap.objs.size=aa {cls:=.type "list",data:=.seq #[]}:=bH _ rfl
 refine⟨⟨_,g0,rfl⟩,PySem.F.args_list_init_2 _ _,?_⟩
 obtain⟨a0,b0,Zm⟩:=Zm
 have hzl:=bF hz
 have agV:=bF hTI
 have aef:=bF Zm
 have ad8:=let⟨_,e,_⟩:=h1;bF e
 have ad7:=let⟨_,e,_⟩:=h2;bF e
 have agK:=let⟨_,e,_⟩:=NL;bF e
 have agJ:=let⟨_,e,_⟩:=uq;bF e
 generalize hS0:s.heap.objs.size=S at g0 hzl agV aef ad8 ad7 agK agJ q⊢
 generalize hp:s.heap.push {cls:=.type "list",data:=.seq #[]}=hA at g0
 have kA:=hp▸Kept.push
 have szA:hA.objs.size=S+1:=by rw[<-hp,dz,hS0]
 show bL _ _ (do let old<-Gx (.ref S);FW (.ref S) (fun _=>#[]);letGo old.toList.reverse;iP (.ref S) (.ref z) .none) _ _ _
 unfold Gx
 refine aO (aO (Ep g0 rfl (bg ?_)))
 show bL _ _ (EY S (fun _=>#[])>>=fun _=>letGo (#[]:Array aY).toList.reverse>>=fun _=>iP (.ref S) (.ref z) .none) _ _ _
 refine aO (oY g0 rfl ?_)
 have g1:=dO (dS (fun _=>(#[]:Array aY))) g0 rfl
 have Ts:∀(b:Addr)(o:Obj),b≠S->hA.get? b=aa o->(hA.update S (dS (fun _=>(#[]:Array aY)))).get? b=aa o:=fun b o hb e=>(cq _ _ (de hb)).trans e
 have szB:(hA.update S (dS (fun _=>(#[]:Array aY)))).objs.size=S+1:=by rw[l5,szA]
 generalize hA.update S (dS (fun _=>(#[]:Array aY)))=hB at g1 Ts szB
 refine aO (wpAny_letGo ?_)
 have kB:∀b o,b≠S->s.heap.get? b=aa o->hB.get? b=aa o:=fun b o hb e=>Ts b o hb (kA b o e)
 have hzB:=kB z _ (cg hzl) hz
 unfold iP
 refine aO (Y0 (T:="zip") ⟨_,hzB,rfl⟩ ?_)
 have e1:lJ (.ref S) (.ref z)=af:=by simp[lJ,dk hzl]
 have e2:(iT "zip"==iT "list")=af:=by decide
 have e3:(iT "zip"==iT "tuple")=af:=by decide
 simp only[e1,e2,e3,k6,cC,if_false]
 refine aO (wpAny_pyIter_zip hzB ?_)
 refine aO (d7 (Wd ⟨_,hzB,rfl⟩ ?_))
 have nS:S≠z/\S≠TO/\S≠i1/\S≠i2/\S≠TI/\S≠l1/\S≠l2:=⟨dk hzl,dk aef,dk ad8,dk ad7,dk agV,dk agK,dk agJ⟩
 have lw:z<S+1/\TO<S+1/\i1<S+1/\i2<S+1/\S<S+1:=⟨eP hzl,eP aef,eP ad8,eP ad7,eN _⟩
 have key:∀(h:Heap)(c:Nat),h.objs.size=S+1->(∀b o,b≠S->s.heap.get? b=aa o->h.get? b=aa o)->h.get? S=aa {cls:=.type "list",data:=.seq #[] c}->
  jx (bJ P w) A.in1 (.builtin "list.extend.loop" ⟨[.ref S,.ref z,.none],[]⟩) (wants (fun r s₂=>r=.none/\Q (.ref S) s₂) E) {s with heap:=h}:=fun h c hs k g=>by
  refine Wc (by simpa using hh) D nS lw .none sz j6 xs.size _ [] (by simp) (cB _) ⟨.inl ⟨rfl,k _ _ nS.1.symm hz,_,_,k _ _ nS.2.1.symm Zm⟩,k _ _ nS.2.2.2.2.1.symm hTI,h1.at fun o e=>k _ o nS.2.2.1.symm e,h2.at fun o e=>k _ o nS.2.2.2.1.symm e,NL.at fun o e=>k _ o nS.2.2.2.2.2.1.symm e,
   uq.at fun o e=>k _ o nS.2.2.2.2.2.2.symm e,fun j t e=>by simp at e,⟨c,g⟩,kg,kX hs.symm⟩ fun h' us c' f1 f2 f3 f4 f5=>⟨rfl,q h' us c' f1 f2 f3 f4 fun b o b1 b2 b3 b4 e=>?_⟩
  have bS:=cg (hS0▸bF e)
  exact f5 b o bS b1 b2 b3 b4 (k b o bS e)
 refine jb (fun _=>?_) fun n=>absurd rfl n
 refine aO (IK (aO ?_))
 show bL _ _ (EY S (·.push .none)>>=fun _=>EY S (·.pop)) _ _ _
 refine aO (oY g1 rfl ?_)
 have g2:=dO (dS (·.push eF)) g1 rfl
 refine oY (hz:=by seq_fits) g2 rfl ?_
 have g3:=dO (dS (·.pop)) g2 rfl
 exact bg ⟨oN ic _,key _ _ (by rw[l5,l5,szB]) (fun b o hb e=>(cq _ _ (de hb)).trans ((cq _ _ (de hb)).trans (kB b o hb e))) g3⟩
end
end sI
namespace XL
open PySem PySem.Spec PyProof.Rows L2 sI
section
variable{X:Cx}{pins:ah}{σ:L2.St}{H H':Hp}{s:bf}{h':Heap}
theorem Inv.more(I:Inv X pins σ H s)(t:Nat)(k:Kept s.heap h')(sm:∀b o,H b=aa o->H' b=aa o)(nw:∀b o,H' b=aa o->H b=aa o\/(s.heap.objs.size<=b/\ja X.prog X.w H' h' b o)):Inv X pins σ H' {s with heap:=h',toks:=t}:=by
 refine I.un (t':=t) ⟨fun b o e _ _ _=>k b o e,fun b o e _ _ _=>⟨o.slots,k b o e⟩,fun b o e n _=>?_,fun b o e _=>⟨o,k b o e⟩,fun b xs e=>sm b _ e,fun b o u e=>sm b _ e,fun b ps e=>⟨#[],by rw[sm b _ e];simp⟩⟩ fun b o e=>?_
 ·cases q:H' b with
  |none=>rfl
  |some u=>
   rcases nw b u q with z|⟨z,_⟩
   ·rw[n]at z;cases z
   exact absurd (bI (bF e) z) (gC _)
 rcases nw b o e with z|⟨_,z⟩
 ·exact(I.gd b o z).tJ (fun c v _ q=>k c v q) (fun c q=>sm c _ q) fun c xs q=>sm c _ q
 exact z
end
end XL
end
section
namespace XL
open PySem PySem.Spec PyProof.Rows L2 sI
theorem Nb:ij "list"=aa (.type "list"):=by decide+kernel
def Fo:ag->List (V×V)->Hp->Hp
 |t::ts,x::xs,H=>upd (Fo ts xs H) t (.tup [x.1,x.2])
 |_,_,H=>H
theorem HS{H:Hp}:∀{ts:ag}{ps:List (V×V)}{b:Addr},b∉ts->Fo ts ps H b=H b
 |[],_,_,_=>rfl
 |_::_,[],_,_=>rfl
 |t::ts,p::ps,b,h=>by
  show upd (Fo ts ps H) t _ b=_;rw[bB (show b≠t from fun z=>h (by rw[z];exact bM ..))];exact HS fun z=>h (bC _ z)
theorem TB{H:Hp}:∀{ts:ag}{ps:List (V×V)},ts.Nodup->ts.length=ps.length->fJ (fun t (p:V×V)=>Fo ts ps H t=aa (.tup [p.1,p.2])) ts ps
 |[],[],_,_=>.nil
 |[],_::_,_,h=>by cases h
 |_::_,[],_,h=>by cases h
 |t::ts,p::ps,nd,h=>by
  obtain⟨n1,n2⟩:=iV.mp nd;have ih:=TB (H:=H) n2 (by simpa using h);refine .cons ba ?_
  have go:∀{as:ag}{qs:List (V×V)},(∀a∈as,a≠t)->fJ (fun t (p:V×V)=>Fo ts ps H t=aa (.tup [p.1,p.2])) as qs->fJ (fun u (q:V×V)=>Fo (t::ts) (p::ps) H u=aa (.tup [q.1,q.2])) as qs:=fun{as qs} hn pr=>by
   induction pr with
   |nil=>exact .nil
   |cons r _ ih2=>
    refine .cons ?_ (ih2 fun a ha=>hn a (bC _ ha));show upd (Fo ts ps H) t _ _=_;rw[bB (hn _ (bM ..))];exact r
  exact go (fun a ha z=>n1 (z▸ha)) ih
theorem O9{H:Hp}:∀{ts:ag}{ps:List (V×V)}{b:Addr}{o:HO},Fo ts ps H b=aa o->H b=aa o\/∃(j:Nat)(p:V×V),ts[j]?=aa b/\ps[j]?=aa p/\o=.tup [p.1,p.2]
 |[],_,_,_,h=>.inl h
 |_::_,[],_,_,h=>.inl h
 |t::ts,p::ps,b,o,h=>by
  have h:upd (Fo ts ps H) t (.tup [p.1,p.2]) b=aa o:=h;by_cases e:b=t
  ·subst e;rw[ba]at h;cases h;exact .inr ⟨0,p,rfl,rfl,rfl⟩
  rw[bB e]at h;rcases O9 h with z|⟨j,q,e1,e2,e3⟩
  ·exact .inl z
  exact .inr ⟨j+1,q,by rw[oH];exact e1,by rw[oH];exact e2,e3⟩
theorem DD:∀us:ag,Vals (us.map V.ref) (us.map cp)
 |[]=>.nil
 |_::us=>.cons rfl (DD us)
inductive acM(K:aX)(Q:VK)(vs:ao)(H1:Hp):Prop
 |mk (a b:Addr) (xs ys:ao) (_:vs=[.ref a,.ref b]) (_:du K H1 a xs) (_:du K H1 b ys) (_:xs.length=ys.length) (_:xs.length<=1000) (_:∀(l:Addr)(ts:ag)(H2:Hp),H1 l=ab->bG H1 H2->H2 l=aa (.lst (ts.map V.ref))->fJ (fun t (p:V×V)=>H2 t=aa (.tup [p.1,p.2])) ts (xs.zip ys)->Q (.ref l) H2)
def afs(K:aX)(ta:TA):TE:=fun σ H Q=>ta σ H fun vs H1=>acM K Q vs H1
theorem aab{X:Cx}{e e2:Expr}{ta:TA}{pos:Pos}(hc:X.calm=ae)(hl:Gl X "list")(hlm:X.mg "list"=ab)(hg:Gl X "zip")(hm:X.mg "zip"=ab)(ha:PA X [e,e2] ta)
 (hs:bW [e,e2] X.env=(af,eval e X.env)::bW [e2] X.env:=by rfl)(yR:(gz Xc (bW [e2] X.env)).any (·.1)=af:=by rfl)
 (hs1:bW [.Call (.Name "zip" p2) [e,e2] [] Xc] X.env=(af,eval (.Call (.Name "zip" p2) [e,e2] [] Xc) X.env)::bW [] X.env:=by rfl)(hp1:(gz pos (bW [] X.env)).any (·.1)=af:=by rfl):
 PE X (.Call (.Name "list" p) [.Call (.Name "zip" p2) [e,e2] [] Xc] [] pos) (afs X.K ta):=by
 intro pins s σ H Q I h
 refine fe (rO I hl hlm Nb (callWith_type1 ?_ hs1 hp1) (by decide) (by decide))
 rw[hs1]
 show bL _ _ (EZ ((af,eval (.Call (.Name "zip" p2) [e,e2] [] Xc) X.env)::gz pos (bW [] X.env))) _ _ s
 refine iz (Call_ (rO I hg hm VD (callWith_type1 (ib (ha Xc pins s σ H _ I h) fun us s1 ⟨vs,H1,I1,r1,q1⟩=>?_) hs yR)))
 obtain⟨a,b,xs,ys,ex,hqx,hqy,len,j6,q⟩:=q1
 subst ex
 cases r1 with
 |cons r rr=>
  cases rr with
  |cons r' rr=>
   cases rr
   cases r
   cases r'
   obtain⟨its,rv,p1,_⟩:=I1.list hqx
   obtain⟨Pb,rv2,p2,_⟩:=I1.list hqy
   have la:=p1.lt
   have lb:=p2.lt
   have n1:=rv.length
   have n2:=rv2.length
   refine call_zip_2 p1.isList p2.isList fun h' hz hTI Zm h1 h2 hsz hk=>?_
   refine jL ?_
   refine XS (s:={s1 with heap:=h'}) (I1.ok.hd hc) (PySem.W.ktu_apart s1.heap.objs.size a b la lb) hz hTI ⟨_,_,Zm⟩ h1 h2 (p1.isList.at fun o e=>hk a o e) (p2.isList.at fun o e=>hk b o e) (by simp only[bY];omega) (by simp only[bY];omega) fun h2 us c f1 f2 f3 f4 f5=>?_
   have hsz:=hsz
   have f1:=f1
   rw[bY]at f1
   have lz:us.length=(xs.zip ys).length:=by rw[yr];omega
   have nd:=f2.imp fun z=>cg z
   have big:∀t∈us,h'.objs.size<t:=fun t ht=>by
    obtain⟨j,hj⟩:=cw ht;exact(f3 j t hj).1
   have new:∀t,h'.objs.size<=t->H1 t=ab:=fun t ht=>I1.gd.fresh (cQ (by rw[hsz];exact iG _ _) ht)
   have kp:Kept s1.heap h2:=fun x o e=>by
    have lx:=bF e;refine f5 x o ?_ ?_ ?_ ?_ (hk x o e)<;>exact cg (by first|exact lx|exact bI lx (iG _ _))
   have hlS:h'.objs.size∉us:=fun z=>absurd (big _ z) (gC _)
   refine⟨.ref h'.objs.size,upd (Fo us (xs.zip ys) H1) h'.objs.size (.lst (us.map V.ref)),Inv.more (s:=s1) (h':=h2) I1 s1.toks kp (fun x o e=>?_) (fun x o e=>?_),rfl,q h'.objs.size us _ (new _ (bu _)) (fun x o e=>?_) ba ?_⟩
   ·have nx:x∉us:=fun z=>by rw[new x (dm (big x z))]at e;cases e
    rw[bB (bO e (new _ (bu _))),HS nx]
    exact e
   ·by_cases hx:x=h'.objs.size
    ·subst hx
     rw[ba]at e
     cases e
     refine .inr ⟨by rw[hsz];exact iG _ _,by rw[aV,bX];omega,us.map cp,c,?_,f4⟩
     exact DD us
    rw[bB hx]at e
    rcases O9 e with z|⟨j,p,e1,e2,e3⟩
    ·exact .inl z
    subst e3
    obtain⟨g1,x',y',g2,g3,g4⟩:=f3 j x e1
    have hp:xs[j]?=aa p.1/\ys[j]?=aa p.2:=by
     rw[mw]at e2;exact e2
    obtain⟨u1,w1,w2⟩:=rv.get hp.1
    obtain⟨u2,w3,w4⟩:=rv2.get hp.2
    have ex:u1=x':=by
     have g2:=g2;rw[<-eI]at g2;simp only at g2;rw[w1]at g2;exact bR g2
    have ey:u2=y':=by
     have g3:=g3;rw[<-eI]at g3;simp only at g3;rw[w3]at g3;exact bR g3
    subst ex ey
    refine .inr ⟨dm (oB (by rw[hsz];exact iG _ _) g1),by show 2<=bz;decide,[u1,u2],.cons w2 (.cons w4 .nil),⟨_,g4,rfl,_,rfl⟩⟩
   ·have nx:x∉us:=fun z=>by rw[new x (dm (big x z))]at e;cases e
    rw[bB (bO e (new _ (bu _))),HS nx]
    exact e
   have pr:=TB (H:=H1) nd lz
   have go:∀{as:ag}{qs:List (V×V)},(∀a∈as,a∈us)->fJ (fun t (p:V×V)=>Fo us (xs.zip ys) H1 t=aa (.tup [p.1,p.2])) as qs->fJ (fun t (p:V×V)=>upd (Fo us (xs.zip ys) H1) h'.objs.size (.lst (us.map V.ref)) t=aa (.tup [p.1,p.2])) as qs:=fun{as qs} hn pr=>by
    induction pr with
    |nil=>exact .nil
    |cons r _ ih2=>
     refine .cons ?_ (ih2 fun a ha=>hn a (bC _ ha));refine(bB fun z=>hlS ?_).trans r;rw[<-z];exact hn _ (bM ..)
   exact go (fun a ha=>ha) pr
end XL
end
section
namespace sI
open PySem PySem.Spec PyProof.Rows
section
variable{P:b7}{w:cU}{A:cX}{E:ar}{s:bf}
structure aba(P:b7)(w:cU)(KA:Nat->aY->Heap->Prop)(κ:Heap->KeyKind)(kd:SortKind):Prop where
 tJ:∀i k h h',Zi h h'->KA i k h->KA i k h'
 lt:∀s₂:bf,G.LtAt P w s₂ (κ s₂.heap) kd
 key:∀i k h,KA i k h->∃l,(κ h).keyOf k=aa l
 kind:∀(s₂:bf)(ks:au),2<=ks.length->(∀(i:Nat)(k:aY),ks[i]?=aa k->KA i k s₂.heap)->∀(A:cX)(E:ar)(Q:SortKind->bf->Prop),Q kd s₂->bL (bJ P w) A (keyKind' ks.toArray) Q E s₂
def VL(a:Addr)(h h':Heap):Prop:=∀b o,b≠a->h.get? b=aa o->h'.get? b=aa o
theorem XY{KA:Nat->aY->Heap->Prop}{κ:Heap->KeyKind}{kd:SortKind}{f:aY}{a:Addr}{vs:au}{n:Nat}{R:PySem.Fin->bf->Prop}(K:aba P w KA κ kd)(ho:s.heap.get? a=aa (iR "list" vs.toArray n))(j6:vs.length<=1000)
 (turn:∀(i:Nat)(v:aY),vs[i]?=aa v->∀(h:Heap)(tk:Nat),VL a s.heap h->bL (bJ P w) A (call f [v]) (fun k s₂=>∃h' tk',s₂={s with heap:=h',toks:=tk'}/\Kept h h'/\KA i k h') (fun _ _=>False) {s with heap:=h,toks:=tk})
 (q:∀(h' h2:Heap)(tk c:Nat)(keys:au)(ps:Array Keyed),VL a s.heap h'->h'.get? a=aa (iR "list" (ps.map (·.2)) c)->keys.length=vs.length->(∀(i:Nat)(k:aY),keys[i]?=aa k->KA i k h2)->ps.Perm (keys.zip vs).toArray->NA (κ h2) ps ps.size->
  Stable (κ h2) ps (keys.zip vs).toArray->R (.done (.ret .none)) {s with heap:=h',toks:=tk}):
 bL (bJ P w) A (ksk_tree a f af) R E s:=by
 have sl:=bX
 have la:a<s.heap.objs.size:=bF ho
 unfold ksk_tree
 refine aO (listItems_at ho rfl ?_)
 refine aO (Gk ho rfl ?_ (by rw[bY];omega) (cB _))
 obtain⟨e1,g1⟩:∃e1,(s.heap.update a (dS fun _=>(#[]:Array aY))).get? a=aa (iR "list" #[] e1):=⟨_,Qc ho fun _=>#[]⟩
 refine aO (seqEpoch_at g1 rfl ?_)
 have b1:VL a s.heap (s.heap.update a (dS fun _=>(#[]:Array aY))):=fun b o nb e=>(cq _ _ (de nb)).trans e
 have z1:(s.heap.update a (dS fun _=>(#[]:Array aY))).objs.size=s.heap.objs.size:=l5 _ _ _
 generalize s.heap.update a (dS fun _=>(#[]:Array aY))=h1 at g1 b1 z1
 refine aO (Sj ?_ (by show vs.length<=_;omega))
 refine aO (VM ?_ (cB _))
 refine d7 ?_
 have z2:(h1.push (iR "tuple" vs.toArray 0)).objs.size=s.heap.objs.size+1:=by rw[dz,z1]
 show bL _ _ (ksk_rest a f af vs.toArray e1 (.ref (h1.push (iR "tuple" vs.toArray 0)).objs.size)) _ _ {s with heap:=(h1.push (iR "tuple" vs.toArray 0)).push (iR "list" #[] 0)}
 rw[z2]
 have gk:((h1.push (iR "tuple" vs.toArray 0)).push (iR "list" #[] 0)).get? (s.heap.objs.size+1)=aa (iR "list" #[] 0):=by rw[<-z2];exact bH _ rfl
 have ga:((h1.push (iR "tuple" vs.toArray 0)).push (iR "list" #[] 0)).get? a=aa (iR "list" #[] e1):=a9 _ (a9 _ g1)
 have bb:VL a s.heap ((h1.push (iR "tuple" vs.toArray 0)).push (iR "list" #[] 0)):=fun b o nb e=>a9 _ (a9 _ (b1 b o nb e))
 generalize(h1.push (iR "tuple" vs.toArray 0)).push (iR "list" #[] 0)=h3 at gk ga bb
 have nka:s.heap.objs.size+1≠a:=dk (eP la)
 generalize hkS:s.heap.objs.size+1=kS at gk nka
 have old:∀b o,s.heap.get? b=aa o->b≠kS:=fun b o e=>by rw[<-hkS];exact cg (eP (bF e))
 unfold ksk_rest
 refine aO (IK ?_)
 rw[<-CZ]
 simp only[Bi]
 refine aO (ksk_fold (fun i s'=>∃(h':Heap)(tk:Nat)(kA:Array aY)(e:Nat),s'={s with heap:=h',toks:=tk}/\VL a s.heap h'/\h'.get? a=aa (iR "list" #[] e1)/\h'.get? kS=aa (iR "list" kA e)/\kA.size=i/\∀(j:Nat)(k:aY),kA.toList[j]?=aa k->KA j k h') vs 0 _
  ⟨h3,s.toks,#[],0,rfl,bb,ga,gk,rfl,fun j k e=>by simp at e⟩ ?_ ?_)
 ·rintro j x s' hx ⟨h',tk,kA,e,rfl,b',a',k',sz,ks⟩
  rw[Sy]at sz⊢
  have hj:j<vs.length:=(aZ.mp hx).1
  refine aO (oM (eD (turn j x hx h' tk b') (fun v s'' he=>?_) fun _ _ hF=>hF.elim))
  obtain⟨g,tk2,rfl,kp,ka⟩:=he
  simp only
  obtain⟨c2,hc2⟩:∃c2,(g.update kS (dS (·.push v))).get? kS=aa (iR "list" (kA.push v) c2):=⟨_,Qc (kp _ _ k') (·.push v)⟩
  have up:∀b o,b≠kS->g.get? b=aa o->(g.update kS (dS (·.push v))).get? b=aa o:=fun b o nb e=>(cq _ _ (de nb)).trans e
  have kt:Zi g (g.update kS (dS (·.push v))):=G.KeepsTups.update _ (kp _ _ k') G.not_tuple_list
  have kt0:Zi h' g:=fun b o e _=>kp b o e
  refine aO (Gk (kp _ _ k') rfl ?_ (by omega) (by rw[ZG];omega))
  refine bg ⟨rfl,_,_,kA.push v,c2,rfl,fun b o nb e0=>up b o (old b o e0) (kp _ _ (b' b o nb e0)),up a _ nka.symm (kp _ _ a'),hc2,by rw[ZG,sz],fun i k hi=>?_⟩
  rw[EB]at hi
  rcases jf i j with q1|q1
  ·rw[eV (by rw[cY];omega)]at hi
   exact K.tJ _ _ _ _ (kt0.trans kt) (ks i k hi)
  rcases jf j i with q2|q2
  ·rw[dY (by rw[bQ,cY];show _<=i;simp;omega)]at hi
   cases hi
  have ei:i=j:=by omega
  subst ei
  rw[hJ (by rw[cY];omega),cY,sz,FQ]at hi
  cases hi
  exact K.tJ _ _ _ _ kt ka
 rintro s' ⟨h',tk,kA,e,rfl,b',a',k',sz,ks⟩
 rw[Sy]at sz
 refine aO (listItems_at k' rfl ?_)
 have lz:kA.toList.length=vs.length:=by rw[cY,sz]
 have ez:kA.zip vs.toArray=(kA.toList.zip vs).toArray:=by
  apply J9;simp
 have zs:(kA.zip vs.toArray).size=vs.length:=by rw[Array.size_zip,sz,bY,FT]
 have tail:∀st:SortSt,(Eu st).Perm (kA.zip vs.toArray)->failedOf st=ab->NA (κ h') (Eu st) (Eu st).size->Stable (κ h') (Eu st) (kA.zip vs.toArray)->bL (bJ P w) A (ksk_tail a af e1 (.ref kS) st) R E {s with heap:=h',toks:=tk}:=fun st pm fl so sb=>by
  unfold ksk_tail;simp only;refine aO (Gk k' rfl ?_ (by omega) (cB _));have up:∀b o,b≠kS->h'.get? b=aa o->(h'.update kS (dS fun _=>(#[]:Array aY))).get? b=aa o:=fun b o nb e=>(cq _ _ (de nb)).trans e;have a2:=up a _ nka.symm a';refine aO (wpAny_letGo (aO (seqEpoch_at a2 rfl ?_)));have os:((Eu st).map (·.2)).size<=bz+1:=by rw[Array.size_map,pm.size_eq,zs];omega
  refine aO (Gk a2 rfl ?_ (cB _) os);rw[fl];simp only[bne_self_eq_false,cC,if_false];obtain⟨c2,hc2⟩:∃c2,((h'.update kS (dS fun _=>(#[]:Array aY))).update a (dS fun _=>(Eu st).map (·.2))).get? a=aa (iR "list" ((Eu st).map (·.2)) c2):=⟨_,Qc a2 fun _=>(Eu st).map (·.2)⟩;refine bg (q _ h' _ c2 kA.toList (Eu st) (fun b o nb e0=>(cq _ _ (de nb)).trans (up b o (old b o e0) (b' b o nb e0))) hc2 lz ks (by rw[<-ez];exact pm) so (by rw[<-ez];exact sb))
 unfold ksk_end
 simp only[cC,if_false]
 by_cases h2:vs.toArray.size<2
 ·rw[c8 h2,c8 h2]
  refine aO (bg ?_)
  rw[StateT.run_pure]
  refine aO (bg ?_)
  refine tail (SortSt.mk' general' (kA.zip vs.toArray) #[] 7 ab) (SG _) rfl (fun i j hij hj=>?_) (Stable.refl _)
  have hj2:j<(kA.zip vs.toArray).size:=hj
  rw[bY]at h2
  have ei:i=j:=by omega
  subst ei
  exact KeyOrd.kle_refl _
 rw[cP h2,cP h2]
 rw[bY]at h2
 have ek:kA=kA.toList.toArray:=by simp
 have kn:=K.kind {s with heap:=h',toks:=tk} kA.toList (by omega) ks A E
 rw[<-ek]at kn
 refine aO (kn _ ?_)
 refine aO (eD (G.wpS_sortRunsSt (κ:=κ h') (kd:=kd) (a₀:=kA.zip vs.toArray) (st:=SortSt.mk' kd (kA.zip vs.toArray) #[] 7 ab)
  (Q:=fun _ GJ=>(Eu GJ).Perm (kA.zip vs.toArray)/\failedOf GJ=ab/\NA (κ h') (Eu GJ) (Eu GJ).size/\Stable (κ h') (Eu GJ) (kA.zip vs.toArray))
  (K.lt {s with heap:=h',toks:=tk}) (fun p hp=>?_) ⟨SG _,rfl,rfl⟩ rfl (Stable.refl _) (by rw[zs];omega) fun GJ c1 c2 c3 c4=>⟨c1,c2,by rw[c1.size_eq];exact c3,c4⟩) ?_ fun _ _ e=>e)
 ·rw[ez]at hp
  have hm:=(nL (show(p.1,p.2)∈kA.toList.zip vs from by simpa using hp)).1
  obtain⟨i,hi⟩:=cw hm
  exact K.key i _ _ (ks i _ hi)
 rintro⟨⟨⟩,GJ⟩ s' ⟨rfl,c1,c2,c3,c4⟩
 exact tail GJ c1 c2 c3 c4
end
def agj(kz:List Int):Nat->aY->Heap->Prop:=fun i k _=>∃n t,kz[i]?=aa n/\k=.int n t
theorem TH{kz:List Int}:∀{ks:au},ks.length=kz.length->(∀(i:Nat)(k:aY),ks[i]?=aa k->∃n t,kz[i]?=aa n/\k=.int n t)->kM ks kz:=by
 induction kz with
 |nil=>
  intro ks h _;have e:=oG.mp h;subst e;exact .nil
 |cons n kz ih=>
  intro ks h f;cases ks with
  |nil=>cases h
  |cons k ks=>
   obtain⟨m,t,e1,e2⟩:=f 0 k rfl;cases e1;subst e2;exact .cons n t (ih (by simpa using h) fun i k hi=>by simpa using f (i+1) k (by simpa using hi))
theorem adJ{w:cU}(kz:List Int):aba P w (agj kz) (fun _=>PyProof.Rows.intKind) oneType' where
 tJ:=fun _ _ _ _ _ h=>h
 lt:=fun s A E x y a b Q hx hy q=>by
  rw[keyLt'_oneType];exact intKind_oneLt _ _ A E s x y a b hx hy q
 key:=fun i k h ⟨n,t,_,e⟩=>by
  subst e;exact⟨n,rfl⟩
 kind:=fun s ks h2 f A E Q q=>by
  have zX:∃ms,kM ks ms:=by
   clear h2 q;have f2:∀(i:Nat)(k:aY),ks[i]?=aa k->∃n t,k=.int n t:=fun i k hi=>let⟨n,t,_,e⟩:=f i k hi;⟨n,t,e⟩
   clear f;induction ks with
   |nil=>exact⟨[],.nil⟩
   |cons k ks ih=>
    obtain⟨n,t,e⟩:=f2 0 k rfl;subst e;obtain⟨ms,hm⟩:=ih fun i k hi=>f2 (i+1) k (by simpa using hi);exact⟨n::ms,.cons n t hm⟩
  obtain⟨ms,hm⟩:=zX;rw[ksk_kind (keys:=ks.toArray) (by simpa using hm) (by simpa using h2)];exact bg q
def Xo(x y:Int)(t u:Tok)(n:Nat):Obj:={cls:=.type "tuple",data:=.seq #[.int x t,.int y u] n}
def XZ(kz:List (Int×Int)):Nat->aY->Heap->Prop:=fun i k h=>∃x y a t u n,kz[i]?=aa (x,y)/\k=.ref a/\h.get? a=aa (Xo x y t u n)
def WS:Nat->Bool:=fun _=>af
theorem Hv{h:Heap}{y:Int}{t u:Tok}{n:Nat}(e:h.get? a=aa (Xo x y t u n)):Dh h WS (.ref a)=aa [cM x,cM y]:=by
 have e1:G.isTupObj h (.ref a)=ae:=by unfold G.isTupObj;simp only[e];rfl
 unfold Dh;rw[c8 e1];unfold tupKey;simp only[e];rfl
theorem aaw{w:cU}(kz:List (Int×Int)):aba P w (XZ kz) (fun h=>Qh h WS) (tuples' ae) where
 tJ:=fun i k h h' kt ⟨x,y,a,t,u,n,e1,e2,e3⟩=>⟨x,y,a,t,u,n,e1,e2,kt a _ e3 rfl⟩
 lt:=fun s=>G.tupC_ltAt ae (G.KeepsTups.refl _)
 key:=fun i k h ⟨x,y,a,t,u,n,e1,e2,e3⟩=>by
  subst e2;exact⟨_,Hv e3⟩
 kind:=fun s ks h2 f A E Q q=>by
  have E8:∃fs,TupsOf s.heap WS ks fs/\fs.length=ks.length:=by
   clear h2 q
   have f2:∀(i:Nat)(k:aY),ks[i]?=aa k->∃g,TupOf s.heap WS k g:=fun i k hi=>by
    obtain⟨x,y,a,t,u,n,e1,e2,e3⟩:=f i k hi;exact⟨.int x t,a,_,_,_,e2,e3,rfl,rfl,rfl,fun _=>⟨x,t,rfl⟩,fun z=>by cases z⟩
   clear f;induction ks with
   |nil=>exact⟨[],.nil,rfl⟩
   |cons k ks ih=>
    obtain⟨g,hg⟩:=f2 0 k rfl;obtain⟨fs,hf,hl⟩:=ih fun i k hi=>f2 (i+1) k (by simpa using hi);exact⟨g::fs,.cons hg hf,by simp[hl]⟩
  obtain⟨fs,hf,hl⟩:=E8;exact tup_kind (by omega) hf q
def NI(h:Heap)(v:aY):Int×Int:=match Dh h WS v with
 |some [.inl x,.inl y]=>(x,y)
 |_=>(0,0)
def leP(a b:Int×Int):Prop:=a.1<b.1\/(a.1=b.1/\a.2<=b.2)
theorem UP{kz:List (Int×Int)}{vs keys:au}{ps:Array Keyed}(lk:keys.length=vs.length)(lz:kz.length=vs.length)(ka:∀(i:Nat)(k:aY),keys[i]?=aa k->XZ kz i k h)(pm:ps.Perm (keys.zip vs).toArray)
 (so:NA (Qh h WS) ps ps.size):∃qs:List ((Int×Int)×aY),qs.Perm (kz.zip vs)/\(ps.map (·.2)).toList=qs.map (·.2)/\qs.Pairwise fun p q=>leP p.1 q.1:=by
 have pl:ps.toList.Perm (keys.zip vs):=by simpa using Array.perm_iff_toList_perm.mp pm
 have kx:∀p∈keys.zip vs,∃x y,Dh h WS p.1=aa [cM x,cM y]:=fun p hp=>by
  have hm:=(nL (show(p.1,p.2)∈keys.zip vs from hp)).1;obtain⟨i,hi⟩:=cw hm;obtain⟨x,y,a,t,u,n,e1,e2,e3⟩:=ka i _ hi;rw[e2];exact⟨x,y,Hv e3⟩
 have e1:(keys.zip vs).map (fun p=>(NI h p.1,p.2))=kz.zip vs:=by
  have:keys.map (NI h)=kz:=by
   refine va fun i=>?_;rw[bK];cases hk:keys[i]? with
   |none=>
    have:=iq.mp hk;rw[dY (by omega)];rfl
   |some k=>
    obtain⟨x,y,a,t,u,n,e1,e2,e3⟩:=ka i k hk;rw[e1,e2];show aa (NI h (.ref a))=_;unfold NI;rw[Hv e3]
  rw[<-this,List.zip_map_left];rfl
 refine⟨ps.toList.map fun p=>(NI h p.1,p.2),by rw[<-e1];exact pl.map _,by rw[Array.toList_map,dA];rfl,?_⟩
 rw[fQ]
 intro i j hi hj hij
 have hi':i<ps.size:=by simpa using hi
 have hj':j<ps.size:=by simpa using hj
 have z:=so i j (dm hij) hj'
 obtain⟨x1,y1,k1⟩:=kx ps[i] (pl.mem_iff.mp (by simp))
 obtain⟨x2,y2,k2⟩:=kx ps[j] (pl.mem_iff.mp (by simp))
 have f1:KK (Qh h WS) ps i=[cM x1,cM y1]:=by
  unfold KK;rw[getElem?_pos ps i hi'];show(Dh h WS ps[i].1).getD []=_;rw[k1];rfl
 have f2:KK (Qh h WS) ps j=[cM x2,cM y2]:=by
  unfold KK;rw[getElem?_pos ps j hj'];show(Dh h WS ps[j].1).getD []=_;rw[k2];rfl
 rw[f1,f2]at z
 have z:lexLt itemOrd [cM x2,cM y2] [cM x1,cM y1]=af:=z
 simp only[l4,zH]
 have g1:NI h ps[i].1=(x1,y1):=by unfold NI;rw[k1]
 have g2:NI h ps[j].1=(x2,y2):=by unfold NI;rw[k2]
 rw[g1,g2,leP]
 rw[lex_false,lex_false]at z
 obtain⟨a1,a2⟩:=z
 have a1:=of_decide_eq_false a1
 simp only
 rcases a2 with a2|⟨a2,_⟩
 ·have a2:=of_decide_eq_true a2
  exact .inl a2
 have a2:=of_decide_eq_false a2
 rcases EA (Int.not_lt.mp a1)with q|q
 ·exact .inl q
 exact .inr ⟨q,Int.not_lt.mp a2⟩
section
variable{P:b7}{w:cU}{A:cX}{E:ar}{s:bf}
abbrev agi(qual:Str)(ps:Wb)(body:Expr)(sc:l3)(cl:ai)(pm:aY)(c:Addr)(ct:aY):Obj:=qH "<lambda>" qual ps body sc cl pm c ct
theorem Pa{cl:ai}{ct v:aY}{f:Addr}{x:Str}{Q:ar}(lim:s.heap.NoLimit)(room:A.depth<Sl)(hf:s.heap.get? f=aa (agi qual ps body sc cl pm c ct))(hc:s.heap.CodeRec (.ref c) qual)
 (hb:oO (IT "<lambda>" qual ps body sc cl pm (.ref c) ct) ⟨[v],[]⟩=pure [(x,v)])(hx:sc.names.lookup x=aa .local)(nc:∀y∈sc.names,y.2≠ .cell)(co:sc.isCoroutine=af)(ge:sc.isGenerator=af)(hk:sc.kind=.function)
 (h:∀(h1:Heap)(L:Addr),h1.Ns L (fun y=>[(x,v)].lookup y)->Kept s.heap h1->bL (bJ P w) (A.deeper (PySem.W.envX qual sc L f (.ref c) cl)) (eval body (PySem.W.envX qual sc L f (.ref c) cl)) Q (fun _ _=>False) {s with heap:=h1,toks:=s.toks+1}):
 bL (bJ P w) A (call (.ref f) [v]) Q E s:=by
 refine m5 (PySem.W.kla_callFunE room hf rfl co ge rfl hc ?_)
 rw[hb]
 refine bg (wpAny_newFunctionEnv nc (fun y hy=>?_) (fun h1 ns sb=>⟨lim.fresh _ sb,?_⟩) hk)
 ·rw[bT.mp hy]
  exact hx
 have kp:Kept s.heap h1:=fun b o e=>sb.extBut b o (cg (bF e)) (a9 _ e)
 exact PySem.W.kla_codeExpr (eD (h h1 s.heap.objs.size ns kp) (fun r s' q=>q) fun e s' z=>z.elim)
variable{env:Env}{L c l g:Addr}{m:aj}{Q:ar}
theorem XB{y:Str}{its:au}{i:Nat}{n:Int}{t u:Tok}(hk:env.scope.kind=.function)(ns:s.heap.Ns env.locals m)(hx:env.kindOf x=aa .local)(mx:m x=aa (.int (i:Nat) t))(hy:env.kindOf y=aa .free)(hc:env.cells.lookup y=aa c)
 (cell:s.heap.IsCell c (aa (.ref l)))(hl:s.heap.IsList l its.toArray)(hi:its[i]?=aa (.int n u))(j6:its.length<=bz)(d1:(x==("__debug__":Str))=af)(d2:(y==("__debug__":Str))=af)(d3:(y==("__classdict__":Str))=af)
 (q:∀tk t',Q (.int (-n) t') {s with toks:=tk}):bL (bJ P w) A (eval (.UnaryOp .USub (.Subscript (.Name y p1) (.Name x p2) p3) p4) env) Q E s:=by
 have hi':=(aZ.mp hi).1
 have l63:=L2.xX
 refine UnaryOp_ (AZ (vZ (FJ hk hy hc cell ?_ d3) d2))
 refine vZ (sO hk hx ns mx ?_) d1
 refine So hl (Zh _) (by omega) (x:=.int n u) (by simpa using hi) ?_ rfl
 exact neg_int (q _ _)
theorem pair_items{y:Str}{its gs:au}{i:Nat}{n:Int}{t u:Tok}(hk:env.scope.kind=.function)(ns:s.heap.Ns env.locals m)(hx:env.kindOf x=aa .local)(mx:m x=aa (.ref g))(hg:s.heap.IsList g gs.toArray)
 (g0:gs[0]?=aa (.int (i:Nat) t))(ao7:gs.length<=bz)(hy:env.kindOf y=aa .free)(hc:env.cells.lookup y=aa c)
 (cell:s.heap.IsCell c (aa (.ref l)))(hl:s.heap.IsList l its.toArray)(hi:its[i]?=aa (.int n u))(j6:its.length<=bz)(d1:(x==("__debug__":Str))=af)(d2:(y==("__debug__":Str))=af)(d3:(y==("__classdict__":Str))=af)
 (q:∀tk a h',h'.get? a=aa (Xo n i u t 0)->Kept s.heap h'->Q (.ref a) {s with heap:=h',toks:=tk}):
 bL (bJ P w) A (eval (.Tuple [.Subscript (.Name y p1) (.Subscript (.Name x p2) (.Constant (.int 0) j1 p3) p4) p5,.Subscript (.Name x p6) (.Constant (.int 0) j2 p7) p8] kk p9) env) Q E s:=by
 have hi':=(aZ.mp hi).1
 have hg':=(aZ.mp g0).1
 have l63:=L2.xX
 have abS:∀{p q r:Pos}{j:Nat}{s1:bf}{R:ar},s1.heap=s.heap->(∀tk,R (.int (i:Nat) t) {s1 with toks:=tk})->bL (bJ P w) A (eval (.Subscript (.Name x p) (.Constant (.int 0) j q) r) env) R E s1:=fun{p q r j s1 R} eh hr=>by
  rw[<-eh]at ns hg;refine AZ (vZ (sO hk hx ns mx ?_) d1);refine IM ?_;refine So (s:={s1 with toks:=s1.toks+1}) hg (Int.le_refl 0) (by show(0:Int)<2^63;decide) (x:=.int (i:Nat) t) (by simpa using g0) ?_ rfl;exact hr _
 refine wpAny_Tuple_spliced ?_
 show bL _ _ (EZ ((af,eval (.Subscript (.Name y p1) (.Subscript (.Name x p2) (.Constant (.int 0) j1 p3) p4) p5) env)::(af,eval (.Subscript (.Name x p6) (.Constant (.int 0) j2 p7) p8) env)::[])) _ _ s
 refine iz (AZ (vZ (FJ hk hy hc cell ?_ d3) d2))
 refine abS rfl fun tk1=>?_
 refine So (s:={s with toks:=tk1}) hl (Zh _) (by omega) (x:=.int n u) (by simpa using hi) ?_ rfl
 refine iz (abS rfl fun tk2=>jL ⟨by show 2<=bz;decide,?_⟩)
 exact q _ _ _ (bH _ rfl) Kept.push
end
end sI
end
section
namespace XL
open PySem PySem.Spec PyProof.Rows L2 sI
def PR(c:Addr)(qual:Str):HO:=.ext fun h=>h.CodeRec (.ref c) qual
inductive iX(H:Hp)(T:Addr)(pos:Pos)(qual:Str):Prop
 |mk (ps:_) (_:H T=aa (.FZ ps)) (_:TriplesOk ps.toList) (_:(codeAmong pos ps.toList=ab\/∃c,codeAmong pos ps.toList=aa (.ref c)/\H c=aa (PR c qual)))
def IJ(T:Addr)(H H':Hp):Prop:=∀b o,b≠T->H b=aa o->H' b=aa o
theorem iX.same{H H':Hp}{T:Addr}{pos:Pos}(x:iX H T pos qual)(s:bG H H'):iX H' T pos qual:=by
 obtain⟨ps,e1,e2,e3⟩:=x;refine⟨ps,s _ _ e1,e2,?_⟩;rcases e3 with e|⟨c,e,f⟩
 ·exact .inl e
 exact .inr ⟨c,e,s _ _ f⟩
inductive Np(mg:aj)(base:Heap):Prop
 |mk (bm:_) (ob:_) (_:mg "__builtins__"=aa (.ref bm)) (_:bm≠AX) (_:base.get? bm=aa ob) (_:ob.cls=.type "module") (_:ob.dict=aa AX) (_:ob.data=.plain)
section
variable{X:Cx}{pins:ah}{σ:L2.St}{H:Hp}{s:bf}
theorem O8{E:ar}{A:cX}{cl:ai}{T:Addr}{Q:ar}(I:Inv X pins σ H s)(B:Np X.mg X.base)(hc:X.env.code=.ref c)(hk:pE X.K c T=ae)(tb:iX H T uN (X.env.qual++"<lambda>"))
 (hd:FL ps X.env=([],[]))(JG:IP sc X.env=pure cl)
 (q:∀(f c':Addr)(ct:aY)(h':Heap)(tk:Nat)(H':Hp),Inv X pins σ H' {s with heap:=h',toks:=tk}->iX H' T uN (X.env.qual++"<lambda>")->IJ T H H'->s.heap.objs.size<=f->(∀b o,H' b=aa o->H b=aa o\/b=T\/s.heap.objs.size<=b)->h'.get? f=aa (agi (X.env.qual++"<lambda>") ps body sc cl ((X.mg "__name__").getD .none) c' ct)->h'.CodeRec (.ref c') (X.env.qual++"<lambda>")->
  (∀b o,b≠T->s.heap.get? b=aa o->h'.get? b=aa o)->Q (.ref f) {s with heap:=h',toks:=tk}):
 bL (bJ X.prog X.w) A (eval (.Lambda ps body sc uN) X.env) Q E s:=by
 obtain⟨pt,hT,tr,st⟩:=tb
 have gT:=I.gd T _ hT
 obtain⟨bm,ob,b1,b2,b3,b4,b5,b6⟩:=B
 have g0:=I.mod.glob.keeps I.bk
 obtain⟨bk,bn⟩:=I.bs bm ob b3
 have nbT:bm≠T:=fun z=>by rw[z,hT]at bn;cases bn
 have ngT:cW≠T:=fun z=>by
  obtain⟨o,es,ep,e,d,_⟩:=g0;rw[z,gT]at e;cases e;cases d
 have nbG:bm≠cW:=fun z=>by
  obtain⟨o,es,ep,e,d,_⟩:=g0;rw[<-z,bk]at e;cases e;rw[b6]at d;cases d
 have bat:s.heap.BuiltinsAt X.mg T:=⟨bm,ob,b1,b2,nbG,nbT,bk,b4,b5,b6⟩
 have C:=PySem.W.codeHd_of_K I.wN hk
 refine PySem.W.kla_eval hd ?_
 rcases st with hn|⟨c',hs,hc'⟩
 ·refine PySem.W.kla_makeFunction JG I.ok.glob g0 hc C gT tr hn ngT bat fun c' ctv h' tk ex big lt UH gT'=>?_
  have fr:∀b,s.heap.objs.size<=b->H b=ab:=fun b hb=>I.gd.fresh hb
  have lT:=bF gT
  have ncT:=dk (bI lT big)
  obtain⟨c2,oc,vs,t,e2,hoc,hdc,hv⟩:=id UH
  cases e2
  have kp:∀b o,b≠T->s.heap.get? b=aa o->(h'.push (qH "<lambda>" (X.env.qual++"<lambda>") ps body sc cl ((X.mg "__name__").getD .none) c' ctv)).get? b=aa o:=fun b o nb e=>a9 _ (ex b o nb e)
  have sm:IJ T H (upd (upd H T (.FZ (pt++ #[j4 uN.line,j4 uN.col,.ref c']))) c' (PR c' (X.env.qual++"<lambda>"))):=fun b o nb e=>by
   rw[bB (bO e (fr c' big)),bB nb];exact e
  have stR:∀h1 h2:Heap,h1.CodeRec (.ref c') (X.env.qual++"<lambda>")->(∀o,h1.get? c'=aa o->h2.get? c'=aa o)->h2.CodeRec (.ref c') (X.env.qual++"<lambda>"):=fun h1 h2 ⟨x,oc,vs,t,e,g,r⟩ k=>by
   cases e;exact⟨c',oc,vs,t,rfl,k _ g,r⟩
  have afK:(h'.push (qH "<lambda>" (X.env.qual++"<lambda>") ps body sc cl ((X.mg "__name__").getD .none) c' ctv)).CodeRec (.ref c') (X.env.qual++"<lambda>"):=stR _ _ UH fun o e=>a9 _ e
  have nwT:∀b o,(upd (upd H T (.FZ (pt++ #[j4 uN.line,j4 uN.col,.ref c']))) c' (PR c' (X.env.qual++"<lambda>"))) b=aa o->b=c'\/b=T\/(b≠T/\H b=aa o):=fun b o e=>by
   by_cases e1:b=c'
   ·exact .inl e1
   rw[bB e1]at e;by_cases e2:b=T
   ·exact .inr (.inl e2)
   rw[bB e2]at e;exact .inr (.inr ⟨e2,e⟩)
  have I2:Inv X pins σ (upd (upd H T (.FZ (pt++ #[j4 uN.line,j4 uN.col,.ref c']))) c' (PR c' (X.env.qual++"<lambda>"))) {s with heap:=h'.push (qH "<lambda>" (X.env.qual++"<lambda>") ps body sc cl ((X.mg "__name__").getD .none) c' ctv),toks:=tk}:=by
   have ntr:∀b,H b=ab->b≠T:=fun b e z=>by rw[z,hT]at e;cases e
   refine I.un (t':=tk) ⟨fun b o e n _ _=>kp b o (ntr b n) e,fun b o e n _ _=>⟨o.slots,kp b o (ntr b n) e⟩,fun b o e n _=>?_,fun b o e _=>?_,fun b xs e=>sm b _ (fun z=>by rw[z,hT]at e;cases e) e,fun b o u e=>sm b _ (fun z=>by rw[z,hT]at e;cases e) e,fun b qs e=>?_⟩ fun b o e=>?_
   ·rw[bB (cg (bI (bF e) big)),bB (ntr b n)];exact n
   ·by_cases z:b=T
    ·exact⟨_,by rw[z];exact a9 _ gT'⟩
    exact⟨o,kp b o z e⟩
   ·by_cases z:b=T
    ·subst z;rw[hT]at e;cases e;exact⟨_,by rw[bB ncT.symm,ba]⟩
    exact⟨#[],by rw[sm b _ z e];simp⟩
   rcases nwT b o e with z|z|⟨z,z2⟩
   ·subst z;rw[ba]at e;cases e;exact⟨afK,⟨oc,a9 _ hoc⟩,stR⟩
   ·subst z;rw[bB ncT.symm,ba]at e;cases e;exact a9 _ gT'
   refine(I.gd b o z2).tJ (fun x v hx g=>kp x v ?_ g) (fun x y=>sm x _ ?_ y) fun x xs y=>sm x _ ?_ y
   ·rcases hx with y|y
    ·rw[y];exact z
    exact fun w=>by rw[w,hT]at y;cases y
   ·exact fun w=>by rw[w,hT]at y;cases y
   exact fun w=>by rw[w,hT]at y;cases y
  refine q h'.objs.size c' ctv _ tk _ I2 ⟨_,by rw[bB ncT.symm,ba],?_,.inr ⟨c',?_,ba⟩⟩ sm (cQ big (dm lt)) (fun b o e=>?_) (bH _ rfl) afK kp
  ·rw[Ba]
   exact TriplesOk_snoc _ _ _ _ tr
  ·rw[Ba]
   exact codeAmong_snoc _ tr hn
  rcases nwT b o e with z|z|⟨_,z⟩
  ·exact .inr (.inr (z▸big))
  ·exact .inr (.inl z)
  exact .inl z
 refine PySem.W.kla_makeFunctionHit JG I.ok.glob g0 hc C gT tr hs bat fun ctv h' tk kp sz=>?_
 have ajz:=(I.gd c' _ hc').1
 have kp2:∀b o,s.heap.get? b=aa o->(h'.push (qH "<lambda>" (X.env.qual++"<lambda>") ps body sc cl ((X.mg "__name__").getD .none) c' ctv)).get? b=aa o:=fun b o e=>a9 _ (kp b o e)
 refine q h'.objs.size c' ctv _ tk H (I.kept (t':=tk) kp2) ⟨pt,hT,tr,.inr ⟨c',hs,hc'⟩⟩ (fun b o _ e=>e) sz (fun b o e=>.inl e) (bH _ rfl) ?_ fun b o _ e=>kp2 b o e
 obtain⟨x,oc,vs,t,e,g,r⟩:=ajz
 exact⟨x,oc,vs,t,e,kp2 _ _ g,r⟩
end
end XL
end
section
namespace XL
open PySem PySem.Spec PyProof.Rows L2 sI
theorem G0(n:Nat):E5 0 (n:Int) 1=(n:Nat):=by
 rw[rangeSize_one];split<;>omega
theorem HY{n:Nat}(it:ItemsOf (fun i v=>∃t,v=lZ (0+(i:Nat)*1) t) acc n):kM acc.toList ((bw n).map fun(i:Nat)=>(i:Int)):=by
 refine TH (by rw[cY,it.1,aV,bZ]) fun i k hi=>?_;have hl:=(aZ.mp hi).1;rw[cY,it.1]at hl;rw[eI]at hi;obtain⟨t,e⟩:=it.2 i k hi;refine⟨i,t,by simp[hl],?_⟩;rw[e];congr 1;omega
section
variable{X:Cx}
inductive ac9(vs:ao)(H:Hp)(Q:VK):Prop
 |mk (n:Nat) (_:vs=[.int (n:Int)]) (_:∀p,H p=ab->Q (.ref p) (upd H p (.Z2 0 (n:Int))))
theorem PN:wD X (.type "range") ac9:=by
 intro pins s σ H vs us Q I r h;obtain⟨n,rfl,q⟩:=h;cases r with
 |cons r rr=>
  cases rr;obtain⟨t,rfl⟩:=r;exact call_range_1 ⟨.ref _,_,I.laid (o:=.Z2 0 (n:Int)) (t':=s.toks+1+1) (fun b o e=>a9 _ e) (bu _) ⟨_,_,_,bH _ rfl⟩,rfl,q _ (I.gd.fresh (bu _))⟩
inductive W6(vs:ao)(H:Hp)(Q:VK):Prop
 |mk (a:Addr) (n:Nat) (_:vs=[.ref a]) (_:H a=aa (.Z2 0 (n:Int))) (_:n<=1000) (_:∀l,H l=ab->Q (.ref l) (upd H l (.lst ((bw n).map fun(i:Nat)=>V.int (i:Int)))))
theorem RW(hc:X.calm=ae):wD X (.type "list") W6:=by
 intro pins s σ H vs us Q I r h;obtain⟨a,n,rfl,ha,j6,q⟩:=h;rw[Vals.ac5 r];obtain⟨t,u,v,hr⟩:=I.gd a _ ha;refine call_list_range (I.ok.hd hc) (show IsRange s.heap a 0 (n:Int) 1 t u v from hr) (small_one (by omega) (by omega) (by omega) (by omega)) (G0 n) (by omega) fun h' tk acc c k g it=>?_;have hi:=HY it;have e:((bw n).map fun(i:Nat)=>V.int (i:Int))=((bw n).map fun(i:Nat)=>(i:Int)).map V.int:=by rw[dA];rfl
 refine⟨.ref _,_,I.laid (o:=.lst ((bw n).map fun(i:Nat)=>V.int (i:Int))) (t':=tk) k (bu _) ⟨by rw[aV,bZ,bX];omega,acc.toList,c,?_,g⟩,rfl,q _ (I.gd.fresh (bu _))⟩;rw[e];exact qO hi
end
end XL
namespace sI
open PySem PySem.Spec PyProof.Rows
section
variable{P:b7}{w:cU}{A:cX}{E:ar}{s:bf}
theorem Ko{KA:Nat->aY->Heap->Prop}{κ:Heap->KeyKind}{kd:SortKind}{f:Addr}{OK:au->Prop}{Q:ar}(K:aba P w KA κ kd)
 (col:∀R:au->bf->Prop,(∀h' tk d' vs,Kept s.heap h'->s.heap.objs.size<h'.objs.size->OK vs->R vs {s with heap:=h',toks:=tk,drawn:=d'})->bL (bJ P w) A.in1 (collect (.ref r)) R E s)(j6:∀vs,OK vs->vs.length<=1000)
 (turn:∀vs,OK vs->∀(i:Nat)(v:aY),vs[i]?=aa v->∀s':bf,Kept s.heap s'.heap->bL (bJ P w) A.in1.in1 (call (.ref f) [v]) (fun k s₂=>∃h' tk',s₂={s' with heap:=h',toks:=tk'}/\Kept s'.heap h'/\KA i k h') (fun _ _=>False) s')
 (q:∀(D:Addr)(h' h2:Heap)(tk c:Nat)(d':Drawn)(vs keys:au)(ps:Array Keyed),OK vs->Kept s.heap h'->s.heap.objs.size<=D->h'.get? D=aa (iR "list" (ps.map (·.2)) c)->keys.length=vs.length->(∀(i:Nat)(k:aY),keys[i]?=aa k->KA i k h2)->
  ps.Perm (keys.zip vs).toArray->NA (κ h2) ps ps.size->Stable (κ h2) ps (keys.zip vs).toArray->Q (.ref D) {s with heap:=h',toks:=tk,drawn:=d'}):
 bL (bJ P w) A (call (.builtin "sorted") [.ref r] [(jd "key",.ref f)]) Q E s:=by
 refine call_function_entry_kw kind_sorted plain_sorted entry_sorted (ksk_s1 _ _) ?_
 unfold Builtin.«sorted»
 refine aO (m:=checkCount "sorted" 1 1 _) (bg ?_)
 refine aO (col _ fun h1 tk1 d1 vs k1 big ok=>?_)
 have sl:=bX
 have fw:=j6 vs ok
 refine aO (VM ?_ (by omega))
 have gD:(h1.push (iR "list" vs.toArray 0)).get? h1.objs.size=aa (iR "list" vs.toArray 0):=bH _ rfl
 have kp:∀{h:Heap},VL h1.objs.size (h1.push (iR "list" vs.toArray 0)) h->Kept s.heap h:=fun{h} b x o e=>b x o (cg (bF (k1 x o e))) (a9 _ (k1 x o e))
 refine aO (d7 (wpAny_call_entry_kw slot_list_sort ⟨_,gD,rfl⟩ entry_list_sort ?_ (ksk_l1 _ _)))
 show bL (bJ P w) A.in1.in1 (Builtin.«list.sort» ⟨[.ref h1.objs.size],[(jd "key",.ref f)]⟩) _ _ _
 rw[ksk_t1]
 refine XY (s:={s with heap:=h1.push (iR "list" vs.toArray 0),toks:=tk1,drawn:=d1}) K gD fw (fun i v hv h tk bt=>turn vs ok i v hv {s with heap:=h,toks:=tk,drawn:=d1} (kp bt)) fun h' h2 tk c keys ps b g lk ka pm so sb=>⟨_,rfl,?_⟩
 exact bg ⟨_,rfl,q _ h' h2 tk c d1 vs keys ps ok (kp b) (dm big) g lk ka pm so sb⟩
theorem Vz{n:Nat}{t u v:Tok}(hh:A.handled=ab)(hr:IsRange s.heap r 0 (n:Int) 1 t u v)(j6:n<=1000)(R:au->bf->Prop)
 (q:∀h' tk d' vs,Kept s.heap h'->s.heap.objs.size<h'.objs.size->kM vs ((bw n).map fun(i:Nat)=>(i:Int))->R vs {s with heap:=h',toks:=tk,drawn:=d'}):bL (bJ P w) A.in1 (collect (.ref r)) R E s:=by
 have sm:=small_one (a:=0) (b:=(n:Int)) (by omega) (by omega) (by omega) (by omega)
 refine IA (A:=A.in1) (n:=n) (OK:=fun V=>V=fun i v=>∃t,v=lZ (0+(i:Nat)*1) t) ⟨_,hr,rfl⟩ (by decide) (by decide) (by rw[bX];omega)
  (fun E s' Q k h=>wpAny_hint_range (k _ _ hr) (XL.G0 n) (by omega) (h _ _)) (fun E s' Q k h=>wpAny_pyIter_range (k _ _ hr) sm ?_) fun h' tk d' V acc k big ok it=>?_
 ·refine h s'.heap.objs.size _ s'.drawn _ _ _ Kept.push (fun b hb=>.inr (kX (bT.mp hb).symm)) (bu _) rfl (Walks.range (by simpa using hh) s'.heap.objs.size 0 1 n) ?_
  rw[XL.G0]
  show(s'.heap.push _).get? _=aa _
  have e1:(0:Int)+((0:Nat):Int)*1=0:=by omega
  have e2:((n:Nat):Int)-((0:Nat):Int)=(n:Int):=by omega
  rw[e1,e2]
  exact bH _ rfl
 subst ok
 exact q h' tk d' acc.toList k big (XL.HY it)
end
end sI
end
section
namespace XL
open PySem PySem.Spec PyProof.Rows L2 sI
inductive Sg(kz ns:List Int):Prop
 |mk (qs:List (Int×Int)) (_:qs.Perm (kz.zip ((bw kz.length).map fun(i:Nat)=>(i:Int)))) (_:ns=qs.map (·.2)) (_:qs.Pairwise (fun p q=>p.1<=q.1)) (_:∀c,qs.filter (fun p=>p.1==c)=(kz.zip ((bw kz.length).map fun(i:Nat)=>(i:Int))).filter fun p=>p.1==c)
theorem Tv:∀{vs:au}{ns:List Int},kM vs ns->vs.map Sn=ns
 |_,_,.nil=>rfl
 |_,_,.cons n t h=>by rw[dC,Tv h];rfl
theorem Pd:∀{vs:au},(∀v∈vs,∃n t,v=.int n t)->kM vs (vs.map Sn)
 |[],_=>.nil
 |v::vs,h=>by
  obtain⟨n,t,e⟩:=h v (bM ..);subst e;exact .cons n t (Pd fun v hv=>h v (bC _ hv))
theorem Pc:∀{vs:au}{ns:List Int},kM vs ns->∀v∈vs,∃n t,v=.int n t
 |_,_,.nil,v,hv=>by cases hv
 |_,_,.cons n t h,v,hv=>by
  rcases bP.mp hv with e|e
  ·exact⟨n,t,e⟩
  exact Pc h v e
theorem UC{kz:List Int}(hv:kM vs ((bw kz.length).map fun(i:Nat)=>(i:Int)))(k:KskOutSt af kz vs out):kM out (out.map Sn)/\Sg kz (out.map Sn):=by
 obtain⟨ps,p1,p2,p3,p4⟩:=k;have lv:vs.length=kz.length:=by rw[hv.length,aV,bZ]
 have e0:(kz.zip vs).map (fun p=>(p.1,Sn p.2))=kz.zip ((bw kz.length).map fun(i:Nat)=>(i:Int)):=by
  rw[<-Tv hv,V5];rfl
 have allI:∀v∈out,∃n t,v=.int n t:=fun v hm=>by
  rw[p2]at hm;obtain⟨p,hp,e⟩:=dh.mp hm;have:=(nL (show(p.1,p.2)∈kz.zip vs from p1.mem_iff.mp hp)).2;rw[<-e];exact Pc hv _ this
 refine⟨Pd allI,ps.map fun p=>(p.1,Sn p.2),by rw[<-e0];exact p1.map _,by rw[p2,dA,dA];rfl,?_,fun c=>?_⟩
 ·rw[jR];exact p3.imp fun h=>by simpa using h
 rw[<-e0,List.filter_map,List.filter_map];have:=p4 c;show(ps.filter fun p=>p.1==c).map _=((kz.zip vs).filter fun p=>p.1==c).map _;rw[this]
theorem By{H:Hp}{o:HO}(h:H p=ab):bG H (upd H p o):=fun b u e=>by rw[bB (bO e h)];exact e
theorem Lr{K:aX}{H H':Hp}{T:Addr}(h:du K H a xs)(b:IJ T H H')(n:∀c o,H c=aa o->(∀ps,o≠ .FZ ps)->c≠T):du K H' a xs:=by
 rcases h with(h|⟨o,h⟩)|h
 ·exact .inl (.inl (b a _ (n a _ h fun _ z=>by cases z) h))
 ·exact .inl (.inr ⟨o,b a _ (n a _ h fun _ z=>by cases z) h⟩)
 exact .inr h
section
variable{X:Cx}
def acH(X:Cx)(i:Nat)(T:Addr)(uN:Pos)(te:TE):TE:=fun σ H Q=>te σ H fun v H1=>∃(r ls:Addr)(ks:List Int),v=.ref r/\H1 r=aa (.Z2 0 (ks.length:Int))/\ks.length<=1000/\σ[i]?=aa (aa (.ref ls))/\du X.K H1 ls (ks.map V.int)/\iX H1 T uN (X.env.qual++"<lambda>")/\
 ∀(ns:List Int)(D:Addr)(H2:Hp),iX H2 T uN (X.env.qual++"<lambda>")->IJ T H1 H2->H1 D=ab->H2 D=aa (.lst (ns.map V.int))->Sg (ks.map fun k=>-k) ns->Q (.ref D) H2
theorem Xi{i:Nat}{y:Str}{e:Expr}{te:TE}{U2 pos:Pos}{T cy:Addr}{k:Nat}(Yd:X.calm=ae)(hr:gG k X.A)(hg:Gl X "sorted")(hm:X.mg "sorted"=ab)(he:PE X e te)(B:Np X.mg X.base)
 (hc:X.env.code=.ref c)(hk:pE X.K c T=ae)(hd:FL ps X.env=([],[]))(JG:IP sc X.env=pure [(y,cy)])(hcy:X.env.cells.lookup y=aa cy)(hi:X.N[i]?=aa y)(hyk:X.env.scope.names.lookup y=aa .cell)
 (hb:∀(pm ct v:aY)(c':Addr),oO (IT "<lambda>" (X.env.qual++"<lambda>") ps (.UnaryOp .USub (.Subscript (.Name y p1) (.Name x p2) p3) p4) sc [(y,cy)] pm (.ref c') ct) ⟨[v],[]⟩=pure [(x,v)])
 (hx:sc.names.lookup x=aa .local)(hy:sc.names.lookup y=aa .free)(nc:∀z∈sc.names,z.2≠ .cell)(co:sc.isCoroutine=af)(ge:sc.isGenerator=af)(hkf:sc.kind=.function)(d1:(x==("__debug__":Str))=af)(d2:(y==("__debug__":Str))=af)(d3:(y==("__classdict__":Str))=af)
 (hs:bW [e] X.env=(af,eval e X.env)::bW [] X.env:=by rfl):
 PE X (.Call (.Name "sorted" p) [e] [⟨aa "key",.Lambda ps (.UnaryOp .USub (.Subscript (.Name y p1) (.Name x p2) p3) p4) sc uN,U2⟩] pos) (acH X i T uN te):=by
 intro pins s σ H Q I h
 refine fe (rO I hg hm boot_sorted (callWith_kw ?_ (by rw[hs];rfl) (by rw[hs];rfl)) (by decide) (by decide))
 rw[hs]
 show bL _ _ (EZ ((af,eval e X.env)::gz pos (bW [] X.env))) _ _ s
 refine iz (ib (he pins s σ H _ I h) fun v s1 ⟨v',H1,I1,r1,q1⟩=>jL ?_)
 obtain⟨r,ls,ks,rfl,hrn,j6,hσ,lY,tab,q⟩:=q1
 cases r1
 show bL _ _ (evalAll ((do let v<-eval (.Lambda ps (.UnaryOp .USub (.Subscript (.Name y p1) (.Name x p2) p3) p4) sc uN) X.env;se pos;pure v)::[])) _ _ s1
 refine wpAny_evalAll_cons (aO (O8 I1 B hc hk tab hd JG fun f c' ct h3 tk3 H3 I3 Oc bt aer nw gf UH kp3=>aO (lO (bg (wpAny_evalAll_nil ?_)))))
 show bL _ _ (call (.builtin "sorted") [.ref r] [(jd "key",.ref f)]) _ _ _
 have nT:∀b o,H1 b=aa o->(∀ps,o≠ .FZ ps)->b≠T:=fun b o e n z=>by
  obtain⟨pt,hT,_⟩:=tab;rw[z,hT]at e;cases e;exact n _ rfl
 have ajy:=bt r _ (nT r _ hrn fun _ z=>by cases z) hrn
 obtain⟨t0,u0,v0,gr⟩:=I3.gd r _ ajy
 have ajM:=Lr lY bt nT
 obtain⟨its,rv,pl,_⟩:=I3.list ajM
 have hi3:=rv.ints
 obtain⟨m,_,hl⟩:=I3.loc
 obtain⟨u,ru,lk⟩:=hl i y (.ref ls) hi hσ (.inr (.inl hyk))
 cases ru
 have cell:h3.IsCell cy (aa (.ref ls)):=by
  rcases lk with⟨z,_⟩|⟨_,c2,z1,z2⟩
  ·rw[show X.env.kindOf y=X.env.scope.names.lookup y from rfl,hyk]at z;cases z
  rw[hcy]at z1;cases z1;exact z2
 have lim:=I3.nolimit
 have hh:=I.ok.hd Yd
 refine Ko (s:={s1 with heap:=h3,toks:=tk3}) (adJ (ks.map fun k=>-k)) (fun R q=>Vz hh (show IsRange h3 r 0 (ks.length:Int) 1 t0 u0 v0 from gr) j6 R q) (fun vs ok=>?_) (fun vs ok j v hj s' k'=>?_) fun D h' h2 tk cc d' vs keys qs ok kk big g lk2 ka pm so sb=>?_
 ·rw[ok.length,aV,bZ]
  exact j6
 ·obtain⟨t,ev⟩:=yx ok j v hj
  have jl:j<ks.length:=by
   have:=(aZ.mp hj).1;rw[ok.length,aV,bZ]at this;exact this
  have ev:v=.int (j:Int) t:=by
   rw[ev];simp[jl]
  subst ev
  have Yj:its[j]?=aa (its[j]'(by rw[hi3.length];exact jl)):=bE _
  obtain⟨u,eu⟩:=yx hi3 j _ Yj
  have ek:ks.getD j 0=ks[j]:=by simp[jl]
  rw[ek]at eu
  refine Pa (A:=X.A.in1.in1) (lim.keeps k') hr.depth (k' _ _ gf) (let⟨z,oc,vs,t,e,g,r⟩:=UH;⟨z,oc,vs,t,e,k' _ _ g,r⟩) (hb _ _ _ _) hx nc co ge hkf fun h1 L ns1 k1=>?_
  refine XB (m:=fun z=>[(x,lZ (j:Int) t)].lookup z) (i:=j) (n:=ks[j]) (its:=its) (t:=t) (u:=u) (c:=cy) (l:=ls) hkf ns1 hx (by simp[ie]) hy (by simp[ie]) ?_ ?_ (by rw[Yj,eu]) ?_ d1 d2 d3 fun tk t'=>?_
  ·obtain⟨o,e1,e2⟩:=cell
   exact⟨o,k1 _ _ (k' _ _ e1),e2⟩
  ·exact pl.isList.at fun o e=>k1 _ _ (k' _ _ e)
  ·rw[hi3.length,bX]
   omega
  exact⟨h1,tk,rfl,k1,-ks[j],t',by simp[jl],rfl⟩
 have kI:=TH (by rw[lk2,ok.length,aV,bZ,aV]) ka
 have zz:(keys.toArray.zip vs.toArray)=(keys.zip vs).toArray:=by
  apply J9;simp
 have ko:=ksk_outSt (b:=af) (keys:=keys.toArray) (vs:=vs) (by simpa using kI) (xs:=qs) (by rw[zz];exact pm) (sortedTo_of_int so) (by rw[zz];exact sb)
 simp only[cC,if_false]at ko
 have ok2:kM vs ((bw (ks.map fun k=>-k).length).map fun(i:Nat)=>(i:Int)):=by rw[aV];exact ok
 obtain⟨o1,o2⟩:=UC ok2 ko
 have ol:(qs.map (·.2)).size=ks.length:=by
  rw[Array.size_map,pm.size_eq,bY,yr,lk2,FT,ok.length,aV,bZ]
 have aeC:s1.heap.objs.size<=D:=cQ (dm (by
  have:=bF gf;exact oB aer this)) big
 have H3D:=I3.gd.fresh big
 refine⟨.ref D,upd H3 D (.lst (((qs.map (·.2)).toList.map Sn).map V.int)),Inv.drawn (I3.laid (o:=.lst (((qs.map (·.2)).toList.map Sn).map V.int)) (t':=tk) kk big ⟨by rw[aV,aV,cY,ol,bX];omega,(qs.map (·.2)).toList,cc,qO o1,g⟩) d',rfl,
  q ((qs.map (·.2)).toList.map Sn) D _ (Oc.same (By H3D)) (fun b o nb e=>By H3D b o (bt b o nb e)) (I1.gd.fresh aeC) ba o2⟩
end
def Ik(os:List Int)(m:List Nat):Int×Int:=(os.getD (m.headD 0) 0,(m.headD 0:Nat))
section
variable{X:Cx}
def acI(X:Cx)(i:Nat)(T:Addr)(uN:Pos)(te:TE):TE:=fun σ H Q=>te σ H fun v H1=>∃(r ls:Addr)(gs:ag)(os:List Int)(ms:List (List Nat)),v=.ref r/\du X.K H1 r (gs.map V.ref)/\gs.length<=1000/\σ[i]?=aa (aa (.ref ls))/\du X.K H1 ls (os.map V.int)/\os.length<=1000/\
 fJ (fun g m=>du X.K H1 g (m.map fun(n:Nat)=>V.int (n:Int))/\0<m.length/\m.headD 0<os.length) gs ms/\iX H1 T uN (X.env.qual++"<lambda>")/\
 ∀(zs:List ((Int×Int)×Addr))(D:Addr)(H2:Hp),iX H2 T uN (X.env.qual++"<lambda>")->IJ T H1 H2->H1 D=ab->H2 D=aa (.lst ((zs.map (·.2)).map V.ref))->zs.Perm ((ms.map (Ik os)).zip gs)->zs.Pairwise (fun p q=>leP p.1 q.1)->Q (.ref D) H2
theorem Tq{α β:Type}{F:α->β->Prop}:∀{l:List α}{m:List β}{i:Nat}{a:α},fJ F l m->l[i]?=aa a->∃b,m[i]?=aa b/\F a b
 |_,_,_,_,.nil,h=>by simp at h
 |_,_,0,_,.cons r t,h=>by
  simp at h;subst h;exact⟨_,rfl,r⟩
 |_,_,i+1,_,.cons r t,h=>by
  have:=Tq t (i:=i) (by simpa using h);simpa using this
theorem Tc:∀{gs:ag}{vs:au},Vals (gs.map V.ref) vs->vs=gs.map cp
 |[],_,.nil=>rfl
 |_::_,_,.cons r t=>by rw[Tc t];cases r;rfl
theorem Xj{i:Nat}{y:Str}{e:Expr}{te:TE}{U2 pos:Pos}{T cy:Addr}{k:Nat}(Yd:X.calm=ae)(hr:gG k X.A)(hg:Gl X "sorted")(hm:X.mg "sorted"=ab)(he:PE X e te)(B:Np X.mg X.base)
 (hc:X.env.code=.ref c)(hk:pE X.K c T=ae)(hd:FL ps X.env=([],[]))(JG:IP sc X.env=pure [(y,cy)])(hcy:X.env.cells.lookup y=aa cy)(hi:X.N[i]?=aa y)(hyk:X.env.scope.names.lookup y=aa .cell)
 (hb:∀(pm ct v:aY)(c':Addr),oO (IT "<lambda>" (X.env.qual++"<lambda>") ps (.Tuple [.Subscript (.Name y p1) (.Subscript (.Name x p2) (.Constant (.int 0) j1 p3) p4) p5,.Subscript (.Name x p6) (.Constant (.int 0) j2 p7) p8] kk p9) sc [(y,cy)] pm (.ref c') ct) ⟨[v],[]⟩=pure [(x,v)])
 (hx:sc.names.lookup x=aa .local)(hy:sc.names.lookup y=aa .free)(nc:∀z∈sc.names,z.2≠ .cell)(co:sc.isCoroutine=af)(ge:sc.isGenerator=af)(hkf:sc.kind=.function)(d1:(x==("__debug__":Str))=af)(d2:(y==("__debug__":Str))=af)(d3:(y==("__classdict__":Str))=af)
 (hs:bW [e] X.env=(af,eval e X.env)::bW [] X.env:=by rfl):
 PE X (.Call (.Name "sorted" p) [e] [⟨aa "key",.Lambda ps (.Tuple [.Subscript (.Name y p1) (.Subscript (.Name x p2) (.Constant (.int 0) j1 p3) p4) p5,.Subscript (.Name x p6) (.Constant (.int 0) j2 p7) p8] kk p9) sc uN,U2⟩] pos) (acI X i T uN te):=by
 intro pins s σ H Q I h
 refine fe (rO I hg hm boot_sorted (callWith_kw ?_ (by rw[hs];rfl) (by rw[hs];rfl)) (by decide) (by decide))
 rw[hs]
 show bL _ _ (EZ ((af,eval e X.env)::gz pos (bW [] X.env))) _ _ s
 refine iz (ib (he pins s σ H _ I h) fun v s1 ⟨v',H1,I1,r1,q1⟩=>jL ?_)
 obtain⟨r,ls,gs,os,ms,rfl,hrn,j6,hσ,lY,ao8,pr,tab,q⟩:=q1
 cases r1
 show bL _ _ (evalAll ((do let v<-eval (.Lambda ps (.Tuple [.Subscript (.Name y p1) (.Subscript (.Name x p2) (.Constant (.int 0) j1 p3) p4) p5,.Subscript (.Name x p6) (.Constant (.int 0) j2 p7) p8] kk p9) sc uN) X.env;se pos;pure v)::[])) _ _ s1
 refine wpAny_evalAll_cons (aO (O8 I1 B hc hk tab hd JG fun f c' ct h3 tk3 H3 I3 Oc bt aer nw gf UH kp3=>aO (lO (bg (wpAny_evalAll_nil ?_)))))
 show bL _ _ (call (.builtin "sorted") [.ref r] [(jd "key",.ref f)]) _ _ _
 have nT:∀b o,H1 b=aa o->(∀ps,o≠ .FZ ps)->b≠T:=fun b o e n z=>by
  obtain⟨pt,hT,_⟩:=tab;rw[z,hT]at e;cases e;exact n _ rfl
 obtain⟨vs0,rv0,pl0,_⟩:=I3.list (Lr hrn bt nT)
 have ev0:=Tc rv0
 obtain⟨its,rv,pl,_⟩:=I3.list (Lr lY bt nT)
 have hi3:=rv.ints
 obtain⟨m,_,hl⟩:=I3.loc
 obtain⟨u,ru,lk⟩:=hl i y (.ref ls) hi hσ (.inr (.inl hyk))
 cases ru
 have cell:h3.IsCell cy (aa (.ref ls)):=by
  rcases lk with⟨z,_⟩|⟨_,c2,z1,z2⟩
  ·rw[show X.env.kindOf y=X.env.scope.names.lookup y from rfl,hyk]at z;cases z
  rw[hcy]at z1;cases z1;exact z2
 have lim:=I3.nolimit
 have hh:=I.ok.hd Yd
 have lms:=(dM pr).symm
 have lvs:vs0.length=gs.length:=by rw[ev0,aV]
 have sl:=bX
 refine Ko (s:={s1 with heap:=h3,toks:=tk3}) (OK:=fun vs=>vs=vs0) (aaw (ms.map (Ik os))) (fun R q=>collect_list pl0.isList (q _ _ _ _ (fun b o e=>?_) ?_ rfl) (by omega)) (fun vs ok=>by rw[ok];omega) (fun vs ok j v hj s' k'=>?_) fun D h' h2 tk cc d' vs keys qs ok kk big g lk2 ka pm so sb=>?_
 ·exact(cq _ _ (dk (bF e))).trans (a9 _ e)
 ·rw[l5,dz]
  exact eN _
 ·subst ok
  rw[ev0,bK]at hj
  cases hgj:gs[j]? with
  |none=>rw[hgj]at hj;cases hj
  |some gj=>
   rw[hgj]at hj
   cases hj
   obtain⟨mj,hmj,sq,m0,ml⟩:=Tq pr hgj
   obtain⟨gi,rg,pg,zg⟩:=I3.list (Lr sq bt nT)
   have hgi:kM gi (mj.map fun(n:Nat)=>(n:Int)):=by
    have:(mj.map fun(n:Nat)=>V.int (n:Int))=(mj.map fun(n:Nat)=>(n:Int)).map V.int:=by rw[dA];rfl
    rw[this]at rg;exact rg.ints
   obtain⟨a0,rest,em⟩:∃a0 rest,mj=a0::rest:=by
    cases mj with
    |nil=>cases m0
    |cons a r=>exact⟨a,r,rfl⟩
   subst em
   have g0:∃t,gi[0]?=aa (.int (a0:Nat) t):=by
    cases hgi with
    |cons n t h=>exact⟨t,rfl⟩
   obtain⟨t,g0⟩:=g0
   have ml:=ml
   have Yj:its[a0]?=aa (its[a0]'(by rw[hi3.length];exact ml)):=bE _
   obtain⟨u,eu⟩:=yx hi3 a0 _ Yj
   refine Pa (A:=X.A.in1.in1) (lim.keeps k') (by have:=hr.dp;show X.A.depth<_;omega) (k' _ _ gf) (let⟨z,oc,vs,t,e,g,r⟩:=UH;⟨z,oc,vs,t,e,k' _ _ g,r⟩) (hb _ _ _ _) hx nc co ge hkf fun h1 L ns1 k1=>?_
   refine pair_items (m:=fun z=>[(x,cp gj)].lookup z) (i:=a0) (n:=os.getD a0 0) (its:=its) (gs:=gi) (t:=t) (u:=u) (c:=cy) (l:=ls) (g:=gj) hkf ns1 hx (by simp[ie]) ?_ g0 ?_ hy (by simp[ie]) ?_ ?_ (by rw[Yj,eu]) ?_ d1 d2 d3 fun tk a h9 g9 k9=>?_
   ·exact pg.isList.at fun o e=>k1 _ _ (k' _ _ e)
   ·rw[<-rg.length]
    exact zg
   ·obtain⟨o,e1,e2⟩:=cell
    exact⟨o,k1 _ _ (k' _ _ e1),e2⟩
   ·exact pl.isList.at fun o e=>k1 _ _ (k' _ _ e)
   ·rw[hi3.length]
    omega
   refine⟨h9,tk,rfl,k1.trans k9,os.getD a0 0,(a0:Nat),a,u,t,0,?_,rfl,g9⟩
   rw[bK,hmj]
   rfl
 subst ok
 obtain⟨zs,z1,z2,z3⟩:=UP (kz:=ms.map (Ik os)) (vs:=vs) lk2 (by rw[aV];omega) ka pm so
 have e0:(ms.map (Ik os)).zip vs=((ms.map (Ik os)).zip gs).map fun p=>(p.1,cp p.2):=by
  rw[ev0,V5];rfl
 have allR:∀z∈zs,∃a,z.2=cp a:=fun z hz=>by
  have:=z1.mem_iff.mp hz;rw[e0]at this;obtain⟨w,_,e⟩:=dh.mp this;rw[<-e];exact⟨_,rfl⟩
 have lst:zs=(zs.map fun z=>(z.1,(match z.2 with|.ref a=>a|_=>0:Addr))).map fun p=>(p.1,cp p.2):=by
  rw[dA];conv=>lhs;rw[<-qM zs]
  refine dj fun z hz=>?_;obtain⟨a,e⟩:=allR z hz;obtain⟨z1,z2⟩:=z;simp only at e;subst e;rfl
 generalize hws:(zs.map fun z=>(z.1,(match z.2 with|.ref a=>a|_=>0:Addr)))=ws at lst
 have pw:ws.Perm ((ms.map (Ik os)).zip gs):=by
  rw[lst,e0]at z1
  have inj:∀{l:List ((Int×Int)×Addr)},(l.map fun p=>(p.1,cp p.2)).map (fun z=>(z.1,(match z.2 with|.ref a=>a|_=>0:Addr)))=l:=fun{l}=>by
   rw[dA];conv=>rhs;rw[<-qM l]
   exact dj fun z _=>rfl
  have:=z1.map fun z=>(z.1,(match z.2 with|.ref a=>a|_=>0:Addr));rw[inj,inj]at this;exact this
 have pw2:ws.Pairwise fun p q=>leP p.1 q.1:=by
  rw[lst,jR]at z3;exact z3
 have ov:(qs.map (·.2)).toList=(ws.map (·.2)).map cp:=by
  rw[z2,lst,dA,dA];rfl
 have lw:ws.length=gs.length:=by rw[pw.length_eq,yr,aV,lms,FT]
 have aeC:=cQ (dm (oB aer (bF gf))) big
 have H3D:=I3.gd.fresh big
 have vv:Vals ((ws.map (·.2)).map V.ref) (qs.map (·.2)).toList:=by
  rw[ov];exact DD _
 exact⟨.ref D,upd H3 D (.lst ((ws.map (·.2)).map V.ref)),Inv.drawn (I3.laid (o:=.lst ((ws.map (·.2)).map V.ref)) (t':=tk) kk big ⟨by rw[aV,aV,lw];omega,(qs.map (·.2)).toList,cc,vv,g⟩) d',rfl,
  q ws D _ (Oc.same (By H3D)) (fun b o nb e=>By H3D b o (bt b o nb e)) (I1.gd.fresh aeC) ba pw pw2⟩
end
end XL
end
section
namespace SR
open PySem PySem.Spec PyProof.Rows L2 XL
variable{P:b7}{w:cU}{K:aX}{mg:aj}{base:Heap}
theorem Fd(n m:Nat)(f:Nat->Bool)(h:∀i,i<n->(f i=ae↔i<m))(hm:m<=n):(bw n).filter f=bw m:=by
 induction n generalizing m with
 |zero=>
  have e:m=0:=by omega
  subst e;rfl
 |succ n ih=>
  rw[eY,kK];by_cases hn:m<=n
  ·rw[ih m (fun i hi=>h i (by omega)) hn,gM (by rw[h n (by omega)];omega),k5,ck]
  have e:m=n+1:=by omega
  subst e;rw[ih n (fun i hi=>by rw[h i (by omega)];omega) (bu _),fD ((h n (by omega)).mpr (by omega)),k5,eY]
theorem uh.num(w:uh p):∃m,m<=p.length/\(dw p)=bw m/\(dw p).length=m/\∀(i:Nat)(s:dQ),p[i]?=aa s->(s.input=ae↔i<m):=by
 obtain⟨m,hm,f⟩:=w.ins
 have e:dw p=bw m:=by
  unfold dw;refine Fd _ _ _ (fun i hi=>?_) hm;have hs:=bE hi;rw[hs];exact f i _ hs
 exact⟨m,hm,e,by rw[e,bZ],f⟩
theorem F7(n:Nat)(f:Nat->Nat)(k v:Nat):((bw n).map f).set k v=(bw n).map fun a=>if a=k then v else f a:=by
 refine jq (by simp) fun i h1 h2=>?_;rw[List.getElem_set];have hi:i<n:=by simpa using h2
 simp only[l4,nR];by_cases hk:k=i
 ·rw[c8 hk,c8 hk.symm]
 rw[cP hk,cP (de hk)]
theorem Lh(l:List Nat)(k v:Nat):(tx l).set k (V.int (v:Int))=tx (l.set k v):=by
 unfold tx;rw[List.map_set]
theorem Ip{a b:Nat}(h:a<=b):bD p a<=bD p b:=by
 unfold bD;omega
def LT(p:aT)(i a:Nat):Nat:=(((bw i).filter (qf p a)).map (bD p)).foldl max (bD p a)
theorem B5:∀(l:List Nat)(b c:Nat),b<=c->(∀x∈l,x<=c)->l.foldl max b<=c
 |[],_,_,h,_=>h
 |x::l,b,c,h,f=>B5 l (max b x) c (Nat.max_le.mpr ⟨h,f x (bM ..)⟩) fun y hy=>f y (bC _ hy)
theorem Ut(w:uh p){b:Nat}(h:qf p a b=ae):a<b/\∃s,p[b]?=aa s/\s.uses.contains a=ae:=by
 unfold qf at h;cases hs:p[b]? with
 |none=>rw[hs]at h;cases h
 |some s=>
  rw[hs]at h;have h:s.uses.contains a=ae:=h;exact⟨w.uses b s hs a (dN.mp h),s,rfl,h⟩
theorem aa8(w:uh p)(i a:Nat):LT p (i+1) a=if qf p a i=ae then bD p i else LT p i a:=by
 unfold LT;rw[eY,kK];by_cases h:qf p a i=ae
 ·rw[c8 h,fD h,k5,b9,hV];show max _ (bD p i)=_;refine IW (B5 _ _ _ (Ip (dm (Ut w h).1)) fun x hx=>?_);obtain⟨b,hb,e⟩:=dh.mp hx;have:=cj.mp (cH.mp hb).1;rw[<-e];exact Ip (dm this)
 rw[cP h,gM h,k5,ck]
def EN(p:aT)(a:Nat):Bool:=((p[a]?).map fun s=>s.out).getD af
theorem TF(p:aT)(a:Nat):di p a=if EN p a=ae then iZ p else LT p p.length a:=rfl
theorem iQ{p:aT}{i:Nat}(h:p[i]?=aa s):aU p i=s.length:=by
 unfold aU;rw[h];rfl
def UZ(H:Hp)(Q:VK)(l:List Nat):Prop:=∀a H',H a=ab->bG H H'->H' a=aa (.lst (tx l))->Q (.ref a) H'
inductive Ou(CS CP:Addr)(R:aT->Hp->VK->Prop)(vs:ao)(H:Hp)(Q:VK)(z':XK):Prop
 |mk (a:Addr) (p:aT) (_:vs=[.ref a]) (_:jH CS CP H a p) (_:uh p) (_:R p H Q)
def GL(CS CP:Addr):Sp:=Ou CS CP fun p H Q=>UZ H Q ((bw p.length).map (bD p))
def QS(CS CP:Addr):Sp:=Ou CS CP fun p H Q=>∀H',bG H H'->Q (.int (iZ p:Nat)) H'
theorem IE{H:Hp}{bs:ag}{p:aT}(sa:wB CS H bs (p.map (l8 p))):bs.length=p.length:=by
 have:=dM sa;rw[aV]at this;exact this
theorem Ll{H:Hp}{bs:ag}{p:aT}{i:Nat}(sa:wB CS H bs (p.map (l8 p)))(hx:(bs.map V.ref)[i]?=aa x):∃s b,p[i]?=aa s/\x=.ref b/\bs[i]?=aa b/\Nj CS H b (l8 p s)/\i<p.length:=by
 have hi:i<p.length:=by
  have:=(aZ.mp hx).1;rw[aV,IE sa]at this;exact this
 have hs:=bE hi;obtain⟨b,hb,st⟩:=F0 sa hs;rw[iu hb]at hx;exact⟨p[i],b,hs,(bR hx).symm,hb,st,hi⟩
theorem ee(l:List Nat):(tx l).length=l.length:=by unfold tx;rw[aV]
theorem Dm(l:List Nat)(n:Nat):tx l++[V.int (n:Int)]=tx (l++[n]):=by unfold tx;rw[b9];rfl
theorem n8(f:Nat->Nat)(i:Nat):(bw i).map f++[f i]=(bw (i+1)).map f:=by rw[eY,b9];rfl
theorem HE{f:Addr}(F:iF K "first_times" "first_times" tT f fd)(S:FE K CS)(G:FF K CP):dv P w K mg base eJ 1 f fd jT (GL CS CP):=by
 refine F.ok xg fun fA A outer s H vs Q E hr h=>?_;obtain⟨a,p,rfl,pa,pw,q⟩:=h;obtain⟨dp,ls,lo,bs,os,ha,lY,sa,D4,oa⟩:=id pa;obtain⟨m,hm,_,em,fm⟩:=pw.num;have nd:=xg.nd
 refine⟨_,bh (jy 1 nd (eA bq))
  (bh (jy 2 nd cE)
  (bh (eZ bV rfl (fP (cu (pv 0) rfl)) (oX 3 nd)
   (bh (d8 (cR wo (cu (pv 3) rfl) eM (da _)) (bj (rL (i:=2) nd rfl (ur rfl) cE qz)) cS)
   (bj (dJ (md cb c7 cZ iN (pv 1) (aP (pv 2) bq))))))
  (bj (b8 (pv 1))))),?_⟩
 refine⟨by show 0<=bz;decide,fun l hl=>?_⟩;have s1:bG H (upd H l (.lst [])):=bG.new hl
 refine⟨_,rfl,a,CP,dp,_,_,rfl,s1 _ _ ha,G.cl,G.n1,jN,ls,rfl,⟨_,du.of (s1 _ _ lY)⟩,fZ (K:=K) (a:=ls) (xs:=bs.map V.ref) (fun i σ H'=>∃v,σ=[aa (.ref a),aa (.ref l),aa (.int ((i-m:Nat):Int)),v]/\H' l=aa (.lst (tx ((bw i).map (bD p))))/\bG H H')
  ⟨ab,by rw[Nat.zero_sub];rfl,ba,s1⟩ (fun i σ H' _ ⟨_,_,_,s2⟩=>du.of (s2 _ _ lY)) ?_ ?_⟩
 ·rintro i x σ H' hx ⟨v,rfl,NM,s2⟩;obtain⟨st,b,hs,rfl,hb,⟨db,lb,e1,e2⟩,hi⟩:=Ll sa hx;refine⟨_,rfl,b,CS,db,_,_,rfl,s2 _ _ e1,S.cl,S.n1,nU,rfl,_,rfl,?_⟩;rw[FX];have fi:=fm i st hs
  have len:(tx ((bw i).map (bD p))).length<bz:=by
   rw[ee,aV,bZ,bX];have:=pw.j6;omega
  have fin:∀k:Nat,k=i+1-m->∃v,[aa (V.ref a),aa (V.ref l),aa (V.int (k:Int)),aa (V.ref b)]=[aa (V.ref a),aa (V.ref l),aa (V.int ((i+1-m:Nat):Int)),v]/\(upd H' l (.lst (tx ((bw i).map (bD p))++[V.int (k:Int)]))) l=aa (.lst (tx ((bw (i+1)).map (bD p))))/\bG H (upd H' l (.lst (tx ((bw i).map (bD p))++[V.int (k:Int)]))):=fun k hk=>by
   subst hk;have ek:bD p i=i+1-m:=by unfold bD;rw[em]
   exact⟨_,rfl,by rw[ba,Dm,<-ek,n8],bG.put hl s2⟩
  cases zX:st.input with
  |false=>
   have hge:m<=i:=by
    rw[zX]at fi;rcases jf i m with z|z
    ·cases fi.mpr z
    exact z
   refine dI ⟨_,rfl,_,_,rfl,rfl,_,rfl,.inl ⟨rfl,_,du.of NM⟩,_,rfl,l,_,_,rfl,rfl,NM,len,?_⟩;have e:((i-m:Nat):Int)+1=((i+1-m:Nat):Int):=by omega
   rw[e];exact fin _ rfl
  |true=>
   have zu:=fi.mp zX;exact cD ⟨_,rfl,.inl ⟨rfl,_,du.of NM⟩,_,rfl,l,_,_,rfl,rfl,NM,len,fin _ (by omega)⟩
 rintro σ H' ⟨v,rfl,NM,s2⟩;rw[aV,IE sa]at NM;exact⟨_,rfl,q l H' hl s2 NM⟩
def S0(CS CP:Addr):Sp:=Ou CS CP fun p H Q=>UZ H Q ((bw p.length).map (di p))
theorem Q8{H:Hp}{os:ag}{p:aT}(oa:EX H os (p.map fun s=>s.uses)):os.length=p.length:=by
 have:=dM oa;rw[aV]at this;exact this
theorem aae{H:Hp}{os:ag}{p:aT}{i:Nat}(oa:EX H os (p.map fun s=>s.uses))(hx:(os.map V.ref)[i]?=aa x):∃s b,p[i]?=aa s/\x=.ref b/\os[i]?=aa b/\H b=aa (.lst (tx s.uses))/\i<p.length:=by
 have hi:i<p.length:=by
  have:=(aZ.mp hx).1;rw[aV,Q8 oa]at this;exact this
 have hs:=bE hi;obtain⟨b,hb,e⟩:=uH oa (show(p.map fun s=>s.uses)[i]?=aa p[i].uses by rw[bK,hs];rfl);rw[iu hb]at hx;exact⟨p[i],b,hs,(bR hx).symm,hb,e,hi⟩
theorem yP{n k:Nat}(h:k<n):U5 n (k:Int)=aa k:=by
 unfold U5;rw[c8 (by omega)];simpa using h
theorem O1{f:Addr}(F:iF K "end_time" "end_time" Au f fd)(S:FE K CS)(G:FF K CP)(hl:mg "len"=ab):dv P w K mg base eJ 1 f fd jT (QS CS CP):=by
 refine F.ok EJ fun fA A outer s H vs Q E hr h=>?_;obtain⟨a,p,rfl,pa,pw,q⟩:=h;obtain⟨dp,ls,lo,bs,os,ha,lY,sa,D4,oa⟩:=id pa;obtain⟨m,hm,_,em,fm⟩:=pw.num;have nd:=EJ.nd
 refine⟨_,bj (b8 (fX j3 (dB cI (by rfl) hl cv (aP (Kx (own:=[("statement",1)]) (g:=zY 1) (tt:=SO (tOp rNe (ZM K (Ak 1) "word") (tC (.str "in")))) rfl nd (fP (cu (pv 0) rfl)) (rX (by rfl))
  (fun s H C cl fp=>oX 1 nd) (fun s H C cl fp=>LJ (cR wo (cu (pv 1) rfl) eM (da _))) (fun s H C cl fp=>pv 1)) bq)) cE)),?_⟩
 refine⟨_,rfl,a,CP,dp,_,_,rfl,ha,G.cl,G.n1,jN,ls,rfl,⟨_,du.of lY⟩,fun D hD=>?_⟩;refine BV (xs:=bs.map V.ref) (fun i G=>bG H G/\∃acc,G D=aa (.lst acc)/\acc.length=i-m) ⟨bG.new hD,[],ba,by simp⟩ ?_ ?_ ?_
 ·rintro i G _ ⟨sg,_⟩;exact du.of (sg _ _ lY)
 ·rintro i x G hx ⟨sg,acc,hG,hz⟩;obtain⟨st,b,hs,rfl,hb,⟨db,lb,e1,e2⟩,hi⟩:=Ll sa hx;refine⟨rfl,_,rfl,b,CS,db,_,_,rfl,sg _ _ e1,S.cl,S.n1,nU,rfl,_,rfl,?_⟩;rw[FX];have fi:=fm i st hs;have fw:=pw.j6;cases zX:st.input with
  |false=>
   have hge:m<=i:=by
    rw[zX]at fi;rcases jf i m with z|z
    ·cases fi.mpr z
    exact z
   exact dI ⟨_,rfl,acc,hG,by rw[bX];omega,bG.put hD sg,_,ba,by rw[bQ];show acc.length+1=_;omega⟩
  |true=>
   have zu:=fi.mp zX;exact cD ⟨sg,acc,hG,by omega⟩
 rintro G ⟨sg,acc,hG,hz⟩;rw[aV,IE sa]at hz;refine⟨D,_,rfl,.inl (du.of hG),_,_,rfl,rfl,?_⟩
 have e:(acc.length:Int)+1=(iZ p:Nat):=by
  unfold iZ;rw[em,hz];rfl
 show Q (V.int ((acc.length:Int)+1)) G;rw[e];exact q G sg
theorem Jy{f:Addr}(F:iF K "last_times" "last_times" vw f fd)(S:FE K CS)(G:FF K CP)(KO:mg "enumerate"=ab)(NK:mg "list"=ab)
 (Cf:Fn P w K mg base eJ 1 "first_times" jT (GL CS CP))(Ce:Fn P w K mg base eJ 1 "end_time" jT (QS CS CP)):dv P w K mg base eJ 2 f fd jT (S0 CS CP):=by
 refine F.ok zP fun fA A outer s H vs Q E hr h=>?_
 obtain⟨a,p,rfl,pa,pw,q⟩:=h
 obtain⟨dp,ls,lo,bs,os,ha,lY,sa,D4,oa⟩:=id pa
 have fw:=pw.j6
 have nd:=zP.nd
 refine⟨_,bh (jy 1 nd (dG Cf hr (by rfl) (aP (pv 0) bq)))
  (bh (jy 2 nd (pB CI (by rfl) NK Nb (aP (pv 1) bq)))
  (bh (eZ bV rfl (pK (by rfl) KO (aP (cu (pv 0) rfl) bq)) (qy rfl (fh (oX 3 nd) (fh (oX 4 nd) mz)))
   (bj (eZ bV rfl (fP (pv 4)) (oX 5 nd) (bj (DH (dU cT (pv 1) (pv 3) (fun _ _=>rfl)) (DI (pv 2) (pv 5) set_list))))))
  (bh (eZ bV rfl (pK (by rfl) KO (aP (cu (pv 0) rfl) bq)) (qy rfl (fh (oX 3 nd) (fh (oX 6 nd) mz)))
   (bj (d8 (cR iW (cu (pv 6) rfl) eM (da _)) (bj (DH (dG Ce hr (by rfl) (aP (pv 0) bq)) (DI (pv 2) (pv 3) set_list))) cS)))
  (bj (b8 (pv 2)))))),?_⟩
 refine⟨_,rfl,a,p,rfl,pa,pw,fun l1 H1 n1 s1 e1=>?_⟩
 refine⟨_,rfl,l1,_,rfl,.inl (du.of e1),fun l2 n2=>?_⟩
 have s2:bG H (upd H1 l2 (.lst (tx ((bw p.length).map (bD p))))):=s1.trans (bG.new n2)
 have af5:=bO e1 n2
 have n2H:=s1.free n2
 refine⟨_,rfl,a,CP,dp,_,_,rfl,s2 _ _ ha,G.cl,G.n2,Ti,lo,_,rfl,du.of (s2 _ _ D4),oo (xs:=os.map V.ref) (fun i σ H'=>Ex3 fun v3 v4 v5=>σ=[aa (.ref a),aa (.ref l1),aa (.ref l2),v3,v4,v5,ab]/\bG H H'/\H' l1=aa (.lst (tx ((bw p.length).map (bD p))))/\H' l2=aa (.lst (tx ((bw p.length).map (LT p i))))) ?_ ?_ ?_ ?_⟩
 ·exact⟨ab,ab,ab,rfl,s2,by rw[bB af5];exact e1,ba⟩
 ·rintro i σ H' _ ⟨v3,v4,v5,rfl,sm,_⟩
  exact du.of (sm _ _ D4)
 ·rintro i x σ H' T hx ⟨v3,v4,v5,rfl,sm,f1,f2⟩ hT
  obtain⟨st,b,hs,rfl,hb,e,hi⟩:=aae oa hx
  have sT:bG H' (upd H' T (.tup [.int (i:Nat),.ref b])):=bG.new hT
  refine⟨T,_,rfl,wC.of ba,rfl,_,_,rfl,_,_,rfl,rfl,?_⟩
  have sA:=sm.trans sT
  refine⟨_,rfl,b,rfl,⟨_,du.of (sA _ _ e)⟩,fZ (K:=K) (a:=b) (xs:=tx st.uses) (fun j σ H2=>∃v5,σ=[aa (.ref a),aa (.ref l1),aa (.ref l2),aa (.int (i:Nat)),aa (.ref b),v5,ab]/\bG H H2/\H2 l1=aa (.lst (tx ((bw p.length).map (bD p))))/\H2 l2=aa (.lst (tx ((bw p.length).map fun c=>if(st.uses.take j).contains c=ae then bD p i else LT p i c)))) ?_ ?_ ?_ ?_⟩
  ·refine⟨_,rfl,sA,sT _ _ f1,?_⟩
   rw[List.take_zero]
   exact sT _ _ f2
  ·rintro j σ H2 _ ⟨_,_,EG,_⟩
   exact du.of (EG _ _ e)
  ·rintro j y σ H2 hj ⟨v5,rfl,EG,g1,g2⟩
   obtain⟨u,hu,rfl⟩:=mJ hj
   have ul:=mf (pw.uses i st hs u (br hu)) hi
   refine⟨_,rfl,_,rfl,l1,_,_,_,rfl,rfl,du.of g1,at_of (j:=i) rfl (show _=aa (V.int (bD p i:Nat))from ?_),_,rfl,_,rfl,l2,_,_,u,rfl,rfl,g2,?_,?_⟩
   ·unfold tx
    rw[bK,bK,fj hi]
    rfl
   ·rw[ee,aV,bZ]
    exact yP ul
   refine⟨_,rfl,bG.put n2H EG,by rw[bB af5];exact g1,?_⟩
   rw[ba,Lh,F7]
   congr 3
   refine dj fun c _=>?_
   rw[take_snoc hu]
   by_cases hc:c=u
   ·subst hc
    rw[c8 rfl,c8 (by simp)]
   rw[cP hc]
   have:(st.uses.take j++[u]).contains c=(st.uses.take j).contains c:=by
    rw[eK];simp[hc]
   rw[this]
  rintro σ H2 ⟨v5,rfl,EG,g1,g2⟩
  rw[ee,dy]at g2
  refine⟨_,_,_,rfl,EG,g1,?_⟩
  rw[g2]
  congr 3
  refine dj fun c _=>?_
  rw[aa8 pw]
  unfold qf
  rw[hs]
  rfl
 rintro σ H' ⟨v3,v4,v5,rfl,sm,f1,f2⟩
 rw[aV,Q8 oa]at f2
 refine⟨_,rfl,a,CP,dp,_,_,rfl,sm _ _ ha,G.cl,G.n1,jN,ls,_,rfl,du.of (sm _ _ lY),oo (xs:=bs.map V.ref) (fun i σ H'=>Uc fun v3 v6=>σ=[aa (.ref a),aa (.ref l1),aa (.ref l2),v3,v4,v5,v6]/\bG H H'/\H' l2=aa (.lst (tx ((bw p.length).map fun c=>if c<i/\EN p c=ae then iZ p else LT p p.length c)))) ?_ ?_ ?_ ?_⟩
 ·refine⟨_,_,rfl,sm,?_⟩
  rw[f2]
  have e:(bw p.length).map (LT p p.length)=(bw p.length).map fun c=>if c<0/\EN p c=ae then iZ p else LT p p.length c:=dj fun c _=>by rw[cP (by omega)]
  rw[e]
 ·rintro i σ H' _ ⟨v3,v6,rfl,sm,_⟩
  exact du.of (sm _ _ lY)
 ·rintro i x σ H' T hx ⟨v3,v6,rfl,sm,g2⟩ hT
  obtain⟨st,b,hs,rfl,hb,⟨db,lb,e1,e2⟩,hi⟩:=Ll sa hx
  have sT:bG H' (upd H' T (.tup [.int (i:Nat),.ref b])):=bG.new hT
  have sA:=sm.trans sT
  refine⟨T,_,rfl,wC.of ba,rfl,_,_,rfl,_,_,rfl,rfl,?_⟩
  refine⟨_,rfl,b,CS,db,_,_,rfl,sA _ _ e1,S.cl,S.n1,nU,rfl,_,rfl,?_⟩
  rw[N4 p st fun z=>(pw.inp st (br hs) z).1]
  have oi:EN p i=st.out:=by unfold EN;rw[hs];rfl
  cases ho:st.out with
  |true=>
   refine dI ⟨_,rfl,a,p,rfl,pa.same sA,pw,fun H2 EG=>⟨_,rfl,_,rfl,l2,_,_,i,rfl,rfl,EG _ _ (sT _ _ g2),?_,?_⟩⟩
   ·rw[ee,aV,bZ]
    exact yP hi
   refine⟨_,_,rfl,bG.put n2H (sA.trans EG),?_⟩
   rw[ba,Lh,F7]
   congr 3
   refine dj fun c _=>?_
   by_cases hc:c=i
   ·subst hc
    rw[c8 rfl,c8 ⟨eN _,by rw[oi,ho]⟩]
   rw[cP hc]
   by_cases hh:c<i/\EN p c=ae
   ·rw[c8 hh,c8 ⟨by omega,hh.2⟩]
   rw[cP hh,cP fun z=>hh ⟨by omega,z.2⟩]
  |false=>
   refine cD ⟨_,_,rfl,sA,?_⟩
   rw[sT _ _ g2]
   congr 3
   refine dj fun c _=>?_
   by_cases hc:c=i
   ·subst hc
    rw[cP (fun z=>by omega),cP fun z=>by rw[oi,ho]at z;cases z.2]
   by_cases hh:c<i/\EN p c=ae
   ·rw[c8 hh,c8 ⟨by omega,hh.2⟩]
   rw[cP hh,cP fun z=>hh ⟨by omega,z.2⟩]
 rintro σ H' ⟨v3,v6,rfl,sm,g2⟩
 rw[aV,IE sa]at g2
 refine⟨_,rfl,q l2 H' n2H sm ?_⟩
 rw[g2]
 congr 3
 refine dj fun c hc=>?_
 have hc:=cj.mp hc
 rw[TF]
 by_cases hh:EN p c=ae
 ·rw[c8 hh,c8 ⟨hc,hh⟩]
 rw[cP hh,cP fun z=>hh z.2]
inductive zA(H:Hp)(r:Addr)(p:aT):Prop
 |mk (ts:ag) (_:H r=aa (.lst (ts.map V.ref))) (_:∀i,i<p.length->∃t,ts[i]?=aa t/\H t=aa (.tup [.int (bD p i:Nat),.int (di p i:Nat)]))
theorem zA.same{H H':Hp}(h:zA H r p)(s:bG H H'):zA H' r p:=
 let⟨ts,e,f⟩:=h
 ⟨ts,s _ _ e,fun i hi=>let⟨t,a,b⟩:=f i hi;⟨t,a,s _ _ b⟩⟩
def Bp(CS CP:Addr):Sp:=Ou CS CP fun p H Q=>∀r H',bG H H'->zA H' r p->Q (.ref r) H'
structure PgV(CS CP:Addr)(H:Hp)(a:Addr)(p:aT)(dp ls lo:Addr)(bs os:ag):Prop where
 ha:H a=aa (.ins CP dp (pgF (.ref ls) (.ref lo)))
 lY:H ls=aa (.lst (bs.map V.ref))
 D4:H lo=aa (.lst (os.map V.ref))
 bl:bs.length=p.length
 ol:os.length=p.length
 st:∀(i:Nat)(s:dQ),p[i]?=aa s->∃b db lb,(bs.map V.ref)[i]?=aa (.ref b)/\H b=aa (.ins CS db (UB (.str (st (l8 p s).word)) (.str (st s.name)) (.int (s.length:Int)) (.str (st (l8 p s).way)) (.ref lb)))
 op:∀(i:Nat)(s:dQ),p[i]?=aa s->∃o,(os.map V.ref)[i]?=aa (.ref o)/\H o=aa (.lst (tx s.uses))
theorem jH.v{H:Hp}(h:jH CS CP H a p):∃dp ls lo bs os,PgV CS CP H a p dp ls lo bs os:=by
 obtain⟨dp,ls,lo,bs,os,ha,lY,sa,D4,oa⟩:=h;refine⟨dp,ls,lo,bs,os,ha,lY,D4,IE sa,Q8 oa,fun i s hs=>?_,fun i s hs=>?_⟩
 ·obtain⟨b,hb,db,lb,e1,e2⟩:=F0 sa hs;exact⟨b,db,lb,iu hb,e1⟩
 obtain⟨b,hb,e⟩:=uH oa (show(p.map fun s=>s.uses)[i]?=aa s.uses by rw[bK,hs];rfl);exact⟨b,iu hb,e⟩
theorem PgV.same{H H':Hp}{dp ls lo:Addr}{bs os:ag}(v:PgV CS CP H a p dp ls lo bs os)(s:bG H H'):PgV CS CP H' a p dp ls lo bs os:=
 ⟨s _ _ v.ha,s _ _ v.lY,s _ _ v.D4,v.bl,v.ol,fun i x h=>let⟨b,db,lb,e,f⟩:=v.st i x h;⟨b,db,lb,e,s _ _ f⟩,fun i x h=>let⟨o,e,f⟩:=v.op i x h;⟨o,e,s _ _ f⟩⟩
theorem PgV.ref{H:Hp}{dp ls lo:Addr}{bs os:ag}{i:Nat}(v:PgV CS CP H a p dp ls lo bs os)(hx:(bs.map V.ref)[i]?=aa x):
 ∃s b db lb,p[i]?=aa s/\x=.ref b/\i<p.length/\H b=aa (.ins CS db (UB (.str (SR.st (l8 p s).word)) (.str (SR.st s.name)) (.int (s.length:Int)) (.str (SR.st (l8 p s).way)) (.ref lb))):=by
 have hi:i<p.length:=by
  have:=(aZ.mp hx).1;rw[aV,v.bl]at this;exact this
 have hs:=bE hi
 obtain⟨b,db,lb,e,f⟩:=v.st i _ hs
 rw[e]at hx
 exact⟨p[i],b,db,lb,hs,(bR hx).symm,hi,f⟩
theorem PgV.afX{H:Hp}{dp ls lo:Addr}{bs os:ag}{i:Nat}(v:PgV CS CP H a p dp ls lo bs os)(hx:(os.map V.ref)[i]?=aa x):
 ∃s o,p[i]?=aa s/\x=.ref o/\i<p.length/\H o=aa (.lst (tx s.uses)):=by
 have hi:i<p.length:=by
  have:=(aZ.mp hx).1;rw[aV,v.ol]at this;exact this
 have hs:=bE hi
 obtain⟨o,e,f⟩:=v.op i _ hs
 rw[e]at hx
 exact⟨p[i],o,hs,(bR hx).symm,hi,f⟩
theorem uT{p:aT}{i:Nat}(h:i<p.length):∃s,p[i]?=aa s:=⟨_,bE h⟩
theorem yQ(a b:Nat):decide (V.int (a:Int)=V.int (b:Int))=(a==b):=by
 rw[eK,decide_eq_true_eq,beq_iff_eq];exact⟨fun h=>by have:=V.int.inj h;omega,fun h=>by rw[h]⟩
theorem X4(l:List Nat)(c:Nat):wu (.int (c:Int)) (tx l)=l.contains c:=by
 unfold wu tx;rw[Qx,eK,fg,dN];constructor
 ·rintro⟨x,hx,h⟩;have h:((x:Int)==(c:Int))=ae:=h;have:=beq_iff_eq.mp h;have e:x=c:=by omega
  exact e▸hx
 exact fun h=>⟨c,h,by show((c:Int)==(c:Int))=ae;simp⟩
theorem Mp(l:List Nat):(tx l).all uU=ae:=by
 unfold tx;rw[Qy];exact cV.mpr fun _ _=>rfl
inductive Km(CS CP:Addr)(R:aT->Nat->Nat->Bool)(vs:ao)(H:Hp)(Q:VK)(z':XK):Prop
 |mk (a r:Addr) (p:aT) (b c:Nat) (_:vs=[.ref a,.ref r,.int (b:Int),.int (c:Int)]) (_:jH CS CP H a p) (_:uh p) (_:zA H r p) (_:b<p.length) (_:c<p.length) (_:Q (.bl (R p b c)) H)
theorem DO{f:Addr}(F:iF K "may_take_over" "may_take_over" qt f fd)(S:FE K CS)(G:FF K CP):dv P w K mg base eJ 1 f fd Tg (Km CS CP dD):=by
 refine F.ok uB fun fA A outer s H vs Q E hr h=>?_;obtain⟨a,r,p,b,c,rfl,pa,pw,⟨ts,er,ft⟩,hb,hc,q⟩:=h;obtain⟨dp,ls,lo,bs,os,v⟩:=pa.v;obtain⟨sb,eb⟩:=uT hb;obtain⟨sc,ec⟩:=uT hc;obtain⟨b1,d1,k1,e1,g1⟩:=v.st b sb eb;obtain⟨b2,d2,k2,e2,g2⟩:=v.st c sc ec;obtain⟨o1,e3,g3⟩:=v.op b sb eb;obtain⟨t1,e4,g4⟩:=ft b hb;obtain⟨t2,e5,g5⟩:=ft c hc;have nd:=uB.nd
 refine⟨_,bh (d8 (Ku (cR wo (cu (dU cT (cu (pv 0) rfl) (pv 2) (fun _ _=>rfl)) rfl) eM (da _)) (DF (cR qQ (pv 3) (dU cT (cu (pv 0) rfl) (pv 2) (fun _ _=>rfl)) (by rfl)))).pt (bj (b8 zV)) cS)
  (bh (jy 4 nd (jA iW (cu (dU cT (cu (pv 0) rfl) (pv 2) (fun _ _=>rfl)) rfl) (cu (dU cT (cu (pv 0) rfl) (pv 3) (fun _ _=>rfl)) rfl) (da _)))
  (bj (b8 (vJ (pv 4) (vI (jA iW (dU vL (dU cT (pv 1) (pv 3) (fun _ _=>rfl)) cE (fun _ _=>rfl)) (dU vL (dU cT (pv 1) (pv 2) (fun _ _=>rfl)) cE (fun _ _=>rfl)) (da _))))))),?_⟩
 have ev:dD p b c=(!sb.input&&(!sb.turn&&(sb.uses.contains c&&(sb.length==aU p c&&di p c==bD p b)))):=by
  unfold dD;rw[eb]
 refine⟨_,rfl,a,CP,dp,_,_,rfl,v.ha,G.cl,G.n1,jN,_,rfl,ls,_,_,_,rfl,rfl,du.of v.lY,at_of (j:=b) rfl e1,b1,CS,d1,_,_,rfl,g1,S.cl,S.n4,Lq,rfl,_,rfl,?_⟩;rw[ZH];cases hw:(!sb.input&& !sb.turn)with
 |false=>
  refine dI (dI ?_)
  have:dD p b c=af:=by
   rw[ev];cases h1:sb.input<;>cases h2:sb.turn<;>simp_all
  rw[this]at q;exact q
 |true=>
  refine cD ⟨_,rfl,_,rfl,a,CP,dp,_,_,rfl,v.ha,G.cl,G.n2,Ti,_,rfl,lo,_,_,_,rfl,rfl,du.of v.D4,at_of (j:=b) rfl e3,o1,_,rfl,.inl (du.of g3),rfl,Mp _,_,rfl,?_⟩;have hh:(if ae=ae then !wu (.int (c:Int)) (tx sb.uses)else wu (.int (c:Int)) (tx sb.uses))= !(sb.uses.contains c):=by rw[c8 rfl,X4]
  rw[hh]
  have ev2:dD p b c=(sb.uses.contains c&&(sb.length==aU p c&&di p c==bD p b)):=by
   rw[ev];cases h1:sb.input<;>cases h2:sb.turn<;>simp_all
  cases hu:sb.uses.contains c with
  |false=>
   rw[hu]at ev2;rw[ev2]at q;exact dI q
  |true=>
   rw[hu,eG]at ev2
   refine cD ⟨_,rfl,a,CP,dp,_,_,rfl,v.ha,G.cl,G.n1,jN,_,rfl,ls,_,_,_,rfl,rfl,du.of v.lY,at_of (j:=b) rfl e1,b1,CS,d1,_,_,rfl,g1,S.cl,S.n3,iM,
    _,rfl,a,CP,dp,_,_,rfl,v.ha,G.cl,G.n1,jN,_,rfl,ls,_,_,_,rfl,rfl,du.of v.lY,at_of (j:=c) rfl e2,b2,CS,d2,_,_,rfl,g2,S.cl,S.n3,iM,rfl,_,rfl,_,rfl,?_⟩
   rw[yQ];rw[iQ ec]at ev2;cases hl:(sb.length==sc.length)with
   |false=>
    rw[hl,eC]at ev2;rw[ev2]at q;exact cD q
   |true=>
    rw[hl,eG]at ev2;refine dI ⟨_,rfl,_,rfl,r,_,_,_,rfl,rfl,du.of er,at_of (j:=c) rfl (iu e5),t2,_,_,_,rfl,rfl,wC.of g5,at_of (j:=1) rfl rfl,_,rfl,_,rfl,r,_,_,_,rfl,rfl,du.of er,at_of (j:=b) rfl (iu e4),t1,_,_,_,rfl,rfl,wC.of g4,at_of (j:=0) rfl rfl,rfl,?_⟩;rw[yQ,<-ev2];exact q
theorem Mo:∀(l:List Nat)(b:Nat),b<=l.foldl max b/\∀x∈l,x<=l.foldl max b
 |[],b=>⟨bu _,fun x hx=>by cases hx⟩
 |y::l,b=>by
  obtain⟨h1,h2⟩:=Mo l (max b y);refine⟨cQ (Nat.le_max_left _ _) h1,fun x hx=>?_⟩;rcases bP.mp hx with e|e
  ·subst e;exact cQ (Nat.le_max_right _ _) h1
  exact h2 x e
theorem Mn:∀(l:List Nat)(b:Nat),l.foldl max b=b\/l.foldl max b∈l
 |[],b=>.inl rfl
 |y::l,b=>by
  show l.foldl max (max b y)=b\/l.foldl max (max b y)∈y::l;rcases Mn l (max b y)with e|e
  ·rw[e];rcases Nat.le_total b y with h|h
   ·rw[IW h];exact .inr (bM ..)
   rw[Nat.max_eq_left h];exact .inl rfl
  exact .inr (bC _ e)
theorem aaI{l m:List Nat}(h:∀x,x∈l↔x∈m):l.foldl max 0=m.foldl max 0:=by
 have le:∀{l m:List Nat},(∀x,x∈l->x∈m)->l.foldl max 0<=m.foldl max 0:=fun{l m} s=>by
  rcases Mn l 0 with e|e
  ·rw[e];exact cB _
  exact(Mo m 0).2 _ (s _ e)
 exact Nat.le_antisymm (le fun x hx=>(h x).mp hx) (le fun x hx=>(h x).mpr hx)
theorem Oe(l:List Nat)(x b:Nat):(l++[x]).foldl (fun n y=>n+y) b=l.foldl (fun n y=>n+y) b+x:=by rw[hV];rfl
theorem Wr:∀(l:List Nat)(b x:Nat),x∈l->x+b<=l.foldl (fun n y=>n+y) b
 |y::l,b,x,h=>by
  show x+b<=l.foldl _ (b+y)
  have mono:∀(l:List Nat)(b:Nat),b<=l.foldl (fun n y=>n+y) b:=fun l=>by
   induction l with
   |nil=>exact fun b=>bu _
   |cons z l ih=>exact fun b=>cQ (iG b z) (ih (b+z))
  rcases bP.mp h with e|e
  ·subst e;have:=mono l (b+x);omega
  have:=Wr l (b+y) x e;omega
def LL(p:aT)(t i:Nat):Nat:=(((bw i).filter fun a=>i7 p a t).map (aU p)).foldl (fun n x=>n+x) 0
theorem aa9(p:aT)(t i:Nat):LL p t (i+1)=LL p t i+if i7 p i t=ae then aU p i else 0:=by
 unfold LL;rw[vG (α:=Nat)];by_cases h:i7 p i t=ae
 ·rw[c8 h,c8 h,b9];exact Oe _ _ _
 rw[cP h,cP h,ck,Sz]
def Dk(p:aT)(b:Nat):List Nat:=((p[b]?).map fun s=>s.uses).getD []
def LP(p:aT)(t b j:Nat):List Nat:=if bD p b=t then(((Dk p b).take j).filter fun a=>dD p b a).map (aU p)else[]
def OV(p:aT)(t i:Nat):List Nat:=(bw i).flatMap fun b=>LP p t b (Dk p b).length
theorem aa7(p:aT)(t i:Nat):OV p t (i+1)=OV p t i++LP p t i (Dk p i).length:=by
 unfold OV;rw[eY,sd];simp
theorem zZ{p:aT}(a:Nat)(h:a<p.length):bD p a<=di p a:=by
 rw[TF];split
 ·unfold bD iZ;omega
 exact(Mo _ _).1
theorem wZ{b:Nat}(h:dD p b a=ae):∃s,p[b]?=aa s/\a∈s.uses/\s.input=af/\s.turn=af/\s.length=aU p a/\di p a=bD p b:=by
 unfold dD at h;cases hs:p[b]? with
 |none=>rw[hs]at h;cases h
 |some s=>
  rw[hs]at h;simp only[cK,vb,beq_iff_eq]at h;exact⟨s,rfl,dN.mp h.2.2.1,h.1,h.2.1,h.2.2.2.1,h.2.2.2.2⟩
theorem aam(w:uh p)(t:Nat):mG p t=LL p t p.length-(OV p t p.length).foldl max 0/\(OV p t p.length).foldl max 0<=LL p t p.length:=by
 have live:∀a,a<p.length->∀b,b<p.length->dD p b a=ae->bD p b=t->i7 p a t=ae/\i7 p b t=ae:=fun a ha b hb h e=>by
  obtain⟨s,hs,_,_,_,_,hl⟩:=wZ h;unfold i7;have f1:=zZ a ha;have f2:=zZ b hb;simp only[cK,decide_eq_true_eq];omega
 have mem:∀x,x∈OV p t p.length↔∃b,b<p.length/\bD p b=t/\∃a,dD p b a=ae/\aU p a=x:=fun x=>by
  unfold OV LP;rw[ke];constructor
  ·rintro⟨b,hb,h⟩;split at h
   ·rename_i ht;obtain⟨a,ha,e⟩:=dh.mp h;exact⟨b,cj.mp hb,ht,a,(cH.mp ha).2,e⟩
   cases h
  rintro⟨b,hb,ht,a,h,e⟩;refine⟨b,cj.mpr hb,?_⟩;rw[c8 ht,dh];refine⟨a,cH.mpr ⟨?_,h⟩,e⟩;rw[dy];obtain⟨s,hs,hu,_⟩:=wZ h;unfold Dk;rw[hs];exact hu
 have alt:∀b a,dD p b a=ae->b<p.length/\a<p.length:=fun b a h=>by
  obtain⟨s,hs,hu,_⟩:=wZ h;have hb:=(aZ.mp hs).1;exact⟨hb,mf (w.uses b s hs a hu) hb⟩
 have e1:(((bw p.length).filter fun a=>i7 p a t).flatMap fun b=>if bD p b=t then(((bw p.length).filter fun a=>i7 p a t).filter fun a=>dD p b a).map (aU p)else[]).foldl max 0=(OV p t p.length).foldl max 0:=by
  refine aaI fun x=>?_;rw[mem,ke];constructor
  ·rintro⟨b,hb,h⟩;split at h
   ·rename_i ht;obtain⟨a,ha,e⟩:=dh.mp h;exact⟨b,cj.mp (cH.mp hb).1,ht,a,(cH.mp ha).2,e⟩
   cases h
  rintro⟨b,hb,ht,a,h,e⟩;have ha:=(alt b a h).2;obtain⟨l1,l2⟩:=live a ha b hb h ht;refine⟨b,cH.mpr ⟨cj.mpr hb,l2⟩,?_⟩;rw[c8 ht,dh];exact⟨a,cH.mpr ⟨cH.mpr ⟨cj.mpr ha,l1⟩,h⟩,e⟩
 refine⟨?_,?_⟩
 ·unfold mG;simp only;rw[e1];rfl
 rcases Mn (OV p t p.length) 0 with e|e
 ·rw[e];exact cB _
 obtain⟨b,hb,ht,a,h,ex⟩:=(mem _).mp e;have ha:=(alt b a h).2;obtain⟨l1,l2⟩:=live a ha b hb h ht;rw[<-ex];have:=Wr (((bw p.length).filter fun a=>i7 p a t).map (aU p)) 0 (aU p a) (dh.mpr ⟨a,cH.mpr ⟨cj.mpr ha,l1⟩,rfl⟩);exact this
inductive S4(CS CP:Addr)(R:aT->Nat->Nat)(vs:ao)(H:Hp)(Q:VK)(z':XK):Prop
 |mk (a r:Addr) (p:aT) (t:Nat) (_:vs=[.ref a,.ref r,.int (t:Int)]) (_:jH CS CP H a p) (_:uh p) (_:zA H r p) (_:∀H',bG H H'->Q (.int (R p t:Nat)) H')
def SY(CS CP:Addr):Sp:=Ou CS CP fun p H Q=>∀H',bG H H'->Q (.int (FK p:Nat)) H'
theorem L5(a b:Nat):(if(b:Int)> (a:Int)then(b:Int)else(a:Int))=((max a b:Nat):Int):=by
 by_cases h:b>a
 ·rw[c8 (by omega),IW (dm h)]
 rw[cP (by omega),Nat.max_eq_left (by omega)]
theorem KW(l:List Nat)(x b:Nat):(l++[x]).foldl max b=max (l.foldl max b) x:=by rw[hV];rfl
theorem HD{f:Addr}(F:iF K "live_length" "live_length" tS f fd)(S:FE K CS)(G:FF K CP)(KO:mg "enumerate"=ab):dv P w K mg base eJ 1 f fd Kv (S4 CS CP fun p t=>LL p t p.length):=by
 refine F.ok xf fun fA A outer s H vs Q E hr h=>?_;obtain⟨a,r,p,t,rfl,pa,pw,⟨ts,er,ft⟩,q⟩:=h;obtain⟨dp,ls,lo,bs,os,v⟩:=pa.v;have nd:=xf.nd
 refine⟨_,bh (jy 3 nd cE)
  (bh (eZ bV rfl (pK (by rfl) KO (aP (cu (pv 0) rfl) bq)) (qy rfl (fh (oX 4 nd) (fh (oX 5 nd) mz)))
   (bj (d8 (W7 BE BE (dU vL (dU cT (pv 1) (pv 4) (fun _ _=>rfl)) cE (fun _ _=>rfl)) (pv 2) (dU vL (dU cT (pv 1) (pv 4) (fun _ _=>rfl)) cE (fun _ _=>rfl))) (bj (rL (i:=3) nd rfl (ur rfl) (cu (pv 5) rfl) qz)) cS)))
  (bj (b8 (pv 3)))),?_⟩
 refine⟨_,rfl,a,CP,dp,_,_,rfl,v.ha,G.cl,G.n1,jN,ls,_,rfl,du.of v.lY,oo (xs:=bs.map V.ref) (fun i σ H'=>∃v4 v5,σ=[aa (.ref a),aa (.ref r),aa (.int (t:Int)),aa (.int (LL p t i:Nat)),v4,v5]/\bG H H') ⟨ab,ab,rfl,fun _ _ e=>e⟩ (fun i σ H' _ ⟨_,_,_,s2⟩=>du.of (s2 _ _ v.lY)) ?_ ?_⟩
 ·rintro i x σ H' T hx ⟨v4,v5,rfl,sm⟩ hT;obtain⟨st,b,db,lb,hs,rfl,hi,g⟩:=v.ref hx;have sT:bG H' (upd H' T (.tup [.int (i:Nat),.ref b])):=bG.new hT;have sA:=sm.trans sT;obtain⟨ti,ei,gi⟩:=ft i hi;refine⟨T,_,rfl,wC.of ba,rfl,_,_,rfl,_,_,rfl,rfl,?_⟩;refine⟨_,rfl,_,rfl,r,_,_,_,rfl,rfl,du.of (sA _ _ er),at_of (j:=i) rfl (iu ei),ti,_,_,_,rfl,rfl,wC.of (sA _ _ gi),at_of (j:=0) rfl rfl,_,rfl,_,_,rfl,rfl,_,rfl,?_⟩
  have fin:∀k:Nat,k=LL p t (i+1)->∃v4 v5,[aa (V.ref a),aa (V.ref r),aa (V.int (t:Int)),aa (V.int (k:Int)),aa (V.int (i:Nat)),aa (V.ref b)]=[aa (V.ref a),aa (V.ref r),aa (V.int (t:Int)),aa (V.int (LL p t (i+1):Nat)),v4,v5]/\bG H (upd H' T (.tup [.int (i:Nat),.ref b])):=fun k hk=>by
   subst hk;exact⟨_,_,rfl,sA⟩
  have ll:=aa9 p t i;have lv:i7 p i t=(decide (bD p i<=t)&&decide (t<=di p i)):=rfl;rw[lv]at ll;by_cases h1:bD p i<=t
  ·rw[qi (show((bD p i:Nat):Int)<=(t:Int)by omega)];refine dI ⟨_,rfl,_,rfl,r,_,_,_,rfl,rfl,du.of (sA _ _ er),at_of (j:=i) rfl (iu ei),ti,_,_,_,rfl,rfl,wC.of (sA _ _ gi),at_of (j:=1) rfl rfl,_,_,rfl,rfl,_,rfl,?_⟩;rw[qi h1]at ll;by_cases h2:t<=di p i
   ·rw[qi (show(t:Int)<=((di p i:Nat):Int)by omega)];rw[qi h2,Bool.and_self,c8 rfl,iQ hs]at ll;refine dI ⟨_,rfl,_,rfl,b,CS,db,_,_,rfl,sA _ _ g,S.cl,S.n3,iM,_,_,rfl,rfl,?_⟩;have e:((LL p t i:Nat):Int)+(st.length:Int)=((LL p t (i+1):Nat):Int):=by omega
    show∃v4 v5,[_,_,_,aa (V.int (((LL p t i:Nat):Int)+(st.length:Int))),_,_]=_/\_;rw[e];exact fin _ rfl
   rw[gX (show¬(t:Int)<=((di p i:Nat):Int)by omega)];rw[gX h2,cP (by decide)]at ll;exact cD (fin _ (by omega))
  rw[gX (show¬((bD p i:Nat):Int)<=(t:Int)by omega)];rw[gX h1,eC,cP (by decide)]at ll;exact cD ⟨_,rfl,cD (fin _ (by omega))⟩
 rintro σ H' ⟨v4,v5,rfl,sm⟩;rw[aV,v.bl];exact⟨_,rfl,q H' sm⟩
theorem xK{f:Addr}(F:iF K "length_taken_over" "length_taken_over" lW f fd)(S:FE K CS)(G:FF K CP)(KO:mg "enumerate"=ab)(hmx:mg "max"=ab)
 (Cm:Fn P w K mg base eJ 1 "may_take_over" Tg (Km CS CP dD)):dv P w K mg base eJ 2 f fd Kv (S4 CS CP fun p t=>(OV p t p.length).foldl max 0):=by
 refine F.ok pX fun fA A outer s H vs Q E hr h=>?_
 obtain⟨a,r,p,t,rfl,pa,pw,rg,q⟩:=h
 obtain⟨ts,er,ft⟩:=id rg
 obtain⟨dp,ls,lo,bs,os,v⟩:=pa.v
 have nd:=pX.nd
 refine⟨_,bh (jy 3 nd cE)
  (bh (eZ bV rfl (pK (by rfl) KO (aP (cu (pv 0) rfl) bq)) (qy rfl (fh (oX 4 nd) (fh (oX 5 nd) mz)))
   (bj (eZ bV rfl (fP (pv 5)) (oX 6 nd)
    (bj (d8 (xD (cR iW (dU vL (dU cT (pv 1) (pv 4) (fun _ _=>rfl)) cE (fun _ _=>rfl)) (pv 2) (da _)) (sV (jw (dG Cm hr (by rfl) (aP (pv 0) (aP (pv 1) (aP (pv 4) (aP (pv 6) bq)))))))).pt
     (bj (jy 3 nd (dB (Eg rfl) (by rfl) hmx boot_max (aP (pv 3) (aP (cu (dU cT (cu (pv 0) rfl) (pv 6) (fun _ _=>rfl)) rfl) bq))))) cS)))))
  (bj (b8 (pv 3)))),?_⟩
 refine⟨_,rfl,a,CP,dp,_,_,rfl,v.ha,G.cl,G.n2,Ti,lo,_,rfl,du.of v.D4,oo (xs:=os.map V.ref) (fun i σ H'=>∃v4 v5 v6,σ=[aa (.ref a),aa (.ref r),aa (.int (t:Int)),aa (.int ((OV p t i).foldl max 0:Nat)),v4,v5,v6]/\bG H H') ⟨ab,ab,ab,rfl,fun _ _ e=>e⟩ (fun i σ H' _ ⟨_,_,_,_,s2⟩=>du.of (s2 _ _ v.D4)) ?_ ?_⟩
 ·rintro i x σ H' T hx ⟨v4,v5,v6,rfl,sm⟩ hT
  obtain⟨st,o,hs,rfl,hi,g⟩:=v.afX hx
  have sT:bG H' (upd H' T (.tup [.int (i:Nat),.ref o])):=bG.new hT
  have sA:=sm.trans sT
  obtain⟨ti,ei,gi⟩:=ft i hi
  have us:Dk p i=st.uses:=by unfold Dk;rw[hs];rfl
  refine⟨T,_,rfl,wC.of ba,rfl,_,_,rfl,_,_,rfl,rfl,?_⟩
  refine⟨_,rfl,o,rfl,⟨_,du.of (sA _ _ g)⟩,fZ (K:=K) (a:=o) (xs:=tx st.uses) (fun j σ H2=>H2=upd H' T (.tup [.int (i:Nat),.ref o])/\∃v6,σ=[aa (.ref a),aa (.ref r),aa (.int (t:Int)),aa (.int ((OV p t i++LP p t i j).foldl max 0:Nat)),aa (.int (i:Nat)),aa (.ref o),v6]) ?_ ?_ ?_ ?_⟩
  ·refine⟨rfl,v6,?_⟩
   have:LP p t i 0=[]:=by unfold LP;split<;>simp
   rw[this,ck]
   rfl
  ·rintro j σ H2 _ ⟨rfl,_⟩
   exact du.of (sA _ _ g)
  ·rintro j y σ H2 hj ⟨rfl,v6,rfl⟩
   obtain⟨u,hu,rfl⟩:=mJ hj
   have ul:=mf (pw.uses i st hs u (br hu)) hi
   have on:LP p t i (j+1)=LP p t i j++if bD p i=t/\dD p i u=ae then[aU p u]else[]:=by
    unfold LP;rw[us];by_cases h1:bD p i=t
    ·rw[c8 h1,c8 h1,take_snoc hu,kK,b9];congr 1;by_cases h2:dD p i u=ae
     ·rw[c8 ⟨h1,h2⟩,fD h2];rfl
     rw[cP fun z=>h2 z.2,gM h2];rfl
    rw[cP h1,cP h1,cP fun z=>h1 z.1];rfl
   refine⟨_,rfl,_,rfl,r,_,_,_,rfl,rfl,du.of (sA _ _ er),at_of (j:=i) rfl (iu ei),ti,_,_,_,rfl,rfl,wC.of (sA _ _ gi),at_of (j:=0) rfl rfl,_,rfl,rfl,_,rfl,?_⟩
   rw[yQ]
   cases h1:(bD p i==t)with
   |false=>
    rw[cP (fun z=>by rw[beq_iff_eq.mpr z.1]at h1;cases h1),ck]at on
    refine cD (cD ⟨rfl,aa (.int (u:Int)),?_⟩)
    rw[on]
    rfl
   |true=>
    refine dI ⟨_,rfl,_,rfl,_,rfl,_,rfl,a,r,p,i,u,rfl,pa.same sA,pw,rg.same sA,hi,ul,_,rfl,?_⟩
    cases h2:dD p i u with
    |false=>
     rw[cP (fun z=>by rw[h2]at z;cases z.2),ck]at on
     refine cD ⟨rfl,aa (.int (u:Int)),?_⟩
     rw[on]
     rfl
    |true=>
     rw[c8 ⟨beq_iff_eq.mp h1,h2⟩]at on
     obtain⟨su,eu⟩:=uT ul
     obtain⟨b2,d2,k2,e2,g2⟩:=v.st u su eu
     refine dI ⟨_,rfl,_,rfl,a,CP,dp,_,_,rfl,sA _ _ v.ha,G.cl,G.n1,jN,_,rfl,ls,_,_,_,rfl,rfl,du.of (sA _ _ v.lY),at_of (j:=u) rfl e2,b2,CS,d2,_,_,rfl,sA _ _ g2,S.cl,S.n3,iM,_,_,rfl,?_⟩
     refine⟨rfl,aa (.int (u:Int)),?_⟩
     rw[L5,on,<-c9,KW,iQ eu]
     rfl
  rintro σ H2 ⟨rfl,v6,rfl⟩
  refine⟨aa (.int (i:Nat)),aa (.ref o),v6,?_,sA⟩
  rw[aa7,us,ee]
 rintro σ H' ⟨v4,v5,v6,rfl,sm⟩
 rw[aV,v.ol]
 exact⟨_,rfl,q H' sm⟩
theorem Az{f:Addr}(F:iF K "needed_at_least" "needed_at_least" n0 f fd)(TU:mg "range"=ab)(hmx:mg "max"=ab)
 (Cl:Fn P w K mg base eJ 3 "live_ranges" jT (Bp CS CP))(Ce:Fn P w K mg base eJ 1 "end_time" jT (QS CS CP))(C1:Fn P w K mg base eJ 1 "live_length" Kv (S4 CS CP fun p t=>LL p t p.length))
 (C2:Fn P w K mg base eJ 2 "length_taken_over" Kv (S4 CS CP fun p t=>(OV p t p.length).foldl max 0)):dv P w K mg base eJ 4 f fd jT (SY CS CP):=by
 refine F.ok rq fun fA A outer s H vs Q E hr h=>?_
 obtain⟨a,p,rfl,pa,pw,q⟩:=h
 have nd:=rq.nd
 refine⟨_,bh (jy 1 nd (dG Cl hr (by rfl) (aP (pv 0) bq)))
  (bh (jy 2 nd cE)
  (bh (eZ bV rfl (uG (by rfl) TU (aP (fX j3 (dG Ce (hr.mono (by decide)) (by rfl) (aP (pv 0) bq)) cE) bq)) (oX 3 nd)
   (bh (jy 4 nd (fX DL (dG C1 (hr.mono (by decide)) (by rfl) (aP (pv 0) (aP (pv 1) (aP (pv 3) bq)))) (dG C2 (hr.mono (by decide)) (by rfl) (aP (pv 0) (aP (pv 1) (aP (pv 3) bq))))))
   (bj (jy 2 nd (dB (Eg rfl) (by rfl) hmx boot_max (aP (pv 2) (aP (pv 4) bq)))))))
  (bj (b8 (pv 2))))),?_⟩
 refine⟨_,rfl,a,p,rfl,pa,pw,fun r H1 s1 rg=>?_⟩
 refine⟨_,rfl,a,p,rfl,pa.same s1,pw,fun H2 s2=>⟨_,_,rfl,rfl,?_⟩⟩
 have te:iZ p<=25:=by
  have:=pw.j6;unfold iZ;omega
 refine⟨_,rfl,by omega,by omega,qZ (n:=iZ p+1) (fun i σ H'=>∃v3 v4,σ=[aa (.ref a),aa (.ref r),aa (.int ((((bw i).map (mG p)).foldl max 0:Nat):Int)),v3,v4]/\bG H2 H') ⟨ab,ab,rfl,fun _ _ e=>e⟩ ?_ ?_⟩
 ·rintro i σ H' hi ⟨v3,v4,rfl,sm⟩
  have ei:(0:Int)+(i:Int)=(i:Int):=by omega
  rw[ei]
  have sm0:=s2.trans sm
  refine⟨_,rfl,_,rfl,_,rfl,a,r,p,i,rfl,pa.same (s1.trans sm0),pw,rg.same sm0,fun H3 s3=>?_⟩
  refine⟨_,rfl,_,rfl,_,rfl,a,r,p,i,rfl,pa.same ((s1.trans sm0).trans s3),pw,rg.same (sm0.trans s3),fun H4 s4=>⟨_,_,rfl,rfl,?_⟩⟩
  obtain⟨n1,n2⟩:=aam pw i
  have e:((LL p i p.length:Nat):Int)-(((OV p i p.length).foldl max 0:Nat):Int)=((mG p i:Nat):Int):=by omega
  refine⟨_,rfl,_,rfl,_,_,rfl,aa (.int (i:Int)),aa (.int ((mG p i:Nat):Int)),?_,(sm.trans s3).trans s4⟩
  show[aa (V.ref a),aa (V.ref r),aa (V.int (if(((LL p i p.length:Nat):Int)-(((OV p i p.length).foldl max 0:Nat):Int))> ((((bw i).map (mG p)).foldl max 0:Nat):Int)then(((LL p i p.length:Nat):Int)-(((OV p i p.length).foldl max 0:Nat):Int))else((((bw i).map (mG p)).foldl max 0:Nat):Int))),aa (V.int (i:Int)),aa (V.int (((LL p i p.length:Nat):Int)-(((OV p i p.length).foldl max 0:Nat):Int)))]=_
  rw[e,L5,<-KW,n8]
 rintro σ H' ⟨v3,v4,rfl,sm⟩
 exact⟨_,rfl,q H' ((s1.trans s2).trans sm)⟩
def iy(p:aT)(ns:List Int):Prop:=ns.length≠p.length\/ns.all (fun n=>decide (0<=n)&&decide (n<=10000))=af
instance (p:aT) (ns:List Int):Decidable (iy p ns):=inferInstanceAs (Decidable (_\/_))
inductive GX(K:aX)(CS CP CW:Addr)(vs:ao)(H:Hp)(Q:VK)(E:XK):Prop
 |mk (a l:Addr) (p:aT) (ns:List Int) (_:vs=[.ref a,.ref l]) (_:jH CS CP H a p) (_:du K H l (ns.map V.int)) (_:if iy p ns then jC E H CW [("number",.int (-5))]else Q .j5 H)
theorem Fg{f:Addr}(F:iF K "look_at_plan" "look_at_plan" rD f fd)(G:FF K CP)(hl:mg "len"=ab)(hO:∃t,mg "OFFSET_LIMIT"=aa (.int 10000 t))(M:Ec P w K mg base "WrongPlan" CW dR (iK K (-5))):
 dv P w K mg base (k4 P w) 4 f fd xF (GX K CS CP CW):=by
 refine DT F wk fun fA A outer s H vs Q E hr h=>?_
 obtain⟨a,l,p,ns,rfl,pa,hn,q⟩:=h
 obtain⟨dp,ls,lo,bs,os,v⟩:=pa.v
 have nd:=wk.nd
 refine⟨_,bh (d8 (cR wo (dB cI (by rfl) hl cv (aP (pv 1) bq)) (dB cI (by rfl) hl cv (aP (cu (pv 0) rfl) bq)) (da _)) (bj (kF kZ rfl (uc M (hr.mono (by decide)) (by rfl)))) cS)
  (bj (eZ (Hs kZ) rfl (fP (pv 1)) (oX 2 nd)
   (bj (d8 (Ku (cR sY (pv 2) cE (da _)) (DF (cR zW (pv 2) (iD (by rfl) hO) (da _)))).pt (bj (kF kZ rfl (uc M (hr.mono (by decide)) (by rfl)))) cS)))),?_⟩
 refine⟨_,rfl,l,_,rfl,.inl hn,_,rfl,a,CP,dp,_,_,rfl,v.ha,G.cl,G.n1,jN,ls,_,rfl,.inl (du.of v.lY),rfl,_,rfl,?_⟩
 have e:decide (V.int ((ns.map V.int).length:Int)=V.int ((bs.map V.ref).length:Int))=(ns.length==p.length):=by rw[yQ,aV,aV,v.bl]
 rw[e]
 cases hlen:(ns.length==p.length)with
 |false=>
  have bad:iy p ns:=.inl fun z=>by rw[beq_iff_eq.mpr z]at hlen;cases hlen
  rw[c8 bad]at q
  exact dI (jZ M q)
 |true=>
  have hlen:=beq_iff_eq.mp hlen
  refine cD ⟨_,rfl,l,rfl,⟨_,hn⟩,fZ (K:=K) (a:=l) (xs:=ns.map V.int) (fun i σ H'=>H'=H/\(ns.take i).all (fun n=>decide (0<=n)&&decide (n<=10000))=ae/\∃v,σ=[aa (.ref a),aa (.ref l),v]) ⟨rfl,rfl,ab,rfl⟩ (fun i σ H' _ ⟨e,_⟩=>by rw[e];exact hn) ?_ ?_⟩
  ·rintro i x σ H' hx ⟨rfl,al,v2,rfl⟩
   obtain⟨n,hni,rfl⟩:∃n,ns[i]?=aa n/\x=.int n:=by
    rw[bK]at hx;cases e:ns[i]? with
    |none=>rw[e]at hx;cases hx
    |some n=>rw[e]at hx;exact⟨n,rfl,(bR hx).symm⟩
   have bad:¬(0<=n/\n<=10000)->jC E H' CW [("number",.int (-5))]:=fun hb=>by
    have bp:iy p ns:=.inr (by
     cases hz:ns.all (fun n=>decide (0<=n)&&decide (n<=10000))with
     |false=>rfl
     |true=>
      exfalso;have:=cV.mp hz n (br hni);rw[cK,decide_eq_true_eq,decide_eq_true_eq]at this;exact hb this)
    rw[c8 bp]at q;exact q
   refine⟨_,rfl,_,_,rfl,rfl,_,rfl,?_⟩
   by_cases h1:n<0
   ·rw[qi h1]
    exact dI (dI (jZ M (bad (by omega))))
   rw[gX h1]
   refine cD ⟨_,rfl,_,_,rfl,rfl,_,rfl,?_⟩
   by_cases h2:10000<n
   ·rw[qi h2]
    exact dI (jZ M (bad (by omega)))
   rw[gX h2]
   refine cD ⟨rfl,?_,_,rfl⟩
   rw[take_snoc hni,Jg,al]
   simp
   omega
  rintro σ H' ⟨rfl,al,v2,rfl⟩
  rw[aV,dy]at al
  rw[cP (fun z:iy p ns=>by
   rcases z with z|z
   ·exact z hlen
   rw[al]at z;cases z)]at q
  exact q
def both(p:aT)(b c:Nat):Bool:=decide (0<aU p b)&&decide (0<aU p c)
inductive QX(CS CP:Addr)(vs:ao)(H:Hp)(Q:VK)(z':XK):Prop
 |mk (a:Addr) (p:aT) (b c:Nat) (_:vs=[.ref a,.int (b:Int),.int (c:Int)]) (_:jH CS CP H a p) (_:b<p.length) (_:c<p.length) (_:Q (.bl (both p b c)) H)
inductive WE(K:aX)(CS CP:Addr)(R:aT->List Nat->Nat->Nat->Bool)(vs:ao)(H:Hp)(Q:VK)(z':XK):Prop
 |mk (a l:Addr) (p:aT) (q:List Nat) (b c:Nat) (_:vs=[.ref a,.ref l,.int (b:Int),.int (c:Int)]) (_:jH CS CP H a p) (_:du K H l (tx q)) (_:q.length=p.length) (_:b<p.length) (_:c<p.length) (_:Q (.bl (R p q b c)) H)
def UQ(p:aT)(q:List Nat)(b c:Nat):Bool:=iI (aQ q b) (aU p b) (aQ q c) (aU p c)
inductive EF(K:aX)(CS CP:Addr)(R:aT->List Nat->Nat->Nat->Bool)(vs:ao)(H:Hp)(Q:VK)(z':XK):Prop
 |mk (a r l:Addr) (p:aT) (q:List Nat) (b c:Nat) (_:vs=[.ref a,.ref r,.ref l,.int (b:Int),.int (c:Int)]) (_:jH CS CP H a p) (_:uh p) (_:zA H r p) (_:du K H l (tx q)) (_:q.length=p.length) (_:b<p.length) (_:c<p.length) (_:Q (.bl (R p q b c)) H)
def Ap(p:aT)(q:List Nat)(b c:Nat):Bool:=jm p b c&&aQ q b==aQ q c
def rR(p:aT)(q:List Nat)(b c:Nat):Bool:=fM p b (aQ q b) c (aQ q c)
theorem ud{q:List Nat}{b:Nat}(h:b<q.length):(tx q)[b]?=aa (.int (aQ q b:Nat)):=by
 unfold tx aQ;rw[bK,bE h];rfl
theorem Yv(a b:Nat):decide ((a:Int)<=(b:Int))=decide (a<=b):=by rw[decide_eq_decide];omega
theorem zo{f:Addr}(F:iF K "both_have_places" "both_have_places" mR f fd)(S:FE K CS)(G:FF K CP):dv P w K mg base eJ 1 f fd ["program","a","b"] (QX CS CP):=by
 refine F.ok y9 fun fA A outer s H vs Q E hr h=>?_;obtain⟨a,p,b,c,rfl,pa,hb,hc,q⟩:=h;obtain⟨dp,ls,lo,bs,os,v⟩:=pa.v;obtain⟨sb,eb⟩:=uT hb;obtain⟨sc,ec⟩:=uT hc;obtain⟨b1,d1,k1,e1,g1⟩:=v.st b sb eb;obtain⟨b2,d2,k2,e2,g2⟩:=v.st c sc ec;refine⟨_,bj (b8 (vJ (jA zW (cu (dU cT (cu (pv 0) rfl) (pv 1) (fun _ _=>rfl)) rfl) cE (da _)) (vI (jA zW (cu (dU cT (cu (pv 0) rfl) (pv 2) (fun _ _=>rfl)) rfl) cE (da _))))),?_⟩;refine⟨_,rfl,a,CP,dp,_,_,rfl,v.ha,G.cl,G.n1,jN,_,rfl,ls,_,_,_,rfl,rfl,du.of v.lY,at_of (j:=b) rfl e1,b1,CS,d1,_,_,rfl,g1,S.cl,S.n3,iM,_,_,rfl,rfl,_,rfl,?_⟩;unfold both at q;rw[iQ eb,iQ ec]at q;have ed:∀n:Nat,decide ((0:Int)<(n:Int))=decide (0<n):=fun n=>by rw[decide_eq_decide];omega
 rw[ed];cases h1:decide (0<sb.length)with
 |false=>
  rw[h1,eC]at q;exact cD q
 |true=>
  rw[h1,eG]at q;refine dI ⟨_,rfl,a,CP,dp,_,_,rfl,v.ha,G.cl,G.n1,jN,_,rfl,ls,_,_,_,rfl,rfl,du.of v.lY,at_of (j:=c) rfl e2,b2,CS,d2,_,_,rfl,g2,S.cl,S.n3,iM,_,_,rfl,rfl,?_⟩;rw[<-ed]at q;exact q
theorem aah{f:Addr}(F:iF K "meet" "meet" Q0 f fd)(Cb:Fn P w K mg base eJ 1 "both_have_places" ["program","a","b"] (QX CS CP)):dv P w K mg base eJ 2 f fd ON (Km CS CP fE):=by
 refine F.ok ZY fun fA A outer s H vs Q E hr h=>?_;obtain⟨a,r,p,b,c,rfl,pa,pw,⟨ts,er,ft⟩,hb,hc,q⟩:=h;obtain⟨t1,e4,g4⟩:=ft b hb;obtain⟨t2,e5,g5⟩:=ft c hc
 have mt:fE p b c=(both p b c&&(decide (bD p b<=di p c)&&decide (bD p c<=di p b))):=by
  unfold fE both;rw[Bool.and_assoc]
 refine⟨_,bh (d8 (ub (jw (dG Cb hr (by rfl) (aP (pv 0) (aP (pv 2) (aP (pv 3) bq)))))) (bj (b8 zV)) cS)
  (bj (b8 (vJ (jA BE (dU vL (dU cT (pv 1) (pv 2) (fun _ _=>rfl)) cE (fun _ _=>rfl)) (dU vL (dU cT (pv 1) (pv 3) (fun _ _=>rfl)) cE (fun _ _=>rfl)) (da _))
   (vI (jA BE (dU vL (dU cT (pv 1) (pv 3) (fun _ _=>rfl)) cE (fun _ _=>rfl)) (dU vL (dU cT (pv 1) (pv 2) (fun _ _=>rfl)) cE (fun _ _=>rfl)) (da _)))))),?_⟩
 refine⟨_,rfl,_,rfl,_,rfl,a,p,b,c,rfl,pa,hb,hc,_,rfl,?_⟩;cases h0:both p b c with
 |false=>
  rw[h0,eC]at mt;rw[mt]at q;exact dI q
 |true=>
  rw[h0,eG]at mt;refine cD ⟨_,rfl,_,rfl,r,_,_,_,rfl,rfl,du.of er,at_of (j:=b) rfl (iu e4),t1,_,_,_,rfl,rfl,wC.of g4,at_of (j:=0) rfl rfl,_,rfl,_,rfl,r,_,_,_,rfl,rfl,du.of er,at_of (j:=c) rfl (iu e5),t2,_,_,_,rfl,rfl,wC.of g5,at_of (j:=1) rfl rfl,_,_,rfl,rfl,_,rfl,?_⟩;rw[Yv];cases h1:decide (bD p b<=di p c)with
  |false=>
   rw[h1,eC]at mt;rw[mt]at q;exact cD q
  |true=>
   rw[h1,eG]at mt;refine dI ⟨_,rfl,_,rfl,r,_,_,_,rfl,rfl,du.of er,at_of (j:=c) rfl (iu e5),t2,_,_,_,rfl,rfl,wC.of g5,at_of (j:=0) rfl rfl,_,rfl,_,rfl,r,_,_,_,rfl,rfl,du.of er,at_of (j:=b) rfl (iu e4),t1,_,_,_,rfl,rfl,wC.of g4,at_of (j:=1) rfl rfl,_,_,rfl,rfl,?_⟩;rw[mt,<-Yv]at q;exact q
theorem Rn{f:Addr}(F:iF K "overlap" "overlap" DB f fd)(S:FE K CS)(G:FF K CP)(Cb:Fn P w K mg base eJ 1 "both_have_places" ["program","a","b"] (QX CS CP)):dv P w K mg base eJ 2 f fd ["program","plan","a","b"] (WE K CS CP UQ):=by
 refine F.ok G8 fun fA A outer s H vs Q E hr h=>?_;obtain⟨a,l,p,q,b,c,rfl,pa,hl,ql,hb,hc,k⟩:=h;obtain⟨dp,ls,lo,bs,os,v⟩:=pa.v;obtain⟨sb,eb⟩:=uT hb;obtain⟨sc,ec⟩:=uT hc;obtain⟨b1,d1,k1,e1,g1⟩:=v.st b sb eb;obtain⟨b2,d2,k2,e2,g2⟩:=v.st c sc ec;have ob:=ud (q:=q) (b:=b) (by omega);have oc:=ud (q:=q) (b:=c) (by omega);have nd:=G8.nd
 have mt:UQ p q b c=(both p b c&&(decide (aQ q b<aQ q c+aU p c)&&decide (aQ q c<aQ q b+aU p b))):=by
  unfold UQ iI both;rw[Bool.and_assoc]
 refine⟨_,bh (d8 (ub (jw (dG Cb hr (by rfl) (aP (pv 0) (aP (pv 2) (aP (pv 3) bq)))))) (bj (b8 zV)) cS)
  (bh (jy 4 nd (fX j3 (dU cT (pv 1) (pv 2) (fun _ _=>rfl)) (cu (dU cT (cu (pv 0) rfl) (pv 2) (fun _ _=>rfl)) rfl)))
  (bh (jy 5 nd (fX j3 (dU cT (pv 1) (pv 3) (fun _ _=>rfl)) (cu (dU cT (cu (pv 0) rfl) (pv 3) (fun _ _=>rfl)) rfl)))
  (bj (b8 (vJ (jA sY (dU cT (pv 1) (pv 2) (fun _ _=>rfl)) (pv 5) (da _)) (vI (jA sY (dU cT (pv 1) (pv 3) (fun _ _=>rfl)) (pv 4) (da _)))))))),?_⟩
 refine⟨_,rfl,_,rfl,_,rfl,a,p,b,c,rfl,pa,hb,hc,_,rfl,?_⟩;cases h0:both p b c with
 |false=>
  rw[h0,eC]at mt;rw[mt]at k;exact dI k
 |true=>
  rw[h0,eG]at mt;refine cD ⟨_,rfl,_,rfl,l,_,_,_,rfl,rfl,hl,at_of (j:=b) rfl ob,_,rfl,a,CP,dp,_,_,rfl,v.ha,G.cl,G.n1,jN,_,rfl,ls,_,_,_,rfl,rfl,du.of v.lY,at_of (j:=b) rfl e1,b1,CS,d1,_,_,rfl,g1,S.cl,S.n3,iM,_,_,rfl,rfl,?_⟩;refine⟨_,rfl,_,rfl,l,_,_,_,rfl,rfl,hl,at_of (j:=c) rfl oc,_,rfl,a,CP,dp,_,_,rfl,v.ha,G.cl,G.n1,jN,_,rfl,ls,_,_,_,rfl,rfl,du.of v.lY,at_of (j:=c) rfl e2,b2,CS,d2,_,_,rfl,g2,S.cl,S.n3,iM,_,_,rfl,rfl,?_⟩;refine⟨_,rfl,_,rfl,l,_,_,_,rfl,rfl,hl,at_of (j:=b) rfl ob,_,rfl,_,_,rfl,rfl,_,rfl,?_⟩;rw[iQ eb,iQ ec]at mt;have x1:decide (((aQ q b:Nat):Int)<((aQ q c:Nat):Int)+(sc.length:Int))=decide (aQ q b<aQ q c+sc.length):=by rw[decide_eq_decide];omega
  have x2:decide (((aQ q c:Nat):Int)<((aQ q b:Nat):Int)+(sb.length:Int))=decide (aQ q c<aQ q b+sb.length):=by rw[decide_eq_decide];omega
  rw[x1];cases h1:decide (aQ q b<aQ q c+sc.length)with
  |false=>
   rw[h1,eC]at mt;rw[mt]at k;exact cD k
  |true=>
   rw[h1,eG]at mt;refine dI ⟨_,rfl,_,rfl,l,_,_,_,rfl,rfl,hl,at_of (j:=c) rfl oc,_,rfl,_,_,rfl,rfl,?_⟩;rw[mt,<-x2]at k;exact k
theorem UR{f:Addr}(F:iF K "shares_by_taking_over" "shares_by_taking_over" jY f fd)(Cm:Fn P w K mg base eJ 1 "may_take_over" Tg (Km CS CP dD)):
 dv P w K mg base eJ 2 f fd BA (EF K CS CP Ap):=by
 refine F.ok tK fun fA A outer s H vs Q E hr h=>?_
 obtain⟨a,r,l,p,q,b,c,rfl,pa,pw,rg,hl,ql,hb,hc,k⟩:=h
 have ob:=ud (q:=q) (b:=b) (by omega)
 have oc:=ud (q:=q) (b:=c) (by omega)
 refine⟨_,bh (d8 (cR wo (dU cT (pv 2) (pv 3) (fun _ _=>rfl)) (dU cT (pv 2) (pv 4) (fun _ _=>rfl)) (da _)) (bj (b8 zV)) cS)
  (bj (b8 (afT (dG Cm hr (by rfl) (aP (pv 0) (aP (pv 1) (aP (pv 3) (aP (pv 4) bq))))) (vI (dG Cm hr (by rfl) (aP (pv 0) (aP (pv 1) (aP (pv 4) (aP (pv 3) bq))))))))),?_⟩
 refine⟨_,rfl,_,rfl,l,_,_,_,rfl,rfl,hl,at_of (j:=b) rfl ob,_,rfl,_,rfl,l,_,_,_,rfl,rfl,hl,at_of (j:=c) rfl oc,rfl,_,rfl,?_⟩
 rw[yQ]
 unfold Ap at k
 cases h1:(aQ q b==aQ q c)with
 |false=>
  rw[h1,Le]at k
  exact dI k
 |true=>
  rw[h1,Bool.and_true]at k
  refine cD ⟨_,rfl,_,rfl,_,rfl,_,rfl,a,r,p,b,c,rfl,pa,pw,rg,hb,hc,_,rfl,?_⟩
  unfold jm at k
  cases h2:dD p b c with
  |true=>
   rw[h2,Bool.true_or]at k
   exact dI k
  |false=>
   rw[h2,NY]at k
   exact cD ⟨_,rfl,_,rfl,_,rfl,_,rfl,a,r,p,c,b,rfl,pa,pw,rg,hc,hb,k⟩
theorem Xv{f:Addr}(F:iF K "clash" "clash" LD f fd)(Cm:Fn P w K mg base eJ 2 "meet" ON (Km CS CP fE))(Co:Fn P w K mg base eJ 2 "overlap" ["program","plan","a","b"] (WE K CS CP UQ))
 (Cs:Fn P w K mg base eJ 2 "shares_by_taking_over" BA (EF K CS CP Ap)):dv P w K mg base eJ 3 f fd BA (EF K CS CP rR):=by
 refine F.ok WZ fun fA A outer s H vs Q E hr h=>?_
 obtain⟨a,r,l,p,q,b,c,rfl,pa,pw,rg,hl,ql,hb,hc,k⟩:=h
 have mt:rR p q b c=(fE p b c&&(UQ p q b c&& !Ap p q b c)):=rfl
 refine⟨_,bh (d8 (Ku (ub (jw (dG Cm hr (by rfl) (aP (pv 0) (aP (pv 1) (aP (pv 3) (aP (pv 4) bq))))))) (DF (ub (jw (dG Co hr (by rfl) (aP (pv 0) (aP (pv 2) (aP (pv 3) (aP (pv 4) bq))))))))).pt (bj (b8 zV)) cS)
  (bj (b8 (adf (dG Cs hr (by rfl) (aP (pv 0) (aP (pv 1) (aP (pv 2) (aP (pv 3) (aP (pv 4) bq))))))))),?_⟩
 refine⟨_,rfl,_,rfl,_,rfl,_,rfl,a,r,p,b,c,rfl,pa,pw,rg,hb,hc,_,rfl,?_⟩
 cases h1:fE p b c with
 |false=>
  rw[h1,eC]at mt
  rw[mt]at k
  exact dI (dI k)
 |true=>
  rw[h1,eG]at mt
  refine cD ⟨_,rfl,_,rfl,_,rfl,_,rfl,a,l,p,q,b,c,rfl,pa,hl,ql,hb,hc,_,rfl,?_⟩
  cases h2:UQ p q b c with
  |false=>
   rw[h2,eC]at mt
   rw[mt]at k
   exact dI k
  |true=>
   rw[h2,eG]at mt
   refine cD ⟨_,rfl,_,rfl,_,rfl,_,rfl,_,rfl,a,r,l,p,q,b,c,rfl,pa,pw,rg,hl,ql,hb,hc,_,rfl,?_⟩
   rw[<-mt]
   exact k
theorem Ht(n:Nat)(f:Nat×Nat->Bool):(Vaarrl.pairs n).find? f=(bw n).findSome? fun a=>((bw n).find? fun b=>decide (a<b)&&f (a,b)).map fun b=>(a,b):=by
 unfold Vaarrl.pairs;rw[List.find?_flatMap];congr 1;funext a;rw[List.find?_map,List.find?_filter]
 have e:(fun b=>decide (decide (a<b)=ae/\(f∘fun b=>(a,b)) b=ae))=fun b=>decide (a<b)&&f (a,b):=by
  funext b;rw[eK];simp
 rw[e]
theorem z8{α β:Type}:∀(l:List α)(g:α->Option β),(∀x∈l,g x=ab)->l.findSome? g=ab
 |[],_,_=>rfl
 |x::l,g,h=>by
  rw[Bj,h x (bM ..)];exact z8 l g fun y hy=>h y (bC _ hy)
theorem EV{α β:Type}{r:β}:∀(l:List α)(g:α->Option β)(i:Nat)(z:α),l[i]?=aa z->g z=aa r->(∀j y,j<i->l[j]?=aa y->g y=ab)->l.findSome? g=aa r
 |[],_,_,_,h,_,_=>by simp at h
 |x::l,g,0,z,h,e,_=>by
  simp at h;subst h;rw[Bj,e]
 |x::l,g,i+1,z,h,e,f=>by
  rw[Bj,f 0 x (by omega) rfl];exact EV l g i z (by simpa using h) e fun j y hj hy=>f (j+1) y (by omega) (by simpa using hy)
theorem aaK{p:aT}{q:List Nat}(h:∀a b,a<b->b<p.length->rR p q a b=af):fz p q=ab:=by
 unfold fz;rw[Ht];refine z8 _ _ fun a ha=>?_
 have:((bw p.length).find? fun b=>decide (a<b)&&fM p a (aQ q a) b (aQ q b))=ab:=by
  rw[kH];intro b hb;by_cases Ye:a<b
  ·have:=h a b Ye (cj.mp hb);unfold rR at this;rw[this];simp
  simp[Ye]
 rw[this];rfl
theorem aaJ{p:aT}{q:List Nat}{a b:Nat}(Ye:a<b)(hb:b<p.length)(h:rR p q a b=ae)(h1:∀a' b',a'<a->a'<b'->b'<p.length->rR p q a' b'=af)(h2:∀b',a<b'->b'<b->rR p q a b'=af):fz p q=aa (a,b):=by
 unfold fz;rw[Ht];refine EV _ _ a a (fj (by omega)) ?_ fun j y hj hy=>?_
 ·have:((bw p.length).find? fun b=>decide (a<b)&&fM p a (aQ q a) b (aQ q b))=aa b:=by
   rw[List.find?_range_eq_some];refine⟨?_,cj.mpr hb,fun j hj=>?_⟩
   ·unfold rR at h;simp[Ye,h]
   by_cases haj:a<j
   ·have:=h2 j haj hj;unfold rR at this;simp[this]
   simp[haj]
  rw[this];rfl
 rw[fj (by omega)]at hy;cases hy
 have:((bw p.length).find? fun b=>decide (j<b)&&fM p j (aQ q j) b (aQ q b))=ab:=by
  rw[kH];intro b' Pk;by_cases Ye:j<b'
  ·have:=h1 j b' hj Ye (cj.mp Pk);unfold rR at this;simp[this]
  simp[Ye]
 rw[this];rfl
def Iq(p:aT)(q:List Nat):List Nat:=match fz p q with
 |none=>[]
 |some x=>[x.1,x.2]
inductive afB(K:aX)(CS CP:Addr)(R:aT->List Nat->Hp->VK->Prop)(vs:ao)(H:Hp)(Q:VK)(z':XK):Prop
 |mk (a l:Addr) (p:aT) (q:List Nat) (_:vs=[.ref a,.ref l]) (_:jH CS CP H a p) (_:uh p) (_:du K H l (tx q)) (_:q.length=p.length) (_:R p q H Q)
def acX(K:aX)(CS CP:Addr):Sp:=afB K CS CP fun p q H Q=>UZ H Q (Iq p q)
def QU(K:aX)(CS CP:Addr):Sp:=afB K CS CP fun p q H Q=>∀H',bG H H'->Q (.int (i6 p q:Nat)) H'
def RM(p:aT)(q:List Nat)(i:Nat):Nat:=(bw i).foldl (fun n a=>if aU p a=0 then n else max n (aQ q a+aU p a)) 0
theorem Nl(p:aT)(q:List Nat)(i:Nat):RM p q (i+1)=if aU p i=0 then RM p q i else max (RM p q i) (aQ q i+aU p i):=by
 unfold RM;rw[eY,hV];rfl
theorem HF{f:Addr}(F:iF K "first_clash" "first_clash" tU f fd)(TU:mg "range"=ab)(hl:mg "len"=ab)(Cl:Fn P w K mg base eJ 3 "live_ranges" jT (Bp CS CP))
 (Cc:Fn P w K mg base eJ 3 "clash" BA (EF K CS CP rR)):dv P w K mg base eJ 4 f fd xF (acX K CS CP):=by
 refine F.ok xh fun fA A outer s H vs Q E hr h=>?_
 obtain⟨a,l,p,q,rfl,pa,pw,hq,ql,k⟩:=h
 have fw:=pw.j6
 have nd:=xh.nd
 refine⟨_,bh (jy 2 nd (dG Cl hr (by rfl) (aP (pv 0) bq)))
  (bh (eZ bV rfl (uG (by rfl) TU (aP (dB cI (by rfl) hl cv (aP (pv 1) bq)) bq)) (oX 3 nd)
   (bj (eZ bV rfl (UN (by rfl) TU (aP (fX j3 (pv 3) cE) (aP (dB cI (by rfl) hl cv (aP (pv 1) bq)) bq))) (oX 4 nd)
    (bj (d8 (jw (dG Cc hr (by rfl) (aP (pv 0) (aP (pv 2) (aP (pv 1) (aP (pv 3) (aP (pv 4) bq))))))) (bj (b8 (eA (aP (pv 3) (aP (pv 4) bq))))) cS)))))
  (bj (b8 (eA bq)))),?_⟩
 refine⟨_,rfl,a,p,rfl,pa,pw,fun r H1 s1 rg=>?_⟩
 have Ic:=s1.seq hq
 have ln:((tx q).length:Int)=(p.length:Int):=by rw[ee,ql]
 refine⟨_,rfl,l,_,rfl,.inl Ic,_,rfl,by omega,by omega,qZ (n:=((tx q).length:Int).toNat) (fun i σ H'=>H'=H1/\(∀a' b',a'<i->a'<b'->b'<p.length->rR p q a' b'=af)/\∃v3 v4,σ=[aa (.ref a),aa (.ref l),aa (.ref r),v3,v4]) ⟨rfl,fun a' b' z=>by omega,ab,ab,rfl⟩ ?_ ?_⟩
 ·rintro i σ H' hi ⟨rfl,no,v3,v4,rfl⟩
  have hi:i<p.length:=by omega
  have ei:(0:Int)+(i:Int)=(i:Int):=by omega
  rw[ei]
  refine⟨_,rfl,_,_,rfl,rfl,_,rfl,l,_,rfl,.inl Ic,_,_,rfl,⟨by omega,by omega,by omega,by omega⟩,qZ (n:=(((tx q).length:Int)-((i:Int)+1)).toNat) (fun j σ H2=>H2=H'/\(∀b',i<b'->b'<i+1+j->rR p q i b'=af)/\∃v4,σ=[aa (.ref a),aa (.ref l),aa (.ref r),aa (.int (i:Int)),v4]) ⟨rfl,fun b' z1 z2=>by omega,v4,rfl⟩ ?_ ?_⟩
  ·rintro j σ H2 hj ⟨rfl,UY,v5,rfl⟩
   have hb:i+1+j<p.length:=by omega
   have ej:(i:Int)+1+(j:Int)=((i+1+j:Nat):Int):=by omega
   rw[ej]
   refine⟨_,rfl,_,rfl,_,rfl,_,rfl,_,rfl,a,r,l,p,q,i,i+1+j,rfl,pa.same s1,pw,rg,Ic,ql,by omega,hb,_,rfl,?_⟩
   cases hc:rR p q i (i+1+j)with
   |true=>
    refine dI ⟨_,rfl,_,rfl,by show 2<=bz;decide,fun d hd=>k d _ (s1.free hd) (s1.trans (bG.new hd)) ?_⟩
    rw[ba]
    unfold Iq
    rw[aaJ (by omega) hb hc (fun a' b' z1 z2 z3=>no a' b' z1 z2 z3) fun b' z1 z2=>UY b' z1 z2]
    rfl
   |false=>
    refine cD ⟨rfl,fun b' z1 z2=>?_,_,rfl⟩
    by_cases e:b'=i+1+j
    ·rw[e]
     exact hc
    exact UY b' z1 (by omega)
  rintro σ H2 ⟨rfl,UY,v5,rfl⟩
  refine⟨rfl,fun a' b' z1 z2 z3=>?_,_,_,rfl⟩
  by_cases e:a'=i
  ·subst e
   exact UY b' z2 (by omega)
  exact no a' b' (by omega) z2 z3
 rintro σ H' ⟨rfl,no,v3,v4,rfl⟩
 have e:=aaK fun a b Ye hb=>no a b (by omega) Ye hb
 refine⟨by show 0<=bz;decide,fun d hd=>k d _ (s1.free hd) (s1.trans (bG.new hd)) ?_⟩
 rw[ba]
 unfold Iq
 rw[e]
 rfl
theorem Rg{f:Addr}(F:iF K "room_of" "room_of" DA f fd)(S:FE K CS)(G:FF K CP)(KO:mg "enumerate"=ab)(hmx:mg "max"=ab):dv P w K mg base eJ 1 f fd xF (QU K CS CP):=by
 refine F.ok G7 fun fA A outer s H vs Q E hr h=>?_;obtain⟨a,l,p,q,rfl,pa,pw,hq,ql,k⟩:=h;obtain⟨dp,ls,lo,bs,os,v⟩:=pa.v;have nd:=G7.nd
 refine⟨_,bh (jy 2 nd cE)
  (bh (eZ bV rfl (pK (by rfl) KO (aP (cu (pv 0) rfl) bq)) (qy rfl (fh (oX 3 nd) (fh (oX 4 nd) mz)))
   (bj (d8 (cR zW (cu (pv 4) rfl) cE (da _)) (bj (jy 2 nd (dB (Eg rfl) (by rfl) hmx boot_max (aP (pv 2) (aP (fX j3 (dU cT (pv 1) (pv 3) (fun _ _=>rfl)) (cu (pv 4) rfl)) bq))))) cS)))
  (bj (b8 (pv 2)))),?_⟩
 refine⟨_,rfl,a,CP,dp,_,_,rfl,v.ha,G.cl,G.n1,jN,ls,_,rfl,du.of v.lY,oo (xs:=bs.map V.ref) (fun i σ H'=>Uc fun v3 v4=>σ=[aa (.ref a),aa (.ref l),aa (.int (RM p q i:Nat)),v3,v4]/\bG H H') ⟨ab,ab,rfl,fun _ _ e=>e⟩ (fun i σ H' _ ⟨_,_,_,s2⟩=>du.of (s2 _ _ v.lY)) ?_ ?_⟩
 ·rintro i x σ H' T hx ⟨v3,v4,rfl,sm⟩ hT;obtain⟨st,b,db,lb,hs,rfl,hi,g⟩:=v.ref hx;have sT:bG H' (upd H' T (.tup [.int (i:Nat),.ref b])):=bG.new hT;have sA:=sm.trans sT;have oi:=ud (q:=q) (b:=i) (by omega);have rs:=Nl p q i;rw[iQ hs]at rs;refine⟨T,_,rfl,wC.of ba,rfl,_,_,rfl,_,_,rfl,rfl,?_⟩;refine⟨_,rfl,b,CS,db,_,_,rfl,sA _ _ g,S.cl,S.n3,iM,_,_,rfl,rfl,_,rfl,?_⟩;by_cases h0:st.length=0
  ·rw[gX (show¬(0:Int)<(st.length:Int)by omega)];rw[c8 h0]at rs;rw[rs];exact cD ⟨_,_,rfl,sA⟩
  rw[qi (show(0:Int)<(st.length:Int)by omega)];rw[cP h0]at rs;refine dI ⟨_,rfl,_,rfl,_,rfl,l,_,_,_,rfl,rfl,sA.seq hq,at_of (j:=i) rfl oi,_,rfl,b,CS,db,_,_,rfl,sA _ _ g,S.cl,S.n3,iM,_,_,rfl,rfl,_,_,rfl,?_⟩;refine⟨aa (.int (i:Nat)),aa (.ref b),?_,sA⟩;have e:((aQ q i:Nat):Int)+(st.length:Int)=((aQ q i+st.length:Nat):Int):=by omega
  rw[rs,<-L5,<-e];rfl
 rintro σ H' ⟨v3,v4,rfl,sm⟩;rw[aV,v.bl];exact⟨_,rfl,k H' sm⟩
theorem aeA:ij "set"=aa (.type "set"):=by decide+kernel
theorem PY:ij "range"=aa (.type "range"):=by decide+kernel
def m3(p:aT)(q ds:List Nat):List Nat:=0::ds.flatMap fun d=>[aQ q d,aQ q d+aU p d]
theorem UU(p:aT)(q ds:List Nat)(d:Nat):m3 p q (ds++[d])=m3 p q ds++[aQ q d,aQ q d+aU p d]:=by
 unfold m3;rw[sd];simp
theorem BN(p:aT)(q:List Nat):∀ds:List Nat,(m3 p q ds).length=1+2*ds.length
 |[]=>rfl
 |d::ds=>by
  have:=BN p q ds;unfold m3 at this⊢;rw[iU,cJ,bQ,cJ,cJ];rw[cJ]at this;simp only[cJ,List.length_nil];omega
inductive QW(K:aX)(CS CP:Addr)(vs:ao)(H:Hp)(Q:VK)(z':XK):Prop
 |mk (a l d:Addr) (p:aT) (q ds:List Nat) (_:vs=[.ref a,.ref l,.ref d]) (_:jH CS CP H a p) (_:du K H l (tx q)) (_:q.length=p.length) (_:du K H d (tx ds)) (_:(∀x∈ds,x<p.length)) (_:ds.length<=24) (_:∀(b:Addr)(ms:List Nat)(H':Hp),H b=ab->bG H H'->H' b=aa (.lst (tx ms))->ms.Pairwise (· <·)->(∀k,k∈ms↔k∈m3 p q ds)->Q (.ref b) H')
inductive WN(K:aX)(CS CP:Addr)(vs:ao)(H:Hp)(Q:VK)(z':XK):Prop
 |mk (a r l d:Addr) (p:aT) (q ds:List Nat) (c:Nat) (_:vs=[.ref a,.ref r,.ref l,.int (c:Int),.ref d]) (_:jH CS CP H a p) (_:uh p) (_:zA H r p) (_:du K H l (tx q)) (_:q.length=p.length) (_:du K H d (tx ds)) (_:(∀x∈ds,x<p.length)) (_:c<p.length) (_:Q (.bl (ds.any fun x=>rR p q c x)) H)
theorem txI(l:List Nat):tx l=(l.map fun(n:Nat)=>(n:Int)).map V.int:=by unfold tx;rw[dA];rfl
theorem zi{f:Addr}(F:iF K "possible_offsets" "possible_offsets" mM f fd)(S:FE K CS)(G:FF K CP)(hso:mg "sorted"=ab)(hse:mg "set"=ab):dv P w K mg base eJ 1 f fd ["program","plan","placed"] (QW K CS CP):=by
 refine F.ok qI fun fA A outer s H vs Q E hr h=>?_;obtain⟨a,l,d,p,q,ds,rfl,pa,hq,ql,hd,dl,j6,k⟩:=h;obtain⟨dp,ls,lo,bs,os,v⟩:=pa.v;have nd:=qI.nd
 refine⟨_,bh (jy 3 nd (eA (aP cE bq)))
  (bh (eZ bV rfl (fP (pv 2)) (oX 4 nd)
   (bj (dJ (md cb gb f9 pC (pv 3) (aP (eA (aP (dU cT (pv 1) (pv 4) (fun _ _=>rfl)) (aP (fX j3 (dU cT (pv 1) (pv 4) (fun _ _=>rfl)) (cu (dU cT (cu (pv 0) rfl) (pv 4) (fun _ _=>rfl)) rfl)) bq))) bq)))))
  (bj (b8 (dB (RV rfl) (by rfl) hso boot_sorted (aP (pB (aey rfl) (by rfl) hse aeA (aP (pv 3) bq)) bq))))),?_⟩
 refine⟨by show 1<=bz;decide,fun o ho=>?_⟩;have s1:bG H (upd H o (.lst [V.int 0])):=bG.new ho;refine⟨_,rfl,d,rfl,⟨_,s1.seq hd⟩,fZ (K:=K) (a:=d) (xs:=tx ds) (fun i σ H'=>∃v4,σ=[aa (.ref a),aa (.ref l),aa (.ref d),aa (.ref o),v4]/\H' o=aa (.lst (tx (m3 p q (ds.take i))))/\bG H H') ⟨ab,rfl,ba,s1⟩ (fun i σ H' _ ⟨_,_,_,s2⟩=>s2.seq hd) ?_ ?_⟩
 ·rintro i y σ H' hi ⟨v4,rfl,ET,sm⟩;obtain⟨x,hx,rfl⟩:=mJ hi;have xl:=dl x (br hx);obtain⟨sx,ex⟩:=uT xl;obtain⟨b1,d1,k1,e1,g1⟩:=v.st x sx ex;have ox:=ud (q:=q) (b:=x) (by omega);refine⟨_,rfl,.inl ⟨rfl,_,du.of ET⟩,_,rfl,_,rfl,l,_,_,_,rfl,rfl,sm.seq hq,at_of (j:=x) rfl ox,_,rfl,_,rfl,l,_,_,_,rfl,rfl,sm.seq hq,at_of (j:=x) rfl ox,_,rfl,a,CP,dp,_,_,rfl,sm _ _ v.ha,G.cl,G.n1,jN,_,rfl,ls,_,_,_,rfl,rfl,du.of (sm _ _ v.lY),at_of (j:=x) rfl e1,b1,CS,d1,_,_,rfl,sm _ _ g1,S.cl,S.n3,iM,_,_,rfl,rfl,by show 2<=bz;decide,fun n hn=>?_⟩;have no:=bO ET hn;refine⟨o,n,_,_,rfl,rfl,by rw[bB no];exact ET,ba,?_,?_⟩
  ·rw[ee,BN,dW,bX];show _+2<=_;omega
  refine⟨_,rfl,?_,bG.put ho (sm.trans (bG.new hn))⟩;rw[ba,take_snoc hx,UU,iQ ex];unfold tx;rw[b9];have e:((aQ q x:Nat):Int)+(sx.length:Int)=((aQ q x+sx.length:Nat):Int):=by omega
  show aa (HO.lst (_++[V.int ((aQ q x:Nat):Int),V.int (((aQ q x:Nat):Int)+(sx.length:Int))]))=_;rw[e];rfl
 rintro σ H' ⟨v4,rfl,ET,sm⟩;rw[ee,dy]at ET;refine⟨_,rfl,o,(m3 p q ds).map fun(n:Nat)=>(n:Int),rfl,du.of (by rw[ET,txI]),by rw[aV,BN];omega,fun t ht=>?_⟩;refine⟨t,(m3 p q ds).map fun(n:Nat)=>(n:Int),rfl,ba,by rw[aV,BN];omega,fun ms b so mem hb=>?_⟩;have st:bG H' (upd H' t (ZX P w t ((m3 p q ds).map fun(n:Nat)=>(n:Int)))):=bG.new ht
 have nn:∀m∈ms,∃n:Nat,m=(n:Int):=fun m hm=>by
  obtain⟨n,_,e⟩:=dh.mp ((mem m).mp hm);exact⟨n,e.symm⟩
 have em:(ms.map Int.toNat).map (fun(n:Nat)=>(n:Int))=ms:=by
  rw[dA];conv=>rhs;rw[<-qM ms]
  refine dj fun m hm=>?_;obtain⟨n,rfl⟩:=nn m hm;rfl
 refine k b (ms.map Int.toNat) _ ((sm.trans st).free hb) ((sm.trans st).trans (bG.new hb)) (by rw[ba,txI,em]) ?_ fun j=>?_
 ·rw[jR];refine Ez (fun{x y} hx hy h=>?_) so;obtain⟨n,rfl⟩:=nn x hx;obtain⟨m,rfl⟩:=nn y hy;simp only[pG];omega
 rw[dh];constructor
 ·rintro⟨m,hm,rfl⟩;obtain⟨n,hn,e⟩:=dh.mp ((mem m).mp hm);rw[<-e];exact hn
 intro hj;exact⟨(j:Int),(mem _).mpr (dh.mpr ⟨j,hj,rfl⟩),by simp⟩
theorem zm{f:Addr}(F:iF K "clashes_with_any" "clashes_with_any" mQ f fd)(Cc:Fn P w K mg base eJ 3 "clash" BA (EF K CS CP rR)):
 dv P w K mg base eJ 4 f fd UL (WN K CS CP):=by
 refine F.ok qK fun fA A outer s H vs Q E hr h=>?_
 obtain⟨a,r,l,d,p,q,ds,c,rfl,pa,pw,rg,hq,ql,hd,dl,hc,k⟩:=h
 have nd:=qK.nd
 refine⟨_,bh (eZ bV rfl (fP (pv 4)) (oX 5 nd)
  (bj (d8 (jw (dG Cc hr (by rfl) (aP (pv 0) (aP (pv 1) (aP (pv 2) (aP (pv 3) (aP (pv 5) bq))))))) (bj (b8 zV)) cS)))
  (bj (b8 zV)),?_⟩
 refine⟨_,rfl,d,rfl,⟨_,hd⟩,fZ (K:=K) (a:=d) (xs:=tx ds) (fun i σ H'=>H'=H/\((ds.take i).any fun x=>rR p q c x)=af/\∃v5,σ=[aa (.ref a),aa (.ref r),aa (.ref l),aa (.int (c:Int)),aa (.ref d),v5]) ⟨rfl,rfl,ab,rfl⟩ (fun i σ H' _ ⟨e,_⟩=>by rw[e];exact hd) ?_ ?_⟩
 ·rintro i y σ H' hi ⟨rfl,no,v5,rfl⟩
  obtain⟨x,hx,rfl⟩:=mJ hi
  have xl:=dl x (br hx)
  refine⟨_,rfl,_,rfl,_,rfl,_,rfl,_,rfl,a,r,l,p,q,c,x,rfl,pa,pw,rg,hq,ql,hc,xl,_,rfl,?_⟩
  cases hx2:rR p q c x with
  |true=>
   rw[show(ds.any fun x=>rR p q c x)=ae from fg.mpr ⟨x,br hx,hx2⟩]at k
   exact dI k
  |false=>
   refine cD ⟨rfl,?_,_,rfl⟩
   rw[take_snoc hx,yu,no]
   simp[hx2]
 rintro σ H' ⟨rfl,no,v5,rfl⟩
 rw[ee,dy]at no
 rw[no]at k
 exact k
theorem DZ(good:Nat->Bool):∀(k o t:Nat),o<=t->t<o+k->good t=ae->(∀x,o<=x->x<t->good x=af)->kU good k o=t
 |0,o,t,h1,h2,_,_=>by omega
 |k+1,o,t,h1,h2,hg,no=>by
  unfold kU;by_cases e:o=t
  ·subst e;rw[c8 hg]
  rw[cP (by rw[no o (bu _) (by omega)];decide)];exact DZ good k (o+1) t (by omega) (by omega) hg fun x hx1 hx2=>no x (by omega) hx2
def good(p:aT)(q:List Nat)(c:Nat)(ds:List Nat)(o:Nat):Bool:=ds.all fun d=>!fM p c o d (aQ q d)
def JD(p:aT)(q:List Nat)(c:Nat)(ds:List Nat):Nat:=if aU p c=0 then 0 else kU (good p q c ds) lP 0
theorem tD{o t:Nat}:fM p c o d t=ae↔fE p c d=ae/\0<aU p c/\0<aU p d/\o<t+aU p d/\t<o+aU p c/\¬(jm p c d=ae/\o=t):=by
 unfold fM iI;simp only[cK,decide_eq_true_eq,vb,Bool.and_eq_false_imp,beq_eq_false_iff_ne,ne_eq];constructor
 ·rintro⟨h1,⟨h2,h3,h4,h5⟩,h6⟩;exact⟨h1,h2,h3,h4,h5,fun z=>h6 z.1 z.2⟩
 rintro⟨h1,h2,h3,h4,h5,h6⟩;exact⟨h1,⟨h2,h3,h4,h5⟩,fun z y=>h6 ⟨z,y⟩⟩
theorem x9{q:List Nat}{o:Nat}:good p q c ds o=ae↔∀d∈ds,fM p c o d (aQ q d)=af:=by
 unfold good;rw[cV];exact⟨fun h d hd=>by simpa using h d hd,fun h d hd=>by simpa using h d hd⟩
theorem Vh{q:List Nat}{o:Nat}(h:good p q c ds (o+1)=ae)(n:(o+1)∉m3 p q ds):good p q c ds o=ae:=by
 rw[x9]at h⊢;intro d hd;cases hc:fM p c o d (aQ q d)with
 |false=>rfl
 |true=>
  exfalso;obtain⟨c1,c2,c3,c4,c5,c6⟩:=tD.mp hc;have hn:¬fM p c (o+1) d (aQ q d)=ae:=by rw[h d hd];decide
  rw[tD]at hn
  have i1:aQ q d∈m3 p q ds:=by
   unfold m3;exact bC _ (ke.mpr ⟨d,hd,bM ..⟩)
  have i2:aQ q d+aU p d∈m3 p q ds:=by
   unfold m3;exact bC _ (ke.mpr ⟨d,hd,bC _ (bM ..)⟩)
  have n1:o+1≠aQ q d:=fun z=>n (z▸i1);have n2:o+1≠aQ q d+aU p d:=fun z=>n (z▸i2);exact hn ⟨c1,c2,c3,by omega,by omega,fun z=>n1 z.2⟩
theorem D5{q:List Nat}:∀o,good p q c ds o=ae->∃t,t<=o/\t∈m3 p q ds/\good p q c ds t=ae
 |0,h=>⟨0,bu _,by unfold m3;exact bM ..,h⟩
 |o+1,h=>by
  by_cases hm:(o+1)∈m3 p q ds
  ·exact⟨o+1,bu _,hm,h⟩
  obtain⟨t,h1,h2,h3⟩:=D5 o (Vh h hm);exact⟨t,by omega,h2,h3⟩
theorem Tu{q ds:List Nat}{B:Nat}(hB:∀d∈ds,aQ q d+aU p d<=B):∀t∈m3 p q ds,t<=B:=fun t ht=>by
 unfold m3 at ht;rcases bP.mp ht with e|e
 ·omega
 obtain⟨d,hd,h⟩:=ke.mp e;have:=hB d hd;rcases bP.mp h with z|z
 ·omega
 rw[bT.mp z];exact this
theorem Pn{q ds:List Nat}{B:Nat}(hB:∀d∈ds,aQ q d+aU p d<=B):good p q c ds B=ae:=by
 rw[x9];intro d hd;cases hc:fM p c B d (aQ q d)with
 |false=>rfl
 |true=>
  have:=(tD.mp hc).2.2.2.1;have:=hB d hd;omega
theorem adz{q ds ms:List Nat}{B i o:Nat}(hB:∀d∈ds,aQ q d+aU p d<=B)(b4:B<4000)(so:ms.Pairwise (· <·))(mem:∀k,k∈ms↔k∈m3 p q ds)(hi:ms[i]?=aa o)(hg:good p q c ds o=ae)(no:∀j x,j<i->ms[j]?=aa x->good p q c ds x=af):JD p q c ds=o:=by
 have om:=br hi
 have below:∀x,x<o->good p q c ds x=af:=fun x hx=>by
  cases hgx:good p q c ds x with
  |false=>rfl
  |true=>
   obtain⟨t,t1,t2,t3⟩:=D5 x hgx;obtain⟨j,hj⟩:=cw ((mem t).mpr t2)
   have ji:j<i:=by
    rcases lH j i with z|z|z
    ·exact z
    ·rw[z,hi]at hj;cases hj;omega
    obtain⟨l1,e1⟩:=aZ.mp hi;obtain⟨l2,e2⟩:=aZ.mp hj;have:=fQ.mp so i j l1 l2 z;omega
   rw[no j t ji hj]at t3;cases t3
 unfold JD;by_cases h0:aU p c=0
 ·rw[c8 h0]
  have g0:good p q c ds 0=ae:=by
   rw[x9];intro d _;cases hc:fM p c 0 d (aQ q d)with
   |false=>rfl
   |true=>
    have:=(tD.mp hc).2.1;omega
  rcases oC o with z|z
  ·exact z.symm
  rw[below 0 z]at g0;cases g0
 rw[cP h0];refine DZ _ _ 0 o (cB _) ?_ hg fun x _ hx=>below x hx;have:=Tu hB o ((mem o).mp om);unfold lP;omega
theorem adA{q ds ms:List Nat}{B:Nat}(hB:∀d∈ds,aQ q d+aU p d<=B)(mem:∀k,k∈ms↔k∈m3 p q ds):∃o∈ms,good p q c ds o=ae:=by
 obtain⟨t,_,t2,t3⟩:=D5 B (Pn (c:=c) hB);exact⟨t,(mem t).mpr t2,t3⟩
theorem yN{q:List Nat}{c o:Nat}(h:c<q.length):aQ (q.set c o) d=if d=c then o else aQ q d:=by
 unfold aQ;rw[Zf];by_cases e:c=d
 ·subst e;rw[c8 rfl,c8 rfl,c8 h];rfl
 rw[cP e,cP (de e)]
theorem YQ{q ds:List Nat}{c o:Nat}(hc:c<q.length)(nd:∀d∈ds,d≠c):(ds.any fun x=>rR p (q.set c o) c x)= !good p q c ds o:=by
 have key:∀d∈ds,rR p (q.set c o) c d=fM p c o d (aQ q d):=fun d hd=>by
  unfold rR;rw[yN hc,yN hc,c8 rfl,cP (nd d hd)]
 cases hg:good p q c ds o with
 |true=>
  show _=af;rw[hX];intro d hd;rw[key d hd,x9.mp hg d hd];decide
 |false=>
  show _=ae;cases ha:(ds.any fun x=>rR p (q.set c o) c x)with
  |true=>rfl
  |false=>
   have:good p q c ds o=ae:=x9.mpr fun d hd=>by
    have:=hX.mp ha d hd;rw[key d hd]at this;simpa using this
   rw[this]at hg;cases hg
def qE(l:Addr)(H H':Hp):Prop:=∀b o,b≠l->H b=aa o->H' b=aa o
inductive S3(CS CP:Addr)(vs:ao)(H:Hp)(Q:VK)(z':XK):Prop
 |mk (a r l d:Addr) (p:aT) (q ds:List Nat) (c:Nat) (H0:Hp) (_:vs=[.ref a,.ref r,.ref l,.int (c:Int),.ref d]) (_:bG H0 H) (_:H0 l=ab) (_:jH CS CP H0 a p) (_:uh p) (_:zA H0 r p) (_:H l=aa (.lst (tx q))) (_:q.length=p.length) (_:H d=aa (.lst (tx ds))) (_:d≠l) (_:(∀x∈ds,x<p.length/\x≠c)) (_:c<p.length) (_:ds.length<=24) (_:(∀x∈ds,aQ q x+aU p x<=2000)) (_:∀H',qE l H H'->H' l=aa (.lst (tx (q.set c (JD p q c ds))))->Q .j5 H')
theorem Xs{f:Addr}(F:iF K "place" "place" LC f fd)(Cp:Fn P w K mg base eJ 1 "possible_offsets" ["program","plan","placed"] (QW K CS CP))(Cc:Fn P w K mg base eJ 4 "clashes_with_any" UL (WN K CS CP)):
 dv P w K mg base eJ 5 f fd UL (S3 CS CP):=by
 refine F.ok Ow fun fA A outer s H vs Q E hr h=>?_
 obtain⟨a,r,l,d,p,q,ds,c,H0,rfl,s0,nl,pa,pw,rg,hq,ql,hd,Vr,dl,hc,j6,hB,k⟩:=h
 have nd:=Ow.nd
 refine⟨_,bh (jy 5 nd (dG Cp (hr.mono (by decide)) (by rfl) (aP (pv 0) (aP (pv 2) (aP (pv 4) bq)))))
  (bj (eZ bV rfl (fP (pv 5)) (oX 6 nd)
   (bh (DH (pv 6) (DI (pv 2) (pv 3) set_list))
   (bj (d8 (ub (jw (dG Cc hr (by rfl) (aP (pv 0) (aP (pv 1) (aP (pv 2) (aP (pv 3) (aP (pv 4) bq)))))))) (bj Td) cS))))),?_⟩
 refine⟨_,rfl,_,rfl,_,rfl,a,l,d,p,q,ds,rfl,pa.same s0,du.of hq,ql,du.of hd,fun x hx=>(dl x hx).1,j6,fun b ms H1 nb s1 hb so mem=>?_⟩
 have nbl:b≠l:=fun z=>by rw[z,hq]at nb;cases nb
 refine⟨_,rfl,b,rfl,⟨_,du.of hb⟩,fZ (K:=K) (a:=b) (xs:=tx ms) (fun i σ H'=>Uc fun v6 q'=>σ=[aa (.ref a),aa (.ref r),aa (.ref l),aa (.int (c:Int)),aa (.ref d),aa (.ref b),v6]/\qE l H1 H'/\H' l=aa (.lst (tx q'))/\(∀o,q'.set c o=q.set c o)/\q'.length=p.length/\∀j x,j<i->ms[j]?=aa x->good p q c ds x=af)
  ⟨ab,q,rfl,fun _ _ _ e=>e,s1 _ _ hq,fun _=>rfl,ql,fun j x hj=>by omega⟩ (fun i σ H' _ ⟨_,_,_,bt,_⟩=>du.of (bt _ _ nbl hb)) ?_ ?_⟩
 ·rintro i y σ H' hi ⟨v6,q',rfl,bt,hl,sq,ql',no⟩
  obtain⟨o,ho,rfl⟩:=mJ hi
  refine⟨_,rfl,_,rfl,_,rfl,l,_,_,c,rfl,rfl,hl,by rw[ee,ql'];exact yP hc,?_⟩
  rw[Lh,sq]
  have IZ:qE l H1 (upd H' l (.lst (tx (q.set c o)))):=fun x u nx e=>by rw[bB nx];exact bt x u nx e
  have s2:bG H0 (upd H' l (.lst (tx (q.set c o)))):=fun x u e=>IZ x u (bO e nl) (s1 _ _ (s0 _ _ e))
  refine⟨_,rfl,_,rfl,_,rfl,_,rfl,_,rfl,a,r,l,d,p,q.set c o,ds,c,rfl,pa.same s2,pw,rg.same s2,du.of ba,by rw[fK,ql],du.of (IZ _ _ Vr (s1 _ _ hd)),fun x hx=>(dl x hx).1,hc,_,rfl,?_⟩
  rw[YQ (by omega) fun x hx=>(dl x hx).2]
  cases hg:good p q c ds o with
  |true=>
   refine dI (k _ (fun x u nx e=>IZ x u nx (s1 _ _ e)) ?_)
   rw[ba,adz hB (by decide) so mem ho hg no]
  |false=>
   refine cD ⟨_,q.set c o,rfl,IZ,ba,fun o2=>by rw[List.set_set],by rw[fK,ql],fun j x hj hx=>?_⟩
   by_cases e:j=i
   ·subst e
    rw[ho]at hx
    cases hx
    exact hg
   exact no j x (by omega) hx
 rintro σ H' ⟨v6,q',rfl,bt,hl,sq,ql',no⟩
 exfalso
 obtain⟨o,om,og⟩:=adA (c:=c) hB mem
 obtain⟨j,hj⟩:=cw om
 rw[no j o (by rw[ee];exact(aZ.mp hj).1) hj]at og
 cases og
theorem DY(g:Nat->Bool):∀(k o t:Nat),o<=t->t<o+k->g t=ae->kU g k o<=t
 |0,o,t,h1,h2,_=>by omega
 |k+1,o,t,h1,h2,hg=>by
  unfold kU;split
  ·exact h1
  rename_i hn;have:o≠t:=fun z=>hn (z▸hg);exact DY g k (o+1) t (by omega) (by omega) hg
theorem ady{q ds:List Nat}{B:Nat}(hB:∀d∈ds,aQ q d+aU p d<=B)(b4:B<4000):JD p q c ds<=B:=by
 unfold JD;split
 ·exact cB _
 exact DY _ _ 0 B (cB _) (by unfold lP;omega) (Pn hB)
def qA(q ds:List Nat):List (Nat×Nat):=ds.map fun d=>(d,aQ q d)
theorem Q5(p:aT)(a:Nat)(r:List Nat)(q ds:List Nat)(ha:a<q.length)(na:a∉ds):jE p (a::r) (qA q ds)=jE p r (qA (q.set a (JD p q a ds)) (ds++[a])):=by
 show jE p r (qA q ds++[(a,if aU p a=0 then 0 else kU (fun o=>(qA q ds).all fun x=>!fM p a o x.1 x.2) lP 0)])=_
 have e1:(fun o=>(qA q ds).all fun x=>!fM p a o x.1 x.2)=good p q a ds:=by
  funext o;unfold qA good;rw[Qy];rfl
 rw[e1];congr 1;unfold qA;rw[b9];congr 1
 ·refine dj fun d hd=>?_;rw[yN ha,cP (show¬d=a from fun z=>na (z▸hd))]
 show[(a,JD p q a ds)]=[(a,aQ (q.set a (JD p q a ds)) a)];rw[yN ha,c8 rfl]
theorem Vn{q ds:List Nat}{a:Nat}(h:a∈ds):((qA q ds).find? fun x=>x.1==a)=aa (a,aQ q a):=by
 induction ds with
 |nil=>cases h
 |cons d ds ih=>
  show((d,aQ q d)::qA q ds).find? _=_;by_cases e:d=a
  ·subst e;simp
  rw[kJ (by simp[e])];exact ih ((bP.mp h).resolve_left (de e))
theorem UK{p:aT}{q ds:List Nat}(ql:q.length=p.length)(all:∀a,a<p.length->a∈ds):iA p (qA q ds)=q:=by
 unfold iA;refine jq (by simp[ql]) fun i h1 h2=>?_;simp only[l4,nR];rw[Vn (all i (by omega))];unfold aQ;simp[h2]
inductive GV(K:aX)(CS CP:Addr)(vs:ao)(H:Hp)(Q:VK)(z':XK):Prop
 |mk (a o:Addr) (p:aT) (od:List Nat) (_:vs=[.ref a,.ref o]) (_:jH CS CP H a p) (_:uh p) (_:du K H o (tx od)) (_:od.Perm (bw p.length)) (_:UZ H Q (iA p (jE p od [])))
def WD(CS CP:Addr):Sp:=Ou CS CP fun p H Q=>UZ H Q (cO p)
def Kn(CS CP:Addr):Sp:=Ou CS CP fun p H Q=>UZ H Q (iA p (jE p (bw p.length) []))
theorem OG(n:Nat):(cA n [V.int 0]).flatten=tx (cA n 0):=by
 induction n with
 |zero=>rfl
 |succ n ih=>
  rw[fV,lE,ih,fV];rfl
def sumTo(p:aT)(a:Nat):Nat:=((bw a).map (aU p)).foldl (fun n x=>n+x) 0
theorem Am(p:aT)(a:Nat):sumTo p (a+1)=sumTo p a+aU p a:=by
 unfold sumTo;rw[eY,b9];exact Oe _ _ _
theorem HA{f:Addr}(F:iF K "placed_plan" "placed_plan" tO f fd)(hl:mg "len"=ab)(Cl:Fn P w K mg base eJ 3 "live_ranges" jT (Bp CS CP))(Cp:Fn P w K mg base eJ 5 "place" UL (S3 CS CP)):
 dv P w K mg base eJ 6 f fd ["program","order"] (GV K CS CP):=by
 refine F.ok xa fun fA A outer s H vs Q E hr h=>?_
 obtain⟨a,o,p,od,rfl,pa,pw,ho,pm,k⟩:=h
 have fw:=pw.j6
 have odl:od.length=p.length:=by rw[pm.length_eq,bZ]
 have nod:=pm.nodup_iff.mpr wH
 have nd:=xa.nd
 refine⟨_,bh (jy 2 nd (dG Cl (hr.mono (by decide)) (by rfl) (aP (pv 0) bq)))
  (bh (jy 3 nd (fX Q9 (eA (aP cE bq)) (dB cI (by rfl) hl cv (aP (pv 1) bq))))
  (bh (jy 4 nd (eA bq))
  (bh (eZ bV rfl (fP (pv 1)) (oX 5 nd)
   (bh (dJ (dG Cp hr (by rfl) (aP (pv 0) (aP (pv 2) (aP (pv 3) (aP (pv 5) (aP (pv 4) bq)))))))
   (bj (dJ (md cb c7 cZ iN (pv 4) (aP (pv 5) bq))))))
  (bj (b8 (pv 3)))))),?_⟩
 refine⟨_,rfl,a,p,rfl,pa,pw,fun r H1 s1 rg=>?_⟩
 have el:((tx od).length:Int)=(p.length:Int):=by rw[ee,odl]
 refine⟨by show 1<=bz;decide,fun x hx=>⟨_,rfl,o,_,rfl,.inl ((s1.trans (bG.new hx)).seq ho),x,_,_,rfl,rfl,ba,(by rw[el];omega),(by rw[el];omega),(by rw[el,bX];show 1*_<=_;omega),fun l uq=>?_⟩⟩
 generalize hH0:upd H1 x (.lst [V.int 0])=H0 at uq
 have s0:bG H H0:=by rw[<-hH0];exact s1.trans (bG.new hx)
 have er:(cA ((tx od).length:Int).toNat [V.int 0]).flatten=tx (cA p.length 0):=by
  rw[el];exact OG _
 rw[er]
 refine⟨by show 0<=bz;decide,fun d hd=>?_⟩
 have sl:bG H0 (upd H0 l (.lst (tx (cA p.length 0)))):=bG.new uq
 have Vr:d≠l:=fun z=>by rw[z,ba]at hd;cases hd
 have hdH:=sl.free hd
 refine⟨_,rfl,o,rfl,⟨_,((s0.trans sl).trans (bG.new hd)).seq ho⟩,fZ (K:=K) (a:=o) (xs:=tx od) (fun i σ H'=>Uc fun v5 q=>σ=[aa (.ref a),aa (.ref o),aa (.ref r),aa (.ref l),aa (.ref d),v5]/\bG H0 H'/\H' l=aa (.lst (tx q))/\q.length=p.length/\H' d=aa (.lst (tx (od.take i)))/\jE p od []=jE p (od.drop i) (qA q (od.take i))/\∀y∈od.take i,aQ q y+aU p y<=64*i) ?_ ?_ ?_ ?_⟩
 ·refine⟨ab,cA p.length 0,rfl,sl.trans (bG.new hd),by rw[bB Vr.symm,ba],ir,ba,rfl,fun y hy=>by cases hy⟩
 ·rintro i σ H' _ ⟨v5,q,_,sm,_⟩
  exact(s0.trans sm).seq ho
 ·rintro i y σ H' hi ⟨v5,q,rfl,sm,hlq,ql,hdq,pl,bd⟩
  obtain⟨c,hc,rfl⟩:=mJ hi
  have cl:c<p.length:=by
   have:=pm.mem_iff.mp (br hc);exact cj.mp this
  have il:=(aZ.mp hc).1
  have nin:c∉od.take i:=fun z=>by
   obtain⟨j,hj⟩:=cw z;have jl:=(aZ.mp hj).1;rw[dW]at jl;rw[nG (by omega)]at hj;obtain⟨l1,e1⟩:=aZ.mp hj;obtain⟨l2,e2⟩:=aZ.mp hc;have:=(Gs nod).mp (e1.trans e2.symm);omega
  refine⟨_,rfl,_,rfl,_,rfl,_,rfl,_,rfl,a,r,l,d,p,q,od.take i,c,H0,rfl,sm,uq,pa.same s0,pw,rg.same (by rw[<-hH0];exact bG.new hx),hlq,ql,hdq,Vr,?_,cl,by rw[dW];omega,fun y hy=>by have:=bd y hy;omega,fun H2 bt hl3=>?_⟩
  ·intro y hy
   refine⟨?_,fun z=>nin (z▸hy)⟩
   exact cj.mp (pm.mem_iff.mp (Ah hy))
  have hd2:=bt _ _ Vr hdq
  refine⟨_,rfl,.inl ⟨rfl,_,du.of hd2⟩,_,rfl,d,_,_,rfl,rfl,hd2,by rw[ee,dW,bX];omega,?_⟩
  refine⟨_,q.set c (JD p q c (od.take i)),rfl,fun b u e=>?_,by rw[bB Vr.symm];exact hl3,by rw[fK,ql],by rw[ba,Dm,take_snoc hc],?_,?_⟩
  ·rw[bB (bO e hdH)]
   exact bt b u (bO e uq) (sm b u e)
  ·rw[pl,dZ il,take_snoc hc]
   have ec:=(aZ.mp hc).2
   rw[ec,Q5 p c _ q _ (by omega) nin]
  intro y hy
  rw[take_snoc hc]at hy
  rw[yN (by omega)]
  have lw:JD p q c (od.take i)<=64*i:=ady bd (by omega)
  have lc:aU p c<=64:=by
   obtain⟨sx,ex⟩:=uT cl;rw[iQ ex];exact pw.len sx (br ex)
  by_cases e:y=c
  ·subst e
   rw[c8 rfl]
   omega
  rw[cP e]
  rcases d5.mp hy with z|z
  ·have:=bd y z
   omega
  exact absurd (bT.mp z) e
 rintro σ H' ⟨v5,q,rfl,sm,hlq,ql,hdq,pl,bd⟩
 refine⟨_,rfl,k l H' (s0.free uq) (s0.trans sm) ?_⟩
 rw[ee,dy,Gv]at pl
 rw[hlq,pl]
 show aa (HO.lst (tx q))=aa (HO.lst (tx (iA p (qA q od))))
 rw[UK ql fun x hx=>pm.mem_iff.mpr (cj.mpr hx)]
theorem OY{f:Addr}(F:iF K "plan_one_behind_another" "plan_one_behind_another" jv f fd)(S:FE K CS)(G:FF K CP):dv P w K mg base eJ 1 f fd jT (WD CS CP):=by
 refine F.ok k8 fun fA A outer s H vs Q E hr h=>?_;obtain⟨a,p,rfl,pa,pw,q⟩:=h;obtain⟨dp,ls,lo,bs,os,v⟩:=pa.v;have fw:=pw.j6;have nd:=k8.nd
 refine⟨_,bh (jy 1 nd (eA bq))
  (bh (jy 2 nd cE)
  (bh (eZ bV rfl (fP (cu (pv 0) rfl)) (oX 3 nd)
   (bh (dJ (md cb c7 cZ iN (pv 1) (aP (pv 2) bq)))
   (bj (rL (i:=2) nd rfl (ur rfl) (cu (pv 3) rfl) qz))))
  (bj (b8 (pv 1))))),?_⟩
 refine⟨by show 0<=bz;decide,fun l hl=>?_⟩;have s1:bG H (upd H l (.lst [])):=bG.new hl
 refine⟨_,rfl,a,CP,dp,_,_,rfl,s1 _ _ v.ha,G.cl,G.n1,jN,ls,rfl,⟨_,du.of (s1 _ _ v.lY)⟩,fZ (K:=K) (a:=ls) (xs:=bs.map V.ref) (fun i σ H'=>∃v3,σ=[aa (.ref a),aa (.ref l),aa (.int (sumTo p i:Nat)),v3]/\H' l=aa (.lst (tx ((bw i).map (sumTo p))))/\bG H H')
  ⟨ab,rfl,ba,s1⟩ (fun i σ H' _ ⟨_,_,_,s2⟩=>du.of (s2 _ _ v.lY)) ?_ ?_⟩
 ·rintro i x σ H' hx ⟨v3,rfl,NM,s2⟩;obtain⟨st,b,db,lb,hs,rfl,hi,g⟩:=v.ref hx
  have nlb:b≠l:=fun z=>by
   have:=s2 _ _ g;rw[z,NM]at this;cases this
  refine⟨_,rfl,.inl ⟨rfl,_,du.of NM⟩,_,rfl,l,_,_,rfl,rfl,NM,by rw[ee,aV,bZ,bX];omega,?_⟩;refine⟨_,rfl,_,rfl,b,CS,db,_,_,rfl,by rw[bB nlb];exact s2 _ _ g,S.cl,S.n3,iM,_,_,rfl,rfl,?_⟩;refine⟨aa (.ref b),?_,by rw[ba,Dm,n8],bG.put hl s2⟩
  have e:((sumTo p i:Nat):Int)+(st.length:Int)=((sumTo p (i+1):Nat):Int):=by
   rw[Am,iQ hs];omega
  rw[<-e];rfl
 rintro σ H' ⟨v3,rfl,NM,s2⟩;rw[aV,v.bl]at NM;exact⟨_,rfl,q l H' hl s2 NM⟩
theorem DN{f:Addr}(F:iF K "plan_in_order" "plan_in_order" qr f fd)(G:FF K CP)(hl:mg "len"=ab)(TU:mg "range"=ab)(NK:mg "list"=ab)(Cp:Fn P w K mg base eJ 6 "placed_plan" ["program","order"] (GV K CS CP)):
 dv P w K mg base eJ 7 f fd jT (Kn CS CP):=by
 refine F.ok Dx fun fA A outer s H vs Q E hr h=>?_
 obtain⟨a,p,rfl,pa,pw,q⟩:=h
 obtain⟨dp,ls,lo,bs,os,v⟩:=pa.v
 have fw:=pw.j6
 refine⟨_,bj (b8 (dG Cp hr (by rfl) (aP (pv 0) (aP (pB (RW rfl) (by rfl) NK Nb (aP (pB PN (by rfl) TU PY (aP (dB cI (by rfl) hl cv (aP (cu (pv 0) rfl) bq)) bq)) bq)) bq)))),?_⟩
 refine⟨_,rfl,_,rfl,a,CP,dp,_,_,rfl,v.ha,G.cl,G.n1,jN,ls,_,rfl,.inl (du.of v.lY),(bs.map V.ref).length,rfl,fun g hg=>?_⟩
 refine⟨g,(bs.map V.ref).length,rfl,ba,by rw[aV,v.bl];omega,fun o ho=>?_⟩
 have s1:bG H (upd H g (.Z2 0 ((bs.map V.ref).length:Int))):=bG.new hg
 have s2:=s1.trans (bG.new (o:=.lst ((bw (bs.map V.ref).length).map fun(i:Nat)=>V.int (i:Int))) ho)
 have el:(bs.map V.ref).length=p.length:=by rw[aV,v.bl]
 rw[el]at s2⊢
 refine⟨a,o,p,bw p.length,rfl,pa.same s2,pw,du.of ba,gO _,fun l H' nl sm e=>q l H' (s2.free nl) (s2.trans sm) e⟩
def jt(H H':Hp):Prop:=∀b o,H b=aa o->(∀ps,o≠ .FZ ps)->H' b=aa o
theorem jt.trans{H H1 H2:Hp}(a:jt H H1)(b:jt H1 H2):jt H H2:=fun x o e n=>b x o (a x o e n) n
theorem jt.of{H H':Hp}(s:bG H H'):jt H H':=fun b o e _=>s b o e
theorem jt.ofT{T:Addr}{H H':Hp}(t:∃ps,H T=aa (.FZ ps))(b:IJ T H H'):jt H H':=fun x o e n=>b x o (fun z=>by
 obtain⟨ps,h⟩:=t;rw[z,h]at e;cases e;exact n _ rfl) e
theorem jH.Bz{H H':Hp}(h:jH CS CP H a p)(s:jt H H'):jH CS CP H' a p:=by
 obtain⟨dx,ls,lo,bs,os,h1,h2,h3,h4,h5⟩:=h;refine⟨dx,ls,lo,bs,os,s _ _ h1 (fun _ z=>by cases z),s _ _ h2 (fun _ z=>by cases z),Paired.sC h3 fun b x hx=>?_,s _ _ h4 (fun _ z=>by cases z),Paired.sC h5 fun b x hx=>s _ _ hx fun _ z=>by cases z⟩;obtain⟨dx,lb,e1,e2⟩:=hx;exact⟨dx,lb,s _ _ e1 (fun _ z=>by cases z),s _ _ e2 fun _ z=>by cases z⟩
theorem okC{st:Stmt}{f:Addr}{N:ak}{k:Nat}{sp:Sp}(F:iF K x qual st f fd)(S:bU N ps (bA st))(hc:fd.code=.ref c)(len:∀vs H Q E,sp vs H Q E->vs.length=ps.length)
 (Ig:∀(A:cX)(outer:List Env)(s:bf)(H:Hp)(vs:ao)(Q:VK)(E:XK),gG k (A.deeper (AW qual (bA st) s.heap.objs.size f (.ref c)))->sp vs H Q E->
  ∃t,Nm (MQ eJ P w K mg base N qual (bA st) f (.ref c) A outer s H E).nox (jW st) t/\t {nx:=fun _ H'=>Q .j5 H',rt:=Q} (start N vs) H):dv P w K mg base eJ (k+1) f fd ps sp:=by
 obtain⟨oc,od,kV,doc,pm,an,fA,ct,Xq,rfl,lk,NN⟩:=F.ex
 have e:=hc
 subst e
 refine Ym lk NN S len fun A outer s H vs Q E hr VS=>?_
 obtain⟨t,h,q⟩:=Ig A outer s H vs Q E hr VS
 exact⟨t,h.nox,q⟩
theorem Ao{α:Type}(r:α->α->Prop)(as:∀a b,r a b->r b a->False):∀{l m:List α},l.Perm m->l.Pairwise r->m.Pairwise r->l=m
 |[],m,p,_,_=>by rw[List.nil_perm.mp p]
 |a::l,[],p,_,_=>by simp at p
 |a::l,b::m,p,h1,h2=>by
  have e:a=b:=by
   rcases bP.mp (p.mem_iff.mp (bM ..))with z|z
   ·exact z
   rcases bP.mp (p.mem_iff.mpr (bM ..))with y|y
   ·exact y.symm
   exact(as a b ((dE.mp h1).1 b y) ((dE.mp h2).1 a z)).elim
  subst e;rw[Ao r as ((List.perm_cons a).mp p) (dE.mp h1).2 (dE.mp h2).2]
theorem Kj{α:Type}{r:α->α->Prop}(f:α->Int):∀{l:List α},(∀c,(l.filter fun x=>f x==c).Pairwise r)->l.Pairwise fun a b=>f a=f b->r a b
 |[],_=>kg
 |a::l,h=>by
  refine dE.mpr ⟨fun b hb e=>?_,Kj f fun c=>?_⟩
  ·have:=h (f a);rw[fD (by simp)]at this;exact(dE.mp this).1 b (cH.mpr ⟨hb,by simp[e]⟩)
  exact(h c).sublist ((List.sublist_cons_self a l).filter _)
def BU(p:aT)(a b:Nat):Prop:=aU p b<aU p a\/(aU p a=aU p b/\a<b)
theorem Hi(p:aT)(a:Nat):∀l:List Nat,(∀x∈l,x<a)->l.Pairwise (BU p)->(oJ p a l).Perm (a::l)/\(oJ p a l).Pairwise (BU p)
 |[],_,_=>⟨gO _,oF _ _⟩
 |b::l,h,s=>by
  obtain⟨s1,s2⟩:=dE.mp s;unfold oJ;by_cases hb:aU p b<aU p a
  ·rw[c8 hb];refine⟨gO _,dE.mpr ⟨fun x hx=>?_,s⟩⟩;rcases bP.mp hx with e|e
   ·subst e;exact .inl hb
   have:=s1 x e;unfold BU at this;exact .inl (by omega)
  rw[cP hb];obtain⟨i1,i2⟩:=Hi p a l (fun x hx=>h x (bC _ hx)) s2;refine⟨(i1.cons b).trans (FU ..),dE.mpr ⟨fun x hx=>?_,i2⟩⟩;rcases bP.mp (i1.mem_iff.mp hx)with e|e
  ·subst e;have:=h b (bM ..);unfold BU;omega
  exact s1 x e
theorem yl(p:aT):∀n,((bw n).foldl (fun l a=>oJ p a l) []).Perm (bw n)/\((bw n).foldl (fun l a=>oJ p a l) []).Pairwise (BU p)
 |0=>⟨gO _,kg⟩
 |n+1=>by
  obtain⟨i1,i2⟩:=yl p n;rw[eY,hV];show(oJ p n _).Perm _/\_;obtain⟨j1,j2⟩:=Hi p n _ (fun x hx=>cj.mp (i1.mem_iff.mp hx)) i2;exact⟨j1.trans ((i1.cons n).trans (List.perm_append_singleton n _).symm),j2⟩
theorem Jh(kz:List Int)(c:Int):((kz.zip ((bw kz.length).map fun(i:Nat)=>(i:Int))).filter fun p=>p.1==c).Pairwise fun a b=>a.2<b.2:=by
 refine List.Pairwise.sublist List.filter_sublist ?_;rw[fQ];intro i j hi hj hij;simp only[List.getElem_zip,l4,nR];omega
theorem U6{p:aT}{ns:List Int}(h:Sg (((bw p.length).map fun a=>((aU p a:Nat):Int)).map fun k=>-k) ns):ns=(wO p).map fun(n:Nat)=>(n:Int):=by
 obtain⟨qs,q1,q2,q3,q4⟩:=h;have kl:(((bw p.length).map fun a=>((aU p a:Nat):Int)).map fun k=>-k).length=p.length:=by simp
 rw[kl]at q1
 have mem:∀z∈qs,∃a:Nat,a<p.length/\z=(-((aU p a:Nat):Int),(a:Int)):=fun z hz=>by
  have:=q1.mem_iff.mp hz;obtain⟨i,hi⟩:=cw this;rw[mw]at hi;obtain⟨h1,h2⟩:=hi
  have il:i<p.length:=by
   have:=(aZ.mp h2).1;simpa using this
  rw[dA,bK,fj il]at h1;rw[bK,fj il]at h2;refine⟨i,il,?_⟩;obtain⟨z1,z2⟩:=z;simp only[jF,Option.some.injEq,Function.comp]at h1 h2;rw[<-h1,<-h2]
 have st:=Kj (r:=fun a b:Int×Int=>a.2<b.2) (fun x:Int×Int=>x.1) (l:=qs) fun c=>by
  rw[q4 c];exact Jh _ c
 have pw:qs.Pairwise fun a b=>a.1<b.1\/(a.1=b.1/\a.2<b.2):=by
  refine(q3.and st).imp fun{a b} h=>?_;rcases EA h.1 with z|z
  ·exact .inl z
  exact .inr ⟨z,h.2 z⟩
 obtain⟨b1,b2⟩:=yl p p.length
 have e:ns.map Int.toNat=wO p:=by
  refine Ao (BU p) (fun a b h1 h2=>by unfold BU at h1 h2;omega) (Ey ?_ b1.symm) ?_ b2
  ·rw[q2,dA];refine(q1.map _).trans (List.Perm.of_eq ?_);refine jq (by simp) fun i h1 h2=>?_;simp
  rw[q2,dA,jR];refine Ez (fun{x y} hx hy h=>?_) pw;obtain⟨a,_,ea⟩:=mem x hx;obtain⟨b,_,eb⟩:=mem y hy;subst ea eb;show BU p ((a:Int).toNat) ((b:Int).toNat);unfold BU;simp only[pG];simp only at h;omega
 rw[<-e,dA];conv=>lhs;rw[<-qM ns]
 refine dj fun z hz=>?_;rw[q2]at hz;obtain⟨y,hy,ey⟩:=dh.mp hz;obtain⟨a,_,ea⟩:=mem y hy;rw[<-ey,ea];rfl
abbrev Ma:Pos:=⟨174,44,174,75⟩
abbrev XT:Str:=("plan_longest_first"++".<locals>.")++"<lambda>"
inductive WH(CS CP T:Addr)(vs:ao)(H:Hp)(Q:VK)(z':XK):Prop
 |mk (a:Addr) (p:aT) (_:vs=[.ref a]) (_:jH CS CP H a p) (_:uh p) (_:iX H T Ma XT) (_:∀(l:Addr)(H':Hp),H l=ab->IJ T H H'->iX H' T Ma XT->H' l=aa (.lst (tx (iA p (jE p (wO p) []))))->Q (.ref l) H')
theorem wM{f T:Addr}(F:iF K "plan_longest_first" "plan_longest_first" lh f fd)(NN:fd.code=.ref c)(hk:pE K c T=ae)(B:Np mg base)(S:FE K CS)(G:FF K CP)(hl:mg "len"=ab)(TU:mg "range"=ab)(hso:mg "sorted"=ab)
 (Cp:Fn P w K mg base eJ 6 "placed_plan" ["program","order"] (GV K CS CP)):dv P w K mg base eJ 7 f fd jT (WH CS CP T):=by
 refine okC F oV NN (fun vs H Q E h=>?_) (fun A outer s H vs Q E hr h=>?_)
 ·obtain⟨a,p,rfl,_⟩:=h
  rfl
 obtain⟨a,p,rfl,pa,pw,tab,q⟩:=h
 obtain⟨dp,ls,lo,bs,os,v⟩:=pa.v
 have fw:=pw.j6
 have nd:=oV.nd
 refine⟨_,bh (Q3 (i:=1) nd rfl (ZA rfl) (Kx (own:=[("statement",3)]) (g:=zY 3) (tt:=Uz) (te:=ZM K (Ak 3) "length") rfl nd (fP (cu (pv 0) rfl)) (rX (by rfl)) (fun s H C cl fp=>oX 3 nd) (fun s H C cl fp=>F9) (fun s H C cl fp=>cu (pv 3) rfl)))
  (bh (jy 2 nd (Xi (i:=1) (cy:=s.heap.objs.size+1) (T:=T) rfl hr (by rfl) hso (pB PN (by rfl) TU PY (aP (dB cI (by rfl) hl cv (aP (pv 1) bq)) bq)) B rfl hk rfl rfl rfl rfl rfl (fun _ _ _ _=>rfl) rfl rfl (by decide) rfl rfl rfl (by decide) (by decide) (by decide)))
  (bj (b8 (dG Cp hr (by rfl) (aP (pv 0) (aP (pv 2) bq)))))),?_⟩
 refine⟨_,rfl,a,CP,dp,_,_,rfl,v.ha,G.cl,G.n1,jN,ls,rfl,⟨_,du.of v.lY⟩,fun D hD=>?_⟩
 refine BV (xs:=bs.map V.ref) (fun i G=>bG H G/\G D=aa (.lst (tx ((bw i).map (aU p))))) ⟨bG.new hD,ba⟩ ?_ ?_ ?_
 ·rintro i G _ ⟨sg,_⟩
  exact du.of (sg _ _ v.lY)
 ·rintro i x G hx ⟨sg,hG⟩
  obtain⟨st,b,db,lb,hs,rfl,hi,g⟩:=v.ref hx
  refine⟨rfl,?_⟩
  unfold Uz
  refine dI ⟨_,rfl,b,CS,db,_,_,rfl,sg _ _ g,S.cl,S.n3,iM,_,hG,by rw[ee,aV,bZ,bX];omega,bG.put hD sg,?_⟩
  rw[ba,Dm,<-iQ hs,n8]
 rintro G1 ⟨sg,hG⟩
 rw[aV,v.bl]at hG
 have wJ:=tab.same sg
 have ek:tx ((bw p.length).map (aU p))=((bw p.length).map fun a=>((aU p a:Nat):Int)).map V.int:=by
  unfold tx;rw[dA,dA];rfl
 have el:(tx ((bw p.length).map (aU p))).length=p.length:=by rw[ee,aV,bZ]
 refine⟨_,rfl,D,_,rfl,.inl (du.of hG),(tx ((bw p.length).map (aU p))).length,rfl,fun g hg=>?_⟩
 have s2:bG G1 (upd G1 g (.Z2 0 ((tx ((bw p.length).map (aU p))).length:Int))):=bG.new hg
 refine⟨g,D,(bw p.length).map fun a=>((aU p a:Nat):Int),rfl,?_,by rw[aV,bZ];omega,rfl,du.of (by rw[<-ek];exact s2 _ _ hG),wJ.same s2,fun ns o H3 Oc bt no ho srt=>?_⟩
 ·rw[ba,el,aV,bZ]
 have en:=U6 srt
 have sN:=(jt.of s2).trans (jt.ofT (let⟨ps,e,_,_⟩:=wJ.same s2;⟨ps,e⟩) bt)
 have pa3:=(pa.same sg).Bz sN
 obtain⟨b1,_⟩:=yl p p.length
 refine⟨_,rfl,_,rfl,a,o,p,wO p,rfl,pa3,pw,du.of (by rw[ho,en,txI]),b1,fun l H4 nl s4 e4=>?_⟩
 refine q l H4 ?_ (fun b u nb e=>s4 _ _ (bt b u nb (s2 _ _ (sg _ _ e)))) (Oc.same s4) e4
 cases hH:H l with
 |none=>rfl
 |some u=>
  by_cases lT:l=T
  ·obtain⟨ps,eT,_⟩:=Oc
   rw[lT,eT]at nl
   cases nl
  rw[bt l u lT (s2 _ _ (sg _ _ hH))]at nl
  cases nl
theorem G3{q:List Nat}{b:Nat}:fT p q a b=ae↔0<aU p a/\jm p a b=ae/\aQ q a=aQ q b:=by
 unfold fT;simp only[cK,decide_eq_true_eq,beq_iff_eq]
theorem Kg{b:Nat}(h:jm p a b=ae):aU p a=aU p b:=by
 unfold jm at h;rcases yA _ _|>.mp h with z|z
 ·obtain⟨s,hs,_,_,_,hl,_⟩:=wZ z;rw[iQ hs];exact hl
 obtain⟨s,hs,_,_,_,hl,_⟩:=wZ z;rw[iQ hs];exact hl.symm
theorem yH{q:List Nat}{b:Nat}(h:fT p q a b=ae):fT p q b a=ae:=by
 rw[G3]at h⊢;obtain⟨h1,h2,h3⟩:=h;refine⟨by rw[<-Kg h2];exact h1,?_,h3.symm⟩;unfold jm at h2⊢;rw[Bool.or_comm];exact h2
inductive sJ(p:aT)(q:List Nat)(a:Nat):Nat->Prop
 |self:sJ p q a a
 |step {x y:Nat}:sJ p q a x->y<p.length->fT p q x y=ae->sJ p q a y
theorem sJ.lt{p:aT}{q:List Nat}{a:Nat}(ha:a<p.length)(h:sJ p q a x):x<p.length:=by
 cases h with
 |self=>exact ha
 |step _ h _=>exact h
theorem sJ.trans{q:List Nat}{b:Nat}(h1:sJ p q a b)(h2:sJ p q b c):sJ p q a c:=by
 induction h2 with
 |self=>exact h1
 |step _ hy hs ih=>exact .step ih hy hs
theorem sJ.symm{p:aT}{q:List Nat}{a b:Nat}(ha:a<p.length)(h:sJ p q a b):sJ p q b a:=by
 induction h with
 |self=>exact .self
 |step hx hy hs ih=>exact(sJ.step .self (sJ.lt ha hx) (yH hs)).trans ih
theorem sJ.len{q:List Nat}{b:Nat}(h:sJ p q a b):aU p b=aU p a:=by
 induction h with
 |self=>rfl
 |step _ _ hs ih=>rw[<-ih,Kg (G3.mp hs).2.1]
def Nn(p:aT)(q:List Nat)(g:List Nat):Prop:=∀x∈g,∀y,y<p.length->fT p q x y=ae->y∈g
theorem IB{q g:List Nat}{a:Nat}(ha:a∈g)(c:Nn p q g):∀x,sJ p q a x->x∈g:=fun x h=>by
 induction h with
 |self=>exact ha
 |step _ hy hs ih=>exact c _ ih _ hy hs
def uR(p:aT)(q g:List Nat):List Nat:=(bw p.length).filter fun a=>g.contains a||g.any fun b=>fT p q a b
theorem uM{q:List Nat}{x:Nat}:x∈uR p q g↔x<p.length/\(x∈g\/∃b∈g,fT p q x b=ae):=by
 unfold uR;rw[cH,cj,yA,dN,fg]
theorem Pm{p:aT}{q g:List Nat}(gl:∀x∈g,x<p.length)(h:∀x∈uR p q g,x∈g):Nn p q g:=fun x hx y hy hs=>h y (uM.mpr ⟨hy,.inr ⟨x,hx,yH hs⟩⟩)
theorem uJ{l m:List Nat}(h:l.Nodup)(s:∀x∈l,x∈m):l.length<=m.length:=jS h s
theorem Mm{p:aT}{q:List Nat}:∀(k:Nat)(g:List Nat),g.Nodup->(∀x∈g,x<p.length)->p.length<=g.length+k->Nn p q (rh p q k g):=by
 intro k;induction k with
 |zero=>
  intro g nd gl h
  have all:∀y,y<p.length->y∈g:=fun y hy=>by
   by_cases hm:y∈g
   ·exact hm
   exfalso
   have:=uJ (l:=y::g) (m:=bw p.length) (iV.mpr ⟨hm,nd⟩) fun x hx=>by
    rcases bP.mp hx with e|e
    ·rw[e];exact cj.mpr hy
    exact cj.mpr (gl x e)
   rw[cJ,bZ]at this;omega
  exact fun x _ y hy _=>all y hy
 |succ k ih=>
  intro g nd gl h;show Nn p q (rh p q k (uR p q g));have nd2:(uR p q g).Nodup:=oI _ wH;have gl2:∀x∈uR p q g,x<p.length:=fun x hx=>(uM.mp hx).1;have sub:∀x∈g,x∈uR p q g:=fun x hx=>uM.mpr ⟨gl x hx,.inl hx⟩;by_cases hc:∀x∈uR p q g,x∈g
  ·have cl:=Pm gl hc
   have tJ:∀(k:Nat)(m:List Nat),(∀x,x∈m↔x∈g)->∀x,x∈rh p q k m↔x∈g:=fun k=>by
    induction k with
    |zero=>exact fun m hm=>hm
    |succ k ih2=>
     intro m hm;refine ih2 _ fun x=>?_;show x∈uR p q m↔_;rw[uM];constructor
     ·rintro⟨hx,z|⟨b,hb,hs⟩⟩
      ·exact(hm x).mp z
      exact cl b ((hm b).mp hb) x hx (yH hs)
     exact fun z=>⟨gl x z,.inl ((hm x).mpr z)⟩
   have e:=tJ k (uR p q g) fun x=>⟨hc x,sub x⟩;exact fun x hx y hy hs=>(e y).mpr (cl x ((e x).mp hx) y hy hs)
  refine ih _ nd2 gl2 ?_;have hc:∃x,x∈uR p q g/\x∉g:=eO fun z=>hc fun x hx=>eO fun y=>z ⟨x,hx,y⟩;obtain⟨x,hx,nx⟩:=hc
  have:=uJ (l:=x::g) (m:=uR p q g) (iV.mpr ⟨nx,nd⟩) fun y hy=>by
   rcases bP.mp hy with e|e
   ·rw[e];exact hx
   exact sub y e
  rw[cJ]at this;omega
theorem Vd{q:List Nat}:∀(k:Nat)(g:List Nat),(∀x∈g,sJ p q a x)->∀x∈rh p q k g,sJ p q a x:=by
 intro k;induction k with
 |zero=>exact fun g h=>h
 |succ k ih=>
  intro g h;refine ih _ fun x hx=>?_;obtain⟨hl,z|⟨b,hb,hs⟩⟩:=uM.mp (show x∈uR p q g from hx)
  ·exact h x z
  exact .step (h b hb) hl (yH hs)
theorem Vf{p:aT}{q:List Nat}:∀(k:Nat)(g:List Nat)(x:Nat),x<p.length->x∈g->x∈rh p q k g:=by
 intro k;induction k with
 |zero=>exact fun g x _ h=>h
 |succ k ih=>exact fun g x hl h=>ih _ x hl (uM.mpr ⟨hl,.inl h⟩)
theorem kG{p:aT}{q:List Nat}{a:Nat}(ha:a<p.length)(x:Nat):x∈gU p q a↔sJ p q a x:=by
 unfold gU;constructor
 ·exact Vd _ _ (fun y hy=>by rw[bT.mp hy];exact .self) x
 exact IB (Vf _ _ a ha (bT.mpr rfl)) (Mm _ _ (by simp) (fun y hy=>by rw[bT.mp hy];exact ha) (by simp)) x
theorem Ve{q:List Nat}:∀(k:Nat)(g:List Nat),(rh p q (k+1) g).Pairwise (· <·):=by
 intro k;induction k with
 |zero=>exact fun g=>oI _ Qv
 |succ k ih=>exact fun g=>ih _
theorem KR{p:aT}{q:List Nat}{a:Nat}(ha:a<p.length):(gU p q a).Pairwise (· <·):=by
 unfold gU;obtain⟨k,hk⟩:∃k,p.length=k+1:=⟨p.length-1,by omega⟩;rw[hk];exact Ve k [a]
theorem RH{p:aT}{q:List Nat}{a:Nat}(ha:a<p.length):(gU p q a).head?=aa a↔∀x,sJ p q a x->a<=x:=by
 have inc:=KR (q:=q) ha;have am:=(kG (q:=q) ha a).mpr .self;cases hg:gU p q a with
 |nil=>rw[hg]at am;cases am
 |cons b r=>
  rw[hg]at inc am;have bm:=(kG ha b).mp (by rw[hg];exact bM ..);constructor
  ·intro e x hx;have e:b=a:=by simpa using e
   subst e;have:x∈b::r:=by rw[<-hg];exact(kG ha x).mpr hx
   rcases bP.mp this with z|z
   ·omega
   exact dm ((dE.mp inc).1 x z)
  intro h;have h1:=h b bm;rcases bP.mp am with z|z
  ·rw[z];rfl
  have:=(dE.mp inc).1 a z;omega
inductive S5(K:aX)(CS CP:Addr)(vs:ao)(H:Hp)(Q:VK)(z':XK):Prop
 |mk (a r l:Addr) (p:aT) (q:List Nat) (c:Nat) (_:vs=[.ref a,.ref r,.ref l,.int (c:Int)]) (_:jH CS CP H a p) (_:uh p) (_:zA H r p) (_:du K H l (tx q)) (_:q.length=p.length) (_:c<p.length) (_:∀(m:Addr)(g:List Nat)(H':Hp),H m=ab->bG H H'->H' m=aa (.lst (tx g))->g.Nodup->g.head?=aa c->(∀x,x∈g↔sJ p q c x)->Q (.ref m) H')
theorem Rf{f:Addr}(F:iF K "sits_on" "sits_on" Dz f fd)(S:FE K CS)(G:FF K CP)(Cs:Fn P w K mg base eJ 2 "shares_by_taking_over" BA (EF K CS CP Ap)):
 dv P w K mg base eJ 3 f fd BA (EF K CS CP fT):=by
 refine F.ok QZ fun fA A outer s H vs Q E hr h=>?_
 obtain⟨a,r,l,p,q,b,c,rfl,pa,pw,rg,hl,ql,hb,hc,k⟩:=h
 obtain⟨dp,ls,lo,bs,os,v⟩:=pa.v
 obtain⟨sb,eb⟩:=uT hb
 obtain⟨b1,d1,k1,e1,g1⟩:=v.st b sb eb
 refine⟨_,bj (b8 (vJ (jA zW (cu (dU cT (cu (pv 0) rfl) (pv 3) (fun _ _=>rfl)) rfl) cE (da _)) (vI (dG Cs hr (by rfl) (aP (pv 0) (aP (pv 1) (aP (pv 2) (aP (pv 3) (aP (pv 4) bq))))))))),?_⟩
 refine⟨_,rfl,a,CP,dp,_,_,rfl,v.ha,G.cl,G.n1,jN,_,rfl,ls,_,_,_,rfl,rfl,du.of v.lY,at_of (j:=b) rfl e1,b1,CS,d1,_,_,rfl,g1,S.cl,S.n3,iM,_,_,rfl,rfl,_,rfl,?_⟩
 have ed:decide ((0:Int)<(sb.length:Int))=decide (0<sb.length):=by rw[decide_eq_decide];omega
 rw[ed]
 have es:fT p q b c=(decide (0<sb.length)&&Ap p q b c):=by
  unfold fT Ap;rw[iQ eb]
 rw[es]at k
 cases h1:decide (0<sb.length)with
 |false=>
  rw[h1,eC]at k
  exact cD k
 |true=>
  rw[h1,eG]at k
  exact dI ⟨_,rfl,_,rfl,_,rfl,_,rfl,_,rfl,a,r,l,p,q,b,c,rfl,pa,pw,rg,hl,ql,hb,hc,k⟩
theorem O0{f:Addr}(F:iF K "group_of" "group_of" As f fd)(hl:mg "len"=ab)(TU:mg "range"=ab)(Cs:Fn P w K mg base eJ 3 "sits_on" BA (EF K CS CP fT)):
 dv P w K mg base eJ 4 f fd ["program","ranges","plan","number"] (S5 K CS CP):=by
 refine F.ok EI fun fA A outer s H vs Q E hr h=>?_
 obtain⟨a,r,l,p,q,c,rfl,pa,pw,rg,hq,ql,hc,k⟩:=h
 have fw:=pw.j6
 have nd:=EI.nd
 refine⟨_,bh (jy 4 nd (eA (aP (pv 3) bq)))
  (bh (jy 5 nd cE)
  (bh (n9 bV (cR sY (pv 5) (dB cI (by rfl) hl cv (aP (pv 4) bq)) (da _))
   (bh (eZ bV rfl (uG (by rfl) TU (aP (dB cI (by rfl) hl cv (aP (pv 2) bq)) bq)) (oX 6 nd)
    (bj (d8 (xD (cR qQ (pv 6) (pv 4) (by rfl)) (sV (jw (dG Cs hr (by rfl) (aP (pv 0) (aP (pv 1) (aP (pv 2) (aP (dU cT (pv 4) (pv 5) (fun _ _=>rfl)) (aP (pv 6) bq))))))))).pt
     (bj (dJ (md cb c7 cZ iN (pv 4) (aP (pv 6) bq)))) cS)))
   (bj (rL (i:=5) nd rfl (ur rfl) cE qz))))
  (bj (b8 (pv 4))))),?_⟩
 refine⟨_,rfl,by show 1<=bz;decide,fun m hm=>?_⟩
 have s1:bG H (upd H m (.lst [V.int (c:Int)])):=bG.new hm
 have gl:∀g:List Nat,g.Nodup->(∀x∈g,sJ p q c x)->g.length<=p.length:=fun g n h=>by
  have:=uJ (m:=bw p.length) n fun x hx=>cj.mpr (sJ.lt hc (h x hx));rw[bZ]at this;exact this
 refine⟨fun mm σ H'=>Ex3 fun lk g v6=>mm=p.length-lk/\σ=[aa (.ref a),aa (.ref r),aa (.ref l),aa (.int (c:Int)),aa (.ref m),aa (.int ((lk:Nat):Int)),v6]/\bG H H'/\H' m=aa (.lst (tx g))/\g.Nodup/\g.head?=aa c/\(∀x∈g,sJ p q c x)/\lk<=g.length/\∀i x,i<lk->g[i]?=aa x->∀y,y<p.length->fT p q x y=ae->y∈g,⟨_,0,[c],ab,rfl,rfl,s1,ba,by simp,rfl,fun x hx=>by rw[bT.mp hx];exact .self,by simp,fun i x hi=>by omega⟩,?_⟩
 rintro mm σ H' ⟨lk,g,v6,rfl,rfl,sm,hg,gn,gh,gr,lkg,cl⟩
 refine⟨_,rfl,_,rfl,m,_,rfl,.inl (du.of hg),_,_,rfl,rfl,_,rfl,?_⟩
 have ao1:=gl g gn gr
 by_cases h1:lk<g.length
 ·rw[qi (show((lk:Nat):Int)<((tx g).length:Int)by rw[ee];omega)]
  obtain⟨x0,hx0⟩:∃x0,g[lk]?=aa x0:=⟨_,bE h1⟩
  have x0l:=sJ.lt hc (gr x0 (br hx0))
  have en:((tx q).length:Int)=(p.length:Int):=by rw[ee,ql]
  refine dI ⟨fun σ' G=>Uc fun g' v6=>σ'=[aa (.ref a),aa (.ref r),aa (.ref l),aa (.int (c:Int)),aa (.ref m),aa (.int ((lk+1:Nat):Int)),v6]/\bG H G/\G m=aa (.lst (tx g'))/\g'.Nodup/\g'.head?=aa c/\(∀x∈g',sJ p q c x)/\lk+1<=g'.length/\∀i x,i<lk+1->g'[i]?=aa x->∀y,y<p.length->fT p q x y=ae->y∈g',fun σ' G ⟨g',v6,z1,z2⟩=>⟨p.length-(lk+1),by omega,lk+1,g',v6,rfl,z1,z2⟩,?_⟩
  refine⟨_,rfl,l,_,rfl,.inl (sm.seq hq),_,rfl,by rw[en];omega,by rw[en];omega,qZ (n:=((tx q).length:Int).toNat) (fun j σ H2=>Uc fun ex v6=>σ=[aa (.ref a),aa (.ref r),aa (.ref l),aa (.int (c:Int)),aa (.ref m),aa (.int ((lk:Nat):Int)),v6]/\bG H H2/\H2 m=aa (.lst (tx (g++ex)))/\(g++ex).Nodup/\(∀x∈g++ex,sJ p q c x)/\∀y,y<j->fT p q x0 y=ae->y∈g++ex) ?_ ?_ ?_⟩
  ·refine⟨[],v6,rfl,sm,by rw[ck];exact hg,by rw[ck];exact gn,by rw[ck];exact gr,fun y hy=>by omega⟩
  ·rintro j σ H2 hj ⟨ex,v6,rfl,EG,hg2,gn2,gr2,cl2⟩
   have hj:j<p.length:=by omega
   have ej:(0:Int)+(j:Int)=(j:Int):=by omega
   rw[ej]
   have hx1:(g++ex)[lk]?=aa x0:=by rw[eV h1];exact hx0
   refine⟨_,rfl,_,rfl,m,_,rfl,.inl (du.of hg2),rfl,Mp _,_,rfl,?_⟩
   have hh:(if ae=ae then !wu (.int (j:Int)) (tx (g++ex))else wu (.int (j:Int)) (tx (g++ex)))= !((g++ex).contains j):=by rw[c8 rfl,X4]
   rw[hh]
   cases zX:(g++ex).contains j with
   |true=>
    refine cD (cD ⟨ex,_,rfl,EG,hg2,gn2,gr2,fun y hy hs=>?_⟩)
    by_cases e:y=j
    ·subst e
     exact dN.mp zX
    exact cl2 y (by omega) hs
   |false=>
    have nj:j∉g++ex:=fun z=>by rw[dN.mpr z]at zX;cases zX
    refine dI ⟨_,rfl,_,rfl,_,rfl,_,rfl,_,rfl,m,_,_,_,rfl,rfl,du.of hg2,at_of (j:=lk) rfl (show _=aa (V.int (x0:Int))from ?_),_,rfl,a,r,l,p,q,x0,j,rfl,pa.same EG,pw,rg.same EG,EG.seq hq,ql,x0l,hj,_,rfl,?_⟩
    ·unfold tx
     rw[bK,hx1]
     rfl
    cases hs0:fT p q x0 j with
    |false=>
     refine cD ⟨ex,_,rfl,EG,hg2,gn2,gr2,fun y hy hs=>?_⟩
     by_cases e:y=j
     ·subst e
      rw[hs0]at hs
      cases hs
     exact cl2 y (by omega) hs
    |true=>
     have l2:=gl _ gn2 gr2
     refine dI ⟨_,rfl,.inl ⟨rfl,_,du.of hg2⟩,_,rfl,m,_,_,rfl,rfl,hg2,by rw[ee,bX];omega,?_⟩
     refine⟨ex++[j],_,rfl,bG.put hm EG,by rw[ba,Dm,c9],?_,?_,?_⟩
     ·rw[<-c9,u9]
      exact⟨gn2,by simp,fun x hx y hy e=>nj (by rw[bT.mp hy]at e;exact e▸hx)⟩
     ·intro x hx
      rw[<-c9]at hx
      rcases d5.mp hx with z|z
      ·exact gr2 x z
      rw[bT.mp z]
      exact .step (gr x0 (br hx0)) hj hs0
     intro y hy hs
     rw[<-c9]
     by_cases e:y=j
     ·subst e
      exact dX _ (bT.mpr rfl)
     exact fI _ (cl2 y (by omega) hs)
  rintro σ H2 ⟨ex,v6,rfl,EG,hg2,gn2,gr2,cl2⟩
  refine⟨_,rfl,_,_,rfl,rfl,?_⟩
  refine⟨g++ex,v6,by rfl,EG,hg2,gn2,?_,gr2,by rw[bQ];omega,fun i x hi hx y hy hs=>?_⟩
  ·cases g with
   |nil=>cases gh
   |cons z g=>exact gh
  by_cases e:i=lk
  ·subst e
   rw[eV h1,hx0]at hx
   cases hx
   exact cl2 y (by omega) hs
  rw[eV (by omega)]at hx
  exact fI _ (cl i x (by omega) hx y hy hs)
 rw[gX (show¬((lk:Nat):Int)<((tx g).length:Int)by rw[ee];omega)]
 refine cD ⟨_,rfl,k m g H' hm sm hg gn gh fun x=>⟨gr x,?_⟩⟩
 have cm:c∈g:=by
  cases g with
  |nil=>cases gh
  |cons z g=>
   cases gh;exact bM ..
 refine IB cm (fun x hx y hy hs=>?_) x
 obtain⟨i,hi⟩:=cw hx
 exact cl i x (by have:=(aZ.mp hi).1;omega) hi y hy hs
end SR
end
section
namespace SR
open PySem PySem.Spec PyProof.Rows L2 XL sI
variable{P:b7}{w:cU}{K:aX}{mg:aj}{base:Heap}
def vN(p:aT)(q:List Nat)(a:Nat):Bool:=(gU p q a).head?==aa a
theorem vM{p:aT}{q:List Nat}{a:Nat}(ha:a<p.length):vN p q a=ae↔∀x,sJ p q a x->a<=x:=by
 unfold vN;rw[beq_iff_eq];exact RH ha
def KP(p:aT)(q:List Nat)(i:Nat):List Nat:=(bw i).filter (vN p q)
theorem least{p:aT}{q:List Nat}{i:Nat}(hi:i<p.length):∃m,sJ p q i m/\vN p q m=ae/\m<=i:=by
 have im:=(kG (q:=q) hi i).mpr .self;have inc:=KR (q:=q) hi;cases hg:gU p q i with
 |nil=>rw[hg]at im;cases im
 |cons m r=>
  rw[hg]at inc im;have rm:=(kG hi m).mp (by rw[hg];exact bM ..)
  have low:∀x,sJ p q i x->m<=x:=fun x hx=>by
   have:x∈m::r:=by rw[<-hg];exact(kG hi x).mpr hx
   rcases bP.mp this with z|z
   ·omega
   exact dm ((dE.mp inc).1 x z)
  exact⟨m,rm,(vM (sJ.lt hi rm)).mpr fun x hx=>low x (rm.trans hx),low i .self⟩
theorem Yc{p:aT}{q:List Nat}{i:Nat}(hi:i<p.length):vN p q i=ae↔¬∃h∈KP p q i,sJ p q h i:=by
 constructor
 ·rintro hh ⟨h,hm,hr⟩;have hl:=cj.mp (cH.mp hm).1;have:=(vM hi).mp hh h (hr.symm (by omega));omega
 intro no;obtain⟨m,rm,hm,le⟩:=least (q:=q) hi;rcases jf m i with z|z
 ·exact(no ⟨m,cH.mpr ⟨cj.mpr z,hm⟩,rm.symm hi⟩).elim
 have e:m=i:=by omega
 rw[<-e];exact hm
def B2(q:List Nat)(a b:Nat):Prop:=aQ q a<aQ q b\/(aQ q a=aQ q b/\a<b)
theorem EK(q:List Nat)(a:Nat):∀l:List Nat,a∉l->l.Pairwise (B2 q)->(m9 q a l).Perm (a::l)/\(m9 q a l).Pairwise (B2 q)
 |[],_,_=>⟨gO _,oF _ _⟩
 |b::l,h,s=>by
  obtain⟨s1,s2⟩:=dE.mp s;have nab:a≠b:=fun z=>h (z▸bM ..);unfold m9;by_cases hb:aQ q a<aQ q b\/(aQ q a=aQ q b/\a<b)
  ·rw[c8 hb];refine⟨gO _,dE.mpr ⟨fun x hx=>?_,s⟩⟩;rcases bP.mp hx with e|e
   ·subst e;exact hb
   have:=s1 x e;unfold B2 at this⊢;omega
  rw[cP hb];obtain⟨i1,i2⟩:=EK q a l (fun z=>h (bC _ z)) s2;refine⟨(i1.cons b).trans (FU ..),dE.mpr ⟨fun x hx=>?_,i2⟩⟩;rcases bP.mp (i1.mem_iff.mp hx)with e|e
  ·subst e;unfold B2;omega
  exact s1 x e
theorem Po(q:List Nat):∀(l r:List Nat),(∀x∈l,x∉r)->l.Nodup->r.Pairwise (B2 q)->(l.foldl (fun r a=>m9 q a r) r).Perm (l++r)/\(l.foldl (fun r a=>m9 q a r) r).Pairwise (B2 q)
 |[],r,_,_,s=>⟨gO _,s⟩
 |a::l,r,h,nd,s=>by
  obtain⟨i1,i2⟩:=EK q a r (h a (bM ..)) s;obtain⟨n1,n2⟩:=iV.mp nd
  obtain⟨j1,j2⟩:=Po q l (m9 q a r) (fun x hx z=>by
   rcases bP.mp (i1.mem_iff.mp z)with e|e
   ·exact n1 (e▸hx)
   exact h x (bC _ hx) e) n2 i2
  exact⟨j1.trans ((i1.append_left l).trans ZD),j2⟩
theorem BZ(p:aT)(q:List Nat):(eU p q).Perm (KP p q p.length)/\(eU p q).Pairwise (B2 q):=by
 obtain⟨i1,i2⟩:=Po q (KP p q p.length) [] (fun x _ z=>by cases z) (oI _ wH) kg;rw[ck]at i1;exact⟨i1,i2⟩
def yp(p:aT)(q:List Nat)(h:Nat)(m:List Nat):Prop:=m.Nodup/\m.head?=aa h/\∀x,x∈m↔sJ p q h x
theorem Pg{m:List Nat}(e:m.head?=aa h):m.headD 0=h/\0<m.length:=by
 cases m with
 |nil=>cases e
 |cons a m=>
  cases e;exact⟨rfl,by simp⟩
theorem Hu{α β γ:Type}{F:α->β->Prop}{f:α->γ}{g:β->γ}(h:∀a b,F a b->f a=g b):∀{l:List α}{m:List β},fJ F l m->l.map f=m.map g
 |_,_,.nil=>rfl
 |_,_,.cons r t=>by rw[dC,dC,h _ _ r,Hu h t]
theorem yL{α β:Type}{F:α->β->Prop}:∀{l:List α}{m:List β},l.length=m.length->(∀(i:Nat)(a:α)(b:β),l[i]?=aa a->m[i]?=aa b->F a b)->fJ F l m
 |[],[],_,_=>.nil
 |[],_::_,h,_=>by cases h
 |_::_,[],h,_=>by cases h
 |a::l,b::m,h,f=>.cons (f 0 a b rfl rfl) (yL (by simpa using h) fun i a b ha hb=>f (i+1) a b (by simpa using ha) (by simpa using hb))
theorem JH{p:aT}{q:List Nat}{gs:ag}{ms:List (List Nat)}{zs:List ((Int×Int)×Addr)}(ql:q.length=p.length)(gl:gs.length=ms.length)(pr:fJ (fun m h=>yp p q h m) ms (KP p q p.length))(pm:zs.Perm ((ms.map (Ik (q.map fun(n:Nat)=>(n:Int)))).zip gs))(so:zs.Pairwise fun a b=>leP a.1 b.1):
 fJ (fun g h=>∃(m:List Nat)(i:Nat),gs[i]?=aa g/\ms[i]?=aa m/\yp p q h m) (zs.map (·.2)) (eU p q):=by
 obtain⟨h1,h2⟩:=BZ p q
 have hl:∀h∈KP p q p.length,h<p.length:=fun h hh=>cj.mp (cH.mp hh).1
 let key:Nat->Int×Int:=fun h=>(((aQ q h:Nat):Int),(h:Int))
 have gk:∀(m:List Nat)(h:Nat),h<p.length->m.head?=aa h->Ik (q.map fun(n:Nat)=>(n:Int)) m=key h:=fun m h zu hm=>by
  unfold Ik;rw[(Pg hm).1];show(_,_)=(_,_);congr 1;rw[List.getD_eq_getElem?_getD,bK];unfold aQ;rw[bE (by omega)];rfl
 have ek:ms.map (Ik (q.map fun(n:Nat)=>(n:Int)))=(KP p q p.length).map key:=by
  have:fJ (fun m h=>yp p q h m/\h<p.length) ms (KP p q p.length):=by
   refine yL (dM pr) fun i a b ha hb=>⟨?_,hl b (br hb)⟩;obtain⟨b',Pk,F⟩:=lA pr ha;rw[hb]at Pk;cases Pk;exact F
  exact Hu (fun m h z=>gk m h z.2 z.1.2.1) this
 have lk:(ms.map (Ik (q.map fun(n:Nat)=>(n:Int)))).length=gs.length:=by rw[aV,gl]
 have ez:zs.map (·.1)=(eU p q).map key:=by
  refine Ao (fun a b:Int×Int=>a.1<b.1\/(a.1=b.1/\a.2<b.2)) (fun a b x y=>by omega) ?_ ?_ ?_
  ·refine(pm.map (·.1)).trans ?_;rw[ZE (by omega),ek];exact(h1.map key).symm
  ·have nd:(zs.map (·.1)).Nodup:=by
    refine((pm.map (·.1)).nodup_iff).mpr ?_;rw[ZE (by omega),ek];refine List.Pairwise.map _ (fun a b h=>?_) (show(KP p q p.length).Nodup from oI _ wH);intro z;have:(a:Int)=(b:Int):=congrArg Prod.snd z;exact h (by omega)
   have s2:=jR.mpr so;refine(s2.and nd).imp fun{a b} h=>?_;obtain⟨h1,h2⟩:=h;rcases h1 with z|⟨z1,z2⟩
   ·exact .inl z
   refine .inr ⟨z1,?_⟩;rcases EA z2 with y|y
   ·exact y
   exact(h2 (Prod.ext z1 y)).elim
  rw[jR];refine h2.imp fun{a b} h=>?_;unfold B2 at h;show((aQ q a:Nat):Int)<((aQ q b:Nat):Int)\/(((aQ q a:Nat):Int)=((aQ q b:Nat):Int)/\(a:Int)<(b:Int));omega
 refine yL ?_ fun i g h hg hh=>?_
 ·have:=congrArg IX ez
  rw[aV,aV]at this
  rw[aV]
  exact this
 rw[bK]at hg
 cases hz:zs[i]? with
 |none=>rw[hz]at hg;cases hg
 |some z=>
  rw[hz]at hg
  have eg:=bR hg
  have e1:z.1=key h:=by
   have:=congrArg (fun l=>l[i]?) ez;simp only[bK,hz,hh,jF]at this;exact bR this
  obtain⟨j,hj⟩:=cw (pm.mem_iff.mp (br hz))
  rw[mw]at hj
  obtain⟨j1,j2⟩:=hj
  rw[bK]at j1
  cases hm:ms[j]? with
  |none=>rw[hm]at j1;cases j1
  |some m=>
   rw[hm]at j1
   have j1:=bR j1
   obtain⟨h',hh',G⟩:=lA pr hm
   have e2:=gk m h' (hl h' (br hh')) G.2.1
   rw[j1,e1]at e2
   have e3:(h:Int)=(h':Int):=congrArg Prod.snd e2
   have e4:h=h':=by omega
   subst e4
   exact⟨m,j,by rw[<-eg];exact j2,hm,G⟩
abbrev yO:Pos:=⟨197,30,197,70⟩
abbrev KG:Str:=("groups_in_order"++".<locals>.")++"<lambda>"
inductive WL(K:aX)(CS CP T:Addr)(vs:ao)(H:Hp)(Q:VK)(z':XK):Prop
 |mk (a r l:Addr) (p:aT) (q:List Nat) (_:vs=[.ref a,.ref r,.ref l]) (_:jH CS CP H a p) (_:uh p) (_:zA H r p) (_:du K H l (tx q)) (_:q.length=p.length) (_:iX H T yO KG) (_:∀(g:Addr)(gs:ag)(H':Hp),H g=ab->IJ T H H'->iX H' T yO KG->H' g=aa (.lst (gs.map V.ref))->fJ (fun b h=>H b=ab/\∃m,H' b=aa (.lst (tx m))/\yp p q h m) gs (eU p q)->Q (.ref g) H')
theorem B0(p:aT)(q:List Nat)(i:Nat):KP p q (i+1)=if vN p q i=ae then KP p q i++[i]else KP p q i:=by
 unfold KP;rw[eY,kK];by_cases h:vN p q i=ae
 ·rw[c8 h,fD h];rfl
 rw[cP h,gM h];exact ck _
theorem TX{p:aT}{q:List Nat}{h:Nat}(hl:h<p.length)(g:yp p q h m):m.length<=p.length:=by
 have:=uJ (m:=bw p.length) g.1 fun x hx=>cj.mpr (sJ.lt hl ((g.2.2 x).mp hx));rw[bZ]at this;exact this
theorem AA{f T:Addr}(F:iF K "groups_in_order" "groups_in_order" n6 f fd)(NN:fd.code=.ref c)(hk:pE K c T=ae)(B:Np mg base)(hl:mg "len"=ab)(TU:mg "range"=ab)(hso:mg "sorted"=ab)
 (Cg:Fn P w K mg base eJ 4 "group_of" ["program","ranges","plan","number"] (S5 K CS CP)):dv P w K mg base eJ 5 f fd ["program","ranges","plan"] (WL K CS CP T):=by
 refine okC F rA NN (fun vs H Q E h=>?_) (fun A outer s H vs Q E hr h=>?_)
 ·obtain⟨a,r,l,p,q,rfl,_⟩:=h
  rfl
 obtain⟨a,r,l,p,q,rfl,pa,pw,rg,hq,ql,tab,k⟩:=h
 have fw:=pw.j6
 have hu:=Pe hr
 have nd:=rA.nd
 refine⟨_,bh (jy 3 nd (eA bq))
  (bh (jy 4 nd BD)
  (bh (eZ bV rfl (uG (by rfl) TU (aP (dB cI (by rfl) hl cv (aP (pv 2) bq)) bq)) (oX 5 nd)
   (bj (d8 (DG (DJ hu (pv 5) (pv 4)))
    (bh (jy 6 nd (dG Cg hr (by rfl) (aP (pv 0) (aP (pv 1) (aP (pv 2) (aP (pv 5) bq))))))
    (bh (dJ (md cb c7 cZ iN (pv 3) (aP (pv 6) bq)))
    (bj (eZ bV rfl (fP (pv 6)) (oX 7 nd)
     (bj (LK hu (pv 4) (pv 7) zV rfl)))))) cS)))
  (bj (b8 (Xj (i:=2) (cy:=s.heap.objs.size+1) (T:=T) rfl hr (by rfl) hso (pv 3) B rfl hk rfl rfl rfl rfl rfl (fun _ _ _ _=>rfl) rfl rfl (by decide) rfl rfl rfl (by decide) (by decide) (by decide)))))),?_⟩
 refine⟨by show 0<=bz;decide,fun g hg=>?_⟩
 intro d hd
 have s1:bG H (upd H g (.lst [])):=bG.new hg
 have dH:=s1.free hd
 have ngd:g≠d:=fun z=>by rw[<-z,ba]at hd;cases hd
 have s2:bG H (upd (upd H g (.lst [])) d (.dK [])):=s1.trans (bG.new hd)
 have en:((tx q).length:Int)=(p.length:Int):=by rw[ee,ql]
 refine⟨_,rfl,l,_,rfl,.inl (s2.seq hq),_,rfl,by rw[en];omega,by rw[en];omega,qZ (n:=((tx q).length:Int).toNat) (fun i σ H'=>Ex6 fun(v5 v6 v7:Option V)(gs:ag)(ms:List (List Nat))(ef:List (Key×V))=>σ=[aa (.ref a),aa (.ref r),aa (.ref l),aa (.ref g),aa (.ref d),v5,v6,v7]/\bG H H'/\H' g=aa (.lst (gs.map V.ref))/\H' d=aa (.dK ef)/\
  fJ (fun b m=>H b=ab/\H' b=aa (.lst (tx m))/\b≠g) gs ms/\fJ (fun m h=>yp p q h m) ms (KP p q i)/\(∀x:Nat,(l6 ef (cM (x:Int))).isSome=ae↔∃h∈KP p q i,sJ p q h x)/\ef.length<=24*i) ?_ ?_ ?_⟩
 ·refine⟨ab,ab,ab,[],[],[],rfl,s2,by rw[bB ngd,ba];rfl,ba,.nil,.nil,fun x=>⟨fun z=>(by cases z),fun⟨h,hh,_⟩=>(by cases hh)⟩,by simp⟩
 ·rintro i σ H' hi ⟨v5,v6,v7,gs,ms,ef,rfl,sm,hgs,hkv,pr,pg,kd,kl⟩
  have hi:i<p.length:=by omega
  have ei:(0:Int)+(i:Int)=(i:Int):=by omega
  rw[ei]
  refine⟨_,rfl,_,rfl,d,_,rfl,zB.k (k:=cM (i:Int)) hkv,_,rfl,?_⟩
  have hn:=Yc (q:=q) hi
  cases hv:(l6 ef (cM (i:Int))).isSome with
  |true=>
   have nh:¬vN p q i=ae:=fun z=>hn.mp z ((kd i).mp hv)
   refine cD ⟨_,v6,v7,gs,ms,ef,rfl,sm,hgs,hkv,pr,?_,?_,by omega⟩
   ·rw[B0,cP nh]
    exact pg
   rw[B0,cP nh]
   exact kd
  |false=>
   have hh:=hn.mpr fun z=>by rw[(kd i).mpr z]at hv;cases hv
   refine dI ⟨_,rfl,_,rfl,_,rfl,_,rfl,a,r,l,p,q,i,rfl,pa.same sm,pw,rg.same sm,sm.seq hq,ql,hi,fun mm m H1 nm sM hm mn mh mr=>?_⟩
   have sH1:=sm.trans sM
   have gi:yp p q i m:=⟨mn,mh,mr⟩
   have ml:=TX hi gi
   have nmg:mm≠g:=fun z=>by rw[z,hgs]at nm;cases nm
   have mmH:=sm.free nm
   have gl:gs.length<=i:=by
    have h1:=dM pr;have h2:=dM pg;have h3:(KP p q i).length<=(bw i).length:=qh ..;rw[bZ]at h3;omega
   refine⟨_,rfl,.inl ⟨rfl,_,du.of (sM _ _ hgs)⟩,_,rfl,g,_,_,rfl,rfl,sM _ _ hgs,by rw[aV,bX];omega,?_⟩
   have sm3:bG H (upd H1 g (.lst (gs.map V.ref++[.ref mm]))):=bG.put hg sH1
   have hd3:(upd H1 g (.lst (gs.map V.ref++[.ref mm]))) d=aa (.dK ef):=by
    rw[bB (de ngd)];exact sM _ _ hkv
   have hm3:(upd H1 g (.lst (gs.map V.ref++[.ref mm]))) mm=aa (.lst (tx m)):=by rw[bB nmg];exact hm
   have pr3:fJ (fun b m=>H b=ab/\(upd H1 g (.lst (gs.map V.ref++[.ref mm]))) b=aa (.lst (tx m))/\b≠g) (gs++[mm]) (ms++[m]):=mZ (Paired.sC pr fun b u z=>⟨z.1,by rw[bB z.2.2];exact sM _ _ z.2.1,z.2.2⟩) (.cons ⟨mmH,hm3,nmg⟩ .nil)
   refine⟨_,rfl,mm,rfl,⟨_,du.of hm3⟩,fZ (K:=K) (a:=mm) (xs:=tx m) (fun j σ H2=>Uc fun(v7:Option V)(NI:List (Key×V))=>σ=[aa (.ref a),aa (.ref r),aa (.ref l),aa (.ref g),aa (.ref d),aa (.int (i:Int)),aa (.ref mm),v7]/\bG H H2/\H2 g=aa (.lst ((gs++[mm]).map V.ref))/\H2 d=aa (.dK NI)/\fJ (fun b m=>H b=ab/\H2 b=aa (.lst (tx m))/\b≠g) (gs++[mm]) (ms++[m])/\H2 mm=aa (.lst (tx m))/\NI.length<=24*i+j/\∀x:Nat,(l6 NI (cM (x:Int))).isSome=ae↔(∃h∈KP p q i,sJ p q h x)\/x∈m.take j) ?_ ?_ ?_ ?_⟩
   ·refine⟨v7,ef,rfl,sm3,by rw[ba,b9];rfl,hd3,pr3,hm3,by omega,fun x=>?_⟩
    rw[kd x]
    exact⟨.inl,fun z=>z.resolve_right (by simp)⟩
   ·rintro j σ H2 _ ⟨_,_,_,_,_,_,_,z,_⟩
    exact du.of z
   ·rintro j x σ H2 hx ⟨v7,NI,rfl,sm4,hg4,hd4,pr4,hm4,kl4,kd4⟩
    obtain⟨n,hn4,rfl⟩:=mJ hx
    have jl:=(aZ.mp hn4).1
    refine⟨_,rfl,_,rfl,d,_,rfl,Si.k (k:=cM (n:Int)) hd4 (by rw[bX];omega),?_⟩
    have keep:∀{b:Addr}{us:ao},H2 b=aa (.lst us)->(upd H2 d (.dK (putK NI (cM (n:Int)) (.bl ae)))) b=aa (.lst us):=fun{b us} h1=>by
     rw[bB (lB h1 hd4 (by intro z;cases z))];exact h1
    refine⟨_,_,rfl,bG.put dH sm4,keep hg4,ba,Paired.sC pr4 fun b u z=>⟨z.1,keep z.2.1,z.2.2⟩,keep hm4,?_,fun y=>?_⟩
    ·have:=xY NI (cM (n:Int)) (V.bl ae)
     omega
    rw[N6,take_snoc hn4,d5,bT]
    by_cases e:y=n
    ·subst e
     rw[c8 rfl]
     exact⟨fun _=>.inr (.inr rfl),fun _=>rfl⟩
    rw[cP (show¬(cM (y:Int):Key)=cM (n:Int)from fun z=>e (by have:=qg z;omega)),kd4 y]
    constructor
    ·rintro(z|z)
     ·exact .inl z
     exact .inr (.inl z)
    rintro(z|z|z)
    ·exact .inl z
    ·exact .inr z
    exact(e z).elim
   rintro σ H2 ⟨v7,NI,rfl,sm4,hg4,hd4,pr4,hm4,kl4,kd4⟩
   rw[ee]at kl4 kd4
   refine⟨_,_,v7,gs++[mm],ms++[m],NI,rfl,sm4,hg4,hd4,pr4,?_,fun x=>?_,by omega⟩
   ·rw[B0,c8 hh]
    exact mZ pg (.cons gi .nil)
   rw[B0,c8 hh,kd4 x,Qu (bu _),mr x]
   constructor
   ·rintro(⟨h,hh,z⟩|z)
    ·exact⟨h,fI _ hh,z⟩
    exact⟨i,dX _ (bT.mpr rfl),z⟩
   rintro⟨h,hh,z⟩
   rcases d5.mp hh with y|y
   ·exact .inl ⟨h,y,z⟩
   rw[bT.mp y]at z
   exact .inr z
 rintro σ H' ⟨v5,v6,v7,gs,ms,ef,rfl,sm,hgs,hkv,pr,pg,kd,kl⟩
 have ep:((tx q).length:Int).toNat=p.length:=by omega
 rw[ep]at pg
 have gl:gs.length<=p.length:=by
  have h1:=dM pr;have h2:=dM pg;have h3:(KP p q p.length).length<=(bw p.length).length:=qh ..;rw[bZ]at h3;omega
 have wJ:=tab.same sm
 refine⟨_,rfl,g,l,gs,q.map fun(n:Nat)=>(n:Int),ms,rfl,du.of hgs,by omega,rfl,?_,by rw[aV];omega,?_,wJ,fun zs D H2 aij bt nD hD pm so=>?_⟩
 ·rw[<-txI]
  exact sm.seq hq
 ·refine yL (dM pr) fun i b m hb hm=>?_
  obtain⟨m',Mi,z1,z2,z3⟩:=lA pr hb
  rw[hm]at Mi
  cases Mi
  obtain⟨h,hh,G⟩:=lA pg hm
  obtain⟨e1,e2⟩:=Pg G.2.1
  refine⟨du.of z2,e2,?_⟩
  rw[e1,aV,ql]
  exact cj.mp (cH.mp (br hh)).1
 have gp:=JH ql (dM pr) pg pm so
 have aal:∀{b:Addr}{us:ao},H' b=aa (.lst us)->b≠T:=fun{b us} e z=>by
  obtain⟨ps,eT,_⟩:=wJ;rw[z,eT]at e;cases e
 refine k D (zs.map (·.2)) H2 (sm.free nD) (fun b u nb e=>bt b u nb (sm _ _ e)) aij hD (Paired.sC gp fun b h z=>?_)
 obtain⟨m,i,y1,y2,y3⟩:=z
 obtain⟨m',Mi,z1,z2,z3⟩:=lA pr y1
 rw[y2]at Mi
 cases Mi
 exact⟨z1,m,bt _ _ (aal z2) z2,y3⟩
def goodG(p:aT)(q ms ds:List Nat)(o:Nat):Bool:=ds.all fun d=>ms.all fun b=>!(fE p b d&&iI o (aU p b) (aQ q d) (aU p d))
def lowG(p:aT)(q:List Nat)(L:Nat)(ms ds:List Nat):Nat:=if L=0 then 0 else kU (goodG p q ms ds) lP 0
theorem DK{o t n:Nat}:iI o m t n=ae↔0<m/\0<n/\o<t+n/\t<o+m:=by
 unfold iI;simp only[cK,decide_eq_true_eq]
theorem uS{q:List Nat}{o:Nat}:goodG p q ms ds o=ae↔∀d∈ds,∀b∈ms,fE p b d=ae->¬iI o (aU p b) (aQ q d) (aU p d)=ae:=by
 unfold goodG;rw[cV];constructor
 ·intro h d hd b hb h1 h2;have:=cV.mp (h d hd) b hb;rw[h1,h2]at this;cases this
 intro h d hd;rw[cV];intro b hb;cases h1:fE p b d with
 |false=>rfl
 |true=>
  cases h2:iI o (aU p b) (aQ q d) (aU p d)with
  |false=>rfl
  |true=>exact(h d hd b hb h1 h2).elim
theorem adq{q ds:List Nat}{d:Nat}(hd:d∈ds):aQ q d∈m3 p q ds/\aQ q d+aU p d∈m3 p q ds:=by
 unfold m3;exact⟨bC _ (ke.mpr ⟨d,hd,bM ..⟩),bC _ (ke.mpr ⟨d,hd,bC _ (bM ..)⟩)⟩
theorem RI{q:List Nat}{o:Nat}(h:goodG p q ms ds (o+1)=ae)(n:(o+1)∉m3 p q ds):goodG p q ms ds o=ae:=by
 rw[uS]at h⊢;intro d hd b hb h1 h2;refine h d hd b hb h1 ?_;rw[DK]at h2⊢;have n2:o+1≠aQ q d+aU p d:=fun z=>n (z▸(adq hd).2);omega
theorem AF{q:List Nat}:∀o,goodG p q ms ds o=ae->∃t,t<=o/\t∈m3 p q ds/\goodG p q ms ds t=ae
 |0,h=>⟨0,bu _,by unfold m3;exact bM ..,h⟩
 |o+1,h=>by
  by_cases hm:(o+1)∈m3 p q ds
  ·exact⟨o+1,bu _,hm,h⟩
  obtain⟨t,h1,h2,h3⟩:=AF o (RI h hm);exact⟨t,by omega,h2,h3⟩
theorem KS{q ds:List Nat}{B:Nat}(hB:∀d∈ds,aQ q d+aU p d<=B):goodG p q ms ds B=ae:=by
 rw[uS];intro d hd b hb h1 h2;have:=(DK.mp h2).2.2.1;have:=hB d hd;omega
theorem aar{q ds:List Nat}{B:Nat}(hB:∀d∈ds,aQ q d+aU p d<=B)(b4:B<4000):lowG p q L ms ds<=B:=by
 unfold lowG;split
 ·exact cB _
 exact DY _ _ 0 B (cB _) (by unfold lP;omega) (KS hB)
theorem aat{q ds ms:List Nat}{B:Nat}(hB:∀d∈ds,aQ q d+aU p d<=B)(mem:∀k,k∈ms↔k∈m3 p q ds):∃o∈ms,goodG p q gs ds o=ae:=by
 obtain⟨t,_,t2,t3⟩:=AF B (KS (ms:=gs) hB);exact⟨t,(mem t).mpr t2,t3⟩
theorem aas{q gs ds ms:List Nat}{L B i o:Nat}(gL:∀b∈gs,aU p b=L)(hB:∀d∈ds,aQ q d+aU p d<=B)(b4:B<4000)(so:ms.Pairwise (· <·))(mem:∀k,k∈ms↔k∈m3 p q ds)(hi:ms[i]?=aa o)(hg:goodG p q gs ds o=ae)(no:∀(j x:Nat),j<i->ms[j]?=aa x->goodG p q gs ds x=af):lowG p q L gs ds=o:=by
 have om:=br hi
 have below:∀x,x<o->goodG p q gs ds x=af:=fun x hx=>by
  cases hgx:goodG p q gs ds x with
  |false=>rfl
  |true=>
   obtain⟨t,t1,t2,t3⟩:=AF x hgx;obtain⟨j,hj⟩:=cw ((mem t).mpr t2)
   have ji:j<i:=by
    rcases lH j i with z|z|z
    ·exact z
    ·rw[z,hi]at hj;cases hj;omega
    obtain⟨l1,e1⟩:=aZ.mp hi;obtain⟨l2,e2⟩:=aZ.mp hj;have:=fQ.mp so i j l1 l2 z;omega
   rw[no j t ji hj]at t3;cases t3
 unfold lowG;by_cases h0:L=0
 ·rw[c8 h0]
  have g0:goodG p q gs ds 0=ae:=by
   rw[uS];intro d _ b hb _ h2;have:=(DK.mp h2).1;rw[gL b hb]at this;omega
  rcases oC o with z|z
  ·exact z.symm
  rw[below 0 z]at g0;cases g0
 rw[cP h0];refine DZ _ _ 0 o (cB _) ?_ hg fun x _ hx=>below x hx;have:=Tu hB o ((mem o).mp om);unfold lP;omega
def ES(p:aT)(q ms ds:List Nat):Bool:=ms.any fun b=>ds.any fun x=>fE p b x&&UQ p q b x
theorem Wg{q ms ds:List Nat}{o:Nat}(h1:∀b∈ms,aQ q1 b=o)(h2:∀d∈ds,aQ q1 d=aQ q d):ES p q1 ms ds= !goodG p q ms ds o:=by
 cases hg:goodG p q ms ds o with
 |true=>
  show _=af;unfold ES;rw[hX];intro b hb;rw[ZF,hX];intro d hd z;obtain⟨z1,z2⟩:=cK _ _|>.mp z
  unfold UQ at z2;rw[h1 b hb,h2 d hd]at z2;exact uS.mp hg d hd b hb z1 z2
 |false=>
  show _=ae;cases ha:ES p q1 ms ds with
  |true=>rfl
  |false=>
   have:goodG p q ms ds o=ae:=uS.mpr fun d hd b hb z1 z2=>by
    unfold ES at ha;have h3:=hX.mp ha b hb;rw[ZF,hX]at h3;refine h3 d hd ?_;unfold UQ;rw[h1 b hb,h2 d hd,z1,z2];rfl
   rw[this]at hg;cases hg
inductive abD(K:aX)(CS CP:Addr)(vs:ao)(H:Hp)(Q:VK)(z':XK):Prop
 |mk (a r l m d:Addr) (p:aT) (q ms ds:List Nat) (_:vs=[.ref a,.ref r,.ref l,.ref m,.ref d]) (_:jH CS CP H a p) (_:uh p) (_:zA H r p) (_:du K H l (tx q)) (_:q.length=p.length) (_:du K H m (tx ms)) (_:du K H d (tx ds)) (_:(∀x∈ms,x<p.length)) (_:(∀x∈ds,x<p.length)) (_:Q (.bl (ES p q ms ds)) H)
inductive Ot(CS CP:Addr)(vs:ao)(H:Hp)(Q:VK)(z':XK):Prop
 |mk (a r l m d:Addr) (p:aT) (q ms ds:List Nat) (L:Nat) (H0:Hp) (_:vs=[.ref a,.ref r,.ref l,.ref m,.ref d]) (_:bG H0 H) (_:H0 l=ab) (_:jH CS CP H0 a p) (_:uh p) (_:zA H0 r p) (_:H l=aa (.lst (tx q))) (_:q.length=p.length) (_:H m=aa (.lst (tx ms))) (_:m≠l) (_:H d=aa (.lst (tx ds))) (_:d≠l) (_:(∀x∈ds,x<p.length/\x∉ms)) (_:(∀x∈ms,x<p.length/\aU p x=L)) (_:ds.length<=24) (_:(∀x∈ds,aQ q x+aU p x<=2000)) (_:∀(q':List Nat)(H':Hp),qE l H H'->H' l=aa (.lst (tx q'))->q'.length=p.length->(∀x,aQ q' x=if x∈ms then lowG p q L ms ds else aQ q x)->Q .j5 H')
theorem DQ{f:Addr}(F:iF K "is_in_the_way" "is_in_the_way" qu f fd)(Cm:Fn P w K mg base eJ 2 "meet" ON (Km CS CP fE))(Co:Fn P w K mg base eJ 2 "overlap" ["program","plan","a","b"] (WE K CS CP UQ)):
 dv P w K mg base eJ 3 f fd UM (abD K CS CP):=by
 refine F.ok uC fun fA A outer s H vs Q E hr h=>?_
 obtain⟨a,r,l,m,d,p,q,ms,ds,rfl,pa,pw,rg,hq,ql,hm,hd,ml,dl,k⟩:=h
 have nd:=uC.nd
 refine⟨_,bh (eZ bV rfl (fP (pv 3)) (oX 5 nd)
  (bj (eZ bV rfl (fP (pv 4)) (oX 6 nd)
   (bj (d8 (xD (jw (dG Cm hr (by rfl) (aP (pv 0) (aP (pv 1) (aP (pv 5) (aP (pv 6) bq)))))) (sV (jw (dG Co hr (by rfl) (aP (pv 0) (aP (pv 2) (aP (pv 5) (aP (pv 6) bq)))))))).pt (bj (b8 zV)) cS)))))
  (bj (b8 zV)),?_⟩
 refine⟨_,rfl,m,rfl,⟨_,hm⟩,fZ (K:=K) (a:=m) (xs:=tx ms) (fun i σ H'=>H'=H/\ES p q (ms.take i) ds=af/\∃v5 v6,σ=[aa (.ref a),aa (.ref r),aa (.ref l),aa (.ref m),aa (.ref d),v5,v6]) ⟨rfl,rfl,ab,ab,rfl⟩ (fun i σ H' _ ⟨e,_⟩=>by rw[e];exact hm) ?_ ?_⟩
 ·rintro i y σ H' hi ⟨rfl,no,v5,v6,rfl⟩
  obtain⟨b,hb,rfl⟩:=mJ hi
  have bl:=ml b (br hb)
  refine⟨_,rfl,d,rfl,⟨_,hd⟩,fZ (K:=K) (a:=d) (xs:=tx ds) (fun j σ H2=>H2=H'/\((ds.take j).any fun x=>fE p b x&&UQ p q b x)=af/\∃v6,σ=[aa (.ref a),aa (.ref r),aa (.ref l),aa (.ref m),aa (.ref d),aa (.int (b:Int)),v6]) ⟨rfl,rfl,v6,rfl⟩ (fun i σ H' _ ⟨e,_⟩=>by rw[e];exact hd) ?_ ?_⟩
  ·rintro j y σ H2 hj ⟨rfl,UY,v6,rfl⟩
   obtain⟨x,hx,rfl⟩:=mJ hj
   have xl:=dl x (br hx)
   have found:(fE p b x&&UQ p q b x)=ae->ES p q ms ds=ae:=fun z=>fg.mpr ⟨b,br hb,fg.mpr ⟨x,br hx,z⟩⟩
   refine⟨_,rfl,_,rfl,_,rfl,_,rfl,a,r,p,b,x,rfl,pa,pw,rg,bl,xl,_,rfl,?_⟩
   cases h1:fE p b x with
   |false=>
    refine cD (cD ⟨rfl,?_,_,rfl⟩)
    rw[take_snoc hx,yu,UY]
    simp[h1]
   |true=>
    refine dI ⟨_,rfl,_,rfl,_,rfl,_,rfl,a,l,p,q,b,x,rfl,pa,hq,ql,bl,xl,_,rfl,?_⟩
    cases h2:UQ p q b x with
    |false=>
     refine cD ⟨rfl,?_,_,rfl⟩
     rw[take_snoc hx,yu,UY]
     simp[h1,h2]
    |true=>
     rw[found (by rw[h1,h2];rfl)]at k
     exact dI k
  rintro σ H2 ⟨rfl,UY,v6,rfl⟩
  rw[ee,dy]at UY
  refine⟨rfl,?_,_,_,rfl⟩
  unfold ES at no⊢
  rw[take_snoc hb,yu,no]
  simp[UY]
 rintro σ H' ⟨rfl,no,v5,v6,rfl⟩
 rw[ee,dy]at no
 rw[no]at k
 exact k
theorem HB{f:Addr}(F:iF K "place_group" "place_group" tP f fd)(Cp:Fn P w K mg base eJ 1 "possible_offsets" ["program","plan","placed"] (QW K CS CP))(Cc:Fn P w K mg base eJ 3 "is_in_the_way" UM (abD K CS CP)):
 dv P w K mg base eJ 4 f fd UM (Ot CS CP):=by
 refine F.ok xb fun fA A outer s H vs Q E hr h=>?_
 obtain⟨a,r,l,m,d,p,q,gs,ds,L,H0,rfl,s0,nl,pa,pw,rg,hq,ql,hm,mnl,hd,Vr,dl,gl,j6,hB,k⟩:=h
 have nd:=xb.nd
 refine⟨_,bh (jy 5 nd (dG Cp (hr.mono (by decide)) (by rfl) (aP (pv 0) (aP (pv 2) (aP (pv 4) bq)))))
  (bj (eZ bV rfl (fP (pv 5)) (oX 6 nd)
   (bh (eZ bV rfl (fP (pv 3)) (oX 7 nd) (bj (DH (pv 6) (DI (pv 2) (pv 7) set_list))))
   (bj (d8 (ub (jw (dG Cc hr (by rfl) (aP (pv 0) (aP (pv 1) (aP (pv 2) (aP (pv 3) (aP (pv 4) bq)))))))) (bj Td) cS))))),?_⟩
 refine⟨_,rfl,_,rfl,_,rfl,a,l,d,p,q,ds,rfl,pa.same s0,du.of hq,ql,du.of hd,fun x hx=>(dl x hx).1,j6,fun b ms H1 nb s1 hb so mem=>?_⟩
 have nbl:b≠l:=fun z=>by rw[z,hq]at nb;cases nb
 refine⟨_,rfl,b,rfl,⟨_,du.of hb⟩,fZ (K:=K) (a:=b) (xs:=tx ms) (fun i σ H'=>Ex3 fun v6 v7 q'=>σ=[aa (.ref a),aa (.ref r),aa (.ref l),aa (.ref m),aa (.ref d),aa (.ref b),v6,v7]/\qE l H1 H'/\H' l=aa (.lst (tx q'))/\q'.length=p.length/\(∀x,x∉gs->aQ q' x=aQ q x)/\∀(j x:Nat),j<i->ms[j]?=aa x->goodG p q gs ds x=af)
  ⟨ab,ab,q,rfl,fun _ _ _ e=>e,s1 _ _ hq,ql,fun _ _=>rfl,fun j x hj=>by omega⟩ (fun i σ H' _ ⟨_,_,_,_,bt,_⟩=>du.of (bt _ _ nbl hb)) ?_ ?_⟩
 ·rintro i y σ H' hi ⟨v6,v7,q',rfl,bt,hl,ql',sq,no⟩
  obtain⟨o,ho,rfl⟩:=mJ hi
  have Mi:=bt _ _ mnl (s1 _ _ hm)
  refine⟨_,rfl,m,rfl,⟨_,du.of Mi⟩,fZ (K:=K) (a:=m) (xs:=tx gs) (fun j σ H2=>Uc fun v7 q2=>σ=[aa (.ref a),aa (.ref r),aa (.ref l),aa (.ref m),aa (.ref d),aa (.ref b),aa (.int (o:Int)),v7]/\qE l H1 H2/\H2 l=aa (.lst (tx q2))/\q2.length=p.length/\∀x,aQ q2 x=if x∈gs.take j then o else aQ q' x)
   ⟨v7,q',rfl,bt,hl,ql',fun x=>by simp⟩ (fun i σ H' _ ⟨_,_,_,bt,_⟩=>du.of (bt _ _ mnl (s1 _ _ hm))) ?_ ?_⟩
  ·rintro j y σ H2 hj ⟨v7,q2,rfl,IZ,uq,ql2,sq2⟩
   obtain⟨c,hc,rfl⟩:=mJ hj
   have cl:=(gl c (br hc)).1
   refine⟨_,rfl,_,rfl,_,rfl,l,_,_,c,rfl,rfl,uq,by rw[ee,ql2];exact yP cl,?_⟩
   rw[Lh]
   refine⟨_,q2.set c o,rfl,fun x u nx e=>by rw[bB nx];exact IZ x u nx e,ba,by rw[fK,ql2],fun x=>?_⟩
   rw[yN (by omega),take_snoc hc,sq2 x]
   by_cases e:x=c
   ·rw[c8 e,c8 (dX _ (bT.mpr e))]
   rw[cP e]
   by_cases e2:x∈gs.take j
   ·rw[c8 e2,c8 (fI _ e2)]
   rw[cP e2,cP (fun z=>(d5.mp z).elim e2 fun y=>e (bT.mp y))]
  rintro σ H2 ⟨v7,q2,rfl,IZ,uq,ql2,sq2⟩
  rw[ee,dy]at sq2
  have s2:bG H0 H2:=fun x u e=>IZ x u (bO e nl) (s1 _ _ (s0 _ _ e))
  have sqd:∀x,x∉gs->aQ q2 x=aQ q x:=fun x hx=>by rw[sq2 x,cP hx];exact sq x hx
  refine⟨_,rfl,_,rfl,_,rfl,_,rfl,_,rfl,a,r,l,m,d,p,q2,gs,ds,rfl,pa.same s2,pw,rg.same s2,du.of uq,ql2,du.of (IZ _ _ mnl (s1 _ _ hm)),du.of (IZ _ _ Vr (s1 _ _ hd)),fun x hx=>(gl x hx).1,fun x hx=>(dl x hx).1,_,rfl,?_⟩
  rw[Wg (q:=q) (o:=o) (fun x hx=>by rw[sq2 x,c8 hx]) fun x hx=>sqd x (dl x hx).2]
  cases hg:goodG p q gs ds o with
  |true=>
   refine dI (k q2 _ (fun x u nx e=>IZ x u nx (s1 _ _ e)) uq ql2 fun x=>?_)
   rw[aas (fun x hx=>(gl x hx).2) hB (by decide) so mem ho hg no]
   by_cases e:x∈gs
   ·rw[sq2 x,c8 e,c8 e]
   rw[cP e]
   exact sqd x e
  |false=>
   refine cD ⟨_,_,q2,rfl,IZ,uq,ql2,sqd,fun j x hj hx=>?_⟩
   by_cases e:j=i
   ·subst e
    rw[ho]at hx
    cases hx
    exact hg
   exact no j x (by omega) hx
 rintro σ H' ⟨v6,v7,q',rfl,bt,hl,ql',sq,no⟩
 exfalso
 obtain⟨o,om,og⟩:=aat (gs:=gs) hB mem
 obtain⟨j,hj⟩:=cw om
 rw[no j o (by rw[ee];exact(aZ.mp hj).1) hj]at og
 cases og
theorem zA.Bz{H H':Hp}(h:zA H r p)(s:jt H H'):zA H' r p:=
 let⟨ts,e,f⟩:=h
 ⟨ts,s _ _ e (fun _ z=>by cases z),fun i hi=>let⟨t,a,b⟩:=f i hi;⟨t,a,s _ _ b fun _ z=>by cases z⟩⟩
def P9(p:aT)(q:List Nat)(i:Nat)(ds:List Nat):Prop:=ds.Nodup/\∀x,x∈ds↔∃h∈(eU p q).take i,sJ p q h x
theorem EU(p:aT)(q:List Nat):(eU p q).Nodup:=(BZ p q).2.imp fun{a b} h e=>by
 subst e;unfold B2 at h;omega
theorem uQ{q:List Nat}{h:Nat}(hh:h∈eU p q):h<p.length/\vN p q h=ae:=by
 have:=(BZ p q).1.mem_iff.mp hh;unfold KP at this;exact⟨cj.mp (cH.mp this).1,(cH.mp this).2⟩
theorem Va(p:aT)(q:List Nat):(eU p q).length<=p.length:=by
 have:=uJ (m:=bw p.length) (EU p q) fun x hx=>cj.mpr (uQ hx).1;rw[bZ]at this;exact this
theorem Yb{q:List Nat}{h h':Nat}(a:h∈eU p q)(b:h'∈eU p q)(r:sJ p q h x)(r':sJ p q h' x):h=h':=by
 obtain⟨a1,a2⟩:=uQ a;obtain⟨b1,b2⟩:=uQ b;have c1:=(vM a1).mp a2 h' (r.trans (r'.symm b1));have c2:=(vM b1).mp b2 h (r'.trans (r.symm a1));omega
theorem Ky{q:List Nat}{i:Nat}(g:P9 p q i ds)(hi:(eU p q)[i]?=aa h)(r:sJ p q h x):x∉ds:=fun z=>by
 obtain⟨h',hm,r'⟩:=(g.2 x).mp z;have e:=Yb (br hi) (Ah hm) r r';subst e;obtain⟨j,hj⟩:=cw hm;have jl:=(aZ.mp hj).1;rw[dW]at jl;rw[nG (by omega)]at hj;obtain⟨l1,e1⟩:=aZ.mp hj;obtain⟨l2,e2⟩:=aZ.mp hi;have:=(Gs (EU p q)).mp (e1.trans e2.symm);omega
theorem Yg{q:List Nat}{i:Nat}(g:P9 p q i ds)(hi:(eU p q)[i]?=aa h)(gm:yp p q h m):P9 p q (i+1) (ds++m):=by
 refine⟨?_,fun x=>?_⟩
 ·rw[u9];exact⟨g.1,gm.1,fun x hx y hy e=>Ky g hi ((gm.2.2 y).mp hy) (e▸hx)⟩
 rw[d5,g.2 x,gm.2.2 x,take_snoc hi];constructor
 ·rintro(⟨h',hm,z⟩|z)
  ·exact⟨h',fI _ hm,z⟩
  exact⟨h,dX _ (bT.mpr rfl),z⟩
 rintro⟨h',hm,z⟩;rcases d5.mp hm with y|y
 ·exact .inl ⟨h',y,z⟩
 rw[bT.mp y]at z;exact .inr z
def II(q1 ds:List Nat)(dn:List (Nat×Nat)):Prop:=∀x o,(x,o)∈dn↔x∈ds/\o=aQ q1 x
theorem Vg{p:aT}{q:List Nat}{h:Nat}(hl:h<p.length)(gm:yp p q h m)(dd:II q1 ds dn):
 (fun o=>dn.all fun x=>(gU p q h).all fun b=>!(fE p b x.1&&iI o (aU p b) x.2 (aU p x.1)))=goodG p q1 m ds:=by
 funext o
 rw[eK]
 unfold goodG
 simp only[cV]
 constructor
 ·intro z d hd b hb
  exact z (d,aQ q1 d) ((dd _ _).mpr ⟨hd,rfl⟩) b ((kG hl b).mpr ((gm.2.2 b).mp hb))
 rintro z ⟨d,t⟩ hd b hb
 obtain⟨h1,rfl⟩:=(dd d t).mp hd
 exact z d h1 b ((gm.2.2 b).mpr ((kG hl b).mp hb))
theorem Vq{p:aT}{q ds:List Nat}{h o:Nat}(hl:h<p.length)(gm:yp p q h m)(dis:∀x∈ds,x∉m)(dd:II q1 ds dn)(h2:∀x,aQ q2 x=if x∈m then o else aQ q1 x):
 II q2 (ds++m) (dn++(gU p q h).map fun b=>(b,o)):=fun x t=>by
 rw[d5,d5,dd x t,h2 x,dh]
 constructor
 ·rintro(⟨a,e⟩|⟨b,hb,e⟩)
  ·exact⟨.inl a,by rw[cP (dis x a)];exact e⟩
  cases e
  have:=(gm.2.2 x).mpr ((kG hl x).mp hb)
  exact⟨.inr this,by rw[c8 this]⟩
 rintro⟨a|a,e⟩
 ·rw[cP (dis x a)]at e
  exact .inl ⟨a,e⟩
 rw[c8 a]at e
 exact .inr ⟨x,(kG hl x).mpr ((gm.2.2 x).mp a),by rw[e]⟩
theorem Q4{p:aT}{q1 ds:List Nat}(ql:q1.length=p.length)(all:∀a,a<p.length->a∈ds)(dd:II q1 ds dn):iA p dn=q1:=by
 unfold iA;refine jq (by simp[ql]) fun i h1 h2=>?_;simp only[l4,nR];have zX:=(dd _ _).mpr ⟨all i (by omega),rfl⟩;cases hf:dn.find? fun x=>x.1==i with
 |none=>
  have:=kH.mp hf _ zX;simp at this
 |some y=>
  obtain⟨a,o⟩:=y;have ea:a=i:=by simpa using yt hf
  subst ea;obtain⟨_,e⟩:=(dd a o).mp (mq hf);show o=_;rw[e];unfold aQ;simp[h2]
theorem aaF{q:List Nat}(g:P9 p q (eU p q).length ds):∀a,a<p.length->a∈ds:=fun a ha=>by
 obtain⟨m,rm,hm,_⟩:=least (q:=q) ha;have ml:=sJ.lt ha rm;refine(g.2 a).mpr ⟨m,?_,rm.symm ha⟩;rw[dy];refine(BZ p q).1.mem_iff.mpr (cH.mpr ⟨cj.mpr ml,hm⟩)
inductive Ov(K:aX)(CS CP T:Addr)(vs:ao)(H:Hp)(Q:VK)(z':XK):Prop
 |mk (a l:Addr) (p:aT) (q:List Nat) (_:vs=[.ref a,.ref l]) (_:jH CS CP H a p) (_:uh p) (_:du K H l (tx q)) (_:q.length=p.length) (_:iX H T yO KG) (_:∀(g:Addr)(H':Hp),H g=ab->IJ T H H'->iX H' T yO KG->H' g=aa (.lst (tx (mE p q)))->Q (.ref g) H')
theorem HC{f T:Addr}(F:iF K "packed_plan" "packed_plan" tQ f fd)(hl:mg "len"=ab)(Cl:Fn P w K mg base eJ 3 "live_ranges" jT (Bp CS CP))(Cg:Fn P w K mg base eJ 5 "groups_in_order" ["program","ranges","plan"] (WL K CS CP T))(Cp:Fn P w K mg base eJ 4 "place_group" UM (Ot CS CP)):
 dv P w K mg base eJ 6 f fd xF (Ov K CS CP T):=by
 refine F.ok xc fun fA A outer s H vs Q E hr h=>?_
 obtain⟨a,l,p,q,rfl,pa,pw,hq,ql,tab,k⟩:=h
 have fw:=pw.j6
 have nd:=xc.nd
 refine⟨_,bh (jy 2 nd (dG Cl (hr.mono (by decide)) (by rfl) (aP (pv 0) bq)))
  (bh (jy 3 nd (fX Q9 (eA (aP cE bq)) (dB cI (by rfl) hl cv (aP (pv 1) bq))))
  (bh (jy 4 nd (eA bq))
  (bh (eZ bV rfl (fP (dG Cg hr (by rfl) (aP (pv 0) (aP (pv 2) (aP (pv 1) bq))))) (oX 5 nd)
   (bh (dJ (dG Cp (hr.mono (by decide)) (by rfl) (aP (pv 0) (aP (pv 2) (aP (pv 3) (aP (pv 5) (aP (pv 4) bq)))))))
   (bj (dJ (md cb gb f9 pC (pv 4) (aP (pv 5) bq))))))
  (bj (b8 (pv 3)))))),?_⟩
 refine⟨_,rfl,a,p,rfl,pa,pw,fun r H1 s1 rg=>?_⟩
 have el:((tx q).length:Int)=(p.length:Int):=by rw[ee,ql]
 refine⟨by show 1<=bz;decide,fun x hx=>⟨_,rfl,l,_,rfl,.inl ((s1.trans (bG.new hx)).seq hq),x,_,_,rfl,rfl,ba,(by rw[el];omega),(by rw[el];omega),(by rw[el,bX];show 1*_<=_;omega),fun lp hlp=>?_⟩⟩
 generalize hHa:upd H1 x (.lst [V.int 0])=Ha at hlp
 have s1a:bG H1 Ha:=by rw[<-hHa];exact bG.new hx
 have sa:=s1.trans s1a
 have er:(cA ((tx q).length:Int).toNat [V.int 0]).flatten=tx (cA p.length 0):=by
  rw[el];exact OG _
 rw[er]
 refine⟨by show 0<=bz;decide,fun d hd=>?_⟩
 have sl:bG Ha (upd Ha lp (.lst (tx (cA p.length 0)))):=bG.new hlp
 have Vr:d≠lp:=fun z=>by rw[z,ba]at hd;cases hd
 have hdA:=sl.free hd
 have sb:bG Ha (upd (upd Ha lp (.lst (tx (cA p.length 0)))) d (.lst [])):=sl.trans (bG.new hd)
 generalize hHb:upd (upd Ha lp (.lst (tx (cA p.length 0)))) d (.lst [])=Hb at sb
 have blp:Hb lp=aa (.lst (tx (cA p.length 0))):=by rw[<-hHb,bB Vr.symm,ba]
 have bd0:Hb d=aa (.lst []):=by rw[<-hHb,ba]
 have sHb:=sa.trans sb
 refine⟨_,rfl,_,rfl,_,rfl,a,r,l,p,q,rfl,pa.same sHb,pw,rg.same (s1a.trans sb),sHb.seq hq,ql,tab.same sHb,fun g gs H3 ng bt Oc hg pr=>?_⟩
 have aal:∀{b:Addr}{us:ao},Hb b=aa (.lst us)->b≠T:=fun{b us} e z=>by
  obtain⟨ps,eT,_⟩:=tab.same sHb;rw[z,eT]at e;cases e
 have lp3:=bt _ _ (aal blp) blp
 have d3:=bt _ _ (aal bd0) bd0
 let H0:Hp:=fun b=>if b=lp\/b=d then ab else H3 b
 have h0:∀{b:Addr}{o:HO},H3 b=aa o->b≠lp->b≠d->H0 b=aa o:=fun{b o} e n1 n2=>by
  show(if b=lp\/b=d then ab else H3 b)=_;rw[cP (fun z=>z.elim n1 n2)];exact e
 have h0s:bG H0 H3:=fun b o e=>by
  by_cases z:b=lp\/b=d
  ·rw[show H0 b=ab from c8 z]at e;cases e
  rw[show H0 b=H3 b from cP z]at e;exact e
 have nlp:H0 lp=ab:=c8 (.inl rfl)
 have nd0:H0 d=ab:=c8 (.inr rfl)
 have bN:=jt.ofT (let⟨ps,e,_,_⟩:=tab.same sHb;⟨ps,e⟩) bt
 have aN:jt Ha H0:=fun b o e n=>h0 (bN b o (sb _ _ e) n) (bO e hlp) (bO e hdA)
 have pa0:=(pa.same sa).Bz aN
 have rg0:=(rg.same s1a).Bz aN
 have g0:=h0 hg (fun z=>by rw[z,blp]at ng;cases ng) (fun z=>by rw[z,bd0]at ng;cases ng)
 have pr0:fJ (fun b h=>∃m,H0 b=aa (.lst (tx m))/\yp p q h m) gs (eU p q):=Paired.sC pr fun b h ⟨nb,m,hm,gm⟩=>⟨m,h0 hm (fun z=>by rw[z,blp]at nb;cases nb) (fun z=>by rw[z,bd0]at nb;cases nb),gm⟩
 have aik:iX H0 T yO KG:=by
  obtain⟨ps,e1,e2,e3⟩:=Oc;refine⟨ps,h0 e1 (lB e1 lp3 (by intro z;cases z)) (lB e1 d3 (by intro z;cases z)),e2,e3.imp id fun⟨c,z1,z2⟩=>⟨c,z1,h0 z2 (lB z2 lp3 (by intro z;cases z)) (lB z2 d3 (by intro z;cases z))⟩⟩
 have hlen:=Va p q
 have gsl:=dM pr0
 refine⟨g,rfl,⟨_,du.of hg⟩,fZ (K:=K) (a:=g) (xs:=gs.map V.ref) (fun i σ H'=>Ex4 fun v5 q1 ds dn=>σ=[aa (.ref a),aa (.ref l),aa (.ref r),aa (.ref lp),aa (.ref d),v5]/\bG H0 H'/\H' lp=aa (.lst (tx q1))/\q1.length=p.length/\H' d=aa (.lst (tx ds))/\P9 p q i ds/\II q1 ds dn/\Jb p q (eU p q) []=Jb p q ((eU p q).drop i) dn/\∀y∈ds,aQ q1 y+aU p y<=64*i) ?_ ?_ ?_ ?_⟩
 ·exact⟨ab,cA p.length 0,[],[],rfl,h0s,lp3,ir,d3,⟨Lb,fun x=>⟨fun z=>(by cases z),fun⟨h,hh,_⟩=>(by simp at hh)⟩⟩,fun x o=>⟨fun z=>(by cases z),fun z=>(by cases z.1)⟩,rfl,fun y hy=>by cases hy⟩
 ·rintro i σ H' _ ⟨v5,q1,ds,dn,_,sm,_⟩
  exact du.of (sm _ _ g0)
 ·rintro i y σ H' hi ⟨v5,q1,ds,dn,rfl,sm,hlq,q1l,hdq,got,dd,pl,bd⟩
  obtain⟨b,hb,rfl⟩:∃b,gs[i]?=aa b/\y=V.ref b:=by
   rw[bK]at hi;cases hb:gs[i]? with
   |none=>rw[hb]at hi;cases hi
   |some b=>rw[hb]at hi;exact⟨b,rfl,(bR hi).symm⟩
  obtain⟨h,hh,m,hm,gm⟩:=lA pr0 hb
  obtain⟨NL,hh2⟩:=uQ (br hh)
  have il:=(aZ.mp hh).1
  have ml:∀x∈m,x<p.length:=fun x hx=>sJ.lt NL ((gm.2.2 x).mp hx)
  have XJ:=TX NL gm
  have dsl:∀x∈ds,x<p.length:=fun x hx=>by
   obtain⟨h',Mi,r'⟩:=(got.2 x).mp hx;exact sJ.lt (uQ (Ah Mi)).1 r'
  have apq:ds.length<=p.length:=by
   have:=uJ (m:=bw p.length) got.1 fun x hx=>cj.mpr (dsl x hx);rw[bZ]at this;exact this
  have dis:∀x∈ds,x∉m:=fun x hx hxm=>Ky got hh ((gm.2.2 x).mp hxm) hx
  have bnl:=bO hm nlp
  have bnd:=bO hm nd0
  refine⟨_,rfl,_,rfl,_,rfl,_,rfl,_,rfl,a,r,lp,b,d,p,q1,m,ds,aU p h,H0,rfl,sm,nlp,pa0,pw,rg0,hlq,q1l,sm _ _ hm,bnl,hdq,Vr,fun x hx=>⟨dsl x hx,dis x hx⟩,fun x hx=>⟨ml x hx,sJ.len ((gm.2.2 x).mp hx)⟩,by omega,fun x hx=>by have:=bd x hx;omega,fun q2 H2 IZ uq q2l sq=>?_⟩
  have hd2:=IZ _ _ Vr hdq
  have Ih:=IZ _ _ bnl (sm _ _ hm)
  have lw:lowG p q1 (aU p h) m ds<=64*i:=aar bd (by omega)
  refine⟨_,rfl,.inl ⟨rfl,_,du.of hd2⟩,_,rfl,d,b,_,_,rfl,rfl,hd2,Ih,by rw[ee,ee,bX];omega,?_⟩
  refine⟨_,q2,ds++m,dn++(gU p q h).map fun b=>(b,lowG p q1 (aU p h) m ds),rfl,fun c u e=>?_,by rw[bB Vr.symm];exact uq,q2l,?_,Yg got hh gm,Vq NL gm dis dd sq,?_,?_⟩
  ·rw[bB (bO e nd0)]
   exact IZ c u (bO e nlp) (sm c u e)
  ·rw[ba]
   unfold tx
   rw[b9]
  ·rw[pl,dZ il,(aZ.mp hh).2]
   show Jb p q _ (dn++(gU p q h).map fun b=>(b,if aU p h=0 then 0 else kU (fun o=>dn.all fun x=>(gU p q h).all fun b=>!(fE p b x.1&&iI o (aU p b) x.2 (aU p x.1))) lP 0))=_
   rw[Vg NL gm dd]
   rfl
  intro y hy
  rw[sq y]
  have ly:∀c,c<p.length->aU p c<=64:=fun c hc=>by
   obtain⟨sx,ex⟩:=uT hc;rw[iQ ex];exact pw.len sx (br ex)
  by_cases e:y∈m
  ·rw[c8 e]
   have:=ly y (ml y e)
   omega
  rw[cP e]
  have:=bd y ((d5.mp hy).resolve_right e)
  omega
 rintro σ H' ⟨v5,q1,ds,dn,rfl,sm,hlq,q1l,hdq,got,dd,pl,bd⟩
 rw[aV,gsl]at got pl
 rw[Gv]at pl
 refine⟨_,rfl,k lp H' (sa.free hlp) (fun b o nb e=>sm _ _ (h0 (bt b o nb (sHb _ _ e)) (bO (sa _ _ e) hlp) (bO (sa _ _ e) hdA))) (aik.same sm) ?_⟩
 rw[hlq]
 unfold mE
 rw[pl]
 show aa (HO.lst (tx q1))=aa (HO.lst (tx (iA p dn)))
 rw[Q4 q1l (aaF got) dd]
end SR
end
section
namespace XL
open PySem PySem.Spec PyProof.Rows L2
open AutoSeq1 (wpAny_loadPart')
abbrev qS(t:Nat):List (Str×aY):=[("start",.int 1 t)]
theorem tcK(a:aY)(t:Nat):checkTypeCall "enumerate" {pos:=[a],kw:=qS t}=pure ():=by kernel_rfl
theorem ncK(a:aY)(t:Nat):zC "enumerate.__new__" {pos:=[.type "enumerate",a],kw:=qS t}=pure ():=by kernel_rfl
theorem aiK(o a:aY)(t:Nat):Y7 "object.__init__" {pos:=[o,a],kw:=qS t}:=by
 unfold Y7;kernel_rfl
theorem ai9(l:Addr)(items:Array aY)(n t:Nat)(dct:Option Addr)(sl:Array (Option aY)):
 Meets (Builtin.«enumerate.__new__» {pos:=[.type "enumerate",.ref l],kw:=qS t}) (fun _ R s=>s.heap.get? l=aa {cls:=.type "list",dict:=dct,data:=.seq items n,slots:=sl}/\
  R (.ok (.ret (.ref (s.heap.push {cls:=.type "list_iterator",data:=.fields #[.ref l,.int 0 0]}).objs.size)))
   {s with heap:=(s.heap.push {cls:=.type "list_iterator",data:=.fields #[.ref l,.int 0 0]}).push {cls:=.type "enumerate",data:=.fields #[.none,.bool af,.ref s.heap.objs.size,j4 1,.none,.none]}}):=
 .of_wp fun P1 w1 A1 R s ⟨hl,h⟩=>by
  obtain⟨hp,g,d,tk,os⟩:=s;have adU:=sub_enumerate;have hL:Heap.IsList (Shared.heap ⟨hp,g,d,tk,os⟩) l items:=⟨_,hl,rfl,n,rfl⟩;wp_walk using ui hl;refine wpAny_stack_any fun st=>bg ?_;split
  ·rename_i c _ _ _ _ _;cases(c==iT "enumerate")<;>(wp_walk using ui hl,wQ hL;exact⟨_,rfl,h⟩)
  wp_walk using ui hl,wQ hL;exact⟨_,rfl,h⟩
end XL
end
section
namespace XL
open PySem PySem.Spec PyProof.Rows L2
open Sem (wp)
theorem initK{self a:aY}{t:Nat}:Meets (Builtin.«object.__init__» {pos:=[self,a],kw:=qS t}) (fun _ R s=>s.TypeIs self "enumerate"/\R (.ok (.ret .none)) s):=by
 have hl:=FV.init.lookup;have hm:=FV.made;have Ie:(aa "enumerate.__new__" != aa "object.__new__")=ae:=by decide
 refine Meets.of_wp fun P1 w1 A1 R s hs=>?_;obtain⟨hT,hq⟩:=hs;repeat (any_goals (first|assumption|wp_step))
 exact⟨_,rfl,hq⟩
section
variable{P:b7}{w:cU}{A:cX}{E:ar}{s:bf}
theorem wtK(a:aY)(t:Nat):(Code.builtin "type.__call__" {pos:=[.type "enumerate",a],kw:=qS t}).weight=0:=rfl
theorem unK(a:aY)(t:Nat):(Code.builtin "type.__call__" {pos:=[.type "enumerate",a],kw:=qS t}).cUnits=1:=rfl
theorem ag1{l:Addr}{items:Array aY}{t:Nat}{Q:ar}(hL:s.heap.IsList l items)
 (h:∀h',IsEnum h' (s.heap.objs.size+1) s.heap.objs.size 1 .none->h'.IsListIter s.heap.objs.size l 0->(∀b o,s.heap.get? b=aa o->h'.get? b=aa o)->Q (.ref (s.heap.objs.size+1)) {s with heap:=h'}):
 bL (bJ P w) A (call (.type "enumerate") [.ref l] (qS t)) Q E s:=by
 obtain⟨⟨c,dct,dt,sl⟩,hl,hc,n,hd⟩:=hL
 replace hc:c=.type "list":=hc
 replace hd:dt=.seq items n:=hd
 subst hc hd
 have ft:=FV
 obtain⟨c,tl,ajL⟩:=ft.mro
 have agE:=ft.made
 have adU:=ft.sub
 have hct:=tcK (.ref l) t
 refine m5 (Bg ?_)
 show bL _ _ (callAny (.type "enumerate") _) _ _ _
 refine bg ⟨tG _ (by decide+kernel),jc F.entry_type_call ?_⟩
 rw[Uq (wtK (.ref l) t) (unK (.ref l) t)]
 have h1:=ft.notType
 have h2:=ft.canCreate
 repeat (any_goals (first|assumption|wp_step))
 have hz:(s.heap.push {cls:=.type "list_iterator",data:=.fields #[.ref l,.int 0 0]}).objs.size=s.heap.objs.size+1:=dz ..
 let h9:Heap:=(s.heap.push {cls:=.type "list_iterator",data:=.fields #[.ref l,.int 0 0]}).push {cls:=.type "enumerate",data:=.fields #[.none,.bool af,.ref s.heap.objs.size,j4 1,.none,.none]}
 have he:IsEnum h9 (s.heap.objs.size+1) s.heap.objs.size 1 .none:=by
  have:=bH (s.heap.push {cls:=.type "list_iterator",data:=.fields #[.ref l,.int 0 0]})
   (o:={cls:=.type "enumerate",data:=.fields #[.none,.bool af,.ref s.heap.objs.size,j4 1,.none,.none]}) rfl
  rw[hz]at this;exact this
 have fin:=h h9 he ⟨_,a9 _ (bH _ rfl),rfl,rfl⟩ fun b o y=>a9 _ (a9 _ y)
 refine iS (j8 ft.plain F.entry_enumerate_new (wpAny_of_eq (ncK (.ref l) t) (ai9 l items n t dct sl P w A.in1 (wants (fun obj s₁=>obj=.ref (s.heap.objs.size+1)/\s₁={s with heap:=h9}) E) s ⟨hl,by rw[hz];exact⟨rfl,rfl⟩⟩))) fun r s₁ hr=>?_
 cases r with
 |error e=>exact hr
 |ok fl=>
  cases fl with
  |ret obj=>
   obtain⟨rfl,rfl⟩:=hr
   have hT:Shared.TypeIs {s with heap:=h9} (.ref (s.heap.objs.size+1)) "enumerate":=⟨_,he,rfl⟩
   have NK:=ft.init.lookup
   have hbi:=ft.init.bind (.ref (s.heap.objs.size+1))
   repeat (any_goals (first|assumption|wp_step))
   refine iS (j8 ft.init.plain F.entry_object_init (ft.init.check _ _ _ _ _ _ _ _ hT (aiK _ _ _) (initK P w A.in1 (wants (fun r s₂=>r=.none/\Q (.ref (s.heap.objs.size+1)) s₂) E) _ ⟨hT,rfl,fin⟩))) fun r₂ s₂ hr₂=>?_
   cases r₂ with
   |error e=>exact hr₂
   |ok fl₂=>
    cases fl₂ with
    |ret r=>
     obtain⟨rfl,hq⟩:=hr₂
     repeat (any_goals (first|assumption|wp_step))
    |_=>exact hr₂.elim
  |_=>exact hr.elim
end
end XL
end
section
namespace XL
open PySem PySem.Spec PyProof.Rows L2
def YV(K:aX)(a:Addr):It:=
 {go:=fun i H=>∃(xs:ao)(x:V),du K H a xs/\xs[i]?=aa x
  We:=fun i H v H'=>∃T x,v=.ref T/\H T=ab/\H'=upd H T (.tup [.int ((i+1:Nat):Int),x])/\∀xs,du K H a xs->xs[i]?=aa x
  stop:=fun i H=>∃xs:ao,du K H a xs/\xs.length<=i}
theorem aeu{w:cU}{A:cX}(hh:A.handled=ab)(it l:Addr)(Ie:l≠it)(items:Array aY):
 Draws P w A it [it,l] (items.size+1) (fun i v=>∃j,i=j+1/\items[j]?=aa v) (fun i h=>∃j,i=j+1/\h.IsListIter it l j/\h.IsList l items) where
 live:=fun i h ⟨j,_,z⟩=>(J7 (prog:=P) (w:=w) hh it l Ie items).live j h z
 frame:=fun i h h' ⟨j,e,z⟩ k=>⟨j,e,(J7 (prog:=P) (w:=w) hh it l Ie items).frame j h h' z k⟩
 item:=fun i s Q E hi ⟨j,e,z⟩ k=>(J7 (prog:=P) (w:=w) hh it l Ie items).item j s Q E (by omega) z fun x h' tk p y sb=>k x h' tk ⟨j,e,p⟩ ⟨j+1,by omega,y⟩ sb
 done:=fun s Q E ⟨j,e,z⟩ k=>(J7 (prog:=P) (w:=w) hh it l Ie items).done s Q E ((show j=items.size by omega)▸z) k
theorem QH{w:cU}{K:aX}(a e it:Addr):
 Turn P w K (.Tuple elts kk Li) (YV K a) [e,it] e (fun i h=>(∃old,IsEnum h e it ((i+1:Nat):Int) old)/\h.IsListIter it a i/\e≠it) where
 mem:=by simp
 obj:=fun i h sT b hb=>by
  obtain⟨⟨old,he⟩,⟨o,ho,hc,hd⟩,_⟩:=sT;rcases(by simpa using hb:b=e\/b=it)with z|z
  ·subst z;exact⟨_,he,fun v q=>nomatch q⟩
  subst z;exact⟨o,ho,fun v q=>by rw[hd]at q;cases q⟩
 keep:=fun i h h' sT k=>let⟨⟨old,he⟩,hi,Ie⟩:=sT;⟨⟨old,k e (by simp) _ he⟩,hi.at fun o q=>k it (by simp) o q,Ie⟩
 item:=by
  intro X hP hw hK hc i pins s σ H E I hf sT hg;subst hP hw hK;obtain⟨⟨old,he⟩,hit,Ie⟩:=sT;obtain⟨xs,x,hq,hx⟩:=hg;obtain⟨its,rv,p,hz⟩:=I.list hq;obtain⟨u,hu,ru⟩:=rv.get hx;have hel:=bF he;have hil:it<s.heap.objs.size:=by obtain⟨_,q,_⟩:=hit;exact bF q
  have zu:i<its.toArray.size:=by
   have:=(aZ.mp hu).1;simpa using this
  have nla:a≠it:=fun z=>by
   obtain⟨o,h1,h2,_⟩:=hit;obtain⟨o',h3,h4,_⟩:=p.isList;rw[z,h1]at h3;cases h3;rw[h2]at h4;injection h4 with h4
   exact absurd h4 (by decide)
  have nea:e≠a:=fun z=>by
   obtain⟨o',h3,h4,_⟩:=p.isList;rw[<-z,he]at h3;cases h3;injection h4 with h4
   exact absurd h4 (by decide)
  refine wpAny_pyNext_enum_itemD (i:=i+1) (aeu (A:=X.A.in1) (I.ok.hd hc) it a nla its.toArray) he ⟨i,rfl,hit,p.isList⟩ (by omega) Ie (by simp[Ie,nea]) fun x2 h' tk ⟨j,ej,hj⟩ ho ⟨j2,ej2,ad5,_⟩ hT hsz hk=>?_;have ej:j=i:=by omega
  have ej2:j2=i+1:=by omega
  subst ej ej2
  have ex:x2=u:=by
   have:its[j]?=aa x2:=by simpa using hj
   rw[hu]at this;exact(bR this).symm
  subst ex;refine⟨_,rfl,Sk (s:={s with heap:=h',toks:=tk+1}) ho fun h'' he' sb=>?_⟩;have hT2:=(sb.2 _ (dk hel)).trans hT
  have new:ja X.prog X.w (upd H s.heap.objs.size (.tup [.int ((j+1:Nat):Int),x])) h'' s.heap.objs.size (.tup [.int ((j+1:Nat):Int),x]):=
   ⟨by show 2<=bz;decide,[.int ((j+1:Nat):Int) tk,x2],.cons ⟨_,rfl⟩ (.cons ru .nil),⟨_,hT2,rfl,_,rfl⟩⟩
  have I1:=I.Kc (t':=tk+1) (ch:=[e,it]) (fun b ob hb q=>(sb.2 b (fun z=>hb (by simp[z]))).trans (hk b ob (fun z=>hb (by simp[z])) (fun z=>hb (by simp[z])) q)) hf (bu _) new;refine⟨.ref s.heap.objs.size,_,I1,rfl,⟨_,x,rfl,I.gd.fresh (bu _),rfl,fun ys hy=>by rw[I.HP hy hq];exact hx⟩,⟨⟨x2,?_⟩,ad5.at fun o q=>(sb.2 it (de Ie)).trans q,Ie⟩,fun b hb=>?_⟩
  ·have e1:((j+1+1:Nat):Int)=((j+1:Nat):Int)+1:=by omega
   rw[e1];exact he'
  have Pk:b<s.heap.objs.size:=by
   rcases(by simpa using hb:b=e\/b=it)with z|z
   ·subst z;exact hel
   subst z;exact hil
  rw[bB (cg Pk)];exact(hf b hb).1
 done:=by
  intro X hP hw hK hc i pins s σ H E I hf sT hg;subst hP hw hK;obtain⟨⟨old,he⟩,hit,Ie⟩:=sT;obtain⟨xs,hq,hx⟩:=hg;obtain⟨its,rv,p,hz⟩:=I.list hq;obtain⟨f0,f1,f2,f3,f4,f5⟩:=hf it (by simp);have hl:=rv.length
  have nla:a≠it:=fun z=>by
   obtain⟨o,h1,h2,_⟩:=hit;obtain⟨o',h3,h4,_⟩:=p.isList;rw[z,h1]at h3;cases h3;rw[h2]at h4;injection h4 with h4
   exact absurd h4 (by decide)
  have hT:s.TypeIs (.ref e) "enumerate":=⟨_,he,rfl⟩;unfold qF;refine aO (oM (kQ (name:=jd "__next__") hT V9 (jD V9 hT F.entry_enumerate_next ?_ (F.args_enumerate_next_1 _))));show bL _ _ (field (.ref e) 2>>=_) _ _ _;refine aO (gY he rfl (x:=.ref it) rfl (aO (Zu (I.ok.hd hc) hit p.isList (by simp;omega) fun h' x eb ⟨o,ho,JG⟩=>?_)));refine aO (rZ (T:="StopIteration") (b:=ae) ⟨o,ho,JG⟩ Et ?_);exact bg ⟨rfl,I.turned (t':=s.toks) (fun b o hb q=>eb b o hb q) f0 f1 f3 f4 f5⟩
 self:=fun A i s Q E sT h=>let⟨⟨_,he⟩,_⟩:=sT;wR he h
section
variable{M:NU}{A:cX}{E:ar}{s:bf}{env:Env}
theorem MZ{pos:Pos}{T:String}{args:List (Bool×Sem aY)}{kws:List (Option Str×Sem aY)}{Q:ar}(h1:args.any (·.1)=af)(h2:kws.any (·.1.isNone)=af)
 (h:bL M A (evalArgs (.type T) ae args kws) (fun a s₁=>bL M A (call (.type T) ([]++a.pos) a.kw) Q E s₁) E s):bL M A (sQ pos (.type T) [] args kws) Q E s:=by
 unfold sQ
 refine aO (d7 (eD h (fun a s₁ hA=>aO (lO ?_)) fun _ _ x=>x))
 simp only[h1,h2,k6]
 refine aO (bg ?_)
 exact aO (eD hA (fun r s₂ hr=>aO (d7 (wpAny_point (bg hr)))) fun _ _ x=>x)
end
inductive aay(K:aX)(R:L2.It->Hp->Prop)(v:V)(H1:Hp):Prop
 |mk (a:_) (xs:_) (_:v=.ref a) (_:du K H1 a xs) (_:R (YV K a) H1)
def adT(K:aX)(te:TE):TI:=fun σ H R=>te σ H fun v H1=>aay K R v H1
theorem Xf{e:Expr}{te:TE}{pos U2:Pos}(hg:Gl X "enumerate")(hm:X.mg "enumerate"=ab)(he:PE X e te)(hs:bW [e] X.env=(af,eval e X.env)::bW [] X.env:=by rfl):
 PI X (.Tuple elts kk Li) (.Call (.Name "enumerate" p) [e] [⟨aa "start",.Constant (.int 1) j1 p1,U2⟩] pos) (adT X.K te):=by
 intro pins s σ H R I h
 refine fe (rO I hg hm boot_enumerate (MZ (by rw[hs];rfl) ?_ ?_) (by decide) (by decide))
 ·rfl
 rw[hs]
 refine evalArgs_kwB ?_ ?_
 ·rfl
 show bL _ _ (EZ ((af,eval e X.env)::gz pos (bW [] X.env))) _ _ s
 refine iz (ib (he pins s σ H _ I h) fun v s1 ⟨v',H1,I1,r1,q1⟩=>jL ?_)
 obtain⟨a,xs,rfl,hq,q⟩:=q1
 cases r1
 refine kws_cons (IM (kws_nil ?_))
 obtain⟨its,rv,p',hz⟩:=I1.list hq
 have I2:=I1.tok (s1.toks+1)
 have I2:=I2
 show bL _ _ (call (.type "enumerate") [.ref a] (qS s1.toks)) _ _ {s1 with toks:=s1.toks+1}
 refine ag1 (s:={s1 with toks:=s1.toks+1}) p'.isList fun h' hE hit hk=>wR hE ?_
 have I3:=I2.kept (t':=s1.toks+1) hk
 refine⟨s1.heap.objs.size+1,[s1.heap.objs.size+1,s1.heap.objs.size],_,_,H1,rfl,I3,QH a (s1.heap.objs.size+1) s1.heap.objs.size,⟨⟨.none,hE⟩,hit,Nat.succ_ne_self _⟩,fun b hb=>?_,q⟩
 have hle:s1.heap.objs.size<=b:=by
  rcases(by simpa using hb:b=s1.heap.objs.size+1\/b=s1.heap.objs.size)with z|z
  ·rw[z];exact iG _ _
  rw[z];exact bu _
 exact I1.Vl hle (I1.gd.fresh hle)
theorem Vm{K:aX}{xs:ao}{g:TG}{tb:L2.TS}{D:L2.Ends}{σ:L2.St}{H:Hp}(Pv:Nat->L2.St->Hp->Prop)(h0:Pv 0 σ H)(hl:∀i σ H,i<=xs.length->Pv i σ H->du K H a xs)
 (hs:∀i x σ H T,xs[i]?=aa x->Pv i σ H->H T=ab->g (.ref T) σ (upd H T (.tup [.int ((i+1:Nat):Int),x])) fun σ2 H2=>tb {D with nx:=Pv (i+1),ct:=Pv (i+1),bk:=D.nx} σ2 H2)(hd:∀σ H,Pv xs.length σ H->D.nx σ H):
 ∃W:Nat->Nat->L2.St->Hp->Prop,(∃m,W 0 m σ H)/\∀i m σ H,W i m σ H->
  ((YV K a).stop i H/\D.nx σ H)\/((YV K a).go i H/\∃N:L2.St->Hp->Prop,(∀σ' H',N σ' H'->∃m',m'<m/\W (i+1) m' σ' H')/\∀x H',(YV K a).We i H x H'->g x σ H' fun σ2 H2=>tb {D with nx:=N,ct:=N,bk:=D.nx} σ2 H2):=by
 refine⟨fun i m σ H=>m=xs.length-i/\i<=xs.length/\Pv i σ H,⟨xs.length,by simp,cB _,h0⟩,?_⟩
 rintro i m σ H ⟨rfl,hi,p⟩
 have q:=hl i σ H hi p
 by_cases zu:i<xs.length
 ·refine .inr ⟨⟨xs,xs[i],q,by simp[zu]⟩,Pv (i+1),fun σ' H' p'=>⟨xs.length-(i+1),by omega,rfl,zu,p'⟩,fun x H' y=>?_⟩
  obtain⟨T,x,e,hT,e2,y⟩:=y
  subst e e2
  exact hs i x σ _ T (y xs q) p hT
 have e:i=xs.length:=by omega
 subst e
 exact .inl ⟨⟨xs,q,bu _⟩,hd σ H p⟩
end XL
end
section
namespace SR
open PySem PySem.Spec PyProof.Rows L2 XL
variable{P:b7}{w:cU}{K:aX}{mg:aj}{base:Heap}
def adK(n:Int):Bool:=decide (0<=n)&&decide (n<1000003)
inductive WJ(vs:ao)(H:Hp)(Q:VK)(z':XK):Prop
 |mk (n:Int) (_:vs=[.int n]) (_:Q (.bl (adK n)) H)
def plc(turn:Bool)(n i:Nat):Nat:=if turn=ae then n-1-i%n else i%n
inductive abE(vs:ao)(H:Hp)(Q:VK)(z':XK):Prop
 |mk (z:Str) (n i:Nat) (_:vs=[.str z,.int (n:Int),.int (i:Int)]) (_:0<n) (_:Q (.int (plc (decide (V.str z=V.str "turn")) n i:Nat)) H)
def YY(p:aT)(q:List Nat)(n:Nat):Prop:=∀u,u<p.length->0<aU p u->aQ q u+aU p u<=n
def elM(p:aT)(q:List Nat)(mem:List Int)(s:dQ)(i:Nat):Int:=gH p s (fun u j=>d9 mem (aQ q u+j)) i
inductive Ol(K:aX)(CS CP:Addr)(vs:ao)(H:Hp)(Q:VK)(z':XK):Prop
 |mk (a l m:Addr) (p:aT) (q:List Nat) (mem:List Int) (c i:Nat) (s:dQ) (_:vs=[.ref a,.ref l,.ref m,.int (c:Int),.int (i:Int)]) (_:jH CS CP H a p) (_:uh p) (_:du K H l (tx q)) (_:q.length=p.length) (_:du K H m (mem.map V.int)) (_:YY p q mem.length) (_:p[c]?=aa s) (_:s.input=af) (_:∀H',bG H H'->Q (.int (elM p q mem s i)) H')
def UX(p:aT)(q:List Nat)(mem:List Int)(s:dQ)(i u:Nat):Int:=if aU p u=0 then 0 else if s.turn=ae then d9 mem (aQ q u+(aU p u-1-i%aU p u))else d9 mem (aQ q u+i%aU p u)
theorem RX{l:List Nat}{j u:Nat}(h:l[j]?=aa u):(lG l)[j]?=aa (u,((j+1:Nat):Int)):=by
 unfold lG;rw[bK,Ai,h];simp
theorem PQ(l:List Nat):(lG l).length=l.length:=by
 unfold lG;simp
def GH(p:aT)(q:List Nat)(mem:List Int)(s:dQ)(i j:Nat):Int:=((lG s.uses).take j).foldl (fun n u=>n+u.2*UX p q mem s i u.1) 0
theorem GG{q:List Nat}{mem:List Int}{s:dQ}{i j u:Nat}(h:s.uses[j]?=aa u):GH p q mem s i (j+1)=GH p q mem s i j+((j+1:Nat):Int)*UX p q mem s i u:=by
 unfold GH;rw[take_snoc (RX h),hV];rfl
theorem ag2(p:aT)(q:List Nat)(mem:List Int)(s:dQ)(i:Nat):elM p q mem s i=((if s.turn=ae then 11+(i:Int)else 7)+GH p q mem s i s.uses.length)%1000003:=by
 unfold elM gH GH;rw[<-PQ s.uses,dy];rfl
theorem aaR{mem:List Int}{k:Nat}(h:k<mem.length):(mem.map V.int)[k]?=aa (.int (d9 mem k)):=by
 unfold d9;rw[bK,bE h];rfl
theorem Jz{f:Addr}(F:iF K "is_element" "is_element" vx f fd)(hM:∃t,mg "MODULUS"=aa (.int 1000003 t)):dv P w K mg base eJ 1 f fd ["number"] WJ:=by
 refine F.ok Jk fun fA A outer s H vs Q E hr h=>?_;obtain⟨n,rfl,k⟩:=h;refine⟨_,bj (b8 (Hr BE sY cE (pv 0) (iD (by rfl) hM))),?_⟩;refine⟨_,rfl,_,_,rfl,rfl,_,rfl,?_⟩;unfold adK at k;cases h1:decide (0<=n)with
 |false=>
  rw[h1,eC]at k;exact cD k
 |true=>
  rw[h1,eG]at k;exact dI ⟨_,_,rfl,rfl,k⟩
theorem zj{f:Addr}(F:iF K "place_in_operand" "place_in_operand" mO f fd):dv P w K mg base eJ 1 f fd ["way","length","i"] abE:=by
 refine F.ok y8 fun fA A outer s H vs Q E hr h=>?_;obtain⟨z,n,i,rfl,hn,k⟩:=h
 refine⟨_,bh (d8 (cR iW (pv 0) eM (da _)) (bj (b8 (fX DL (fX DL (pv 1) cE) (fX Ra (pv 2) (pv 1))))) cS)
  (bj (b8 (fX Ra (pv 2) (pv 1)))),?_⟩
 refine⟨_,rfl,rfl,_,rfl,?_⟩;have hm:=Ex i hn;have em:(i:Int)%(n:Int)=((i%n:Nat):Int):=by omega
 cases h1:decide (V.str z=V.str "turn")with
 |true=>
  refine dI ⟨_,rfl,_,_,rfl,rfl,_,rfl,_,rfl,_,_,rfl,rfl,by omega,_,_,rfl,rfl,?_⟩;rw[h1]at k;unfold plc at k;rw[c8 rfl]at k;have e:(n:Int)-1-(i:Int)%(n:Int)=((n-1-i%n:Nat):Int):=by omega
  rw[<-e]at k;exact k
 |false=>
  refine cD ⟨_,rfl,_,rfl,_,_,rfl,rfl,by omega,?_⟩;rw[h1]at k;unfold plc at k;rw[cP (by decide)]at k;rw[<-em]at k;exact k
theorem BF{f:Addr}(F:iF K "worked_element" "worked_element" o9 f fd)(S:FE K CS)(G:FF K CP)(hM:∃t,mg "MODULUS"=aa (.int 1000003 t))(hT:∃t,mg "TURN_START"=aa (.int 11 t))(hA:∃t,mg "MAP_START"=aa (.int 7 t))(KO:mg "enumerate"=ab)
 (Cp:Fn P w K mg base eJ 1 "place_in_operand" ["way","length","i"] abE):dv P w K mg base eJ 2 f fd Th (Ol K CS CP):=by
 refine F.ok sR fun fA A outer s H vs Q E hr h=>?_
 obtain⟨a,l,m,p,q,mem,c,i,s0,rfl,pa,pw,hq,ql,hm,fits,hc,adu,k⟩:=h
 obtain⟨dp,ls,lo,bs,os,v⟩:=pa.v
 obtain⟨b1,d1,k1,e1,g1⟩:=v.st c s0 hc
 obtain⟨o1,e3,g3⟩:=v.op c s0 hc
 have nd:=sR.nd
 refine⟨_,bh (jy 5 nd (cu (dU cT (cu (pv 0) rfl) (pv 3) (fun _ _=>rfl)) rfl))
  (bh (jy 6 nd (Xn (cR iW (pv 5) eM (da _)) (fX j3 (iD (by rfl) hT) (pv 4)) (iD (by rfl) hA)))
  (bh (eZ bV rfl (Xf (by rfl) KO (dU cT (cu (pv 0) rfl) (pv 3) (fun _ _=>rfl))) (qy rfl (fh (oX 7 nd) (fh (oX 8 nd) mz)))
   (bh (jy 9 nd (cu (dU cT (cu (pv 0) rfl) (pv 8) (fun _ _=>rfl)) rfl))
   (bj (d8 (cR zW (pv 9) cE (da _))
    (bj (rL (i:=6) nd rfl (ur rfl) (fX Xr (pv 7) (dU cT (pv 2) (fX j3 (dU cT (pv 1) (pv 8) (fun _ _=>rfl)) (dG Cp hr (by rfl) (aP (pv 5) (aP (pv 9) (aP (pv 4) bq))))) (fun _ _=>rfl))) qz)) cS))))
  (bj (b8 (fX Ra (pv 6) (iD (by rfl) hM)))))),?_⟩
 refine⟨_,rfl,a,CP,dp,_,_,rfl,v.ha,G.cl,G.n1,jN,_,rfl,ls,_,_,_,rfl,rfl,du.of v.lY,at_of (j:=c) rfl e1,b1,CS,d1,_,_,rfl,g1,S.cl,S.n4,Lq,?_⟩
 have wt:decide (V.str (st (l8 p s0).way)=V.str "turn")=s0.turn:=by
  rw[Wf,adu];rfl
 have z0:GH p q mem s0 i 0=0:=rfl
 have cl:=(aZ.mp hc).1
 refine⟨_,rfl,rfl,_,rfl,?_⟩
 rw[wt]
 rw[ag2]at k
 generalize KL:(if s0.turn=ae then 11+(i:Int)else 7)=z at k
 cases ht:s0.turn
 case' false=>
  rw[ht,cP (by decide)]at KL
  refine cD ?_
 case' true=>
  rw[ht,c8 rfl]at KL
  refine dI ⟨_,rfl,_,_,rfl,rfl,?_⟩
 all_goals
  refine⟨_,rfl,a,CP,dp,_,_,rfl,v.ha,G.cl,G.n2,Ti,_,rfl,lo,_,_,_,rfl,rfl,du.of v.D4,at_of (j:=c) rfl e3,o1,_,rfl,du.of g3,Vm (xs:=tx s0.uses) (fun j σ H'=>Ex3 fun v7 v8 v9=>σ=[aa (.ref a),aa (.ref l),aa (.ref m),aa (.int (c:Int)),aa (.int (i:Int)),aa (.str (st (l8 p s0).way)),aa (.int (z+GH p q mem s0 i j)),v7,v8,v9]/\bG H H') ?_ ?_ ?_ ?_⟩
  ·refine⟨ab,ab,ab,?_,fun _ _ e=>e⟩
   rw[z0,Int.add_zero,<-KL]
   rfl
  ·rintro j σ H' _ ⟨_,_,_,_,sm⟩
   exact du.of (sm _ _ g3)
  ·rintro j x σ H' T hx ⟨v7,v8,v9,rfl,sm⟩ hT
   obtain⟨u,hu,rfl⟩:=mJ hx
   have ul:=mf (pw.uses c s0 hc u (br hu)) cl
   obtain⟨su,eu⟩:=uT ul
   obtain⟨b2,d2,k2,e2,g2⟩:=v.st u su eu
   have lu:=iQ eu
   have sA:bG H (upd H' T (.tup [.int ((j+1:Nat):Int),.int (u:Int)])):=sm.trans (bG.new hT)
   have jl:=(aZ.mp hu).1
   have uf:=pw.ops s0 (br hc)
   refine⟨T,_,rfl,wC.of ba,rfl,_,_,rfl,_,_,rfl,rfl,?_⟩
   refine⟨_,rfl,a,CP,dp,_,_,rfl,sA _ _ v.ha,G.cl,G.n1,jN,_,rfl,ls,_,_,_,rfl,rfl,du.of (sA _ _ v.lY),at_of (j:=u) rfl e2,b2,CS,d2,_,_,rfl,sA _ _ g2,S.cl,S.n3,iM,?_⟩
   refine⟨_,rfl,_,_,rfl,rfl,_,rfl,?_⟩
   by_cases h0:0<su.length
   ·rw[qi (show(0:Int)<(su.length:Int)by omega)]
    have fu:=fits u ul (by omega)
    have pl:plc s0.turn su.length i<su.length:=by
     have:=Ex i h0;unfold plc;split<;>omega
    refine dI ⟨_,rfl,_,rfl,_,rfl,_,rfl,_,rfl,l,_,_,_,rfl,rfl,sA.seq hq,at_of (j:=u) rfl (ud (q:=q) (b:=u) (by omega)),_,rfl,_,rfl,_,rfl,_,su.length,i,rfl,h0,_,_,rfl,rfl,m,_,_,_,rfl,rfl,sA.seq hm,at_of (j:=aQ q u+plc s0.turn su.length i) ?_ (aaR (by omega)),_,_,rfl,rfl,.inl ⟨by omega,by omega⟩,_,_,rfl,rfl,?_⟩
    ·rw[wt]
     omega
    refine⟨aa (.int ((j+1:Nat):Int)),aa (.int (u:Int)),aa (.int (su.length:Int)),?_,sA⟩
    have eo:UX p q mem s0 i u=d9 mem (aQ q u+plc s0.turn su.length i):=by
     unfold UX plc;rw[lu,cP (by omega)];split<;>rfl
    rw[GG hu,eo,<-Int.add_assoc]
    rfl
   rw[gX (show¬(0:Int)<(su.length:Int)by omega)]
   refine cD ⟨aa (.int ((j+1:Nat):Int)),aa (.int (u:Int)),aa (.int (su.length:Int)),?_,sA⟩
   have eo:UX p q mem s0 i u=0:=by
    unfold UX;rw[c8 (by omega)]
   rw[GG hu,eo,Int.mul_zero,Int.add_zero]
   rfl
  rintro σ H' ⟨v7,v8,v9,rfl,sm⟩
  have:=k H' sm
  rw[<-ee s0.uses]at this
  exact⟨_,rfl,_,_,rfl,rfl,(show(0:Int)<1000003 by decide),this⟩
def mI(m:List Int):ao:=m.map V.int
theorem ki(m:List Int):(mI m).length=m.length:=aV ..
theorem XQ(m:List Int)(k:Nat)(z:Int):(mI m).set k (.int z)=mI (m.set k z):=by
 unfold mI;rw[List.map_set]
theorem XR{i:Nat}{y:V}(h:(mI m)[i]?=aa y):∃z,m[i]?=aa z/\y=.int z:=by
 unfold mI at h;rw[bK]at h;cases hm:m[i]? with
 |none=>rw[hm]at h;cases h
 |some z=>rw[hm]at h;exact⟨z,rfl,(bR h).symm⟩
theorem Bl(p:aT)(q:List Nat)(s:dQ)(c:Nat):∀(k i:Nat)(m:List Int),(ia p q s c k i m).length=m.length
 |0,_,_=>rfl
 |k+1,i,m=>by
  show(ia p q s c k (i+1) _).length=_;rw[Bl p q s c k (i+1),fK]
inductive SW(K:aX)(CS CP:Addr)(vs:ao)(H:Hp)(Q:VK)(z':XK):Prop
 |mk (a l m:Addr) (p:aT) (q:List Nat) (mem:List Int) (c:Nat) (s:dQ) (H0:Hp) (_:vs=[.ref a,.ref l,.ref m,.int (c:Int)]) (_:bG H0 H) (_:H0 m=ab) (_:jH CS CP H0 a p) (_:uh p) (_:du K H0 l (tx q)) (_:q.length=p.length) (_:H m=aa (.lst (mI mem))) (_:YY p q mem.length) (_:p[c]?=aa s) (_:s.input=af) (_:∀H',qE m H H'->H' m=aa (.lst (mI (ia p q s c s.length 0 mem)))->Q .j5 H')
inductive Oj(vs:ao)(H:Hp)(Q:VK)(z':XK):Prop
 |mk (m d:Addr) (mem dat:List Int) (o:Nat) (_:vs=[.ref m,.int (o:Int),.ref d]) (_:H m=aa (.lst (mI mem))) (_:H d=aa (.lst (mI dat))) (_:d≠m) (_:(0<dat.length->o+dat.length<=mem.length)) (_:∀H',qE m H H'->H' m=aa (.lst (mI (sv mem o dat)))->Q .j5 H')
theorem LI{dat:List Int}{j:Nat}(h:dat[j]?=aa x)(o:Nat)(mem:List Int):(dat.zipIdx.take (j+1)).foldl (fun m x=>m.set (o+x.2) x.1) mem=((dat.zipIdx.take j).foldl (fun m x=>m.set (o+x.2) x.1) mem).set (o+j) x:=by
 have:dat.zipIdx[j]?=aa (x,j):=by rw[Ai,h];simp
 rw[take_snoc this,hV];rfl
theorem vO(o:Nat):∀(l:List (Int×Nat))(mem:List Int),(l.foldl (fun m x=>m.set (o+x.2) x.1) mem).length=mem.length
 |[],_=>rfl
 |x::l,mem=>by
  rw[nO,vO o l,fK]
theorem Jt{f:Addr}(F:iF K "work_array" "work_array" vn f fd)(S:FE K CS)(G:FF K CP)(TU:mg "range"=ab)(Cw:Fn P w K mg base eJ 2 "worked_element" Th (Ol K CS CP)):
 dv P w K mg base eJ 3 f fd ["program","plan","memory","number"] (SW K CS CP):=by
 refine F.ok zK fun fA A outer s H vs Q E hr h=>?_
 obtain⟨a,l,m,p,q,mem,c,s0,H0,rfl,sh,nm,pa,pw,hq,ql,hm,fits,hc,adu,k⟩:=h
 obtain⟨dp,ls,lo,bs,os,v0⟩:=pa.v
 have v:=v0.same sh
 obtain⟨b1,d1,k1,e1,g1⟩:=v.st c s0 hc
 have cl:=(aZ.mp hc).1
 have lc:=iQ hc
 have sl:=pw.len s0 (br hc)
 have nd:=zK.nd
 refine⟨_,bj (eZ bV rfl (uG (by rfl) TU (aP (cu (dU cT (cu (pv 0) rfl) (pv 3) (fun _ _=>rfl)) rfl) bq)) (oX 4 nd)
  (bj (DH (dG Cw hr (by rfl) (aP (pv 0) (aP (pv 1) (aP (pv 2) (aP (pv 3) (aP (pv 4) bq)))))) (DI (pv 2) (fX j3 (dU cT (pv 1) (pv 3) (fun _ _=>rfl)) (pv 4)) set_list)))),?_⟩
 refine⟨_,rfl,a,CP,dp,_,_,rfl,v.ha,G.cl,G.n1,jN,_,rfl,ls,_,_,_,rfl,rfl,du.of v.lY,at_of (j:=c) rfl e1,b1,CS,d1,_,_,rfl,g1,S.cl,S.n3,iM,_,rfl,by omega,by omega,qZ (n:=(s0.length:Int).toNat) (fun j σ H'=>Uc fun v4 mj=>σ=[aa (.ref a),aa (.ref l),aa (.ref m),aa (.int (c:Int)),v4]/\qE m H H'/\H' m=aa (.lst (mI mj))/\mj.length=mem.length/\ia p q s0 c s0.length 0 mem=ia p q s0 c (s0.length-j) j mj) ?_ ?_ ?_⟩
 ·exact⟨ab,mem,rfl,fun _ _ _ e=>e,hm,rfl,rfl⟩
 ·rintro j σ H' hj ⟨v4,mj,rfl,bt,Mi,ml,wr⟩
  have hj:j<s0.length:=by omega
  have ej:(0:Int)+(j:Int)=(j:Int):=by omega
  rw[ej]
  have fc:=fits c cl (by omega)
  have sm:bG H0 H':=fun b o e=>bt b o (bO e nm) (sh _ _ e)
  refine⟨_,rfl,_,rfl,_,rfl,_,rfl,_,rfl,a,l,m,p,q,mj,c,j,s0,rfl,pa.same sm,pw,sm.seq hq,ql,du.of Mi,by rw[ml];exact fits,hc,adu,fun H2 s2=>?_⟩
  have EG:=sm.trans s2
  refine⟨_,rfl,_,rfl,_,rfl,l,_,_,_,rfl,rfl,EG.seq hq,at_of (j:=c) rfl (ud (q:=q) (b:=c) (by omega)),_,rfl,_,_,rfl,rfl,m,_,_,aQ q c+j,rfl,rfl,s2 _ _ Mi,?_,?_⟩
  ·have e:((aQ q c:Nat):Int)+(j:Int)=((aQ q c+j:Nat):Int):=by omega
   show U5 _ (((aQ q c:Nat):Int)+(j:Int))=_
   rw[e,ki,ml]
   exact yP (by omega)
  rw[XQ]
  refine⟨_,mj.set (aQ q c+j) (elM p q mj s0 j),rfl,fun b o nb e=>?_,ba,by rw[fK,ml],?_⟩
  ·rw[bB nb]
   exact s2 _ _ (bt b o nb e)
  rw[wr]
  have e:s0.length-j=(s0.length-(j+1))+1:=by omega
  rw[e]
  rfl
 rintro σ H' ⟨v4,mj,rfl,bt,Mi,ml,wr⟩
 refine k H' bt ?_
 rw[Mi,wr]
 have e:s0.length-(s0.length:Int).toNat=0:=by omega
 rw[e]
 rfl
theorem Js{f:Addr}(F:iF K "write_data" "write_data" vm f fd)(KO:mg "enumerate"=ab):dv P w K mg base eJ 1 f fd ["memory","offset","data"] Oj:=by
 refine F.ok zJ fun fA A outer s H vs Q E hr h=>?_;obtain⟨m,d,mem,dat,o,rfl,hm,hd,ndm,ol,k⟩:=h;have nd:=zJ.nd
 refine⟨_,bj (eZ bV rfl (pK (by rfl) KO (aP (pv 2) bq)) (qy rfl (fh (oX 3 nd) (fh (oX 4 nd) mz)))
  (bj (DH (pv 4) (DI (pv 0) (fX j3 (pv 1) (pv 3)) set_list)))),?_⟩
 refine⟨_,rfl,d,_,rfl,du.of hd,oo (xs:=mI dat) (fun j σ H'=>Uc fun v3 v4=>σ=[aa (.ref m),aa (.int (o:Int)),aa (.ref d),v3,v4]/\qE m H H'/\H' m=aa (.lst (mI ((dat.zipIdx.take j).foldl (fun m x=>m.set (o+x.2) x.1) mem)))) ⟨ab,ab,rfl,fun _ _ _ e=>e,hm⟩ (fun i σ H' _ ⟨_,_,_,bt,_⟩=>du.of (bt _ _ ndm hd)) ?_ ?_⟩
 ·rintro j x σ H' T hx ⟨v3,v4,rfl,bt,Mi⟩ hT;obtain⟨z,hz,rfl⟩:=XR hx;have jl:=(aZ.mp hz).1;have nT:=bO Mi hT;have ol:=ol (by omega);refine⟨T,_,rfl,wC.of ba,rfl,_,_,rfl,_,_,rfl,rfl,?_⟩;refine⟨_,rfl,_,rfl,_,rfl,_,rfl,_,_,rfl,rfl,m,_,_,o+j,rfl,rfl,by rw[bB nT];exact Mi,?_,?_⟩
  ·show U5 _ ((o:Int)+(j:Int))=_;have e:(o:Int)+(j:Int)=((o+j:Nat):Int):=by omega
   rw[e,ki,vO];exact yP (by omega)
  refine⟨_,_,rfl,fun b u nb e=>?_,?_⟩
  ·have:=bt b u nb e;rw[bB nb,bB (bO this hT)];exact this
  rw[ba,XQ,LI hz]
 rintro σ H' ⟨v3,v4,rfl,bt,Mi⟩;refine k H' bt ?_;rw[Mi,ki];unfold sv;rw[Qu (by simp)]
def Ae(dat:List (Nat×List Int))(a:Nat):List Int:=((dat.find? fun x=>x.1==a).map fun x=>x.2).getD []
def EE(p:aT)(q:List Nat)(dat:List (Nat×List Int))(mem:List Int)(a:Nat):List Int:=match p[a]? with
 |some s=>if s.input=ae then sv mem (aQ q a) (Ae dat a)else ia p q s a s.length 0 mem
 |none=>mem
def jM(p:aT)(q:List Nat)(dat:List (Nat×List Int))(mem:List Int)(n:Nat):List Int:=(bw n).foldl (EE p q dat) mem
theorem rJ(p:aT)(q:List Nat)(dat:List (Nat×List Int))(mem:List Int)(n:Nat):jM p q dat mem (n+1)=EE p q dat (jM p q dat mem n) n:=by
 unfold jM;rw[eY,hV];rfl
theorem UA(p:aT)(q:List Nat)(dat:List (Nat×List Int))(mem:List Int)(a:Nat):(EE p q dat mem a).length=mem.length:=by
 unfold EE;split
 ·split
  ·exact vO _ _ _
  exact Bl ..
 rfl
theorem yJ(p:aT)(q:List Nat)(dat:List (Nat×List Int))(mem:List Int):∀n,(jM p q dat mem n).length=mem.length
 |0=>rfl
 |n+1=>by rw[rJ,UA,yJ p q dat mem n]
theorem Hf(p:aT)(q:List Nat)(dat:List (Nat×List Int))(mem:List Int):∀(k a:Nat),a+k=p.length->Ja p q dat (p.drop a) a (jM p q dat mem a)=jM p q dat mem p.length
 |0,a,h=>by
  rw[Qw (by omega)];have:a=p.length:=by omega
  rw[<-this];rfl
 |k+1,a,h=>by
  have al:a<p.length:=by omega
  rw[dZ al];show Ja p q dat (p.drop (a+1)) (a+1) (if p[a].input=ae then sv (jM p q dat mem a) (aQ q a) (Ae dat a)else ia p q p[a] a p[a].length 0 (jM p q dat mem a))=_
  have e:(if p[a].input=ae then sv (jM p q dat mem a) (aQ q a) (Ae dat a)else ia p q p[a] a p[a].length 0 (jM p q dat mem a))=jM p q dat mem (a+1):=by
   rw[rJ];unfold EE;rw[bE al]
  rw[e];exact Hf p q dat mem k (a+1) (by omega)
theorem W0(p:aT)(q:List Nat)(dat:List (Nat×List Int))(mem:List Int):Ja p q dat p 0 mem=jM p q dat mem p.length:=Hf p q dat mem p.length 0 (by omega)
theorem BX(pw:uh p):∃m,m<=p.length/\dw p=bw m/\∀(i:Nat)(s:dQ),p[i]?=aa s->(s.input=ae↔i<m):=by
 obtain⟨m,ml,hm⟩:=pw.ins;refine⟨m,ml,?_,hm⟩;unfold dw
 have:∀n,n<=p.length->(bw n).filter (fun a=>((p[a]?).map fun s=>s.input).getD af)=bw (min n m):=fun n=>by
  induction n with
  |zero=>intro _;simp
  |succ n ih=>
   intro h;rw[vG (α:=Nat),ih (by omega)];obtain⟨s,hs⟩:=uT (p:=p) (i:=n) (by omega);have e:=hm n s hs;rw[hs];show bw (min n m)++(if s.input=ae then[n]else[])=_;by_cases h1:n<m
   ·rw[c8 (e.mpr h1),show min n m=n by omega,show min (n+1) m=n+1 by omega,eY]
   rw[cP (fun z=>h1 (e.mp z)),ck,show min n m=m by omega,show min (n+1) m=m by omega]
 rw[this p.length (bu _),show min p.length m=m by omega]
theorem YU(p:aT)(q:List Nat):∀(n u:Nat),u<n->0<aU p u->aQ q u+aU p u<=RM p q n
 |0,u,h,_=>by omega
 |n+1,u,h,h0=>by
  rw[Nl];by_cases e:u=n
  ·subst e;rw[cP (by omega)];exact Nat.le_max_right ..
  have:=YU p q n u (by omega) h0;split
  ·exact this
  exact cQ this (Nat.le_max_left ..)
theorem yK(p:aT)(q:List Nat):YY p q (i6 p q):=fun u hu h0=>YU p q p.length u hu h0
theorem ab5{q:List Nat}(pw:uh p)(hq:∀x∈q,x<=10000):∀n,n<=p.length->RM p q n<=10064
 |0,_=>by unfold RM;simp
 |n+1,h=>by
  rw[Nl];have:=ab5 pw hq n (by omega);split
  ·exact this
  obtain⟨s,hs⟩:=uT (p:=p) (i:=n) (by omega);have l:=pw.len s (br hs);rw[iQ hs]
  have o:aQ q n<=10000:=by
   unfold aQ;cases hx:q[n]? with
   |none=>exact cB _
   |some x=>exact hq x (br hx)
  exact Nat.max_le.mpr ⟨this,by omega⟩
def AU(ef:List (Key×V)):Prop:=(ef.map (·.1)).Nodup/\∀k∈ef.map (·.1),k∈(bw 24).map fun(n:Nat)=>(cM (n:Int):Key)
inductive CO(H:Hp)(d:Addr)(dat:List (Nat×List Int)):Prop
 |mk (ef:List (Key×V)) (_:H d=aa (.dK ef)) (_:AU ef) (_:∀n:Nat,match dat.find? fun x=>x.1==n with
 |none=>l6 ef (cM (n:Int))=ab
 |some x=>∃b,l6 ef (cM (n:Int))=aa (.ref b)/\H b=aa (.lst (mI x.2)))
theorem CO.same{H H':Hp}(h:CO H d dat)(s:bG H H'):CO H' d dat:=by
 obtain⟨ef,e,kl,f⟩:=h;refine⟨ef,s _ _ e,kl,fun n=>?_⟩;have:=f n;cases hf:dat.find? fun x=>x.1==n with
 |none=>rw[hf]at this;exact this
 |some x=>
  rw[hf]at this;obtain⟨b,e1,e2⟩:=this;exact⟨b,e1,s _ _ e2⟩
def vY(p:aT)(dat:List (Nat×List Int)):Prop:=∀x∈dat,x.2.length=aU p x.1
def ow(p:aT)(dat:List (Nat×List Int)):Prop:=((dw p).all fun a=>dat.any fun x=>x.1==a)=ae
def xQ(p:aT)(q:List Nat):List Int:=cA (i6 p q) 0
inductive WG(K:aX)(CS CP:Addr)(vs:ao)(H:Hp)(Q:VK)(z':XK):Prop
 |mk (a d l:Addr) (p:aT) (q:List Nat) (dat:List (Nat×List Int)) (_:vs=[.ref a,.ref d,.ref l]) (_:jH CS CP H a p) (_:uh p) (_:du K H l (tx q)) (_:q.length=p.length) (_:(∀x∈q,x<=10000)) (_:CO H d dat) (_:vY p dat) (_:ow p dat) (_:∀(m:Addr)(H':Hp),H m=ab->bG H H'->H' m=aa (.lst (mI (jM p q dat (xQ p q) p.length)))->Q (.ref m) H')
theorem UE(n:Nat):(cA n [V.int 0]).flatten=mI (cA n 0):=by
 induction n with
 |zero=>rfl
 |succ n ih=>
  rw[fV,lE,ih,fV];rfl
theorem zk{f:Addr}(F:iF K "memory_after_run" "memory_after_run" mP f fd)(S:FE K CS)(G:FF K CP)(KO:mg "enumerate"=ab)(Cr:Fn P w K mg base eJ 1 "room_of" xF (QU K CS CP))(Ci:Fn P w K mg base eJ 1 "input_numbers" jT (w6 CS CP))
 (Cd:Fn P w K mg base eJ 1 "write_data" ["memory","offset","data"] Oj)(Cw:Fn P w K mg base eJ 3 "work_array" ["program","plan","memory","number"] (SW K CS CP)):dv P w K mg base eJ 4 f fd Hk (WG K CS CP):=by
 refine F.ok qJ fun fA A outer s H vs Q E hr h=>?_
 obtain⟨a,d,l,p,q,dat,rfl,pa,pw,hq,ql,qb,hd,HQ,KU,k⟩:=h
 have fw:=pw.j6
 have hu:=Pe hr
 have nd:=qJ.nd
 have h1:gG 1 _:=hr.mono (by decide)
 refine⟨_,bh (jy 3 nd (fX Q9 (eA (aP cE bq)) (dG Cr h1 (by rfl) (aP (pv 0) (aP (pv 2) bq)))))
  (bh (eZ bV rfl (fP (dG Ci h1 (by rfl) (aP (pv 0) bq))) (oX 4 nd)
   (bj (dJ (dG Cd h1 (by rfl) (aP (pv 3) (aP (dU cT (pv 2) (pv 4) (fun _ _=>rfl)) (aP (To hu (pv 1) (pv 4) (fun _ _=>rfl)) bq)))))))
  (bh (eZ bV rfl (pK (by rfl) KO (aP (cu (pv 0) rfl) bq)) (qy rfl (fh (oX 4 nd) (fh (oX 5 nd) mz)))
   (bj (d8 (cR wo (cu (pv 5) rfl) eM (da _)) (bj (dJ (dG Cw hr (by rfl) (aP (pv 0) (aP (pv 2) (aP (pv 3) (aP (pv 4) bq))))))) cS)))
  (bj (b8 (pv 3))))),?_⟩
 obtain⟨mi,mil,ein,inp⟩:=BX pw
 have rb:i6 p q<=10064:=ab5 pw qb p.length (bu _)
 refine⟨by show 1<=bz;decide,fun x hx=>⟨_,rfl,_,rfl,a,l,p,q,rfl,pa.same (bG.new hx),pw,(bG.new hx).seq hq,ql,fun H1 s1=>⟨x,_,_,rfl,rfl,s1 _ _ ba,by omega,by omega,by rw[bX];show 1*_<=_;omega,fun m hm=>?_⟩⟩⟩
 have sH1:=(bG.new hx).trans s1
 rw[show((i6 p q:Nat):Int).toNat=i6 p q from pG _,UE]
 have s2:bG H1 (upd H1 m (.lst (mI (xQ p q)))):=bG.new hm
 have pa1:=pa.same sH1
 have hd1:=hd.same sH1
 have Ic:=sH1.seq hq
 refine⟨_,rfl,a,p,rfl,pa1.same s2,fw,fun li H3 nli s3 NK=>?_⟩
 have hm3:=s3 _ _ ba
 have nlm:li≠m:=fun z=>by rw[z,ba]at nli;cases nli
 have s13:=s2.trans s3
 have keep:∀{H':Hp},qE m H3 H'->bG H1 H':=fun{H'} bt b o e=>bt b o (bO e hm) (s13 _ _ e)
 have XJ:∀n,(jM p q dat (xQ p q) n).length=i6 p q:=fun n=>by rw[yJ];exact ir
 rw[ein]at NK
 refine⟨li,rfl,⟨_,du.of NK⟩,fZ (K:=K) (a:=li) (xs:=tx (bw mi)) (fun j σ H'=>∃v4,σ=[aa (.ref a),aa (.ref d),aa (.ref l),aa (.ref m),v4,ab]/\qE m H3 H'/\H' m=aa (.lst (mI (jM p q dat (xQ p q) j)))) ⟨ab,rfl,fun _ _ _ e=>e,hm3⟩ (fun i σ H' _ ⟨_,_,bt,_⟩=>du.of (bt _ _ nlm NK)) ?_ ?_⟩
 ·rintro j y σ H' hj ⟨v4,rfl,bt,hmj⟩
  obtain⟨n,hn,rfl⟩:=mJ hj
  have jl:=(aZ.mp hn).1
  rw[bZ]at jl
  have en:n=j:=by
   rw[fj jl]at hn;exact(bR hn).symm
  subst en
  have nl:n<p.length:=by omega
  obtain⟨s0,hs0⟩:=uT nl
  have sm:=keep bt
  obtain⟨ef,ek,_,fk⟩:=hd1.same sm
  have gn:∃x,(dat.find? fun x=>x.1==n)=aa x:=by
   unfold ow at KU;rw[ein,cV]at KU;have:=KU n (cj.mpr jl);obtain⟨x,hx,e⟩:=fg.mp this;cases hf:dat.find? fun x=>x.1==n with
   |some y=>exact⟨y,rfl⟩
   |none=>exact absurd e (kH.mp hf x hx)
  obtain⟨x,hx⟩:=gn
  have fx:=fk n
  rw[hx]at fx
  obtain⟨b,fb,hb⟩:=fx
  obtain⟨kv1,ek1,_,fk1⟩:=hd1
  have nbm:b≠m:=by
   have f1:=fk1 n;rw[hx]at f1;obtain⟨b',fb',Pk⟩:=f1
   have:ef=kv1:=by
    have:=sm _ _ ek1;rw[ek]at this;cases this;rfl
   subst this;rw[fb]at fb';cases fb';exact bO Pk hm
  have xe:x.1=n:=by simpa using yt hx
  have xl:=HQ x (mq hx)
  rw[xe]at xl
  refine⟨_,rfl,_,rfl,_,rfl,l,_,_,_,rfl,rfl,sm.seq Ic,at_of (j:=n) rfl (ud (q:=q) (b:=n) (by omega)),_,rfl,_,rfl,d,_,rfl,(by rw[<-fb];exact zB.k (k:=cM (n:Int)) ek),m,b,_,x.2,aQ q n,rfl,hmj,hb,nbm,fun h0=>?_,fun H2 IZ hm2=>?_⟩
  ·rw[XJ,xl]
   exact yK p q n nl (by omega)
  refine⟨_,rfl,fun b o nb e=>IZ b o nb (bt b o nb e),?_⟩
  rw[hm2,rJ]
  unfold EE
  rw[hs0]
  show _=aa (HO.lst (mI (if s0.input=ae then _ else _)))
  rw[c8 ((inp n s0 hs0).mpr jl)]
  unfold Ae
  rw[hx]
  rfl
 rintro σ H' ⟨v4,rfl,bt,hmj⟩
 rw[ee,bZ]at hmj
 obtain⟨dp,ls,lo,bs,os,v⟩:=pa1.v
 have v':=v.same (keep bt)
 refine⟨_,rfl,a,CP,dp,_,_,rfl,v'.ha,G.cl,G.n1,jN,ls,_,rfl,du.of v'.lY,oo (xs:=bs.map V.ref) (fun i σ H'=>Uc fun v4 v5=>σ=[aa (.ref a),aa (.ref d),aa (.ref l),aa (.ref m),v4,v5]/\qE m H3 H'/\H' m=aa (.lst (mI (jM p q dat (xQ p q) (max mi i))))) ⟨v4,ab,rfl,bt,by rw[show max mi 0=mi by omega];exact hmj⟩ (fun i σ H' _ ⟨_,_,_,bt,_⟩=>du.of (keep bt _ _ v.lY)) ?_ ?_⟩
 ·rintro i x σ H2 T hx ⟨v4,v5,rfl,IZ,hm2⟩ hT
  obtain⟨s0,b,db,lb,hs,rfl,hi,g⟩:=v.ref hx
  have nT:=bO hm2 hT
  have sT:bG H2 (upd H2 T (.tup [.int (i:Nat),.ref b])):=bG.new hT
  have bt3:qE m H3 (upd H2 T (.tup [.int (i:Nat),.ref b])):=fun c o nc e=>sT _ _ (IZ c o nc e)
  have sm3:=keep bt3
  refine⟨T,_,rfl,wC.of ba,rfl,_,_,rfl,_,_,rfl,rfl,?_⟩
  refine⟨_,rfl,b,CS,db,_,_,rfl,sm3 _ _ g,S.cl,S.n1,nU,rfl,_,rfl,?_⟩
  rw[FX]
  cases zX:s0.input with
  |true=>
   have il:=(inp i s0 hs).mp zX
   refine cD ⟨_,_,rfl,bt3,?_⟩
   rw[sT _ _ hm2,show max mi i=mi by omega,show max mi (i+1)=mi by omega]
  |false=>
   have il:¬i<mi:=fun z=>by rw[(inp i s0 hs).mpr z]at zX;cases zX
   refine dI ⟨_,rfl,_,rfl,_,rfl,_,rfl,a,l,m,p,q,_,i,s0,H1,rfl,sm3,hm,pa1,pw,Ic,ql,sT _ _ hm2,by rw[XJ];exact yK p q,hs,zX,fun H4 bt4 hm4=>?_⟩
   refine⟨_,_,rfl,fun c o nc e=>bt4 c o nc (bt3 c o nc e),?_⟩
   rw[hm4,show max mi (i+1)=i+1 by omega,show max mi i=i by omega,rJ]
   unfold EE
   rw[hs]
   show _=aa (HO.lst (mI (if s0.input=ae then _ else _)))
   rw[cP (by rw[zX];decide)]
 rintro σ H2 ⟨v4,v5,rfl,IZ,hm2⟩
 refine⟨_,rfl,k m H2 (sH1.free hm) (sH1.trans (keep IZ)) ?_⟩
 rw[hm2,aV,v.bl,show max mi p.length=p.length by omega]
def HZ(p:aT)(a:Nat):Bool:=((p[a]?).map fun s=>s.out).getD af
def xI(p:aT)(q:List Nat)(mem:List Int)(n:Nat):List Int:=((bw n).filter (HZ p)).flatMap fun a=>((aU p a:Nat):Int)::kR mem (aQ q a) (aU p a)
theorem Av(p:aT)(q:List Nat)(mem:List Int)(n:Nat):xI p q mem (n+1)=xI p q mem n++if HZ p n=ae then((aU p n:Nat):Int)::kR mem (aQ q n) (aU p n)else[]:=by
 unfold xI;rw[vG (α:=Nat),sd];congr 1;by_cases h:HZ p n=ae
 ·rw[c8 h,c8 h,iU,qp,ck]
 rw[cP h,cP h,qp]
theorem xC(mem:List Int)(o n:Nat):(kR mem o n).length=n:=by
 unfold kR;rw[aV,bZ]
theorem W2(p:aT)(q:List Nat)(dat:List (Nat×List Int)):gu (jj p q dat)=xI p q (jM p q dat (xQ p q) p.length) p.length:=by
 unfold gu jj xI;rw[W0,Gu];show List.flatMap _ ((bw p.length).filter (HZ p))=_;refine congrArg (fun f=>List.flatMap f ((bw p.length).filter (HZ p))) (funext fun a=>?_);rw[xC];rfl
theorem LQ(pw:uh p)(q:List Nat)(mem:List Int):∀n,n<=p.length->(xI p q mem n).length<=65*n
 |0,_=>by unfold xI;simp
 |n+1,h=>by
  rw[Av,bQ];have:=LQ pw q mem n (by omega);obtain⟨s,hs⟩:=uT (p:=p) (i:=n) (by omega);have l:=pw.len s (br hs);split
  ·rw[cJ,xC,iQ hs];omega
  simp;omega
theorem Yx{mem:List Int}{o n:Nat}(h:0<n->o+n<=mem.length):CG (mI mem) (aa (o:Int)) (aa ((o:Int)+(n:Int)))=mI (kR mem o n):=by
 have e:(o:Int)+(n:Int)=((o+n:Nat):Int):=by omega
 unfold CG;rw[e,HT.yI,HT.yI,ki];rcases oC n with z|z
 ·subst z;rw[show min (o+0) mem.length-min o mem.length=0 by omega];rfl
 have:=h z;rw[show min o mem.length=o by omega,show min (o+n) mem.length-o=n by omega];unfold mI kR;refine jq (by simp;omega) fun i h1 h2=>?_;have hi:i<n:=by simpa using h2
 simp only[List.getElem_take,List.getElem_drop,l4,nR];unfold d9;rw[bE (by omega)];rfl
inductive QT(K:aX)(CS CP:Addr)(vs:ao)(H:Hp)(Q:VK)(z':XK):Prop
 |mk (a d l:Addr) (p:aT) (q:List Nat) (dat:List (Nat×List Int)) (_:vs=[.ref a,.ref d,.ref l]) (_:jH CS CP H a p) (_:uh p) (_:du K H l (tx q)) (_:q.length=p.length) (_:(∀x∈q,x<=10000)) (_:CO H d dat) (_:vY p dat) (_:ow p dat) (_:∀(r:Addr)(H':Hp),H r=ab->bG H H'->H' r=aa (.lst (mI (gu (jj p q dat))))->Q (.ref r) H')
theorem Hy{f:Addr}(F:iF K "run_by_plan" "run_by_plan" tM f fd)(S:FE K CS)(G:FF K CP)(KO:mg "enumerate"=ab)(Cm:Fn P w K mg base eJ 4 "memory_after_run" Hk (WG K CS CP)):
 dv P w K mg base eJ 5 f fd Hk (QT K CS CP):=by
 refine F.ok w9 fun fA A outer s H vs Q E hr h=>?_
 obtain⟨a,d,l,p,q,dat,rfl,pa,pw,hq,ql,qb,hd,HQ,KU,k⟩:=h
 have fw:=pw.j6
 have nd:=w9.nd
 refine⟨_,bh (jy 3 nd (dG Cm hr (by rfl) (aP (pv 0) (aP (pv 1) (aP (pv 2) bq)))))
  (bh (jy 4 nd (eA bq))
  (bh (eZ bV rfl (pK (by rfl) KO (aP (cu (pv 0) rfl) bq)) (qy rfl (fh (oX 5 nd) (fh (oX 6 nd) mz)))
   (bj (d8 (cR iW (cu (pv 6) rfl) eM (da _))
    (bh (dJ (md cb c7 cZ iN (pv 4) (aP (cu (pv 6) rfl) bq)))
    (bj (dJ (md cb gb f9 pC (pv 4) (aP (BC F5 (pv 3) (sX (dU cT (pv 2) (pv 5) (fun _ _=>rfl))) (sX (fX j3 (dU cT (pv 2) (pv 5) (fun _ _=>rfl)) (cu (pv 6) rfl)))) bq))))) cS)))
  (bj (b8 (pv 4))))),?_⟩
 refine⟨_,rfl,_,rfl,_,rfl,a,d,l,p,q,dat,rfl,pa,pw,hq,ql,qb,hd,HQ,KU,fun m H1 nm s1 hm=>?_⟩
 generalize agD:jM p q dat (xQ p q) p.length=mem at hm
 have XJ:mem.length=i6 p q:=by
  rw[<-agD,yJ];exact ir
 refine⟨by show 0<=bz;decide,fun r Ib=>?_⟩
 have nmr:=bO hm Ib
 have sr:bG H1 (upd H1 r (.lst [])):=bG.new Ib
 obtain⟨dp,ls,lo,bs,os,v⟩:=(pa.same s1).v
 have Ic:=s1.seq hq
 refine⟨_,rfl,a,CP,dp,_,_,rfl,sr _ _ v.ha,G.cl,G.n1,jN,ls,_,rfl,du.of (sr _ _ v.lY),oo (xs:=bs.map V.ref) (fun i σ H'=>Uc fun v5 v6=>σ=[aa (.ref a),aa (.ref d),aa (.ref l),aa (.ref m),aa (.ref r),v5,v6]/\bG H1 H'/\H' r=aa (.lst (mI (xI p q mem i)))) ⟨ab,ab,rfl,sr,ba⟩ (fun i σ H' _ ⟨_,_,_,sm,_⟩=>du.of (sm _ _ v.lY)) ?_ ?_⟩
 ·rintro i x σ H' T hx ⟨v5,v6,rfl,sm,RG⟩ hT
  obtain⟨s0,b,db,lb,hs,rfl,hi,g⟩:=v.ref hx
  have sT:bG H' (upd H' T (.tup [.int (i:Nat),.ref b])):=bG.new hT
  have sA:=sm.trans sT
  have ol:=LQ pw q mem i (by omega)
  have sl:=pw.len s0 (br hs)
  have l0:=iQ hs
  have eo:HZ p i=s0.out:=by
   unfold HZ;rw[hs];rfl
  refine⟨T,_,rfl,wC.of ba,rfl,_,_,rfl,_,_,rfl,rfl,?_⟩
  generalize Yf:upd H' T (.tup [.int (i:Nat),.ref b])=H2 at sT sA
  have hr3:=sT _ _ RG
  refine⟨_,rfl,b,CS,db,_,_,rfl,sA _ _ g,S.cl,S.n1,nU,rfl,_,rfl,?_⟩
  rw[N4 p s0 (fun z=>(pw.inp s0 (br hs) z).1)]
  cases agz:s0.out with
  |false=>
   refine cD ⟨_,_,rfl,sA,?_⟩
   rw[hr3,Av,eo,agz,cP (by decide),ck]
  |true=>
   refine dI ⟨_,rfl,.inl ⟨rfl,_,du.of hr3⟩,_,rfl,b,CS,db,_,_,rfl,sA _ _ g,S.cl,S.n3,iM,r,_,_,rfl,rfl,hr3,by rw[ki,bX];omega,?_⟩
   have EG:bG H1 (upd H2 r (.lst (mI (xI p q mem i)++[.int (s0.length:Int)]))):=bG.put Ib sA
   generalize hH4:upd H2 r (.lst (mI (xI p q mem i)++[.int (s0.length:Int)]))=H4 at EG
   have NJ:H4 r=aa (.lst (mI (xI p q mem i)++[.int (s0.length:Int)])):=by rw[<-hH4,ba]
   have oi:=ud (q:=q) (b:=i) (by omega)
   refine⟨_,rfl,.inl ⟨rfl,_,du.of NJ⟩,_,rfl,_,rfl,_,rfl,l,_,_,_,rfl,rfl,EG.seq Ic,at_of (j:=i) rfl oi,_,rfl,_,rfl,_,rfl,l,_,_,_,rfl,rfl,EG.seq Ic,at_of (j:=i) rfl oi,_,rfl,b,CS,db,_,_,rfl,EG _ _ g,S.cl,S.n3,iM,_,_,rfl,rfl,_,rfl,m,_,rfl,du.of (EG _ _ hm),fun n hn=>?_⟩
   have nrn:=bO NJ hn
   rw[Yx (mem:=mem) (o:=aQ q i) (n:=s0.length) (fun h0=>by rw[XJ,<-l0];exact yK p q i hi (by omega))]
   refine⟨r,n,_,_,rfl,rfl,by rw[bB nrn];exact NJ,ba,?_,?_⟩
   ·rw[bQ,ki,ki,xC,bX]
    show _+1+_<=_
    omega
   refine⟨_,_,rfl,bG.put Ib (EG.trans (bG.new hn)),?_⟩
   rw[ba,Av,eo,agz,c8 rfl,l0]
   unfold mI
   rw[b9,dC,c9]
   rfl
 rintro σ H' ⟨v5,v6,rfl,sm,RG⟩
 refine⟨_,rfl,k r H' (s1.free Ib) (s1.trans sm) ?_⟩
 rw[RG,W2,agD,aV,v.bl]
theorem LG{p:aT}{u:Nat}(h:u<p.length):aQ (cO p) u=sumTo p u:=by
 unfold aQ cO;rw[bK,fj h];rfl
theorem QN(p:aT){u:Nat}:∀{n:Nat},u<n->sumTo p u+aU p u<=sumTo p n
 |0,h=>by omega
 |n+1,h=>by
  rw[Am];by_cases e:u=n
  ·subst e;omega
  have:=QN p (u:=u) (n:=n) (by omega);omega
def Zo(p:aT)(dat:List (Nat×List Int))(done:List (List Int))(s:dQ):List Int:=if s.input=ae then Ae dat done.length else(bw s.length).map fun i=>gH p s (fun u j=>((done[u]?.getD [])[j]?).getD 0) i
def uY(p:aT)(dat:List (Nat×List Int)):Nat->List (List Int)
 |0=>[]
 |n+1=>match p[n]? with
  |some s=>uY p dat n++[Zo p dat (uY p dat n) s]
  |none=>uY p dat n
theorem Ei{p:aT}{n:Nat}(h:p[n]?=aa s):uY p dat (n+1)=uY p dat n++[Zo p dat (uY p dat n) s]:=by
 show(match p[n]? with|some s=>_|none=>_)=_;rw[h]
theorem P2(p:aT)(dat:List (Nat×List Int)):∀n,n<=p.length->(uY p dat n).length=n
 |0,_=>rfl
 |n+1,h=>by
  obtain⟨s,hs⟩:=uT (p:=p) (i:=n) (by omega);rw[Ei hs,bQ,P2 p dat n (by omega)];rfl
theorem P0(p:aT)(dat:List (Nat×List Int)):∀(k a:Nat),a+k=p.length->E3 p dat (p.drop a) (uY p dat a)=uY p dat p.length
 |0,a,h=>by
  rw[Qw (by omega),show p.length=a by omega];rfl
 |k+1,a,h=>by
  have al:a<p.length:=by omega
  rw[dZ al];show E3 p dat (p.drop (a+1)) (uY p dat a++[Zo p dat (uY p dat a) p[a]])=_;rw[<-Ei (bE al)];exact P0 p dat k (a+1) (by omega)
theorem Px{s:dQ}{g g':Nat->Nat->Int}(i:Nat)(h:∀u∈s.uses,∀j,j<aU p u->g u j=g' u j):gH p s g i=gH p s g' i:=by
 unfold gH
 have key:∀u∈s.uses,(if aU p u=0 then(0:Int)else if s.turn=ae then g u (aU p u-1-i%aU p u)else g u (i%aU p u))=(if aU p u=0 then 0 else if s.turn=ae then g' u (aU p u-1-i%aU p u)else g' u (i%aU p u)):=fun u hu=>by
  by_cases h0:aU p u=0
  ·rw[c8 h0,c8 h0]
  have hm:=Ex i (Zc h0);rw[cP h0,cP h0,h u hu _ hm,h u hu _ (by omega)]
 have fold:∀(l:List (Nat×Int))(z:Int),(∀x∈l,x.1∈s.uses)->l.foldl (fun n u=>n+u.2*(if aU p u.1=0 then(0:Int)else if s.turn=ae then g u.1 (aU p u.1-1-i%aU p u.1)else g u.1 (i%aU p u.1))) z=l.foldl (fun n u=>n+u.2*(if aU p u.1=0 then 0 else if s.turn=ae then g' u.1 (aU p u.1-1-i%aU p u.1)else g' u.1 (i%aU p u.1))) z:=fun l=>by
  induction l with
  |nil=>exact fun _ _=>rfl
  |cons x l ih=>
   intro z hx;rw[nO,nO,key x.1 (hx x (bM ..))];exact ih _ fun y hy=>hx y (bC _ hy)
 have:=fold (lG s.uses) 0 fun x hx=>by
  unfold lG at hx;obtain⟨y,hy,e⟩:=dh.mp hx;rw[<-e];obtain⟨n,hn⟩:=cw hy;rw[Ai]at hn;cases hu:s.uses[n]? with
  |none=>rw[hu]at hn;cases hn
  |some u=>
   rw[hu]at hn;cases hn;exact br hu
 show((if s.turn=ae then 11+((i:Nat):Int)else 7)+_)%Zx=((if s.turn=ae then 11+((i:Nat):Int)else 7)+_)%Zx;rw[this]
theorem IC{m:List Int}{k:Nat}(h:k<m.length):d9 (m.set k z) x=if x=k then z else d9 m x:=by
 unfold d9;rw[Zf];by_cases e:k=x
 ·subst e;rw[c8 rfl,c8 h,c8 rfl];rfl
 rw[cP e,cP (de e)]
theorem OL(o:Nat):∀(dat:List Int)(n:Nat)(m:List Int),o+n+dat.length<=m.length->∀x,d9 ((dat.zipIdx n).foldl (fun m y=>m.set (o+y.2) y.1) m) x=if o+n<=x/\x<o+n+dat.length then(dat[x-(o+n)]?).getD 0 else d9 m x
 |[],n,m,_,x=>by
  rw[cP (by simp)];rfl
 |d::dat,n,m,h,x=>by
  rw[cJ]at h;rw[ZC,nO,OL o dat (n+1) _ (by rw[fK];omega) x,cJ];by_cases h1:o+(n+1)<=x/\x<o+(n+1)+dat.length
  ·rw[c8 h1,c8 (by omega),show x-(o+n)=(x-(o+(n+1)))+1 by omega,oH]
  rw[cP h1,IC (by omega)];by_cases h2:x=o+n
  ·rw[c8 h2,c8 (by omega),show x-(o+n)=0 by omega];rfl
  rw[cP h2,cP (by omega)]
theorem Gy{q:List Nat}{s:dQ}:∀(k i:Nat)(m:List Int),i+k=s.length->(0<s.length->aQ q c+s.length<=m.length)->
 (∀u∈s.uses,∀j,j<aU p u->aQ q u+j<aQ q c)->∀x,d9 (ia p q s c k i m) x=if aQ q c+i<=x/\x<aQ q c+s.length then gH p s (fun u j=>d9 m (aQ q u+j)) (x-aQ q c)else d9 m x
 |0,i,m,h,_,_,x=>by
  rw[cP (by omega)];rfl
 |k+1,i,m,h,hb,hu,x=>by
  have Pk:=hb (by omega);show d9 (ia p q s c k (i+1) (m.set (aQ q c+i) (gH p s (fun u j=>d9 m (aQ q u+j)) i))) x=_;rw[Gy k (i+1) _ (by omega) (fun z=>by rw[fK];exact hb z) hu x];by_cases h1:aQ q c+(i+1)<=x/\x<aQ q c+s.length
  ·rw[c8 h1,c8 (by omega)];refine Px _ fun u hm j hj=>?_;rw[IC (by omega),cP (by have:=hu u hm j hj;omega)]
  rw[cP h1,IC (by omega)];by_cases h2:x=aQ q c+i
  ·rw[c8 h2,c8 (by omega),show x-aQ q c=i by omega]
  rw[cP h2,cP (by omega)]
theorem T6(pw:uh p)(HQ:vY p dat)(KU:ow p dat){n:Nat}(hs:p[n]?=aa s)(hi:s.input=ae):(Ae dat n).length=s.length:=by
 obtain⟨mi,mil,ein,inp⟩:=BX pw;unfold ow at KU;rw[ein,cV]at KU;obtain⟨x,hx,e⟩:=fg.mp (KU n (cj.mpr ((inp n s hs).mp hi)));unfold Ae;cases hf:dat.find? fun x=>x.1==n with
 |none=>exact absurd e (kH.mp hf x hx)
 |some y=>
  have:=HQ y (mq hf);have ey:y.1=n:=by simpa using yt hf
  rw[ey,iQ hs]at this;exact this
theorem K7(pw:uh p)(HQ:vY p dat)(KU:ow p dat):∀n,n<=p.length->∀u,u<n->((uY p dat n)[u]?.getD []).length=aU p u/\∀j,j<aU p u->d9 (jM p (cO p) dat (xQ p (cO p)) n) (sumTo p u+j)=(((uY p dat n)[u]?.getD [])[j]?).getD 0
 |0,_,u,h=>by omega
 |n+1,hn,u,hu=>by
  obtain⟨s,hs⟩:=uT (p:=p) (i:=n) (by omega);have al:=P2 p dat n (by omega);have ls:=iQ hs;have ih:=K7 pw HQ KU n (by omega);have ml:(jM p (cO p) dat (xQ p (cO p)) n).length=i6 p (cO p):=by rw[yJ];exact ir
  have on:=LG (p:=p) (u:=n) (by omega)
  have fit:0<s.length->sumTo p n+s.length<=(jM p (cO p) dat (xQ p (cO p)) n).length:=fun h0=>by
   have:=yK p (cO p) n (by omega) (by omega);rw[on,ls]at this;omega
  have agg:(Zo p dat (uY p dat n) s).length=s.length:=by
   unfold Zo;rw[al];split
   ·rename_i hi;exact T6 pw HQ KU hs hi
   simp
  have cells:∀x,d9 (jM p (cO p) dat (xQ p (cO p)) (n+1)) x=if sumTo p n<=x/\x<sumTo p n+s.length then((Zo p dat (uY p dat n) s)[x-sumTo p n]?).getD 0 else d9 (jM p (cO p) dat (xQ p (cO p)) n) x:=fun x=>by
   rw[rJ];unfold EE;rw[hs];show d9 (if s.input=ae then _ else _) x=_;by_cases hi:s.input=ae
   ·rw[c8 hi,on];have dl:=T6 pw HQ KU hs hi
    have ed:Zo p dat (uY p dat n) s=Ae dat n:=by
     unfold Zo;rw[c8 hi,al]
    rw[ed];rcases oC s.length with z|z
    ·have:Ae dat n=[]:=List.eq_nil_of_length_eq_zero (by omega);rw[cP (by omega),this];rfl
    have:=OL (sumTo p n) (Ae dat n) 0 (jM p (cO p) dat (xQ p (cO p)) n) (by have:=fit z;omega) x;rw[Sz,dl]at this;exact this
   rw[cP hi];have us:∀u∈s.uses,u<n:=fun u hu=>pw.uses n s hs u hu
   have ed:Zo p dat (uY p dat n) s=(bw s.length).map fun i=>gH p s (fun u j=>(((uY p dat n)[u]?.getD [])[j]?).getD 0) i:=by
    unfold Zo;rw[cP hi]
   have:=Gy (p:=p) (q:=cO p) (s:=s) (c:=n) s.length 0 (jM p (cO p) dat (xQ p (cO p)) n) (by omega) (by rw[on];exact fit) (fun u hu j hj=>by
    have:=us u hu;rw[LG (by omega),on];have:=QN p this;omega) x
   rw[on,Sz]at this;rw[this];by_cases hx:sumTo p n<=x/\x<sumTo p n+s.length
   ·rw[c8 hx,c8 hx,ed,bK,fj (by omega)];show _=gH p s (fun u j=>(((uY p dat n)[u]?.getD [])[j]?).getD 0) (x-sumTo p n);refine Px _ fun u hu j hj=>?_;have ul:=us u hu;rw[LG (by omega)];exact(ih u ul).2 j hj
   rw[cP hx,cP hx]
  rw[Ei hs];by_cases e:u=n
  ·subst e;rw[hJ (by omega),al,FQ];refine⟨agg.trans ls.symm,fun j hj=>?_⟩;rw[cells,c8 (by omega),show sumTo p u+j-sumTo p u=j by omega];rfl
  rw[eV (by omega)];refine⟨(ih u (by omega)).1,fun j hj=>?_⟩;rw[cells,cP (by have:=QN p (show u<n by omega);omega)];exact(ih u (by omega)).2 j hj
theorem K6(pw:uh p)(HQ:vY p dat)(KU:ow p dat):jj p (cO p) dat=qL p dat:=by
 unfold jj qL;have e:E3 p dat p []=uY p dat p.length:=P0 p dat p.length 0 (by omega);rw[W0,e];refine dj fun a ha=>?_
 have al:a<p.length:=by
  unfold Vaarrl.outs at ha;exact cj.mp (cH.mp ha).1
 obtain⟨h1,h2⟩:=K7 pw HQ KU p.length (bu _) a al;refine jq (by rw[xC,h1]) fun j hj1 hj2=>?_;have hj:j<aU p a:=by rw[xC]at hj1;exact hj1
 have:=h2 j hj;rw[bE hj2]at this
 have e2:(kR (jM p (cO p) dat (xQ p (cO p)) p.length) (aQ (cO p) a) (aU p a))[j]?=aa (d9 (jM p (cO p) dat (xQ p (cO p)) p.length) (sumTo p a+j)):=by
  unfold kR;rw[bK,fj hj,LG al];rfl
 rw[this]at e2;exact bR ((bE hj1).symm.trans e2)
theorem zq{f CR:Addr}(F:iF K "__init__" "BeyondLimit.__init__" mX f fd)(R:RF P w K mg base CR fR TY):dv P w K mg base eJ 2 f fd dR (iK K (-6)):=by
 refine F.ok zf fun fA A outer s H vs Q E hr h=>?_;obtain⟨a,C,f,rfl,ha,m,na,k⟩:=h;refine⟨_,bj (dJ (ma R.rd R.sp R.fc R.kp R.G hr rfl R.Zk R.b .nil rN (aP (pv 0) (aP (xH rk cE) bq)))),?_⟩;exact⟨_,rfl,6,rfl,a,C,f,_,rfl,ha,m,na,k⟩
theorem xM{f CR:Addr}(F:iF K "__init__" "ClashingPlan.__init__" lX f fd)(R:RF P w K mg base CR fR TY):dv P w K mg base eJ 2 f fd dR (iK K (-7)):=by
 refine F.ok xt fun fA A outer s H vs Q E hr h=>?_;obtain⟨a,C,f,rfl,ha,m,na,k⟩:=h;refine⟨_,bj (dJ (ma R.rd R.sp R.fc R.kp R.G hr rfl R.Zk R.b .nil rN (aP (pv 0) (aP (xH rk cE) bq)))),?_⟩;exact⟨_,rfl,7,rfl,a,C,f,_,rfl,ha,m,na,k⟩
theorem zr{f CR:Addr}(F:iF K "__init__" "AbsentInput.__init__" mY f fd)(R:RF P w K mg base CR fR TY):dv P w K mg base eJ 2 f fd dR (iK K (-8)):=by
 refine F.ok zh fun fA A outer s H vs Q E hr h=>?_;obtain⟨a,C,f,rfl,ha,m,na,k⟩:=h;refine⟨_,bj (dJ (ma R.rd R.sp R.fc R.kp R.G hr rfl R.Zk R.b .nil rN (aP (pv 0) (aP (xH rk cE) bq)))),?_⟩;exact⟨_,rfl,8,rfl,a,C,f,_,rfl,ha,m,na,k⟩
theorem BK{f CR:Addr}(F:iF K "__init__" "WrongData.__init__" pj f fd)(R:RF P w K mg base CR fR TY):dv P w K mg base eJ 2 f fd dR (iK K (-9)):=by
 refine F.ok Bu fun fA A outer s H vs Q E hr h=>?_;obtain⟨a,C,f,rfl,ha,m,na,k⟩:=h;refine⟨_,bj (dJ (ma R.rd R.sp R.fc R.kp R.G hr rfl R.Zk R.b .nil rN (aP (pv 0) (aP (xH rk cE) bq)))),?_⟩;exact⟨_,rfl,9,rfl,a,C,f,_,rfl,ha,m,na,k⟩
def W4(a b:V):aq:=[("program",a),("data",b)]
structure Ql(K:aX)(C:Addr):Prop where
 cl:Gj K C
 n1:eQ K C "program"
 n2:eQ K C "data"
theorem abI{b:V}:(W4 a b).lookup ("program":Str)=aa a:=rfl
theorem Ta{b:V}:(W4 a b).lookup ("data":Str)=aa b:=rfl
def IG(CS CP:Addr)(H:Hp)(pv:V)(s:cx):Prop:=match s.program with
 |none=>pv=.j5/\s.data=[]
 |some p=>∃a,pv=.ref a/\jH CS CP H a p/\uh p/\vY p s.data/\∀x∈s.data,x.1∈dw p
inductive iE(CS CP CR:Addr)(H:Hp)(r:Addr)(s:cx):Prop
 |mk (dx:_) (d:_) (pv:_) (_:H r=aa (.ins CR dx (W4 pv (.ref d)))) (_:IG CS CP H pv s) (_:CO H d s.data)
theorem IG.same{H H':Hp}{pv:V}(h:IG CS CP H pv s)(sm:bG H H'):IG CS CP H' pv s:=by
 unfold IG at h⊢;split at h
 ·exact h
 obtain⟨a,e,pa,r⟩:=h;exact⟨a,e,pa.same sm,r⟩
theorem iE.same{CR:Addr}{H H':Hp}(h:iE CS CP CR H r s)(sm:bG H H'):iE CS CP CR H' r s:=
 let⟨dx,d,pv,h1,h2,h3⟩:=h
 ⟨dx,d,pv,sm _ _ h1,h2.same sm,h3.same sm⟩
def FD(H:Hp)(Q:VK)(z:List Int):Prop:=∀l H',H l=ab->bG H H'->H' l=aa (.lst (mI z))->Q (.ref l) H'
def qe(E:XK)(H:Hp)(CN:Addr)(s:cx)(f:aT->Prop):Prop:=match s.program with
 |none=>jC E H CN [("number",.int (-4))]
 |some p=>f p
inductive Om(C:Addr)(vs:ao)(H:Hp)(Q:VK)(z':XK):Prop
 |mk (a dx:Addr) (_:vs=[.ref a]) (_:H a=aa (.ins C dx [])) (_:∀d,H d=ab->Q .j5 (upd (upd H d (.dK [])) a (.ins C dx (W4 .j5 (.ref d)))))
inductive rl(CS CP CR CN:Addr)(vs:ao)(H:Hp)(Q:VK)(E:XK):Prop
 |mk (r:Addr) (s:cx) (_:vs=[.ref r]/\iE CS CP CR H r s/\qe E H CN s fun p=>∀a,jH CS CP H a p->uh p->vY p s.data->Q (.ref a) H)
inductive GR(CS CP CR CN:Addr)(vs:ao)(H:Hp)(Q:VK)(E:XK):Prop
 |mk (r:Addr) (s:cx) (_:vs=[.ref r]) (_:iE CS CP CR H r s) (_:qe E H CN s fun p=>FD H Q [((FK p:Nat):Int)])
theorem JB{f:Addr}(F:iF K "__init__" "Rooms.__init__" vF f fd)(T:Ql K C):dv P w K mg base eJ 1 f fd dR (Om C):=by
 refine F.ok Jn fun fA A outer s H vs Q E hr h=>?_;obtain⟨a,dx,rfl,ha,q⟩:=h;refine⟨_,bh (lr (pv 0) adg rfl) (bj (lr (pv 0) BD rfl)),?_⟩;refine⟨_,rfl,a,C,dx,_,rfl,ha,T.cl,T.n1,(by show 0<1000;decide),?_⟩;intro d hd;have nda:a≠d:=fun z=>by rw[<-z,ba]at hd;cases hd
 have dH:H d=ab:=by rw[bB (de nda)]at hd;exact hd
 refine⟨_,rfl,a,C,dx,_,rfl,by rw[bB nda,ba],T.cl,T.n2,(by show 1<1000;decide),?_⟩;have:=q d dH
 have e:upd (upd (upd H a (.ins C dx [("program",.j5)])) d (.dK [])) a (.ins C dx (W4 .j5 (.ref d)))=upd (upd H d (.dK [])) a (.ins C dx (W4 .j5 (.ref d))):=by
  funext x;by_cases z:x=a
  ·subst z;rw[ba,ba]
  rw[bB z,bB z];by_cases y:x=d
  ·subst y;rw[ba,ba]
  rw[bB y,bB y,bB z]
 rw[<-e]at this;exact this
theorem Fi{f CR:Addr}(F:iF K "held_program" "Rooms.held_program" lj f fd)(T:Ql K CR)(M:Ec P w K mg base "NoProgram" CN dR (iK K (-4))):dv P w K mg base (k4 P w) 4 f fd dR (rl CS CP CR CN):=by
 refine DT F wK fun fA A outer s H vs Q E hr h=>?_;obtain⟨r,s0,rfl,⟨dx,d,NH,h1,h2,h3⟩,q⟩:=h;refine⟨_,bh (d8 (DG (adk (cu (pv 0) rfl))) (bj (kF kZ rfl (uc M hr (by rfl)))) cS) (bj (b8 (cu (pv 0) rfl))),?_⟩;refine⟨_,rfl,r,CR,dx,_,_,rfl,h1,T.cl,T.n1,abI,_,rfl,?_⟩;unfold IG at h2;unfold qe at q;cases hp:s0.program with
 |none=>
  rw[hp]at h2 q;obtain⟨rfl,_⟩:=h2;exact dI (jZ M q)
 |some p=>
  rw[hp]at h2 q;obtain⟨a,rfl,pa,pw,ln,_⟩:=h2;exact cD ⟨_,rfl,r,CR,dx,_,_,rfl,h1,T.cl,T.n1,abI,q a pa pw ln⟩
theorem Rk{f CR:Addr}(F:iF K "need" "Rooms.need" vC f fd)(T:Ql K CR)(Mh:Me P w K mg base (k4 P w) 4 CR "held_program" dR (rl CS CP CR CN))(Cn:Fn P w K mg base eJ 4 "needed_at_least" jT (SY CS CP)):
 dv P w K mg base (k4 P w) 5 f fd dR (GR CS CP CR CN):=by
 refine DT F Jm fun fA A outer s H vs Q E hr h=>?_
 obtain⟨r,s0,rfl,ra,q⟩:=h
 obtain⟨dx,d,NH,h1,_⟩:=id ra
 refine⟨_,bj (b8 (eA (aP (dG Cn hr (by rfl) (aP (jh kZ T.cl Mh hr (pv 0)) bq)) bq))),?_⟩
 refine⟨_,rfl,r,dx,_,rfl,h1,rfl,r,s0,rfl,ra,?_⟩
 unfold qe at q⊢
 cases hp:s0.program with
 |none=>
  rw[hp]at q
  exact q
 |some p=>
  rw[hp]at q
  intro a pa pw _
  exact⟨a,p,rfl,pa,pw,fun H' sm=>⟨by show 1<=bz;decide,fun l hl=>q l _ (sm.free hl) (sm.trans (bG.new hl)) ba⟩⟩
theorem yS{ns:List Int}(h:¬iy p ns):mI ns=tx (ns.map fun n=>n.toNat)/\(ns.map fun n=>n.toNat).length=p.length/\∀x∈(ns.map fun n=>n.toNat),x<=10000:=by
 unfold iy at h;have h1:=eO fun z=>h (.inl z)
 have h2:ns.all (fun n=>decide (0<=n)&&decide (n<=10000))=ae:=by
  cases hh:ns.all (fun n=>decide (0<=n)&&decide (n<=10000))with
  |true=>rfl
  |false=>exact(h (.inr hh)).elim
 rw[cV]at h2;have h3:∀n∈ns,0<=n/\n<=10000:=fun n hn=>by simpa using h2 n hn
 refine⟨?_,by rw[aV,h1],fun x hx=>?_⟩
 ·unfold mI tx;rw[dA];refine dj fun n hn=>?_;show V.int n=V.int ((n.toNat:Nat):Int);rw[CV (h3 n hn).1]
 obtain⟨n,hn,rfl⟩:=dh.mp hx;have:=h3 n hn;omega
theorem SI(q:List Nat):tx q=mI (q.map fun(n:Nat)=>(n:Int)):=txI q
def pQ(E:XK)(H:Hp)(CN CW:Addr)(s:cx)(ns:List Int)(f:aT->List Nat->Prop):Prop:=qe E H CN s fun p=>if iy p ns then jC E H CW [("number",.int (-5))]else f p (ns.map fun n=>n.toNat)
inductive GO(K:aX)(CS CP CR CN CW:Addr)(vs:ao)(H:Hp)(Q:VK)(E:XK):Prop
 |mk (r l:Addr) (s:cx) (ns:List Int) (_:vs=[.ref r,.ref l]) (_:iE CS CP CR H r s) (_:du K H l (mI ns)) (_:pQ E H CN CW s ns fun p q=>FD H Q [((i6 p q:Nat):Int)])
def MX(p:aT)(q:List Nat):List Int:=match fz p q with
 |none=>[0]
 |some x=>[1,(x.1:Int),(x.2:Int)]
inductive Dt(K:aX)(CS CP CR CN CW:Addr)(vs:ao)(H:Hp)(Q:VK)(E:XK):Prop
 |mk (r l:Addr) (s:cx) (ns:List Int) (_:vs=[.ref r,.ref l]) (_:iE CS CP CR H r s) (_:du K H l (mI ns)) (_:pQ E H CN CW s ns fun p q=>FD H Q (MX p q))
theorem Rh{f CR:Addr}(F:iF K "room" "Rooms.room" vz f fd)(T:Ql K CR)(Mh:Me P w K mg base (k4 P w) 4 CR "held_program" dR (rl CS CP CR CN))(Cl:Fn P w K mg base (k4 P w) 4 "look_at_plan" xF (GX K CS CP CW))(Cr:Fn P w K mg base eJ 1 "room_of" xF (QU K CS CP)):
 dv P w K mg base (k4 P w) 5 f fd wm (GO K CS CP CR CN CW):=by
 refine DT F zQ fun fA A outer s H vs Q E hr h=>?_
 obtain⟨r,l,s0,ns,rfl,ra,hn,q⟩:=h
 obtain⟨dx,d,NH,h1,_⟩:=id ra
 have nd:=zQ.nd
 refine⟨_,bh (jy 2 nd (jh kZ T.cl Mh hr (pv 0)))
  (bh (dJ (rM Cl kZ hr (by rfl) (aP (pv 2) (aP (pv 1) bq))))
  (bj (b8 (eA (aP (dG Cr (hr.mono (by decide)) (by rfl) (aP (pv 2) (aP (pv 1) bq))) bq))))),?_⟩
 refine⟨_,rfl,r,dx,_,rfl,h1,rfl,r,s0,rfl,ra,?_⟩
 unfold pQ qe at q
 unfold qe
 cases hp:s0.program with
 |none=>
  rw[hp]at q
  exact q
 |some p=>
  rw[hp]at q
  intro a pa pw _
  refine⟨_,rfl,_,rfl,a,l,p,ns,rfl,pa,hn,?_⟩
  by_cases hb:iy p ns
  ·have q:if iy p ns then _ else _:=q
   rw[c8 hb]at q⊢
   exact q
  have q:if iy p ns then _ else _:=q
  rw[cP hb]at q⊢
  obtain⟨g1,g2,g3⟩:=yS hb
  rw[g1]at hn
  exact⟨_,rfl,_,rfl,a,l,p,_,rfl,pa,pw,hn,g2,fun H' sm=>⟨by show 1<=bz;decide,fun n hl=>q n _ (sm.free hl) (sm.trans (bG.new hl)) ba⟩⟩
theorem OW{f CR:Addr}(F:iF K "check" "Rooms.check" tY f fd)(T:Ql K CR)(hl:mg "len"=ab)(Mh:Me P w K mg base (k4 P w) 4 CR "held_program" dR (rl CS CP CR CN))(Cl:Fn P w K mg base (k4 P w) 4 "look_at_plan" xF (GX K CS CP CW))(Cf:Fn P w K mg base eJ 4 "first_clash" xF (acX K CS CP)):
 dv P w K mg base (k4 P w) 5 f fd wm (Dt K CS CP CR CN CW):=by
 refine DT F xp fun fA A outer s H vs Q E hr h=>?_
 obtain⟨r,l,s0,ns,rfl,ra,hn,q⟩:=h
 obtain⟨dx,d,NH,h1,_⟩:=id ra
 have nd:=xp.nd
 refine⟨_,bh (jy 2 nd (jh kZ T.cl Mh hr (pv 0)))
  (bh (dJ (rM Cl kZ hr (by rfl) (aP (pv 2) (aP (pv 1) bq))))
  (bh (jy 3 nd (dG Cf hr (by rfl) (aP (pv 2) (aP (pv 1) bq))))
  (bh (d8 (cR iW (dB cI (by rfl) hl cv (aP (pv 3) bq)) cE (da _)) (bj (b8 (eA (aP cE bq)))) cS)
  (bj (b8 (fX xJ (eA (aP cE bq)) (pv 3))))))),?_⟩
 refine⟨_,rfl,r,dx,_,rfl,h1,rfl,r,s0,rfl,ra,?_⟩
 unfold pQ qe at q
 unfold qe
 cases hp:s0.program with
 |none=>
  rw[hp]at q
  exact q
 |some p=>
  rw[hp]at q
  intro a pa pw _
  refine⟨_,rfl,_,rfl,a,l,p,ns,rfl,pa,hn,?_⟩
  by_cases hb:iy p ns
  ·have q:if iy p ns then _ else _:=q
   rw[c8 hb]at q⊢
   exact q
  have q:if iy p ns then _ else _:=q
  rw[cP hb]at q⊢
  obtain⟨g1,g2,g3⟩:=yS hb
  rw[g1]at hn
  generalize hQ:(ns.map fun n=>n.toNat)=qs at q hn g2
  refine⟨_,rfl,_,rfl,a,l,p,qs,rfl,pa,pw,hn,g2,fun b H' nb sm Pk=>?_⟩
  refine⟨_,rfl,b,_,rfl,.inl (du.of Pk),rfl,_,rfl,?_⟩
  have q:=q
  unfold MX at q
  unfold Iq at Pk⊢
  cases hf:fz p qs with
  |none=>
   rw[hf]at q
   exact dI ⟨by show 1<=bz;decide,fun n hl=>q n _ (sm.free hl) (sm.trans (bG.new hl)) ba⟩
  |some x=>
   rw[hf]at q Pk
   refine cD ⟨by show 1<=bz;decide,fun n hl=>⟨_,rfl,n,b,_,_,rfl,rfl,ba,by rw[bB (bO Pk hl)];exact Pk,by show 1+2<=bz;decide,fun n2 uq=>?_⟩⟩
   exact q n2 _ (sm.free ((bG.new hl).free uq)) ((sm.trans (bG.new hl)).trans (bG.new uq)) ba
def GK(CS CP:Addr):Sp:=Ou CS CP fun p H Q=>∀r H' (ts:ag),bG H H'->H' r=aa (.lst (ts.map V.ref))->ts.length=p.length->(∀i,i<p.length->∃t,ts[i]?=aa t/\H' t=aa (.tup [.int (bD p i:Nat),.int (di p i:Nat)]))->Q (.ref r) H'
theorem U1(CS CP:Addr)(vs:ao)(H:Hp)(Q:VK)(E:XK)(h:Bp CS CP vs H Q E):GK CS CP vs H Q E:=by
 obtain⟨a,p,rfl,pa,pw,q⟩:=h;exact⟨a,p,rfl,pa,pw,fun r H' ts s e _ f=>q r H' s ⟨ts,e,f⟩⟩
def D0(p:aT)(n:Nat):List Int:=0::((bw n).flatMap fun a=>[bD p a,di p a]).map fun(n:Nat)=>(n:Int)
theorem ER(p:aT)(n:Nat):D0 p (n+1)=D0 p n++[((bD p n:Nat):Int),((di p n:Nat):Int)]:=by
 unfold D0;rw[eY,sd,b9];rfl
theorem HN(p:aT):∀n,(D0 p n).length=1+2*n
 |0=>rfl
 |n+1=>by
  rw[ER,bQ,HN p n];show _+2=_;omega
inductive GU(CS CP CR CN:Addr)(vs:ao)(H:Hp)(Q:VK)(E:XK):Prop
 |mk (r:Addr) (s:cx) (_:vs=[.ref r]) (_:iE CS CP CR H r s) (_:qe E H CN s fun p=>FD H Q (D0 p p.length))
theorem Fh{f:Addr}(F:iF K "live_ranges" "live_ranges" tR f fd)(hz:mg "zip"=ab)(NK:mg "list"=ab)
 (Cf:Fn P w K mg base eJ 1 "first_times" jT (GL CS CP))(Cl:Fn P w K mg base eJ 2 "last_times" jT (S0 CS CP)):dv P w K mg base eJ 3 f fd jT (GK CS CP):=by
 refine F.ok G9 fun fA A outer s H vs Q E hr h=>?_
 obtain⟨a,p,rfl,pa,pw,q⟩:=h
 have fw:=pw.j6
 refine⟨_,bj (b8 (aab rfl (by rfl) NK (by rfl) hz (aP (dG Cf (hr.mono (by decide)) (by rfl) (aP (pv 0) bq)) (aP (dG Cl hr (by rfl) (aP (pv 0) bq)) bq)))),?_⟩
 refine⟨_,rfl,a,p,rfl,pa,pw,fun l1 H1 n1 s1 e1=>?_⟩
 refine⟨_,rfl,a,p,rfl,pa.same s1,pw,fun l2 H2 n2 s2 e2=>?_⟩
 refine⟨l1,l2,_,_,rfl,du.of (s2 _ _ e1),du.of e2,by rw[ee,ee,aV,aV],by rw[ee,aV,bZ];omega,fun l ts H3 _ s3 hl pr=>?_⟩
 have tl:ts.length=p.length:=by
  have:=dM pr;rw[yr,ee,ee,aV,aV,bZ,FT]at this;exact this
 refine q l H3 ts ((s1.trans s2).trans s3) hl tl fun i hi=>?_
 obtain⟨t,ht,e⟩:=uH (b:=(V.int (bD p i:Nat),V.int (di p i:Nat))) pr (by
  rw[mw];unfold tx;rw[bK,bK,bK,bK,fj hi];exact⟨rfl,rfl⟩)
 exact⟨t,ht,e⟩
theorem Rm{f CR:Addr}(F:iF K "live" "Rooms.live" vE f fd)(T:Ql K CR)(Mh:Me P w K mg base (k4 P w) 4 CR "held_program" dR (rl CS CP CR CN))(Cl:Fn P w K mg base eJ 3 "live_ranges" jT (GK CS CP)):
 dv P w K mg base (k4 P w) 5 f fd dR (GU CS CP CR CN):=by
 refine DT F zU fun fA A outer s H vs Q E hr h=>?_
 obtain⟨r,s0,rfl,ra,q⟩:=h
 have nd:=zU.nd
 refine⟨_,bh (jy 1 nd (eA (aP cE bq)))
  (bh (eZ (Hs kZ) rfl (fP (dG Cl (hr.mono (by decide)) (by rfl) (aP (jh kZ T.cl Mh hr (pv 0)) bq))) (qy rfl (fh (oX 2 nd) (fh (oX 3 nd) mz)))
   (bj (dJ (md cb gb f9 pC (pv 1) (aP (eA (aP (pv 2) (aP (pv 3) bq))) bq)))))
  (bj (b8 (pv 1)))),?_⟩
 refine⟨by show 1<=bz;decide,fun n hn=>?_⟩
 have s1:bG H (upd H n (.lst [V.int 0])):=bG.new hn
 have ra1:=ra.same s1
 obtain⟨dx,d,NH,h1,_⟩:=id ra1
 refine⟨_,rfl,r,dx,_,rfl,h1,rfl,r,s0,rfl,ra1,?_⟩
 unfold qe at q⊢
 cases hp:s0.program with
 |none=>
  rw[hp]at q
  exact jC.on q s1
 |some p=>
  rw[hp]at q
  intro a pa pw _
  have fw:=pw.j6
  refine⟨a,p,rfl,pa,pw,fun g H2 ts s2 hg tl ft=>?_⟩
  have sH:=s1.trans s2
  have zt:=s2 _ _ ba
  have ngn:g≠n:=fun z=>by
   rw[z,zt]at hg;have:=HO.lst.inj (bR hg);cases ts with
   |nil=>cases this
   |cons t ts=>cases this
  have ntn:∀{t:Addr}{xs:ao},H2 t=aa (.tup xs)->t≠n:=fun e=>lB e zt (by intro z;cases z)
  refine⟨g,rfl,⟨_,du.of hg⟩,fZ (K:=K) (a:=g) (xs:=ts.map V.ref) (fun i σ H'=>Uc fun v2 v3=>σ=[aa (.ref r),aa (.ref n),v2,v3]/\qE n H2 H'/\H' n=aa (.lst (mI (D0 p i)))) ⟨ab,ab,rfl,fun _ _ _ e=>e,zt⟩ (fun i σ H' _ ⟨_,_,_,bt,_⟩=>du.of (bt _ _ ngn hg)) ?_ ?_⟩
  ·rintro i y σ H' hy ⟨v2,v3,rfl,bt,hn3⟩
   have il:i<p.length:=by
    have:=(aZ.mp hy).1;rw[aV,tl]at this;exact this
   obtain⟨t,ht,et⟩:=ft i il
   have ey:y=V.ref t:=by
    rw[iu ht]at hy;exact(bR hy).symm
   subst ey
   have et':=bt _ _ (ntn et) et
   refine⟨t,_,rfl,wC.of et',rfl,_,_,rfl,_,_,rfl,rfl,?_⟩
   refine⟨_,rfl,.inl ⟨rfl,_,du.of hn3⟩,_,rfl,_,rfl,by show 2<=bz;decide,fun b hb=>?_⟩
   have nb:=bO hn3 hb
   refine⟨n,b,_,_,rfl,rfl,by rw[bB nb];exact hn3,ba,?_,?_⟩
   ·rw[ki,HN,bX]
    show _+2<=_
    omega
   refine⟨aa (.int (bD p i:Nat)),aa (.int (di p i:Nat)),rfl,fun c o nc e=>?_,?_⟩
   ·have:=bt c o nc e
    rw[bB nc,bB (bO this hb)]
    exact this
   rw[ba,ER]
   unfold mI
   rw[b9]
   rfl
  rintro σ H' ⟨v2,v3,rfl,bt,hn3⟩
  rw[aV,tl]at hn3
  refine⟨_,rfl,q n H' hn (fun b o e=>bt b o (bO e hn) (sH _ _ e)) hn3⟩
theorem aaM{H:Hp}{d:Addr}{dat:List (Nat×List Int)}{ef:List (Key×V)}(f:∀n:Nat,match dat.find? fun x=>x.1==n with
 |none=>l6 ef (cM (n:Int))=ab
 |some x=>∃b,l6 ef (cM (n:Int))=aa (.ref b)/\H b=aa (.lst (mI x.2)))(n:Nat):(l6 ef (cM (n:Int))).isSome=dat.any fun x=>x.1==n:=by
 have h:=f n
 cases hf:dat.find? fun x=>x.1==n with
 |none=>
  rw[hf]at h
  have h:l6 ef (cM (n:Int))=ab:=h
  rw[h]
  exact(hX.mpr (kH.mp hf)).symm
 |some x=>
  rw[hf]at h
  obtain⟨b,e,_⟩:=h
  rw[e]
  have hx:(x.1==n)=ae:=by simpa using yt hf
  exact(fg.mpr ⟨x,mq hf,hx⟩).symm
theorem Gd(pw:uh p)(q:List Nat)(dat:List (Nat×List Int)):(gu (jj p q dat)).length<=1560:=by
 rw[W2];have:=LQ pw q (jM p q dat (xQ p q) p.length) p.length (bu _);have:=pw.j6;omega
theorem Og(pw:uh p):∀a,a<=p.length->sumTo p a<=64*a
 |0,_=>by unfold sumTo;simp
 |a+1,h=>by
  rw[Am];have:=Og pw a (by omega);obtain⟨s,hs⟩:=uT (p:=p) (i:=a) (by omega);have l:=pw.len s (br hs);rw[iQ hs];omega
theorem Q1(pw:uh p):(cO p).length=p.length/\∀x∈cO p,x<=10000:=by
 refine⟨by unfold cO;simp,fun x hx=>?_⟩;unfold cO at hx;obtain⟨a,ha,rfl⟩:=dh.mp hx;have al:=cj.mp ha;have:=Og pw a (by omega);have:=pw.j6;show sumTo p a<=_;omega
inductive WI(CS CP CR CM:Addr)(vs:ao)(H:Hp)(Q:VK)(E:XK):Prop
 |mk (r a:Addr) (s:cx) (p:aT) (_:vs=[.ref r,.ref a]) (_:iE CS CP CR H r s) (_:jH CS CP H a p) (_:uh p) (_:if eB s p=af then jC E H CM [("number",.int (-10))]else∀H',bG H H'->Q .j5 H')
inductive Lu(K:aX)(CS CP CR CN CW CM:Addr)(vs:ao)(H:Hp)(Q:VK)(E:XK):Prop
 |mk (r l:Addr) (s:cx) (ns:List Int) (_:vs=[.ref r,.ref l]) (_:iE CS CP CR H r s) (_:du K H l (mI ns)) (_:pQ E H CN CW s ns fun p q=>if eB s p=af then jC E H CM [("number",.int (-10))]else FD H Q (0::gu (jj p q s.data)))
inductive Du(CS CP CR CN CM:Addr)(vs:ao)(H:Hp)(Q:VK)(E:XK):Prop
 |mk (r:Addr) (s:cx) (_:vs=[.ref r]) (_:iE CS CP CR H r s) (_:qe E H CN s fun p=>if eB s p=af then jC E H CM [("number",.int (-10))]else FD H Q (0::gu (qL p s.data)))
theorem DP{f CS CP CR CM:Addr}{fd:gx}(F:iF K "look_for_data" "Rooms.look_for_data" kO f fd)(T:Ql K CR)(M:Ec P w K mg base "MissingData" CM dR (iK K (-10)))(Ci:Fn P w K mg base eJ 1 "input_numbers" jT (w6 CS CP)):
 dv P w K mg base (k4 P w) 4 f fd ["self","program"] (WI CS CP CR CM):=by
 refine DT F nX fun fA A outer s H vs Q E hr h=>?_
 obtain⟨r,a,s0,p,rfl,ra,pa,pw,q⟩:=h
 have fw:=pw.j6
 have hu:=Pe hr
 have nd:=nX.nd
 refine⟨_,bj (eZ (Hs kZ) rfl (fP (dG Ci (hr.mono (by decide)) (by rfl) (aP (pv 1) bq))) (oX 2 nd)
  (bj (d8 (DG (DJ hu (pv 2) (cu (pv 0) rfl))) (bj (kF kZ rfl (uc M hr (by rfl)))) cS))),?_⟩
 refine⟨_,rfl,a,p,rfl,pa,fw,fun li H1 nli s1 NK=>?_⟩
 obtain⟨dx,d,NH,h1,_,ef,hk,_,fk⟩:=ra.same s1
 refine⟨li,rfl,⟨_,du.of NK⟩,fZ (K:=K) (a:=li) (xs:=tx (dw p)) (fun i σ H'=>H'=H1/\(((dw p).take i).all fun a=>s0.data.any fun x=>x.1==a)=ae/\∃v2,σ=[aa (.ref r),aa (.ref a),v2]) ⟨rfl,rfl,ab,rfl⟩ (fun i σ H' _ ⟨e,_⟩=>by rw[e];exact du.of NK) ?_ ?_⟩
 ·rintro i y σ H' hi ⟨rfl,al,v2,rfl⟩
  obtain⟨n,hn,rfl⟩:=mJ hi
  refine⟨_,rfl,_,rfl,r,CR,dx,_,_,rfl,h1,T.cl,T.n2,Ta,d,_,rfl,zB.k (k:=cM (n:Int)) hk,_,rfl,?_⟩
  rw[aaM (H:=H') (d:=d) fk]
  cases hd:s0.data.any fun x=>x.1==n with
  |false=>
   have:eB s0 p=af:=by
    unfold eB;cases hg:((dw p).all fun a=>s0.data.any fun x=>x.1==a)with
    |false=>rfl
    |true=>
     have:=cV.mp hg n (br hn);rw[hd]at this;cases this
   rw[c8 this]at q
   exact dI (jZ M (jC.on q s1))
  |true=>
   refine cD ⟨rfl,?_,_,rfl⟩
   rw[take_snoc hn,Jg,al]
   simp[hd]
 rintro σ H' ⟨rfl,al,v2,rfl⟩
 rw[ee,dy]at al
 have:¬eB s0 p=af:=by
  unfold eB;rw[al];decide
 rw[cP this]at q
 exact q H' s1
theorem US{f CR:Addr}(F:iF K "run" "Rooms.run" xB f fd)(T:Ql K CR)(Mh:Me P w K mg base (k4 P w) 4 CR "held_program" dR (rl CS CP CR CN))(Cl:Fn P w K mg base (k4 P w) 4 "look_at_plan" xF (GX K CS CP CW))(Md:Me P w K mg base (k4 P w) 4 CR "look_for_data" ["self","program"] (WI CS CP CR CM))(Cr:Fn P w K mg base eJ 5 "run_by_plan" Hk (QT K CS CP)):
 dv P w K mg base (k4 P w) 6 f fd wm (Lu K CS CP CR CN CW CM):=by
 refine DT F Bw fun fA A outer s H vs Q E hr h=>?_
 obtain⟨r,l,s0,ns,rfl,ra,hn,q⟩:=h
 obtain⟨dx,d,NH,h1,_,hd⟩:=id ra
 have nd:=Bw.nd
 have NJ:gG 4 _:=hr.mono (by decide)
 refine⟨_,bh (jy 2 nd (jh kZ T.cl Mh NJ (pv 0)))
  (bh (dJ (rM Cl kZ NJ (by rfl) (aP (pv 2) (aP (pv 1) bq))))
  (bh (dJ (kP kZ T.cl Md NJ (pv 0) (aP (pv 2) bq)))
  (bj (b8 (fX xJ (eA (aP cE bq)) (dG Cr hr (by rfl) (aP (pv 2) (aP (cu (pv 0) rfl) (aP (pv 1) bq))))))))),?_⟩
 refine⟨_,rfl,r,dx,_,rfl,h1,rfl,r,s0,rfl,ra,?_⟩
 unfold pQ qe at q
 unfold qe
 cases hp:s0.program with
 |none=>
  rw[hp]at q
  exact q
 |some p=>
  rw[hp]at q
  intro a pa pw ln
  refine⟨_,rfl,_,rfl,a,l,p,ns,rfl,pa,hn,?_⟩
  by_cases hb:iy p ns
  ·have q:if iy p ns then _ else _:=q
   rw[c8 hb]at q⊢
   exact q
  have q:if iy p ns then _ else _:=q
  rw[cP hb]at q⊢
  obtain⟨g1,g2,g3⟩:=yS hb
  rw[g1]at hn
  generalize hQ:(ns.map fun n=>n.toNat)=qs at q hn g2 g3
  refine⟨_,rfl,r,dx,_,rfl,h1,rfl,_,rfl,r,a,s0,p,rfl,ra,pa,pw,?_⟩
  by_cases hg:eB s0 p=af
  ·rw[c8 hg]
   rw[c8 hg]at q
   exact q
  rw[cP hg]
  rw[cP hg]at q
  have KU:ow p s0.data:=by
   unfold ow;unfold eB at hg;exact E6 _|>.mp hg
  intro H1 s1
  refine⟨by show 1<=bz;decide,fun n hn1=>?_⟩
  have s2:bG H1 (upd H1 n (.lst [V.int 0])):=bG.new hn1
  have IY:=s1.trans s2
  refine⟨_,rfl,_,rfl,r,CR,dx,_,_,rfl,IY _ _ h1,T.cl,T.n2,Ta,_,rfl,a,d,l,p,qs,s0.data,rfl,pa.same IY,pw,IY.seq hn,g2,g3,hd.same IY,ln,KU,fun b H2 nb s3 Ih=>?_⟩
  have ol:=Gd pw qs s0.data
  refine⟨n,b,_,_,rfl,rfl,s3 _ _ ba,Ih,by rw[ki,bX];show 1+_<=_;omega,fun n2 zt=>?_⟩
  exact q n2 _ ((IY.trans s3).free zt) ((IY.trans s3).trans (bG.new zt)) ba
theorem OX{f CR:Addr}(F:iF K "apart" "Rooms.apart" tZ f fd)(T:Ql K CR)(Mh:Me P w K mg base (k4 P w) 4 CR "held_program" dR (rl CS CP CR CN))(Md:Me P w K mg base (k4 P w) 4 CR "look_for_data" ["self","program"] (WI CS CP CR CM))(Cr:Fn P w K mg base eJ 5 "run_by_plan" Hk (QT K CS CP))(Co:Fn P w K mg base eJ 1 "plan_one_behind_another" jT (WD CS CP)):
 dv P w K mg base (k4 P w) 6 f fd dR (Du CS CP CR CN CM):=by
 refine DT F xq fun fA A outer s H vs Q E hr h=>?_
 obtain⟨r,s0,rfl,ra,q⟩:=h
 obtain⟨dx,d,NH,h1,_,hd⟩:=id ra
 have nd:=xq.nd
 have NJ:gG 4 _:=hr.mono (by decide)
 refine⟨_,bh (jy 1 nd (jh kZ T.cl Mh NJ (pv 0)))
  (bh (dJ (kP kZ T.cl Md NJ (pv 0) (aP (pv 1) bq)))
  (bj (b8 (fX xJ (eA (aP cE bq)) (dG Cr hr (by rfl) (aP (pv 1) (aP (cu (pv 0) rfl) (aP (dG Co (hr.mono (by decide)) (by rfl) (aP (pv 1) bq)) bq)))))))),?_⟩
 refine⟨_,rfl,r,dx,_,rfl,h1,rfl,r,s0,rfl,ra,?_⟩
 unfold qe at q⊢
 cases hp:s0.program with
 |none=>
  rw[hp]at q
  exact q
 |some p=>
  rw[hp]at q
  intro a pa pw ln
  refine⟨_,rfl,r,dx,_,rfl,h1,rfl,_,rfl,r,a,s0,p,rfl,ra,pa,pw,?_⟩
  by_cases hg:eB s0 p=af
  ·have q:if eB s0 p=af then _ else _:=q
   rw[c8 hg]at q⊢
   exact q
  have q:if eB s0 p=af then _ else _:=q
  rw[cP hg]at q⊢
  have KU:ow p s0.data:=by
   unfold ow;unfold eB at hg;exact E6 _|>.mp hg
  obtain⟨g2,g3⟩:=Q1 pw
  intro H1 s1
  refine⟨by show 1<=bz;decide,fun n hn1=>?_⟩
  have s2:bG H1 (upd H1 n (.lst [V.int 0])):=bG.new hn1
  have IY:=s1.trans s2
  refine⟨_,rfl,_,rfl,r,CR,dx,_,_,rfl,IY _ _ h1,T.cl,T.n2,Ta,_,rfl,a,p,rfl,pa.same IY,pw,fun l H3 nl s3 hl=>?_⟩
  have s13:=IY.trans s3
  refine⟨a,d,l,p,_,s0.data,rfl,pa.same s13,pw,du.of hl,g2,g3,hd.same s13,ln,KU,fun b H2 nb s4 Ih=>?_⟩
  have ol:=Gd pw (cO p) s0.data
  have q:=q
  rw[<-K6 pw ln KU]at q
  refine⟨n,b,_,_,rfl,rfl,s4 _ _ (s3 _ _ ba),Ih,by rw[ki,bX];show 1+_<=_;omega,fun n2 zt=>?_⟩
  exact q n2 _ ((s13.trans s4).free zt) ((s13.trans s4).trans (bG.new zt)) ba
end SR
end
section
namespace SR
open PySem PySem.Spec PyProof.Rows L2 XL sI
variable{P:b7}{w:cU}{K:aX}{mg:aj}{base:Heap}
def TabsOk(T1 T2:Addr)(H:Hp):Prop:=iX H T1 Ma XT/\iX H T2 yO KG
theorem TabsOk.same{H H':Hp}(h:TabsOk T1 T2 H)(s:bG H H'):TabsOk T1 T2 H':=⟨h.1.same s,h.2.same s⟩
theorem iX.but{T T':Addr}{H H':Hp}{pos:Pos}{q:Str}(ne:T≠T')(h:iX H T pos q)(h':iX H T' pos' q')(b:IJ T' H H'):iX H' T pos q:=by
 obtain⟨ps,e1,e2,e3⟩:=h;obtain⟨ps',e',_⟩:=h';refine⟨ps,b _ _ ne e1,e2,e3.imp id fun⟨c,z1,z2⟩=>⟨c,z1,b _ _ (lB z2 e' (by intro z;cases z)) z2⟩⟩
def P7(T1 T2:Addr)(H:Hp)(Q:VK)(z:List Int):Prop:=∀l H',H l=ab->jt H H'->TabsOk T1 T2 H'->H' l=aa (.lst (mI z))->Q (.ref l) H'
theorem jt.free{H H':Hp}(s:jt H H')(t:∀b ps,H b=aa (.FZ ps)->∃ps',H' b=aa (.FZ ps'))(h:H' l=ab):H l=ab:=by
 cases hl:H l with
 |none=>rfl
 |some o=>
  by_cases ht:∃ps,o=.FZ ps
  ·obtain⟨ps,rfl⟩:=ht;obtain⟨ps',e⟩:=t l ps hl;rw[e]at h;cases h
  rw[s l o hl (fun ps z=>ht ⟨ps,z⟩)]at h;cases h
theorem PX{T:Addr}{H H':Hp}{pos:Pos}{q:Str}(b:IJ T H H')(t:iX H' T pos q):∀c ps,H c=aa (.FZ ps)->∃ps',H' c=aa (.FZ ps'):=fun c ps e=>by
 by_cases z:c=T
 ·obtain⟨p',e',_⟩:=t;rw[z];exact⟨p',e'⟩
 exact⟨ps,b c _ z e⟩
def asI(l:List Nat):List Int:=l.map fun(n:Nat)=>(n:Int)
theorem xR(p:aT)(d:List (Nat×Nat)):(iA p d).length=p.length:=by unfold iA;simp
inductive GP(CS CP CR CN CB T1 T2:Addr)(vs:ao)(H:Hp)(Q:VK)(E:XK):Prop
 |mk (r:Addr) (s:cx) (k:Int) (_:vs=[.ref r,.int k]/\iE CS CP CR H r s/\TabsOk T1 T2 H/\qe E H CN s fun p=>if k<0\/2<k then jC E H CB [("number",.int (-6))]else P7 T1 T2 H Q (0::asI (um p k.toNat)))
inductive GQ(K:aX)(CS CP CR CN CW CC T1 T2:Addr)(vs:ao)(H:Hp)(Q:VK)(E:XK):Prop
 |mk (r l:Addr) (s:cx) (ns:List Int) (_:vs=[.ref r,.ref l]) (_:iE CS CP CR H r s) (_:TabsOk T1 T2 H) (_:du K H l (mI ns)) (_:pQ E H CN CW s ns fun p q=>if wF p q=af then jC E H CC [("number",.int (-7))]else P7 T1 T2 H Q (0::asI (mE p q)))
theorem cF(k j:Int):decide (V.int k=V.int j)=decide (k=j):=by
 rw[decide_eq_decide];exact⟨fun h=>V.int.inj h,fun h=>by rw[h]⟩
theorem Ri{f CR T1 T2:Addr}(F:iF K "plan" "Rooms.plan" vA f fd)(T:Ql K CR)(ne:T2≠T1)(h0:∃t,mg "ONE_BEHIND_ANOTHER"=aa (.int 0 t))(h1:∃t,mg "IN_ORDER"=aa (.int 1 t))(h2:∃t,mg "LONGEST_FIRST"=aa (.int 2 t))(M:Ec P w K mg base "BeyondLimit" CB dR (iK K (-6)))
 (Mh:Me P w K mg base (k4 P w) 4 CR "held_program" dR (rl CS CP CR CN))(Co:Fn P w K mg base eJ 1 "plan_one_behind_another" jT (WD CS CP))(Ci:Fn P w K mg base eJ 7 "plan_in_order" jT (Kn CS CP))(Cl:Fn P w K mg base eJ 7 "plan_longest_first" jT (WH CS CP T1)):
 dv P w K mg base (k4 P w) 8 f fd ["self","kind"] (GP CS CP CR CN CB T1 T2):=by
 refine DT F zR fun fA A outer s H vs Q E hr h=>?_
 obtain⟨r,s0,k,rfl,ra,tab,q⟩:=h
 obtain⟨dx,d,NH,x8,_,hd⟩:=id ra
 have nd:=zR.nd
 have NJ:gG 4 _:=hr.mono (by decide)
 refine⟨_,bh (jy 2 nd (jh kZ T.cl Mh NJ (pv 0)))
  (bh (d8 (cR iW (pv 1) (iD (by rfl) h0) (da _)) (bj (b8 (fX xJ (eA (aP cE bq)) (dG Co (hr.mono (by decide)) (by rfl) (aP (pv 2) bq))))) cS)
  (bh (d8 (cR iW (pv 1) (iD (by rfl) h1) (da _)) (bj (b8 (fX xJ (eA (aP cE bq)) (dG Ci hr (by rfl) (aP (pv 2) bq))))) cS)
  (bh (d8 (cR iW (pv 1) (iD (by rfl) h2) (da _)) (bj (b8 (fX xJ (eA (aP cE bq)) (dG Cl hr (by rfl) (aP (pv 2) bq))))) cS)
  (bj (kF kZ rfl (uc M (hr.mono (by decide)) (by rfl))))))),?_⟩
 refine⟨_,rfl,r,dx,_,rfl,x8,rfl,r,s0,rfl,ra,?_⟩
 unfold qe at q⊢
 cases hp:s0.program with
 |none=>
  rw[hp]at q
  exact q
 |some p=>
  rw[hp]at q
  have q:if k<0\/2<k then jC E H CB [("number",.int (-6))]else P7 T1 T2 H Q (0::asI (um p k.toNat)):=q
  intro a pa pw ln
  have fw:=pw.j6
  have calm:∀{n b:Addr}{H1:Hp}{z:List Nat},bG (upd H n (.lst [V.int 0])) H1->H n=ab->H1 b=aa (.lst (tx z))->z.length=p.length->P7 T1 T2 H Q (0::asI z)->afO (.ref n) (.ref b) H1 Q:=fun{n b H1 z} s1 hn hb zl q=>by
   have s:bG H H1:=(bG.new hn).trans s1;refine⟨n,b,_,_,rfl,rfl,s1 _ _ ba,hb,by rw[ee,bX];show 1+_<=_;omega,fun n2 zt=>?_⟩;refine q n2 _ (s.free zt) (jt.of (s.trans (bG.new zt))) (tab.same (s.trans (bG.new zt))) ?_;rw[ba,SI];rfl
  refine⟨_,rfl,rfl,_,rfl,?_⟩
  rw[cF]
  by_cases k0:k=0
  ·rw[qi k0]
   rw[cP (by omega),k0]at q
   refine dI ⟨by show 1<=bz;decide,fun n hn=>⟨_,rfl,a,p,rfl,pa.same (bG.new hn),pw,fun b H1 nb s1 hb=>?_⟩⟩
   exact calm s1 hn hb (Q1 pw).1 q
  rw[gX k0]
  refine cD ⟨_,rfl,rfl,_,rfl,?_⟩
  rw[cF]
  by_cases k1:k=1
  ·rw[qi k1]
   rw[cP (by omega),k1]at q
   refine dI ⟨by show 1<=bz;decide,fun n hn=>⟨_,rfl,a,p,rfl,pa.same (bG.new hn),pw,fun b H1 nb s1 hb=>?_⟩⟩
   exact calm s1 hn hb (xR ..) q
  rw[gX k1]
  refine cD ⟨_,rfl,rfl,_,rfl,?_⟩
  rw[cF]
  by_cases k2:k=2
  ·rw[qi k2]
   rw[cP (by omega),k2]at q
   refine dI ⟨by show 1<=bz;decide,fun n hn=>?_⟩
   have s0':bG H (upd H n (.lst [V.int 0])):=bG.new hn
   have wJ:=tab.same s0'
   refine⟨_,rfl,a,p,rfl,pa.same s0',pw,wJ.1,fun b H1 nb bt t1 hb=>?_⟩
   have nT:n≠T1:=fun z=>by
    obtain⟨⟨ps,e,_⟩,_⟩:=wJ;rw[<-z,ba]at e;cases e
   have sN:=(jt.of s0').trans (jt.ofT (let⟨ps,e,_,_⟩:=wJ.1;⟨ps,e⟩) bt)
   have tabs:TabsOk T1 T2 H1:=⟨t1,iX.but ne wJ.2 wJ.1 bt⟩
   refine⟨n,b,_,_,rfl,rfl,bt _ _ nT ba,hb,by rw[ee,xR,bX];show 1+_<=_;omega,fun n2 zt=>?_⟩
   refine q n2 _ (s0'.free (jt.free ((jt.ofT (let⟨ps,e,_,_⟩:=wJ.1;⟨ps,e⟩) bt)) (PX bt t1) zt)) (sN.trans (jt.of (bG.new zt))) (tabs.same (bG.new zt)) ?_
   rw[ba,SI]
   rfl
  rw[gX k2]
  rw[c8 (by omega)]at q
  refine cD ?_
  exact jZ (σ:=[]) (D:={nx:=fun _ H'=>Q .j5 H',rt:=Q}) M q
theorem Rj{f CR T1 T2:Addr}(F:iF K "pack" "Rooms.pack" vB f fd)(T:Ql K CR)(ne:T1≠T2)(hl:mg "len"=ab)(M:Ec P w K mg base "ClashingPlan" CC dR (iK K (-7)))
 (Mh:Me P w K mg base (k4 P w) 4 CR "held_program" dR (rl CS CP CR CN))(Cl:Fn P w K mg base (k4 P w) 4 "look_at_plan" xF (GX K CS CP CW))(Cf:Fn P w K mg base eJ 4 "first_clash" xF (acX K CS CP))(Cp:Fn P w K mg base eJ 6 "packed_plan" xF (Ov K CS CP T2)):
 dv P w K mg base (k4 P w) 7 f fd wm (GQ K CS CP CR CN CW CC T1 T2):=by
 refine DT F zS fun fA A outer s H vs Q E hr h=>?_
 obtain⟨r,l,s0,ns,rfl,ra,tab,hn,q⟩:=h
 obtain⟨dx,d,NH,h1,_,hd⟩:=id ra
 have nd:=zS.nd
 have NJ:gG 4 _:=hr.mono (by decide)
 refine⟨_,bh (jy 2 nd (jh kZ T.cl Mh NJ (pv 0)))
  (bh (dJ (rM Cl kZ NJ (by rfl) (aP (pv 2) (aP (pv 1) bq))))
  (bh (d8 (cR zW (dB cI (by rfl) hl cv (aP (dG Cf NJ (by rfl) (aP (pv 2) (aP (pv 1) bq))) bq)) cE (da _)) (bj (kF kZ rfl (uc M (hr.mono (by decide)) (by rfl)))) cS)
  (bj (b8 (fX xJ (eA (aP cE bq)) (dG Cp hr (by rfl) (aP (pv 2) (aP (pv 1) bq)))))))),?_⟩
 refine⟨_,rfl,r,dx,_,rfl,h1,rfl,r,s0,rfl,ra,?_⟩
 unfold pQ qe at q
 unfold qe
 cases hp:s0.program with
 |none=>
  rw[hp]at q
  exact q
 |some p=>
  rw[hp]at q
  intro a pa pw ln
  have fw:=pw.j6
  refine⟨_,rfl,_,rfl,a,l,p,ns,rfl,pa,hn,?_⟩
  by_cases hb:iy p ns
  ·have q:if iy p ns then _ else _:=q
   rw[c8 hb]at q⊢
   exact q
  have q:if iy p ns then _ else _:=q
  rw[cP hb]at q⊢
  obtain⟨g1,g2,g3⟩:=yS hb
  rw[g1]at hn
  generalize hQ:(ns.map fun n=>n.toNat)=qs at q hn g2 g3
  refine⟨_,rfl,_,rfl,a,l,p,qs,rfl,pa,pw,hn,g2,fun b H1 nb s1 hb1=>?_⟩
  refine⟨b,_,rfl,.inl (du.of hb1),_,_,rfl,rfl,_,rfl,?_⟩
  have q:=q
  unfold wF at q
  unfold Iq
  cases hf:fz p qs with
  |some x=>
   rw[hf,c8 (show(aa x).isNone=af from rfl)]at q
   exact dI (jZ M (jC.on q s1))
  |none=>
   rw[hf,cP (by decide)]at q
   refine cD ⟨by show 1<=bz;decide,fun n hn1=>?_⟩
   have s2:bG H1 (upd H1 n (.lst [V.int 0])):=bG.new hn1
   have IY:=s1.trans s2
   have wJ:=tab.same IY
   refine⟨_,rfl,_,rfl,a,l,p,qs,rfl,pa.same IY,pw,IY.seq hn,g2,wJ.2,fun b2 H2 nb2 bt t2 Ih=>?_⟩
   have nT:n≠T2:=fun z=>by
    obtain⟨_,⟨ps,e,_⟩⟩:=wJ;rw[<-z,ba]at e;cases e
   have sT:=jt.ofT (let⟨ps,e,_,_⟩:=wJ.2;⟨ps,e⟩) bt
   have tabs:TabsOk T1 T2 H2:=⟨iX.but ne wJ.1 wJ.2 bt,t2⟩
   refine⟨n,b2,_,_,rfl,rfl,bt _ _ nT ba,Ih,by rw[ee];unfold mE;rw[xR,bX];show 1+_<=_;omega,fun n2 zt=>?_⟩
   refine q n2 _ (IY.free (jt.free sT (PX bt t2) zt)) (((jt.of IY).trans sT).trans (jt.of (bG.new zt))) (tabs.same (bG.new zt)) ?_
   rw[ba,SI]
   rfl
inductive GS(K:aX)(CS CP CR CL CW CN:Addr)(vs:ao)(H:Hp)(Q:VK)(E:XK):Prop
 |mk (r l:Addr) (s:cx) (t:List Nat) (_:vs=[.ref r,.ref l]) (_:iE CS CP CR H r s) (_:du K H l (tx t)) (_:t.length<=100000) (_:match eE t with
 |.error e=>yn E H CL CW CN e
 |.ok p=>∀n H',H n=ab->qE r H H'->iE CS CP CR H' r {program:=aa p}->H' n=aa (.lst (mI [(p.length:Int),((dw p).length:Int)]))->Q (.ref n) H')
theorem jH.keep{H H':Hp}(h:jH CS CP H a p)(k1:∀b xs,H b=aa (.lst xs)->H' b=aa (.lst xs))(k2:∀b C dx fs,C=CP\/C=CS->H b=aa (.ins C dx fs)->H' b=aa (.ins C dx fs)):jH CS CP H' a p:=by
 obtain⟨dx,ls,lo,bs,os,h1,h2,h3,h4,h5⟩:=h;refine⟨dx,ls,lo,bs,os,k2 _ _ _ _ (.inl rfl) h1,k1 _ _ h2,Paired.sC h3 fun b x hx=>?_,k1 _ _ h4,Paired.sC h5 fun b x hx=>k1 _ _ hx⟩;obtain⟨dx,lb,e1,e2⟩:=hx;exact⟨dx,lb,k2 _ _ _ _ (.inr rfl) e1,k1 _ _ e2⟩
theorem jH.akt{CR:Addr}{fr:aq}{H H':Hp}(h:jH CS CP H a p)(hr:H r=aa (.ins CR dr fr))(n1:CR≠CP)(n2:CR≠CS)(b:qE r H H'):jH CS CP H' a p:=
 h.keep (fun c xs e=>b _ _ (lB e hr (by intro z;cases z)) e) fun c C dx fs hC e=>b _ _ (fun z=>by
  rw[z,hr]at e;cases e;rcases hC with y|y
  ·exact n1 y
  exact n2 y) e
theorem Rl{f CS CR:Addr}(F:iF K "load" "Rooms.load" vD f fd)(T:Ql K CR)(G:FF K CP)(n1:CR≠CP)(n2:CR≠CS)(hl:mg "len"=ab)(Cr:Fn P w K mg base (k4 P w) 9 "read_program" ["text"] (QV K CS CP CL CW CN))(Ci:Fn P w K mg base eJ 1 "input_numbers" jT (w6 CS CP)):
 dv P w K mg base (k4 P w) 10 f fd ["self","text"] (GS K CS CP CR CL CW CN):=by
 refine DT F zT fun fA A outer s H vs Q E hr h=>?_
 obtain⟨r,l,s0,t,rfl,ra,hn,tl,q⟩:=h
 obtain⟨dx,d,NH,h1,_,hd⟩:=id ra
 have nd:=zT.nd
 refine⟨_,bh (jy 2 nd (rM Cr kZ hr (by rfl) (aP (pv 1) bq)))
  (bh (lr (pv 0) (pv 2) rfl)
  (bh (lr (pv 0) BD rfl)
  (bj (b8 (eA (aP (dB cI (by rfl) hl cv (aP (cu (pv 2) rfl) bq)) (aP (dB cI (by rfl) hl cv (aP (dG Ci (hr.mono (by decide)) (by rfl) (aP (pv 2) bq)) bq)) bq))))))),?_⟩
 refine⟨_,rfl,l,t,rfl,hn,tl,?_⟩
 cases hp:eE t with
 |error e=>
  rw[hp]at q
  exact q
 |ok p=>
  rw[hp]at q
  intro pw a H1 s1 pa
  have fw:=pw.j6
  refine⟨_,rfl,_,rfl,r,CR,dx,_,rfl,s1 _ _ h1,T.cl,T.n1,(by show 2<1000;decide),?_⟩
  generalize Yf:upd H1 r (.ins CR dx (rK "program" (.ref a) (W4 NH (.ref d))))=H2
  have h2r:H2 r=aa (.ins CR dx (W4 (.ref a) (.ref d))):=by rw[<-Yf,ba];rfl
  have b2:qE r H1 H2:=fun b o nb e=>by rw[<-Yf,bB nb];exact e
  intro d2 hd2
  have nrd:=bO h2r hd2
  refine⟨_,rfl,r,CR,dx,_,rfl,by rw[bB nrd];exact h2r,T.cl,T.n2,(by show 2<1000;decide),?_⟩
  generalize Zn:upd (upd H2 d2 (.dK [])) r (.ins CR dx (rK "data" (.ref d2) (W4 (.ref a) (.ref d))))=H3
  have h3r:H3 r=aa (.ins CR dx (W4 (.ref a) (.ref d2))):=by rw[<-Zn,ba];rfl
  have h3d:H3 d2=aa (.dK []):=by rw[<-Zn,bB (de nrd),ba]
  have b3:qE r H1 H3:=fun b o nb e=>by
   have:=b2 b o nb e;rw[<-Zn,bB nb,bB (bO this hd2)];exact this
  have pa3:=pa.akt (s1 _ _ h1) n1 n2 b3
  have ra3:iE CS CP CR H3 r {program:=aa p}:=⟨dx,d2,.ref a,h3r,⟨a,rfl,pa3,pw,(fun x hx=>by cases hx),fun x hx=>by cases hx⟩,[],h3d,⟨Lb,by simp⟩,fun n=>rfl⟩
  obtain⟨dp,ls,lo,bs,os,v⟩:=pa3.v
  refine⟨_,rfl,a,CP,dp,_,_,rfl,v.ha,G.cl,G.n1,jN,ls,_,rfl,.inl (du.of v.lY),_,rfl,a,p,rfl,pa3,fw,fun li H4 nli s4 NK=>⟨li,_,rfl,.inl (du.of NK),by show 2<=bz;decide,fun n hn4=>?_⟩⟩
  have s5:bG H4 (upd H4 n (.lst [.int ((bs.map V.ref).length:Int),.int ((tx (dw p)).length:Int)])):=bG.new hn4
  refine q n _ ?_ (fun b o nb e=>s5 _ _ (s4 _ _ (b3 b o nb (s1 _ _ e)))) (ra3.same (s4.trans s5)) ?_
  ·cases hh:H n with
   |none=>rfl
   |some o=>
    by_cases z:n=r
    ·rw[z,s4 _ _ h3r]at hn4
     cases hn4
    rw[s4 _ _ (b3 n o z (s1 _ _ hh))]at hn4
    cases hn4
  rw[ba,aV,v.bl,ee]
  rfl
theorem VE:ij "ord"=aa (.builtin "ord"):=by decide+kernel
theorem adD{x:Str}{g:TG}{tt:TT}{te:TE}{σ:L2.St}{H1:Hp}{Qd:Hp->Prop}(Pv:Nat->Hp->Prop)(h0:Pv 0 (upd H1 D (.lst [])))
 (hs:∀i c H,x.cps[i]?=aa c->Pv i H->g (.str ⟨#[c]⟩) (wipe σ vs) H fun σ2 H2=>wipe σ2 vs=wipe σ vs/\tt σ2 H2 fun b H3=>
  if b=ae then te σ2 H3 fun y H4=>∃acc,H4 D=aa (.lst acc)/\acc.length<bz/\Pv (i+1) (upd H4 D (.lst (acc++[y])))else Pv (i+1) H3)(hd:∀H,Pv x.cps.size H->Qd H):
 ∃W:Nat->Nat->Hp->Prop,(∃m,W 0 m (upd H1 D (.lst [])))/\∀i m H,W i m H->
  ((Its x).stop i H/\Qd H)\/((Its x).go i H/\∃Nx:Hp->Prop,(∀H',Nx H'->∃m',m'<m/\W (i+1) m' H')/\∀y H',(Its x).We i H y H'->g y (wipe σ vs) H' fun σ2 H2=>wipe σ2 vs=wipe σ vs/\tt σ2 H2 fun b H3=>
   if b=ae then te σ2 H3 fun y H4=>∃acc,H4 D=aa (.lst acc)/\acc.length<bz/\Nx (upd H4 D (.lst (acc++[y])))else Nx H3):=by
 refine⟨fun i m H=>m=x.cps.size-i/\i<=x.cps.size/\Pv i H,⟨x.cps.size,by simp,cB _,h0⟩,?_⟩
 rintro i m H ⟨rfl,hi,p⟩
 by_cases zu:i<x.cps.size
 ·refine .inr ⟨zu,Pv (i+1),fun H' p'=>⟨x.cps.size-(i+1),by omega,rfl,zu,p'⟩,fun y H' z=>?_⟩
  obtain⟨e,c,hc,e2⟩:=z
  subst e e2
  exact hs i c _ hc p
 have e:i=x.cps.size:=by omega
 subst e
 exact .inl ⟨bu _,hd H p⟩
theorem Im{α:Type}(f:α->List Nat)(k:Nat):∀l:List α,(∀x∈l,(f x).length<=k)->(l.flatMap f).length<=k*l.length
 |[],_=>by simp
 |x::l,h=>by
  rw[iU,bQ,cJ,Nat.mul_succ];have h1:=h x (bM ..);have h2:=Im f k l fun y hy=>h y (bC _ hy);omega
theorem xE(pw:uh p):(eX p).length<=10000:=by
 have:(eX p).length<=200*p.length:=Im (Gm p) 200 p fun s hs=>by
  rw[<-OM];exact plain_len (GY pw hs)
 have:=pw.j6;omega
inductive Ds(CS CP CR CN:Addr)(vs:ao)(H:Hp)(Q:VK)(E:XK):Prop
 |mk (r:Addr) (s:cx) (_:vs=[.ref r]) (_:iE CS CP CR H r s) (_:qe E H CN s fun p=>FD H Q (0::asI (eX p)))
theorem OU{f CR:Addr}(F:iF K "plain" "Rooms.plain" tX f fd)(T:Ql K CR)(hor:mg "ord"=ab)(Mh:Me P w K mg base (k4 P w) 4 CR "held_program" dR (rl CS CP CR CN))(Ct:Fn P w K mg base eJ 2 "plain_text" jT (S2 CS CP)):
 dv P w K mg base (k4 P w) 5 f fd dR (Ds CS CP CR CN):=by
 refine DT F xk fun fA A outer s H vs Q E hr h=>?_
 obtain⟨r,s0,rfl,ra,q⟩:=h
 have nd:=xk.nd
 refine⟨_,bj (b8 (fX xJ (eA (aP cE bq)) (Kx (own:=[("sign",1)]) rfl nd (adb (dG Ct (hr.mono (by decide)) (by rfl) (aP (jh kZ T.cl Mh hr (pv 0)) bq))) (rX (by rfl)) (fun s H C cl fp=>oX 1 nd) (fun s H C cl fp=>F9)
  (fun s H C cl fp=>dB YB (by rfl) hor VE (aP (pv 1) bq))))),?_⟩
 refine⟨by show 1<=bz;decide,fun n hn=>?_⟩
 have s1:bG H (upd H n (.lst [V.int 0])):=bG.new hn
 have ra1:=ra.same s1
 obtain⟨dx,d,NH,h1,_⟩:=id ra1
 refine⟨_,rfl,r,dx,_,rfl,h1,rfl,r,s0,rfl,ra1,?_⟩
 unfold qe at q⊢
 cases hp:s0.program with
 |none=>
  rw[hp]at q
  exact jC.on q s1
 |some p=>
  rw[hp]at q
  intro a pa pw _
  have tl:=xE pw
  refine⟨a,p,rfl,pa,pw,fun H1 s2=>⟨_,rfl,fun D hD=>?_⟩⟩
  have IY:=s1.trans s2
  have sz:(st (eX p)).cps.size=(eX p).length:=by unfold st;simp
  refine adD (fun i G=>bG H1 G/\G D=aa (.lst (tx ((eX p).take i)))) ⟨bG.new hD,ba⟩ ?_ ?_
  ·rintro i c G hc ⟨sg,hG⟩
   have hc:(eX p)[i]?=aa c:=by unfold st at hc;simpa using hc
   refine⟨rfl,?_⟩
   unfold Uz
   refine dI ⟨_,rfl,_,rfl,rfl,_,hG,by rw[ee,dW,bX];omega,bG.put hD sg,?_⟩
   rw[ba,take_snoc hc,<-Dm]
   rfl
  rintro G ⟨sg,hG⟩
  rw[sz,dy]at hG
  have sG:=IY.trans sg
  refine⟨n,D,_,_,rfl,rfl,sg _ _ (s2 _ _ ba),hG,by rw[ee,bX];show 1+_<=_;omega,fun n2 zt=>?_⟩
  refine q n2 _ (sG.free zt) (sG.trans (bG.new zt)) ?_
  rw[ba,SI]
  rfl
theorem YF:ij "list"=aa (.type "list"):=by decide+kernel
theorem adL(l:List Nat)(z:Int):wu (.int z) (tx l)=(decide (0<=z)&&l.contains z.toNat):=by
 by_cases h:0<=z
 ·obtain⟨n,rfl⟩:=Qz h;rw[qi h,eG,X4];rfl
 rw[gX h,eC];unfold wu tx;rw[Qx,hX];intro x _ e;have e:=e;have:=beq_iff_eq.mp e;omega
theorem XX(ef:List (Key×V))(k:Key)(v:V):(putK ef k v).map (·.1)=if(ef.any fun kv=>decide (kv.1=k))=ae then ef.map (·.1)else ef.map (·.1)++[k]:=by
 unfold putK;split
 ·rw[dA];refine dj fun x _=>?_;show(if x.1=k then(x.1,v)else x).1=x.1;split<;>rfl
 rw[b9];rfl
theorem AU.len(h:AU ef):ef.length<=24:=by
 have:=jS h.1 h.2;rw[aV,aV,bZ]at this;exact this
theorem AU.put(h:AU ef){n:Nat}(hn:n<24)(v:V):AU (putK ef (cM (n:Int)) v):=by
 unfold AU;rw[XX];split
 ·exact h
 rename_i hk;refine⟨?_,fun k hk2=>?_⟩
 ·rw[u9];refine⟨h.1,by simp,fun a ha b hb e=>hk ?_⟩;rw[bT.mp hb]at e;obtain⟨x,hx,ex⟩:=dh.mp ha;exact fg.mpr ⟨x,hx,by rw[ex,e];exact qi rfl⟩
 rcases d5.mp hk2 with y|y
 ·exact h.2 k y
 rw[bT.mp y];exact dh.mpr ⟨n,cj.mpr hn,rfl⟩
theorem Pr(l:List (Nat×List Int)){n m:Nat}(h:n≠m):(l.filter fun x=>x.1 != m).find? (fun x=>x.1==n)=l.find? fun x=>x.1==n:=by
 induction l with
 |nil=>rfl
 |cons x l ih=>
  by_cases e:x.1=m
  ·rw[gM (by simp[e]),ih,kJ (by simp[e];exact fun z=>h z.symm)]
  rw[fD (by simp[e])];by_cases e2:x.1=n
  ·rw[wW (by simp[e2]),wW (by simp[e2])]
  rw[kJ (by simp[e2]),kJ (by simp[e2]),ih]
def G5(s:cx)(n:Nat)(ds:List Int):cx:={s with data:=(n,ds)::s.data.filter fun x=>x.1 != n}
inductive Ls(K:aX)(CS CP CR CN CA CD:Addr)(vs:ao)(H:Hp)(Q:VK)(E:XK):Prop
 |mk (r l:Addr) (s:cx) (z:Int) (ds:List Int) (_:vs=[.ref r,.int z,.ref l]/\iE CS CP CR H r s/\du K H l (mI ds)/\qe E H CN s fun p=>
 if z<0\/(dw p).contains z.toNat=af then jC E H CA [("number",.int (-8))]
 else if ds.length≠aU p z.toNat\/ds.all jk=af then jC E H CD [("number",.int (-9))]
 else∀n H',H n=ab->(∃d ef,H d=aa (.dK ef)/\qE d H H')->iE CS CP CR H' r (G5 s z.toNat ds)->H' n=aa (.lst (mI [0]))->Q (.ref n) H')
theorem OS{f CR:Addr}(F:iF K "set_data" "Rooms.set_data" px f fd)(T:Ql K CR)(S:FE K CS)(G:FF K CP)(hl:mg "len"=ab)(NK:mg "list"=ab)(MA:Ec P w K mg base "AbsentInput" CA dR (iK K (-8)))(MD:Ec P w K mg base "WrongData" CD dR (iK K (-9)))
 (Mh:Me P w K mg base (k4 P w) 4 CR "held_program" dR (rl CS CP CR CN))(Ci:Fn P w K mg base eJ 1 "input_numbers" jT (w6 CS CP))(Ce:Fn P w K mg base eJ 1 "is_element" ["number"] WJ):
 dv P w K mg base (k4 P w) 5 f fd ["self","number","data"] (Ls K CS CP CR CN CA CD):=by
 refine DT F sS fun fA A outer s H vs Q E hr h=>?_
 obtain⟨r,l,s0,z,ds,rfl,ra,KP,q⟩:=h
 obtain⟨dx,d,NH,h1,hpr,ef,hk,ko,fk⟩:=id ra
 have hu:=Pe hr
 have nd:=sS.nd
 have hr3:gG 3 _:=hr.mono (by decide)
 have Ib:gG 1 _:=hr.mono (by decide)
 refine⟨_,bh (jy 3 nd (jh kZ T.cl Mh hr (pv 0)))
  (bh (d8 (cR qQ (pv 1) (dG Ci Ib (by rfl) (aP (pv 3) bq)) (by rfl)) (bj (kF kZ rfl (uc MA hr3 (by rfl)))) cS)
  (bh (d8 (cR wo (dB cI (by rfl) hl cv (aP (pv 2) bq)) (cu (dU cT (cu (pv 3) rfl) (pv 1) (fun _ _=>rfl)) rfl) (da _)) (bj (kF kZ rfl (uc MD hr3 (by rfl)))) cS)
  (bh (eZ (Hs kZ) rfl (fP (pv 2)) (oX 4 nd)
   (bj (d8 (ub (jw (dG Ce Ib (by rfl) (aP (pv 4) bq)))) (bj (kF kZ rfl (uc MD hr3 (by rfl)))) cS)))
  (bh (LK hu (cu (pv 0) rfl) (pv 1) (pB CI (by rfl) NK YF (aP (pv 2) bq)) rfl)
  (bj (b8 (eA (aP cE bq)))))))),?_⟩
 refine⟨_,rfl,r,dx,_,rfl,h1,rfl,r,s0,rfl,ra,?_⟩
 unfold qe at q⊢
 unfold IG at hpr
 cases hp:s0.program with
 |none=>
  rw[hp]at q
  exact q
 |some p=>
  rw[hp]at q hpr
  obtain⟨a0,_,_,_,_,akq⟩:=hpr
  intro a pa pw ln
  have fw:=pw.j6
  refine⟨_,rfl,_,rfl,a,p,rfl,pa,fw,fun li H1 nli s1 ajQ=>⟨li,_,rfl,.inl (du.of ajQ),rfl,Mp _,_,rfl,?_⟩⟩
  rw[c8 rfl,adL]
  have q:if z<0\/(dw p).contains z.toNat=af then jC E H CA [("number",.int (-8))]else if ds.length≠aU p z.toNat\/ds.all jk=af then jC E H CD [("number",.int (-9))]else∀n H',H n=ab->(∃d ef,H d=aa (.dK ef)/\qE d H H')->iE CS CP CR H' r (G5 s0 z.toNat ds)->H' n=aa (.lst (mI [0]))->Q (.ref n) H':=q
  by_cases hz:z<0\/(dw p).contains z.toNat=af
  ·rw[c8 hz]at q
   have:(decide (0<=z)&&(dw p).contains z.toNat)=af:=by
    rcases hz with y|y
    ·rw[gX (by omega),eC]
    rw[y,Le]
   rw[this]
   exact dI (jZ MA (jC.on q s1))
  rw[cP hz]at q
  have z0:0<=z:=eO fun y=>hz (.inl (by omega))
  have zc:(dw p).contains z.toNat=ae:=by
   cases hc:(dw p).contains z.toNat with
   |true=>rfl
   |false=>exact(hz (.inr hc)).elim
  rw[qi z0,zc]
  obtain⟨n,rfl⟩:=Qz z0
  rw[pG]at q zc
  have ni:=dN.mp zc
  have nl:n<p.length:=by
   unfold dw at ni;exact cj.mp (cH.mp ni).1
  obtain⟨sn,en⟩:=uT nl
  obtain⟨dp,ls,lo,bs,os,v⟩:=(pa.same s1).v
  obtain⟨b1,d1,k1,e1,g1⟩:=v.st n sn en
  have aaD:=s1.seq KP
  refine cD ⟨_,rfl,l,_,rfl,.inl aaD,_,rfl,a,CP,dp,_,_,rfl,v.ha,G.cl,G.n1,jN,_,rfl,ls,_,_,_,rfl,rfl,du.of v.lY,at_of (j:=n) rfl e1,b1,CS,d1,_,_,rfl,g1,S.cl,S.n3,iM,rfl,_,rfl,?_⟩
  rw[yQ,ki]
  have lz:=iQ en
  cases hlen:(ds.length==sn.length)with
  |false=>
   have ne:ds.length≠aU p n:=fun y=>by
    rw[y,lz,beq_self_eq_true]at hlen;cases hlen
   rw[c8 (.inl ne)]at q
   exact dI (jZ MD (jC.on q s1))
  |true=>
   have hlen:=beq_iff_eq.mp hlen
   refine cD ⟨_,rfl,l,rfl,⟨_,aaD⟩,fZ (K:=K) (a:=l) (xs:=mI ds) (fun i σ H'=>H'=H1/\(ds.take i).all jk=ae/\∃v4,σ=[aa (.ref r),aa (.int (n:Int)),aa (.ref l),aa (.ref a),v4]) ⟨rfl,rfl,ab,rfl⟩ (fun i σ H' _ ⟨e,_⟩=>by rw[e];exact aaD) ?_ ?_⟩
   ·rintro i y σ H' hi ⟨rfl,al,v4,rfl⟩
    obtain⟨x,hx,rfl⟩:=XR hi
    refine⟨_,rfl,x,rfl,_,rfl,?_⟩
    have ex:adK x=jk x:=rfl
    rw[ex]
    cases he:jk x with
    |false=>
     have:ds.all jk=af:=by
      cases ha:ds.all jk with
      |false=>rfl
      |true=>
       have:=cV.mp ha x (br hx);rw[he]at this;cases this
     rw[c8 (.inr this)]at q
     exact dI (jZ MD (jC.on q s1))
    |true=>
     refine cD ⟨rfl,?_,_,rfl⟩
     rw[take_snoc hx,Jg,al]
     simp[he]
   rintro σ H' ⟨rfl,al,v4,rfl⟩
   rw[ki,dy]at al
   have nb:¬(ds.length≠aU p n\/ds.all jk=af):=by
    rintro(y|y)
    ·exact y (by rw[lz];exact hlen)
    rw[al]at y;cases y
   rw[cP nb]at q
   refine⟨_,rfl,l,_,rfl,.inl aaD,fun c hc=>?_⟩
   have s2:bG H' (upd H' c (.lst (mI ds))):=bG.new hc
   have IY:=s1.trans s2
   have hk2:=IY _ _ hk
   refine⟨_,rfl,r,CR,dx,_,_,rfl,IY _ _ h1,T.cl,T.n2,Ta,_,rfl,d,_,rfl,Si.k (k:=cM (n:Int)) hk2 (by have:=ko.len;rw[bX];omega),?_⟩
   generalize Zn:upd (upd H' c (.lst (mI ds))) d (.dK (putK ef (cM (n:Int)) (.ref c)))=H3
   have b3:qE d H H3:=fun x o nx e=>by rw[<-Zn,bB nx];exact IY _ _ e
   have h3d:H3 d=aa (.dK (putK ef (cM (n:Int)) (.ref c))):=by rw[<-Zn,ba]
   have ndc:c≠d:=fun y=>by
    rw[y]at hc;rw[s1 _ _ hk]at hc;cases hc
   have h3c:H3 c=aa (.lst (mI ds)):=by rw[<-Zn,bB ndc,ba]
   have ndk:∀{x:Addr}{o:HO},H x=aa o->(∀k,o≠ .dK k)->H3 x=aa o:=fun{x o} e no=>b3 x o (fun y=>by
    rw[y,hk]at e;cases e;exact no _ rfl) e
   have ra3:iE CS CP CR H3 r (G5 s0 n ds):=by
    refine⟨dx,d,NH,ndk h1 (fun k y=>by cases y),?_,_,h3d,ko.put (by omega) _,fun m=>?_⟩
    ·unfold IG G5;rw[hp];obtain⟨dx',d',pv',h1',adY,_⟩:=id ra;rw[h1]at h1';cases h1';unfold IG at adY;rw[hp]at adY;obtain⟨a1,e1',pa1,_,ln1,_⟩:=adY;refine⟨a1,e1',pa1.keep (fun b xs e=>ndk e (fun k y=>by cases y)) (fun b C dx fs _ e=>ndk e (fun k y=>by cases y)),pw,fun x hx=>?_,fun x hx=>?_⟩
     ·rcases bP.mp hx with y|y
      ·rw[y];exact hlen.trans lz.symm
      exact ln1 x (cH.mp y).1
     rcases bP.mp hx with y|y
     ·rw[y];exact ni
     exact akq x (cH.mp y).1
    unfold G5;rw[N6];by_cases e:m=n
    ·subst e;rw[wW (by simp),c8 rfl];exact⟨c,rfl,h3c⟩
    rw[kJ (by simp;exact fun y=>e y.symm),Pr _ e,cP (show¬(cM (m:Int):Key)=cM (n:Int)from fun y=>e (by have:=qg y;omega))];have:=fk m;cases hf:s0.data.find? fun x=>x.1==m with
    |none=>rw[hf]at this;exact this
    |some x=>
     rw[hf]at this;obtain⟨b,f1,f2⟩:=this;exact⟨b,f1,ndk f2 (fun k y=>by cases y)⟩
   refine⟨by show 1<=bz;decide,fun n2 zt=>?_⟩
   have s4:bG H3 (upd H3 n2 (.lst [V.int 0])):=bG.new zt
   refine q n2 _ ?_ ⟨d,ef,hk,fun x o nx e=>s4 _ _ (b3 x o nx e)⟩ (ra3.same s4) ba
   cases hh:H n2 with
   |none=>rfl
   |some o=>
    by_cases y:n2=d
    ·rw[y,h3d]at zt
     cases zt
    rw[b3 n2 o y hh]at zt
    cases zt
theorem OH{t:List Nat}{e:Nat×Nat}(h:eE t=.error e):e=(1,0)\/e.1=2\/e.1=3:=by
 unfold eE at h;split at h
 ·cases h;exact .inl rfl
 split at h
 ·cases h;exact .inr (.inl rfl)
 split at h
 ·cases h;exact .inr (.inr rfl)
 cases h
abbrev Sub(K:aX)(C D:Addr)(b:Bool):Prop:=Zz K (.ref C) (.ref D)=aa b
def QC(t:List Nat):List Int:=match eE t with
 |.ok _=>[0,0]
 |.error e=>[(e.1:Int),(e.2:Int)]
inductive Dr(K:aX)(vs:ao)(H:Hp)(Q:VK)(E:XK):Prop
 |mk (r l:Addr) (t:List Nat) (_:vs=[.ref r,.ref l]) (_:du K H l (tx t)) (_:t.length<=100000) (_:FD H Q (QC t))
theorem OT{f:Addr}(F:iF K "where" "Rooms.where" tW f fd)(Cr:Fn P w K mg base (k4 P w) 9 "read_program" ["text"] (QV K CS CP CL CW CN))
 (ML:Ec P w K mg base "TooLong" CL dR (iK K (-1)))(MW:Ec P w K mg base "WrongForm" CW Hj (Dv K (-2) "position"))(MN:Ec P w K mg base "WrongName" CN Hl (Dv K (-3) "statement_number"))
 (aW:eQ K CW "position")(aN:eQ K CN "statement_number")(s1:Sub K CL CL ae)(s2:Sub K CW CL af)(s3:Sub K CW CW ae)(s4:Sub K CN CL af)(s5:Sub K CN CW af)(s6:Sub K CN CN ae):
 dv P w K mg base (k4 P w) 10 f fd ["self","text"] (Dr K):=by
 refine DT F xj fun fA A outer s H vs Q E hr h=>?_
 obtain⟨r,l,t,rfl,hn,tl,q⟩:=h
 have nd:=xj.nd
 obtain⟨fL,fdL,mL,_,gL,_⟩:=ML.ex
 obtain⟨fW,fdW,mW,_,gW,_⟩:=MW.ex
 obtain⟨fN,fdN,mN,_,gN,_⟩:=MN.ex
 refine⟨_,bh (W8 kZ (fun pn E1=>bj (dJ (rM Cr ⟨rfl,rfl⟩ hr (by rfl) (aP (pv 1) bq))))
  (Z8 kZ (by rfl) gL mL (fun pn a=>bj (b8 (eA (aP cE (aP cE bq)))))
  (Xh (i:=2) kZ (by rfl) gW mW nd rfl rfl (fun pn a=>by
   refine bj (b8 (eA (aP cE (aP (show PE _ _ (SQ K (Ak 2) "position")from ?_) bq))));exact LN (pv 2) (by rfl))
  (Xh (i:=2) kZ (by rfl) gN mN nd rfl rfl (fun pn a=>by
   refine bj (b8 (eA (aP cE (aP (show PE _ _ (SQ K (Ak 2) "statement_number")from ?_) bq))));exact LN (pv 2) (by rfl))
  (Xg kZ)))))
  (bj (b8 (eA (aP cE (aP cE bq))))),?_⟩
 refine⟨_,rfl,l,t,rfl,hn,tl,?_⟩
 unfold QC at q
 cases hp:eE t with
 |ok p=>
  rw[hp]at q
  intro pw a H1 s1 pa
  exact⟨by show 2<=bz;decide,fun n hl=>q n _ (s1.free hl) (s1.trans (bG.new hl)) ba⟩
 |error e=>
  rw[hp]at q
  have q:FD H Q [(e.1:Int),(e.2:Int)]:=q
  rcases OH hp with y|y|y
  ·subst y
   show yn _ H CL CW CN (1,0)
   unfold yn
   rw[c8 rfl]
   intro a dx H' sm ea ed
   refine⟨a,rfl,CL,fL,aa dx,ae,ea,mL,s1,dI ⟨by show 2<=bz;decide,fun n hl=>?_⟩⟩
   exact q n _ (sm.free hl) (sm.trans (bG.new hl)) ba
  ·show yn _ H CL CW CN e
   unfold yn
   rw[cP (by omega),c8 y]
   intro a dx H' sm ea ed
   refine⟨a,rfl,CW,fW,aa dx,af,ea,mW,s2,cD ⟨CW,fW,aa dx,ae,ea,mW,s3,dI ?_⟩⟩
   refine⟨_,rfl,a,CW,fW,dx,_,_,rfl,ea,ed,mW,aW,rfl,by show 2<=bz;decide,fun n hl=>?_⟩
   rw[y]at q
   exact q n _ (sm.free hl) (sm.trans (bG.new hl)) ba
  show yn _ H CL CW CN e
  unfold yn
  rw[cP (by omega),cP (by omega)]
  intro a dx H' sm ea ed
  refine⟨a,rfl,CN,fN,aa dx,af,ea,mN,s4,cD ⟨CN,fN,aa dx,af,ea,mN,s5,cD ⟨CN,fN,aa dx,ae,ea,mN,s6,dI ?_⟩⟩⟩
  refine⟨_,rfl,a,CN,fN,dx,_,_,rfl,ea,ed,mN,aN,rfl,by show 2<=bz;decide,fun n hl=>?_⟩
  rw[y]at q
  exact q n _ (sm.free hl) (sm.trans (bG.new hl)) ba
def Zt(H H':Hp):Prop:=(∀b xs,H b=aa (.lst xs)->H' b=aa (.lst xs))/\∀b o u,H b=aa (.Vi o u)->H' b=aa (.Vi o u)
theorem Zt.of{H H':Hp}(s:bG H H'):Zt H H':=⟨fun b xs e=>s _ _ e,fun b o u e=>s _ _ e⟩
theorem Zt.ofN{H H':Hp}(s:jt H H'):Zt H H':=⟨fun b xs e=>s _ _ e (fun _ z=>by cases z),fun b o u e=>s _ _ e (fun _ z=>by cases z)⟩
theorem Zt.seq{K:aX}{H H':Hp}(k:Zt H H')(h:du K H a xs):du K H' a xs:=by
 rcases h with(h|⟨o,h⟩)|h
 ·exact .inl (.inl (k.1 _ _ h))
 ·exact .inl (.inr ⟨o,k.2 _ _ _ h⟩)
 exact .inr h
theorem CO.Bz{H H':Hp}(h:CO H d dat)(s:jt H H'):CO H' d dat:=by
 obtain⟨ef,e,kl,f⟩:=h;refine⟨ef,s _ _ e (fun _ z=>by cases z),kl,fun n=>?_⟩;have:=f n;cases hf:dat.find? fun x=>x.1==n with
 |none=>rw[hf]at this;exact this
 |some x=>
  rw[hf]at this;obtain⟨b,e1,e2⟩:=this;exact⟨b,e1,s _ _ e2 fun _ z=>by cases z⟩
theorem iE.Bz{CR:Addr}{H H':Hp}(h:iE CS CP CR H r s)(sm:jt H H'):iE CS CP CR H' r s:=by
 obtain⟨dx,d,NH,h1,h2,h3⟩:=h;refine⟨dx,d,NH,sm _ _ h1 (fun _ z=>by cases z),?_,h3.Bz sm⟩;unfold IG at h2⊢;split at h2
 ·exact h2
 obtain⟨a,e,pa,r⟩:=h2;exact⟨a,e,pa.Bz sm,r⟩
def wA(CS CP CR T1 T2:Addr)(H:Hp)(Q:VK)(r:Addr)(s:cx)(z:List Int):Prop:=∀n H',H n=ab->Zt H H'->iE CS CP CR H' r s->TabsOk T1 T2 H'->H' n=aa (.lst (mI z))->Q (.ref n) H'
def rY(K:aX)(CF:Addr)(E:XK)(H:Hp)(k:Int):Prop:=∀(C f a dx:Addr)(fs:aq)(H':Hp),pZ K C f=ae->eQ K C "number"->Sub K C CF ae->fs.lookup ("number":Str)=aa (.int k)->bG H H'->H' a=aa (D8 a C (aa dx))->H' dx=aa (Cq dx fs)->E (.ref a) ab H'
section
variable{CS CP CR T1 T2 r:Addr}{H:Hp}{Q:VK}{s:cx}{z:List Int}
theorem wA.tell(h:wA CS CP CR T1 T2 H Q r s z)(ra:iE CS CP CR H r s)(t:TabsOk T1 T2 H):FD H Q z:=fun n H' hn sm e=>h n H' hn (Zt.of sm) (ra.same sm) (t.same sm) e
theorem wA.abB(h:wA CS CP CR T1 T2 H Q r s z)(ra:iE CS CP CR H r s):P7 T1 T2 H Q z:=fun n H' hn sm t e=>h n H' hn (Zt.ofN sm) (ra.Bz sm) t e
theorem iX.aaU{T:Addr}{H H':Hp}{pos:Pos}{q:Str}(h:iX H T pos q){o:HO}(hx:H x=aa o)(n1:∀ps,o≠ .FZ ps)(n2:∀c q,o≠PR c q)(b:qE x H H'):iX H' T pos q:=by
 obtain⟨ps,e1,e2,e3⟩:=h;refine⟨ps,b _ _ (lB e1 hx fun z=>n1 _ z.symm) e1,e2,e3.imp id fun⟨c,z1,z2⟩=>⟨c,z1,b _ _ (lB z2 hx fun z=>n2 _ _ z.symm) z2⟩⟩
theorem wA.load(h:wA CS CP CR T1 T2 H Q r s z)(ra:iE CS CP CR H r s0)(t:TabsOk T1 T2 H):∀n H',H n=ab->qE r H H'->iE CS CP CR H' r s->H' n=aa (.lst (mI z))->Q (.ref n) H':=fun n H' hn b ra' e=>by
 obtain⟨dx,d,NH,h1,_⟩:=ra;refine h n H' hn ⟨fun c xs ec=>b _ _ (lB ec h1 (by intro y;cases y)) ec,fun c o u ec=>b _ _ (lB ec h1 (by intro y;cases y)) ec⟩ ra' ⟨iX.aaU t.1 h1 (fun _ y=>by cases y) (fun _ _ y=>by cases y) b,iX.aaU t.2 h1 (fun _ y=>by cases y) (fun _ _ y=>by cases y) b⟩ e
theorem wA.set(h:wA CS CP CR T1 T2 H Q r s z)(t:TabsOk T1 T2 H):∀n H',H n=ab->(∃d ef,H d=aa (.dK ef)/\qE d H H')->iE CS CP CR H' r s->H' n=aa (.lst (mI z))->Q (.ref n) H':=fun n H' hn ⟨d,ef,h1,b⟩ ra' e=>by
 refine h n H' hn ⟨fun c xs ec=>b _ _ (lB ec h1 (by intro y;cases y)) ec,fun c o u ec=>b _ _ (lB ec h1 (by intro y;cases y)) ec⟩ ra' ⟨iX.aaU t.1 h1 (fun _ y=>by cases y) (fun _ _ y=>by cases y) b,iX.aaU t.2 h1 (fun _ y=>by cases y) (fun _ _ y=>by cases y) b⟩ e
end
theorem rY.LH{w:cU}{K:aX}{mg:aj}{base:Heap}{E:XK}{H:Hp}{k:Int}{sp:Sp}{fs:aq}(h:rY K CF E H k)(M:Ec P w K mg base x C ps sp)(sb:Sub K C CF ae)(l:fs.lookup ("number":Str)=aa (.int k)):jC E H C fs:=fun a dx H' sm ea ed=>by
 obtain⟨f,fd,m,_⟩:=M.ex;exact h C f a dx fs H' m M.nn sb l sm ea ed
abbrev aeJ:=cx->Int->Int->List Int->cx->List Int->Prop
inductive Wx(R:aeJ)(K:aX)(CS CP CR CF T1 T2:Addr)(vs:ao)(H:Hp)(Q:VK)(E:XK):Prop
 |mk (r l:Addr) (s s':cx) (c z:Int) (ns yY:List Int) (_:vs=[.ref r,.int c,.int z,.ref l]) (_:iE CS CP CR H r s) (_:TabsOk T1 T2 H) (_:du K H l (mI ns)) (_:R s c z ns s' yY) (_:wA CS CP CR T1 T2 H Q r s' yY) (_:∀k,yY=[k]->s'=s->rY K CF E H k)
inductive WO(R:aeJ)(K:aX)(CS CP CR T1 T2:Addr)(vs:ao)(H:Hp)(Q:VK)(E:XK):Prop
 |mk (r l:Addr) (s s':cx) (c z:Int) (ns yY:List Int) (_:vs=[.ref r,.int c,.int z,.ref l]) (_:iE CS CP CR H r s) (_:TabsOk T1 T2 H) (_:du K H l (mI ns)) (_:R s c z ns s' yY) (_:wA CS CP CR T1 T2 H Q r s' yY)
theorem HG{f CR:Addr}(F:iF K "answer_call" "answer_call" tV f fd)(mF:pZ K CF fF=ae)(gF:mg "Refusal"=aa (.ref CF))(Cw:Fn P w K mg base (k4 P w) 11 "work_call" Q6 (Wx R K CS CP CR CF T1 T2)):
 dv P w K mg base (k4 P w) 12 f fd Q6 (WO R K CS CP CR T1 T2):=by
 refine DT F xi fun fA A outer s H vs Q E hr h=>?_
 obtain⟨r,l,s0,s1,c,z,ns,yY,rfl,ra,tab,hl,st,q⟩:=h
 have nd:=xi.nd
 refine⟨_,bj (W8 kZ (fun pn E1=>bj (b8 (rM Cw ⟨rfl,rfl⟩ hr (by rfl) (aP (pv 0) (aP (pv 1) (aP (pv 2) (aP (pv 3) bq)))))))
  (Xh (i:=4) kZ (by rfl) gF mF nd rfl rfl (fun pn a=>by
   refine bj (b8 (eA (aP (show PE _ _ (SQ K (Ak 4) "number")from ?_) bq)));exact LN (pv 4) (by rfl))
  (Xg kZ))),?_⟩
 refine⟨_,rfl,_,rfl,_,rfl,_,rfl,r,l,s0,s1,c,z,ns,yY,rfl,ra,tab,hl,st,q,?_⟩
 rintro k rfl rfl C f a dx fs H' m nn sb lk sm ea ed
 refine⟨a,rfl,C,f,aa dx,ae,ea,m,sb,dI ?_⟩
 refine⟨_,rfl,a,C,f,dx,fs,_,rfl,ea,ed,m,nn,lk,by show 1<=bz;decide,fun n hn=>?_⟩
 have s2:=sm.trans (bG.new hn (o:=.lst [V.int k]))
 exact q n _ (sm.free hn) (Zt.of s2) (ra.same s2) (tab.same s2) ba
def vW(a:kW):List Int:=a.value::a.list
section
variable{P:b7}{w:cU}{K:aX}{mg:aj}{base:Heap}{CS CP CR CF T1 T2 r:Addr}{H:Hp}{Q:VK}{E:XK}{s:cx}
structure nI(K:aX)(CS CP CR CF T1 T2:Addr)(H:Hp)(Q:VK)(E:XK)(r:Addr)(s:cx)(a:kW):Prop where
 q:wA CS CP CR T1 T2 H Q r s (vW a)
 e:∀k,vW a=[k]->rY K CF E H k
theorem nI.held{f:aT->kW}(h:nI K CS CP CR CF T1 T2 H Q E r s (vd s f))(M:Ec P w K mg base "NoProgram" CN dR (iK K (-4)))(sb:Sub K CN CF ae){g:aT->Prop}(k:∀p,nI K CS CP CR CF T1 T2 H Q E r s (f p)->g p):qe E H CN s g:=by
 unfold qe;unfold vd at h;cases hp:s.program with
 |none=>
  rw[hp]at h;exact rY.LH (h.e (-4) rfl) M sb rfl
 |some p=>
  rw[hp]at h;exact k p h
theorem nI.Ga{ns:List Int}{f:aT->List Nat->kW}(h:nI K CS CP CR CF T1 T2 H Q E r s (K8 s ns f))(M:Ec P w K mg base "NoProgram" CN dR (iK K (-4)))(sb:Sub K CN CF ae)(MW:Ec P w K mg base "WrongPlan" CW dR (iK K (-5)))(sw:Sub K CW CF ae){g:aT->List Nat->Prop}(k:∀p q,nI K CS CP CR CF T1 T2 H Q E r s (f p q)->g p q):pQ E H CN CW s ns g:=by
 unfold pQ;refine nI.held h M sb fun p hp=>?_;by_cases hb:iy p ns
 ·rw[c8 hb];have Ih:ns.length≠p.length\/ns.all (fun n=>decide (0<=n)&&decide (n<=10000))=af:=hb;rw[c8 Ih]at hp;exact rY.LH (hp.e (-5) rfl) MW sw rfl
 rw[cP hb];have Ih:¬(ns.length≠p.length\/ns.all (fun n=>decide (0<=n)&&decide (n<=10000))=af):=hb;rw[cP Ih]at hp;exact k p _ hp
theorem nI.tell(h:nI K CS CP CR CF T1 T2 H Q E r s a)(ra:iE CS CP CR H r s)(t:TabsOk T1 T2 H):FD H Q (vW a):=h.q.tell ra t
theorem nI.no{sp:Sp}{k:Int}(h:nI K CS CP CR CF T1 T2 H Q E r s (pV k))(M:Ec P w K mg base x C ps sp)(sb:Sub K C CF ae):jC E H C [("number",.int k)]:=rY.LH (h.e k rfl) M sb rfl
theorem YM(h:nI K CS CP CR CF T1 T2 H Q E r s (dP s .need))(ra:iE CS CP CR H r s)(t:TabsOk T1 T2 H)(M:Ec P w K mg base "NoProgram" CN dR (iK K (-4)))(sb:Sub K CN CF ae):GR CS CP CR CN [.ref r] H Q E:=
 ⟨r,s,rfl,ra,nI.held (f:=fun p=>Dd (FK p)) h M sb fun p hp=>hp.tell ra t⟩
theorem YO(h:nI K CS CP CR CF T1 T2 H Q E r s (dP s .live))(ra:iE CS CP CR H r s)(t:TabsOk T1 T2 H)(M:Ec P w K mg base "NoProgram" CN dR (iK K (-4)))(sb:Sub K CN CF ae):GU CS CP CR CN [.ref r] H Q E:=
 ⟨r,s,rfl,ra,nI.held (f:=fun p=>iY (Vaarrl.«ints» ((bw p.length).flatMap fun a=>[bD p a,di p a]))) h M sb fun p hp=>hp.tell ra t⟩
theorem VG(h:nI K CS CP CR CF T1 T2 H Q E r s (dP s .plain))(ra:iE CS CP CR H r s)(t:TabsOk T1 T2 H)(M:Ec P w K mg base "NoProgram" CN dR (iK K (-4)))(sb:Sub K CN CF ae):Ds CS CP CR CN [.ref r] H Q E:=
 ⟨r,s,rfl,ra,nI.held (f:=fun p=>iY (Vaarrl.«ints» (eX p))) h M sb fun p hp=>hp.tell ra t⟩
theorem YJ{ns:List Int}(h:nI K CS CP CR CF T1 T2 H Q E r s (dP s (.room ns)))(ra:iE CS CP CR H r s)(t:TabsOk T1 T2 H)(hl:du K H l (mI ns))(M:Ec P w K mg base "NoProgram" CN dR (iK K (-4)))(sb:Sub K CN CF ae)(MW:Ec P w K mg base "WrongPlan" CW dR (iK K (-5)))(sw:Sub K CW CF ae):GO K CS CP CR CN CW [.ref r,.ref l] H Q E:=
 ⟨r,l,s,ns,rfl,ra,hl,nI.Ga (f:=fun p q=>Dd (i6 p q)) h M sb MW sw fun p q hp=>hp.tell ra t⟩
theorem VH{ns:List Int}(h:nI K CS CP CR CF T1 T2 H Q E r s (dP s (.check ns)))(ra:iE CS CP CR H r s)(t:TabsOk T1 T2 H)(hl:du K H l (mI ns))(M:Ec P w K mg base "NoProgram" CN dR (iK K (-4)))(sb:Sub K CN CF ae)(MW:Ec P w K mg base "WrongPlan" CW dR (iK K (-5)))(sw:Sub K CW CF ae):Dt K CS CP CR CN CW [.ref r,.ref l] H Q E:=
 ⟨r,l,s,ns,rfl,ra,hl,nI.Ga (f:=fun p q=>(match fz p q with|none=>{value:=0}|some x=>{value:=1,list:=Vaarrl.«ints» [x.1,x.2]})) h M sb MW sw fun p q hp=>by
  have:=hp.tell ra t;unfold MX;cases hf:fz p q with
  |none=>rw[hf]at this;exact this
  |some x=>rw[hf]at this;exact this⟩
theorem YL{ns:List Int}(h:nI K CS CP CR CF T1 T2 H Q E r s (dP s (.pack ns)))(ra:iE CS CP CR H r s)(t:TabsOk T1 T2 H)(hl:du K H l (mI ns))(M:Ec P w K mg base "NoProgram" CN dR (iK K (-4)))(sb:Sub K CN CF ae)(MW:Ec P w K mg base "WrongPlan" CW dR (iK K (-5)))(sw:Sub K CW CF ae)(MC:Ec P w K mg base "ClashingPlan" CC dR (iK K (-7)))(sc:Sub K CC CF ae):GQ K CS CP CR CN CW CC T1 T2 [.ref r,.ref l] H Q E:=
 ⟨r,l,s,ns,rfl,ra,t,hl,nI.Ga (f:=fun p q=>if wF p q=af then pV Vaarrl.CLASH else iY (Vaarrl.«ints» (mE p q))) h M sb MW sw fun p q hp=>by
  by_cases hs:wF p q=af
  ·rw[c8 hs]at hp⊢;exact hp.no MC sc
  rw[cP hs]at hp⊢;exact hp.q.abB ra⟩
theorem YK{k:Int}(h:nI K CS CP CR CF T1 T2 H Q E r s (dP s (.plan k)))(ra:iE CS CP CR H r s)(t:TabsOk T1 T2 H)(M:Ec P w K mg base "NoProgram" CN dR (iK K (-4)))(sb:Sub K CN CF ae)(MB:Ec P w K mg base "BeyondLimit" CB dR (iK K (-6)))(sc:Sub K CB CF ae):GP CS CP CR CN CB T1 T2 [.ref r,.int k] H Q E:=
 ⟨r,s,k,rfl,ra,t,nI.held (f:=fun p=>if k<0\/2<k then pV Vaarrl.LIMIT else iY (Vaarrl.«ints» (um p k.toNat))) h M sb fun p hp=>by
  by_cases hs:k<0\/2<k
  ·rw[c8 hs]at hp⊢;exact hp.no MB sc
  rw[cP hs]at hp⊢;exact hp.q.abB ra⟩
theorem aaX{ns:List Int}(h:nI K CS CP CR CF T1 T2 H Q E r s (dP s (.run ns)))(ra:iE CS CP CR H r s)(t:TabsOk T1 T2 H)(hl:du K H l (mI ns))(M:Ec P w K mg base "NoProgram" CN dR (iK K (-4)))(sb:Sub K CN CF ae)(MW:Ec P w K mg base "WrongPlan" CW dR (iK K (-5)))(sw:Sub K CW CF ae)(MM:Ec P w K mg base "MissingData" CM dR (iK K (-10)))(sm:Sub K CM CF ae):Lu K CS CP CR CN CW CM [.ref r,.ref l] H Q E:=
 ⟨r,l,s,ns,rfl,ra,hl,nI.Ga (f:=fun p q=>if eB s p=af then pV yZ else iY (gu (jj p q s.data))) h M sb MW sw fun p q hp=>by
  by_cases hs:eB s p=af
  ·rw[c8 hs]at hp⊢;exact hp.no MM sm
  rw[cP hs]at hp⊢;exact hp.tell ra t⟩
theorem VI(h:nI K CS CP CR CF T1 T2 H Q E r s (dP s .apart))(ra:iE CS CP CR H r s)(t:TabsOk T1 T2 H)(M:Ec P w K mg base "NoProgram" CN dR (iK K (-4)))(sb:Sub K CN CF ae)(MM:Ec P w K mg base "MissingData" CM dR (iK K (-10)))(sm:Sub K CM CF ae):Du CS CP CR CN CM [.ref r] H Q E:=
 ⟨r,s,rfl,ra,nI.held (f:=fun p=>if eB s p=af then pV yZ else iY (gu (qL p s.data))) h M sb fun p hp=>by
  by_cases hs:eB s p=af
  ·rw[c8 hs]at hp⊢;exact hp.no MM sm
  rw[cP hs]at hp⊢;exact hp.tell ra t⟩
theorem VF(h:nI K CS CP CR CF T1 T2 H Q E r s (dP s (.where_ x)))(ra:iE CS CP CR H r s)(t:TabsOk T1 T2 H)(hl:du K H l (tx x))(j6:x.length<=100000):Dr K [.ref r,.ref l] H Q E:=
 ⟨r,l,x,rfl,hl,j6,by
  have:FD H Q (vW (match eE x with|.ok _=>{value:=0,list:=[0]}|.error e=>{value:=((e.1:Nat):Int),list:=[((e.2:Nat):Int)]})):=h.tell ra t;unfold QC;cases hp:eE x with
  |ok p=>rw[hp]at this;exact this
  |error e=>rw[hp]at this;exact this⟩
end
section
variable{P:b7}{w:cU}{K:aX}{mg:aj}{base:Heap}{CS CP CR CF T1 T2 r:Addr}{H:Hp}{Q:VK}{E:XK}{s:cx}
structure acb(K:aX)(CS CP CR CF T1 T2:Addr)(H:Hp)(Q:VK)(E:XK)(r:Addr)(s:cx)(x:cx×kW):Prop where
 q:wA CS CP CR T1 T2 H Q r x.1 (vW x.2)
 e:∀k,vW x.2=[k]->x.1=s->rY K CF E H k
theorem YN{t:List Nat}(h:acb K CS CP CR CF T1 T2 H Q E r s (qk s t))(ra:iE CS CP CR H r s)(tb:TabsOk T1 T2 H)(hl:du K H l (tx t))(j6:t.length<=100000)
 (ML:Ec P w K mg base "TooLong" CL dR (iK K (-1)))(MW:Ec P w K mg base "WrongForm" CW Hj (Dv K (-2) "position"))(MN:Ec P w K mg base "WrongName" CN Hl (Dv K (-3) "statement_number"))(s1:Sub K CL CF ae)(s2:Sub K CW CF ae)(s3:Sub K CN CF ae):
 GS K CS CP CR CL CW CN [.ref r,.ref l] H Q E:=by
 refine⟨r,l,s,t,rfl,ra,hl,j6,?_⟩
 unfold qk at h
 cases hp:eE t with
 |ok p=>
  rw[hp]at h
  exact h.q.load ra tb
 |error e=>
  rw[hp]at h
  show yn E H CL CW CN e
  have we:rY K CF E H (-((e.1:Nat):Int)):=h.e _ rfl rfl
  unfold yn
  rcases OH hp with y|y|y
  ·subst y
   rw[c8 rfl]
   exact rY.LH we ML s1 rfl
  ·rw[y]at we
   rw[cP (by omega),c8 y]
   exact rY.LH we MW s2 rfl
  rw[y]at we
  rw[cP (by omega),cP (by omega)]
  exact rY.LH we MN s3 rfl
theorem aaW(h:acb K CS CP CR CF T1 T2 H Q E r s (Bh s z ds))(ra:iE CS CP CR H r s)(tb:TabsOk T1 T2 H)(hl:du K H l (mI ds))
 (M:Ec P w K mg base "NoProgram" CN dR (iK K (-4)))(MA:Ec P w K mg base "AbsentInput" CA dR (iK K (-8)))(MD:Ec P w K mg base "WrongData" CD dR (iK K (-9)))(s1:Sub K CN CF ae)(s2:Sub K CA CF ae)(s3:Sub K CD CF ae):
 Ls K CS CP CR CN CA CD [.ref r,.int z,.ref l] H Q E:=by
 refine⟨r,l,s,z,ds,rfl,ra,hl,?_⟩
 unfold qe
 unfold Bh Vaarrl.setFault at h
 cases hp:s.program with
 |none=>
  rw[hp]at h
  exact rY.LH (h.e (-4) rfl rfl) M s1 rfl
 |some p=>
  rw[hp]at h
  by_cases h1:z<0\/(dw p).contains z.toNat=af
  ·simp only[c8 h1]at h⊢
   exact rY.LH (h.e (-8) rfl rfl) MA s2 rfl
  by_cases h2:ds.length≠aU p z.toNat\/ds.all jk=af
  ·simp only[cP h1,c8 h2]at h⊢
   exact rY.LH (h.e (-9) rfl rfl) MD s3 rfl
  simp only[cP h1,cP h2,if_true]at h⊢
  have e:G5 s z.toNat ds={program:=aa p,data:=(z.toNat,ds)::s.data.filter fun x=>x.1 != z.toNat}:=by
   unfold G5;rw[hp]
  rw[e]
  exact h.q.set tb
end
theorem afQ{st:Stmt}:PS X st (fun _ _ _=>False):=fun _ _ _ _ _ _ h=>h.elim
def P8:aeJ:=fun s c z ns s' yY=>∃x:cx×kW,s'=x.1/\yY=vW x.2/\
 ((c=0/\∃t,mI ns=tx t/\t.length<=100000/\x=qk s t)\/(c=1/\∃t,mI ns=tx t/\t.length<=100000/\x=(s,dP s (.where_ t)))\/(c=2/\x=(s,dP s .plain))\/(c=3/\x=(s,dP s .live))\/(c=4/\x=(s,dP s .need))\/
  (c=5/\x=(s,dP s (.check ns)))\/(c=6/\x=(s,dP s (.room ns)))\/(c=7/\x=(s,dP s (.plan z)))\/(c=8/\x=(s,dP s (.pack ns)))\/(c=9/\x=Bh s z ns)\/(c=10/\x=(s,dP s (.run ns)))\/(c=11/\x=(s,dP s .apart)))
structure WkC(P:b7)(w:cU)(K:aX)(mg:aj)(base:Heap)(CS CP CR CF T1 T2 CL CW CN C4 C5 C6 C7 C8 C9 C10:Addr):Prop where
 T:Ql K CR
 ML:Ec P w K mg base "TooLong" CL dR (iK K (-1))
 MW:Ec P w K mg base "WrongForm" CW Hj (Dv K (-2) "position")
 MN:Ec P w K mg base "WrongName" CN Hl (Dv K (-3) "statement_number")
 M4:Ec P w K mg base "NoProgram" C4 dR (iK K (-4))
 M5:Ec P w K mg base "WrongPlan" C5 dR (iK K (-5))
 M6:Ec P w K mg base "BeyondLimit" C6 dR (iK K (-6))
 M7:Ec P w K mg base "ClashingPlan" C7 dR (iK K (-7))
 M8:Ec P w K mg base "AbsentInput" C8 dR (iK K (-8))
 M9:Ec P w K mg base "WrongData" C9 dR (iK K (-9))
 M10:Ec P w K mg base "MissingData" C10 dR (iK K (-10))
 sL:Sub K CL CF ae
 sW:Sub K CW CF ae
 sN:Sub K CN CF ae
 s4:Sub K C4 CF ae
 s5:Sub K C5 CF ae
 s6:Sub K C6 CF ae
 s7:Sub K C7 CF ae
 s8:Sub K C8 CF ae
 s9:Sub K C9 CF ae
 s10:Sub K C10 CF ae
 load:Me P w K mg base (k4 P w) 10 CR "load" ["self","text"] (GS K CS CP CR CL CW CN)
 aic:Me P w K mg base (k4 P w) 10 CR "where" ["self","text"] (Dr K)
 plain:Me P w K mg base (k4 P w) 5 CR "plain" dR (Ds CS CP CR C4)
 live:Me P w K mg base (k4 P w) 5 CR "live" dR (GU CS CP CR C4)
 need:Me P w K mg base (k4 P w) 5 CR "need" dR (GR CS CP CR C4)
 check:Me P w K mg base (k4 P w) 5 CR "check" wm (Dt K CS CP CR C4 C5)
 room:Me P w K mg base (k4 P w) 5 CR "room" wm (GO K CS CP CR C4 C5)
 plan:Me P w K mg base (k4 P w) 8 CR "plan" ["self","kind"] (GP CS CP CR C4 C6 T1 T2)
 pack:Me P w K mg base (k4 P w) 7 CR "pack" wm (GQ K CS CP CR C4 C5 C7 T1 T2)
 set:Me P w K mg base (k4 P w) 5 CR "set_data" ["self","number","data"] (Ls K CS CP CR C4 C8 C9)
 run:Me P w K mg base (k4 P w) 6 CR "run" wm (Lu K CS CP CR C4 C5 C10)
 apart:Me P w K mg base (k4 P w) 6 CR "apart" dR (Du CS CP CR C4 C10)
 g0:∃t,mg "LOAD"=aa (.int 0 t)
 g1:∃t,mg "WHERE"=aa (.int 1 t)
 g2:∃t,mg "PLAIN"=aa (.int 2 t)
 g3:∃t,mg "LIVE"=aa (.int 3 t)
 g4:∃t,mg "NEED"=aa (.int 4 t)
 g5:∃t,mg "CHECK"=aa (.int 5 t)
 g6:∃t,mg "ROOM"=aa (.int 6 t)
 g7:∃t,mg "PLAN"=aa (.int 7 t)
 g8:∃t,mg "PACK"=aa (.int 8 t)
 g9:∃t,mg "SET_DATA"=aa (.int 9 t)
 g10:∃t,mg "RUN"=aa (.int 10 t)
 g11:∃t,mg "APART"=aa (.int 11 t)
theorem LR{f CR:Addr}(F:iF K "work_call" "work_call" xu f fd)(W:WkC P w K mg base CS CP CR CF T1 T2 CL CW CN C4 C5 C6 C7 C8 C9 C10):
 dv P w K mg base (k4 P w) 11 f fd Q6 (Wx P8 K CS CP CR CF T1 T2):=by
 refine DT F Lz fun fA A outer s H vs Q E hr h=>?_
 obtain⟨r,l,s0,s1,c,z,ns,yY,rfl,ra,tab,hl,⟨x,rfl,rfl,cs⟩,q,e⟩:=h
 obtain⟨dx,d,NH,h1,_⟩:=id ra
 have h5:gG 5 _:=hr.mono (by decide)
 have h6:gG 6 _:=hr.mono (by decide)
 have c0:=W.T.cl
 refine⟨_,bh (d8 (cR iW (pv 1) (iD (by rfl) W.g0) (da _)) (bj (b8 (kP kZ c0 W.load hr (pv 0) (aP (pv 3) bq)))) cS)
  (bh (d8 (cR iW (pv 1) (iD (by rfl) W.g1) (da _)) (bj (b8 (kP kZ c0 W.aic hr (pv 0) (aP (pv 3) bq)))) cS)
  (bh (d8 (cR iW (pv 1) (iD (by rfl) W.g2) (da _)) (bj (b8 (jh kZ c0 W.plain h5 (pv 0)))) cS)
  (bh (d8 (cR iW (pv 1) (iD (by rfl) W.g3) (da _)) (bj (b8 (jh kZ c0 W.live h5 (pv 0)))) cS)
  (bh (d8 (cR iW (pv 1) (iD (by rfl) W.g4) (da _)) (bj (b8 (jh kZ c0 W.need h5 (pv 0)))) cS)
  (bh (d8 (cR iW (pv 1) (iD (by rfl) W.g5) (da _)) (bj (b8 (kP kZ c0 W.check h5 (pv 0) (aP (pv 3) bq)))) cS)
  (bh (d8 (cR iW (pv 1) (iD (by rfl) W.g6) (da _)) (bj (b8 (kP kZ c0 W.room h5 (pv 0) (aP (pv 3) bq)))) cS)
  (bh (d8 (cR iW (pv 1) (iD (by rfl) W.g7) (da _)) (bj (b8 (kP kZ c0 W.plan (hr.mono (by decide)) (pv 0) (aP (pv 2) bq)))) cS)
  (bh (d8 (cR iW (pv 1) (iD (by rfl) W.g8) (da _)) (bj (b8 (kP kZ c0 W.pack (hr.mono (by decide)) (pv 0) (aP (pv 3) bq)))) cS)
  (bh (d8 (cR iW (pv 1) (iD (by rfl) W.g9) (da _)) (bj (b8 (kP kZ c0 W.set h5 (pv 0) (aP (pv 2) (aP (pv 3) bq))))) cS)
  (bh (d8 (cR iW (pv 1) (iD (by rfl) W.g10) (da _)) (bj (b8 (kP kZ c0 W.run h6 (pv 0) (aP (pv 3) bq)))) cS)
  (bh (d8 (cR iW (pv 1) (iD (by rfl) W.g11) (da _)) (bj (b8 (jh kZ c0 W.apart h6 (pv 0)))) cS)
  (bj afQ)))))))))))),?_⟩
 rcases cs with⟨rfl,t,et,j6,rfl⟩|⟨rfl,t,et,j6,rfl⟩|⟨rfl,rfl⟩|⟨rfl,rfl⟩|⟨rfl,rfl⟩|⟨rfl,rfl⟩|⟨rfl,rfl⟩|⟨rfl,rfl⟩|⟨rfl,rfl⟩|⟨rfl,rfl⟩|⟨rfl,rfl⟩|⟨rfl,rfl⟩
 ·(refine⟨_,rfl,rfl,_,rfl,?_⟩;rw[cF,qi (by decide)])
  exact dI ⟨_,rfl,r,dx,_,rfl,h1,rfl,_,rfl,YN ⟨q,e⟩ ra tab (et▸hl) j6 W.ML W.MW W.MN W.sL W.sW W.sN⟩
 ·(refine⟨_,rfl,rfl,_,rfl,?_⟩;rw[cF,gX (by decide)];refine cD ?_);(refine⟨_,rfl,rfl,_,rfl,?_⟩;rw[cF,qi (by decide)])
  exact dI ⟨_,rfl,r,dx,_,rfl,h1,rfl,_,rfl,VF ⟨q,fun k y=>e k y rfl⟩ ra tab (et▸hl) j6⟩
 ·(refine⟨_,rfl,rfl,_,rfl,?_⟩;rw[cF,gX (by decide)];refine cD ?_);(refine⟨_,rfl,rfl,_,rfl,?_⟩;rw[cF,gX (by decide)];refine cD ?_);(refine⟨_,rfl,rfl,_,rfl,?_⟩;rw[cF,qi (by decide)])
  exact dI ⟨_,rfl,r,dx,_,rfl,h1,rfl,VG ⟨q,fun k y=>e k y rfl⟩ ra tab W.M4 W.s4⟩
 ·(refine⟨_,rfl,rfl,_,rfl,?_⟩;rw[cF,gX (by decide)];refine cD ?_);(refine⟨_,rfl,rfl,_,rfl,?_⟩;rw[cF,gX (by decide)];refine cD ?_);(refine⟨_,rfl,rfl,_,rfl,?_⟩;rw[cF,gX (by decide)];refine cD ?_);(refine⟨_,rfl,rfl,_,rfl,?_⟩;rw[cF,qi (by decide)])
  exact dI ⟨_,rfl,r,dx,_,rfl,h1,rfl,YO ⟨q,fun k y=>e k y rfl⟩ ra tab W.M4 W.s4⟩
 ·(refine⟨_,rfl,rfl,_,rfl,?_⟩;rw[cF,gX (by decide)];refine cD ?_);(refine⟨_,rfl,rfl,_,rfl,?_⟩;rw[cF,gX (by decide)];refine cD ?_);(refine⟨_,rfl,rfl,_,rfl,?_⟩;rw[cF,gX (by decide)];refine cD ?_);(refine⟨_,rfl,rfl,_,rfl,?_⟩;rw[cF,gX (by decide)];refine cD ?_);(refine⟨_,rfl,rfl,_,rfl,?_⟩;rw[cF,qi (by decide)])
  exact dI ⟨_,rfl,r,dx,_,rfl,h1,rfl,YM ⟨q,fun k y=>e k y rfl⟩ ra tab W.M4 W.s4⟩
 ·(refine⟨_,rfl,rfl,_,rfl,?_⟩;rw[cF,gX (by decide)];refine cD ?_);(refine⟨_,rfl,rfl,_,rfl,?_⟩;rw[cF,gX (by decide)];refine cD ?_);(refine⟨_,rfl,rfl,_,rfl,?_⟩;rw[cF,gX (by decide)];refine cD ?_);(refine⟨_,rfl,rfl,_,rfl,?_⟩;rw[cF,gX (by decide)];refine cD ?_);(refine⟨_,rfl,rfl,_,rfl,?_⟩;rw[cF,gX (by decide)];refine cD ?_);(refine⟨_,rfl,rfl,_,rfl,?_⟩;rw[cF,qi (by decide)])
  exact dI ⟨_,rfl,r,dx,_,rfl,h1,rfl,_,rfl,VH ⟨q,fun k y=>e k y rfl⟩ ra tab hl W.M4 W.s4 W.M5 W.s5⟩
 ·(refine⟨_,rfl,rfl,_,rfl,?_⟩;rw[cF,gX (by decide)];refine cD ?_);(refine⟨_,rfl,rfl,_,rfl,?_⟩;rw[cF,gX (by decide)];refine cD ?_);(refine⟨_,rfl,rfl,_,rfl,?_⟩;rw[cF,gX (by decide)];refine cD ?_);(refine⟨_,rfl,rfl,_,rfl,?_⟩;rw[cF,gX (by decide)];refine cD ?_);(refine⟨_,rfl,rfl,_,rfl,?_⟩;rw[cF,gX (by decide)];refine cD ?_);(refine⟨_,rfl,rfl,_,rfl,?_⟩;rw[cF,gX (by decide)];refine cD ?_);(refine⟨_,rfl,rfl,_,rfl,?_⟩;rw[cF,qi (by decide)])
  exact dI ⟨_,rfl,r,dx,_,rfl,h1,rfl,_,rfl,YJ ⟨q,fun k y=>e k y rfl⟩ ra tab hl W.M4 W.s4 W.M5 W.s5⟩
 ·(refine⟨_,rfl,rfl,_,rfl,?_⟩;rw[cF,gX (by decide)];refine cD ?_);(refine⟨_,rfl,rfl,_,rfl,?_⟩;rw[cF,gX (by decide)];refine cD ?_);(refine⟨_,rfl,rfl,_,rfl,?_⟩;rw[cF,gX (by decide)];refine cD ?_);(refine⟨_,rfl,rfl,_,rfl,?_⟩;rw[cF,gX (by decide)];refine cD ?_);(refine⟨_,rfl,rfl,_,rfl,?_⟩;rw[cF,gX (by decide)];refine cD ?_);(refine⟨_,rfl,rfl,_,rfl,?_⟩;rw[cF,gX (by decide)];refine cD ?_);(refine⟨_,rfl,rfl,_,rfl,?_⟩;rw[cF,gX (by decide)];refine cD ?_);(refine⟨_,rfl,rfl,_,rfl,?_⟩;rw[cF,qi (by decide)])
  exact dI ⟨_,rfl,r,dx,_,rfl,h1,rfl,_,rfl,YK ⟨q,fun k y=>e k y rfl⟩ ra tab W.M4 W.s4 W.M6 W.s6⟩
 ·(refine⟨_,rfl,rfl,_,rfl,?_⟩;rw[cF,gX (by decide)];refine cD ?_);(refine⟨_,rfl,rfl,_,rfl,?_⟩;rw[cF,gX (by decide)];refine cD ?_);(refine⟨_,rfl,rfl,_,rfl,?_⟩;rw[cF,gX (by decide)];refine cD ?_);(refine⟨_,rfl,rfl,_,rfl,?_⟩;rw[cF,gX (by decide)];refine cD ?_);(refine⟨_,rfl,rfl,_,rfl,?_⟩;rw[cF,gX (by decide)];refine cD ?_);(refine⟨_,rfl,rfl,_,rfl,?_⟩;rw[cF,gX (by decide)];refine cD ?_);(refine⟨_,rfl,rfl,_,rfl,?_⟩;rw[cF,gX (by decide)];refine cD ?_);(refine⟨_,rfl,rfl,_,rfl,?_⟩;rw[cF,gX (by decide)];refine cD ?_);(refine⟨_,rfl,rfl,_,rfl,?_⟩;rw[cF,qi (by decide)])
  exact dI ⟨_,rfl,r,dx,_,rfl,h1,rfl,_,rfl,YL ⟨q,fun k y=>e k y rfl⟩ ra tab hl W.M4 W.s4 W.M5 W.s5 W.M7 W.s7⟩
 ·(refine⟨_,rfl,rfl,_,rfl,?_⟩;rw[cF,gX (by decide)];refine cD ?_);(refine⟨_,rfl,rfl,_,rfl,?_⟩;rw[cF,gX (by decide)];refine cD ?_);(refine⟨_,rfl,rfl,_,rfl,?_⟩;rw[cF,gX (by decide)];refine cD ?_);(refine⟨_,rfl,rfl,_,rfl,?_⟩;rw[cF,gX (by decide)];refine cD ?_);(refine⟨_,rfl,rfl,_,rfl,?_⟩;rw[cF,gX (by decide)];refine cD ?_);(refine⟨_,rfl,rfl,_,rfl,?_⟩;rw[cF,gX (by decide)];refine cD ?_);(refine⟨_,rfl,rfl,_,rfl,?_⟩;rw[cF,gX (by decide)];refine cD ?_);(refine⟨_,rfl,rfl,_,rfl,?_⟩;rw[cF,gX (by decide)];refine cD ?_);(refine⟨_,rfl,rfl,_,rfl,?_⟩;rw[cF,gX (by decide)];refine cD ?_);(refine⟨_,rfl,rfl,_,rfl,?_⟩;rw[cF,qi (by decide)])
  exact dI ⟨_,rfl,r,dx,_,rfl,h1,rfl,_,rfl,_,rfl,aaW ⟨q,e⟩ ra tab hl W.M4 W.M8 W.M9 W.s4 W.s8 W.s9⟩
 ·(refine⟨_,rfl,rfl,_,rfl,?_⟩;rw[cF,gX (by decide)];refine cD ?_);(refine⟨_,rfl,rfl,_,rfl,?_⟩;rw[cF,gX (by decide)];refine cD ?_);(refine⟨_,rfl,rfl,_,rfl,?_⟩;rw[cF,gX (by decide)];refine cD ?_);(refine⟨_,rfl,rfl,_,rfl,?_⟩;rw[cF,gX (by decide)];refine cD ?_);(refine⟨_,rfl,rfl,_,rfl,?_⟩;rw[cF,gX (by decide)];refine cD ?_);(refine⟨_,rfl,rfl,_,rfl,?_⟩;rw[cF,gX (by decide)];refine cD ?_);(refine⟨_,rfl,rfl,_,rfl,?_⟩;rw[cF,gX (by decide)];refine cD ?_);(refine⟨_,rfl,rfl,_,rfl,?_⟩;rw[cF,gX (by decide)];refine cD ?_);(refine⟨_,rfl,rfl,_,rfl,?_⟩;rw[cF,gX (by decide)];refine cD ?_);(refine⟨_,rfl,rfl,_,rfl,?_⟩;rw[cF,gX (by decide)];refine cD ?_);(refine⟨_,rfl,rfl,_,rfl,?_⟩;rw[cF,qi (by decide)])
  exact dI ⟨_,rfl,r,dx,_,rfl,h1,rfl,_,rfl,aaX ⟨q,fun k y=>e k y rfl⟩ ra tab hl W.M4 W.s4 W.M5 W.s5 W.M10 W.s10⟩
 (refine⟨_,rfl,rfl,_,rfl,?_⟩;rw[cF,gX (by decide)];refine cD ?_);(refine⟨_,rfl,rfl,_,rfl,?_⟩;rw[cF,gX (by decide)];refine cD ?_);(refine⟨_,rfl,rfl,_,rfl,?_⟩;rw[cF,gX (by decide)];refine cD ?_);(refine⟨_,rfl,rfl,_,rfl,?_⟩;rw[cF,gX (by decide)];refine cD ?_);(refine⟨_,rfl,rfl,_,rfl,?_⟩;rw[cF,gX (by decide)];refine cD ?_);(refine⟨_,rfl,rfl,_,rfl,?_⟩;rw[cF,gX (by decide)];refine cD ?_);(refine⟨_,rfl,rfl,_,rfl,?_⟩;rw[cF,gX (by decide)];refine cD ?_);(refine⟨_,rfl,rfl,_,rfl,?_⟩;rw[cF,gX (by decide)];refine cD ?_);(refine⟨_,rfl,rfl,_,rfl,?_⟩;rw[cF,gX (by decide)];refine cD ?_);(refine⟨_,rfl,rfl,_,rfl,?_⟩;rw[cF,gX (by decide)];refine cD ?_);(refine⟨_,rfl,rfl,_,rfl,?_⟩;rw[cF,gX (by decide)];refine cD ?_);(refine⟨_,rfl,rfl,_,rfl,?_⟩;rw[cF,qi (by decide)])
 exact dI ⟨_,rfl,r,dx,_,rfl,h1,rfl,VI ⟨q,fun k y=>e k y rfl⟩ ra tab W.M4 W.s4 W.M10 W.s10⟩
theorem SN{ns:List Int}{t:List Nat}(h:jU ns=aa t):mI ns=tx t/\t.length=ns.length:=by
 unfold jU at h;split at h
 ·rename_i hb;cases h;unfold Uj at hb;rw[cV]at hb;refine⟨?_,by rw[aV]⟩;unfold mI tx;rw[dA];refine dj fun n hn=>?_;have:=hb n hn;simp at this;show V.int n=V.int ((n.toNat:Nat):Int);rw[CV (by omega)]
 cases h
theorem Kf{a:List Int}(h:(a.all fun(z:Int)=>nF z 8)=ae):∃t,jU a=aa t:=by
 unfold jU;refine⟨_,c8 ?_⟩;unfold Uj;rw[cV]at h⊢;intro z hz;have:=h z hz;unfold nF at this;simp at this⊢;omega
def YE(p:Int):Prop:=p=2\/p=3\/p=4\/p=11
def YD(p:Int):Prop:=p=0\/p=1\/p=5\/p=6\/p=8\/p=10
section
variable{s:cx}{p z:Int}{ns:List Int}
theorem ZU(h:YE p):P8 s p z ns (cN s [[p]]).1 (cN s [[p]]).2:=by
 rcases h with rfl|rfl|rfl|rfl
 ·exact⟨(s,_),rfl,rfl,.inr (.inr (.inl ⟨rfl,rfl⟩))⟩
 ·exact⟨(s,_),rfl,rfl,.inr (.inr (.inr (.inl ⟨rfl,rfl⟩)))⟩
 ·exact⟨(s,_),rfl,rfl,.inr (.inr (.inr (.inr (.inl ⟨rfl,rfl⟩))))⟩
 exact⟨(s,_),rfl,rfl,.inr (.inr (.inr (.inr (.inr (.inr (.inr (.inr (.inr (.inr (.inr ⟨rfl,rfl⟩))))))))))⟩
theorem ZT(h:YD p)(a:IS [[p],ns]=ae):P8 s p z ns (cN s [[p],ns]).1 (cN s [[p],ns]).2:=by
 rcases h with rfl|rfl|rfl|rfl|rfl|rfl
 ·have a:((ns.all fun(z:Int)=>nF z 8)&&decide (ns.length<=20000))=ae:=a;rw[cK]at a;have l:=of_decide_eq_true a.2;obtain⟨t,e⟩:=Kf a.1;obtain⟨e1,e2⟩:=SN e
  have st:cN s [[0],ns]=((qk s t).1,vW (qk s t).2):=by
   show(match(jU ns).map Vaarrl.Call.load with|some k=>((qj s k).1,IQ (qj s k).2)|none=>(s,[-99]))=_;rw[e];rfl
  rw[st];exact⟨_,rfl,rfl,.inl ⟨rfl,t,e1,(by rw[e2];exact cQ l (by decide)),rfl⟩⟩
 ·have a:((ns.all fun(z:Int)=>nF z 8)&&decide (ns.length<=20000))=ae:=a;rw[cK]at a;have l:=of_decide_eq_true a.2;obtain⟨t,e⟩:=Kf a.1;obtain⟨e1,e2⟩:=SN e
  have st:cN s [[1],ns]=(s,vW (dP s (.where_ t))):=by
   show(match(jU ns).map Vaarrl.Call.where_ with|some k=>((qj s k).1,IQ (qj s k).2)|none=>(s,[-99]))=_;rw[e];rfl
  rw[st];exact⟨(s,_),rfl,rfl,.inr (.inl ⟨rfl,t,e1,(by rw[e2];exact cQ l (by decide)),rfl⟩)⟩
 ·exact⟨(s,_),rfl,rfl,.inr (.inr (.inr (.inr (.inr (.inl ⟨rfl,rfl⟩)))))⟩
 ·exact⟨(s,_),rfl,rfl,.inr (.inr (.inr (.inr (.inr (.inr (.inl ⟨rfl,rfl⟩))))))⟩
 ·exact⟨(s,_),rfl,rfl,.inr (.inr (.inr (.inr (.inr (.inr (.inr (.inr (.inl ⟨rfl,rfl⟩))))))))⟩
 exact⟨(s,_),rfl,rfl,.inr (.inr (.inr (.inr (.inr (.inr (.inr (.inr (.inr (.inr (.inl ⟨rfl,rfl⟩))))))))))⟩
theorem ZV:P8 s 7 z ns (cN s [[7,z]]).1 (cN s [[7,z]]).2:=⟨(s,_),rfl,rfl,.inr (.inr (.inr (.inr (.inr (.inr (.inr (.inl ⟨rfl,rfl⟩)))))))⟩
theorem Ws:P8 s 9 z ns (cN s [[9,z],ns]).1 (cN s [[9,z],ns]).2:=⟨_,rfl,rfl,.inr (.inr (.inr (.inr (.inr (.inr (.inr (.inr (.inr (.inl ⟨rfl,rfl⟩)))))))))⟩
theorem Wt(len:∀k,(vW (qj s k).2).length<=20000)(c:List (List Int)):(cN s c).2.length<=20000:=by
 unfold cN;cases VaarrlNeutral.callOf c with
 |none=>show 1<=20000;decide
 |some k=>exact len k
end
inductive abG(sp:Sp)(vs:ao)(H:Hp)(Q:VK)(z':XK):Prop
 |mk (G:Hp) (l:Addr) (xs:ao) (_:G l=ab) (_:H=upd G l (.lst xs)) (_:sp vs G (fun v G'=>G' l=ab->Q v (upd G' l (.lst xs))) fun _ _ _=>False)
theorem aeo{P:b7}{w:cU}{K:aX}{mg:aj}{base:Heap}{k:Nat}{f:Addr}{fd:gx}{ps:ak}{sp:Sp}(F:dv P w K mg base (k4 P w) k f fd ps sp):dv P w K mg base eJ k f fd ps (abG sp):=by
 refine⟨fun vs H Q E ⟨G,l,xs,_,_,h⟩=>F.len _ _ _ _ h,?_⟩;rintro A outer s _ args us vs Q E hr he hb hv ⟨G,l,xs,hl,rfl,h⟩;have hs:upd G l (.lst xs) l=aa (.lst xs):=ba;have ol:=he.gd l _ hs;obtain⟨zx,its,n,hvx,gl⟩:=id ol
 have no:∀{b:Addr},upd G l (.lst xs) b=ab->b≠l/\G b=ab:=fun{b} e=>by
  have nb:b≠l:=fun z=>by rw[z,hs]at e;cases e
  rw[bB nb]at e;exact⟨nb,e⟩
 have up:∀{G:Hp}{b:Addr}{o:HO},G l=ab->G b=aa o->upd G l (.lst xs) b=aa o:=fun{G b o} g e=>by
  rw[bB (bO e g)];exact e
 have dn:∀{b:Addr}{o:HO},(∀ys,o≠ .lst ys)->upd G l (.lst xs) b=aa o->G b=aa o:=fun{b o} no e=>by
  have nb:b≠l:=fun z=>by
   rw[z,hs]at e;cases e;exact no _ rfl
  rw[bB nb]at e;exact e
 have e0:Qa P w K mg base A outer s G:=⟨he.frames,he.mod,fun b o e=>⟨(he.bs b o e).1,(no (he.bs b o e).2).2⟩,he.R9,he.ya,fun b z=>(no (he.Vj b z)).2,
  fun b o e=>(he.gd b o (up hl e)).tJ (fun _ _ _ q=>q) (fun c q=>dn (fun _ z=>by cases z) q) fun c ys q=>dn (fun _ z=>by cases z) q,he.bare⟩
 refine iS (F.run A outer s G args us vs _ _ hr e0 hb hv h) fun r s' x=>?_;cases r with
 |error e=>
  obtain⟨_,_,_,_,_,_,_,_,_,z⟩:=x;exact z.elim
 |ok fl=>
  cases fl with
  |next=>exact x
  |brk=>exact x
  |cont=>exact x
  |ret u=>
   obtain⟨v,G',os,bare,un,gd,rv,q⟩:=x;have lf:l∉RJ outer:=fun z=>(no (he.Vj l z)).1 rfl;have gl':=un.keep l _ gl hl lf (by simp);have l':=un.free l _ gl hl (by simp);refine⟨v,_,os,bare,⟨fun b o e n=>un.keep b o e (no n).2,fun b o e n=>un.slot b o e (no n).2,fun b o e n x=>?_,un.there,fun b ys e=>up l' (un.E8 b ys (dn (fun _ z=>by cases z) e)),fun b o y e=>up l' (un.Il b o y (dn (fun _ z=>by cases z) e)),fun b qs e=>?_⟩,fun b o e=>?_,rv,q l'⟩
   ·rw[bB (no n).1];exact un.free b o e (no n).2 x
   ·obtain⟨m,e2⟩:=un.GC b qs (dn (fun _ z=>by cases z) e);exact⟨m,up l' e2⟩
   have e:upd G' l (.lst xs) b=aa o:=e;by_cases z:b=l
   ·subst z;rw[ba]at e;cases e;exact⟨zx,its,n,hvx,gl'⟩
   rw[bB z]at e;exact(gd b o e).tJ (fun _ _ _ q=>q) (fun c q=>up l' q) fun c ys q=>up l' q
theorem BW(l:List Nat):(Vaarrl.«ints» l).length=l.length:=by unfold Vaarrl.«ints»;simp
theorem DU{s:cx}{f:aT->kW}(hs:∀p,s.program=aa p->(vW (f p)).length<=20000):(vW (vd s f)).length<=20000:=by
 unfold vd;cases hp:s.program with
 |none=>show 1<=20000;decide
 |some p=>exact hs p hp
theorem Ge{s:cx}{f:aT->List Nat->kW}(hs:∀p q,s.program=aa p->(vW (f p q)).length<=20000):(vW (K8 s l f)).length<=20000:=by
 unfold K8;refine DU fun p hp=>?_;split
 ·show 1<=20000;decide
 exact hs p _ hp
theorem aaZ{s:cx}(pw:∀p,s.program=aa p->uh p/\vY p s.data/\∀x∈s.data,x.1∈dw p)(k:Vaarrl.Call):(vW (qj s k).2).length<=20000:=by
 cases k with
 |load t=>
  show(vW (qk s t).2).length<=_;unfold qk;split
  ·show 1<=20000;decide
  show 2<=20000;decide
 |set n d=>
  show(vW (Bh s n d).2).length<=_;unfold Bh;split
  ·show 1<=20000;decide
  show 1<=20000;decide
 |where_ t=>
  show(vW (match eE t with|.ok _=>{value:=0,list:=[0]}|.error e=>{value:=((e.1:Nat):Int),list:=[((e.2:Nat):Int)]})).length<=_;split
  ·show 2<=20000;decide
  show 2<=20000;decide
 |plain=>
  refine DU (f:=fun p=>iY (Vaarrl.«ints» (eX p))) fun p hp=>?_;have:=xE (pw p hp).1;show(Vaarrl.«ints» _).length+1<=_;rw[BW];omega
 |live=>
  refine DU (f:=fun p=>iY (Vaarrl.«ints» ((bw p.length).flatMap fun a=>[bD p a,di p a]))) fun p hp=>?_;have:=Im (fun a=>[bD p a,di p a]) 2 (bw p.length) fun x _=>bu 2;rw[bZ]at this;have:=(pw p hp).1.j6;show(Vaarrl.«ints» _).length+1<=_;rw[BW];omega
 |need=>exact DU (f:=fun p=>Dd (FK p)) fun p hp=>by show 1<=20000;decide
 |check l=>
  refine Ge (f:=fun p q=>(match fz p q with|none=>{value:=0}|some x=>{value:=1,list:=Vaarrl.«ints» [x.1,x.2]})) fun p q hp=>?_;split
  ·show 1<=20000;decide
  show 3<=20000;decide
 |room l=>exact Ge (f:=fun p q=>Dd (i6 p q)) fun p q hp=>by show 1<=20000;decide
 |plan k=>
  refine DU (f:=fun p=>if k<0\/2<k then pV Vaarrl.LIMIT else iY (Vaarrl.«ints» (um p k.toNat))) fun p hp=>?_;split
  ·show 1<=20000;decide
  have:=(pw p hp).1.j6;show(Vaarrl.«ints» _).length+1<=_;rw[BW]
  have e:(um p k.toNat).length=p.length:=by
   unfold um;split
   ·exact(Q1 (pw p hp).1).1
   split<;>exact xR _ _
  omega
 |pack l=>
  refine Ge (f:=fun p q=>if wF p q=af then pV Vaarrl.CLASH else iY (Vaarrl.«ints» (mE p q))) fun p q hp=>?_;split
  ·show 1<=20000;decide
  have:=(pw p hp).1.j6;show(Vaarrl.«ints» _).length+1<=_;rw[BW];have e:(mE p q).length=p.length:=xR _ _;omega
 |run l=>
  refine Ge (f:=fun p q=>if eB s p=af then pV yZ else iY (gu (jj p q s.data))) fun p q hp=>?_;split
  ·show 1<=20000;decide
  have:=Gd (pw p hp).1 q s.data;show(gu _).length+1<=_;omega
 |apart=>
  refine DU (f:=fun p=>if eB s p=af then pV yZ else iY (gu (qL p s.data))) fun p hp=>?_;split
  ·show 1<=20000;decide
  rename_i hg;obtain⟨w1,w2,w3⟩:=pw p hp;have:=Gd w1 (cO p) s.data;rw[K6 w1 w2 (E6 _|>.mp hg)]at this;show(gu _).length+1<=_;omega
theorem iE.good{CR:Addr}{H:Hp}(h:iE CS CP CR H r s):∀p,s.program=aa p->uh p/\vY p s.data/\∀x∈s.data,x.1∈dw p:=fun p hp=>by
 obtain⟨dx,d,pv,_,h2,_⟩:=h;unfold IG at h2;rw[hp]at h2;obtain⟨a,_,_,h3⟩:=h2;exact h3
def nV:ao:=[.int 7,.int 9]
def rV:ao:=[.int 0,.int 1,.int 5,.int 6,.int 8,.int 9,.int 10]
theorem adN(h:YE p):wu (.int p) nV=af/\wu (.int p) rV=af:=by
 rcases h with rfl|rfl|rfl|rfl<;>exact⟨rfl,rfl⟩
theorem adM(h:YD p):wu (.int p) nV=af/\wu (.int p) rV=ae:=by
 rcases h with rfl|rfl|rfl|rfl|rfl|rfl<;>exact⟨rfl,rfl⟩
theorem acz(h:YE p):fB [[p]]=[[p]]:=by
 rcases h with rfl|rfl|rfl|rfl<;>rfl
theorem acy{r:List Int}(h:YD p):fB [[p],r]=[[p],r]:=by
 rcases h with rfl|rfl|rfl|rfl|rfl|rfl<;>rfl
def Rdr(p:Int)(r:List Int)(c:List (List Int))(t:List Int):Prop:=
 (YE p/\t=r/\c=[[p]])\/
 (YD p/\∃(n:Nat)(r':List Int),r=(n:Int)::r'/\n<=r'.length/\t=r'.drop n/\c=[[p],r'.take n])\/
 (p=7/\∃z,r=z::t/\c=[[p,z]])\/
 (p=9/\∃(z:Int)(n:Nat)(r':List Int),r=z::(n:Int)::r'/\n<=r'.length/\t=r'.drop n/\c=[[p,z],r'.take n])
theorem W3{x t:List Int}(h:Uh r=aa (x,t)):∃(n:Nat)(r':List Int),r=(n:Int)::r'/\n<=r'.length/\t=r'.drop n/\x=r'.take n:=by
 cases r with
 |nil=>cases h
 |cons n r'=>
  have h:(if 0<=n/\n.toNat<=r'.length then aa (r'.take n.toNat,r'.drop n.toNat)else ab)=aa (x,t):=h;by_cases hn:0<=n/\n.toNat<=r'.length
  ·rw[c8 hn]at h;cases h;exact⟨n.toNat,r',by rw[CV hn.1],hn.2,rfl,rfl⟩
  rw[cP hn]at h;cases h
theorem abH{t:List Int}{xs:List (List Int)}(h:FP 1 r=aa (xs,t)):∃x,xs=[x]/\Uh r=aa (x,t):=by
 unfold FP at h;cases hr:Uh r with
 |none=>rw[hr]at h;cases h
 |some y=>
  obtain⟨x,u⟩:=y;rw[hr]at h;cases h;exact⟨x,rfl,rfl⟩
theorem WR{n k:Nat}(h:fU p=aa (n,k)):
 (n=0/\k=0/\YE p)\/(n=0/\k=1/\YD p)\/(n=1/\k=0/\p=7)\/(n=1/\k=1/\p=9):=by
 unfold fU at h
 by_cases e:p=0
 ·rw[c8 e]at h
  cases h
  exact .inr (.inl ⟨rfl,rfl,.inl e⟩)
 rw[cP e]at h
 clear e
 by_cases e:p=1
 ·rw[c8 e]at h
  cases h
  exact .inr (.inl ⟨rfl,rfl,.inr (.inl e)⟩)
 rw[cP e]at h
 clear e
 by_cases e:p=2
 ·rw[c8 e]at h
  cases h
  exact .inl ⟨rfl,rfl,.inl e⟩
 rw[cP e]at h
 clear e
 by_cases e:p=3
 ·rw[c8 e]at h
  cases h
  exact .inl ⟨rfl,rfl,.inr (.inl e)⟩
 rw[cP e]at h
 clear e
 by_cases e:p=4
 ·rw[c8 e]at h
  cases h
  exact .inl ⟨rfl,rfl,.inr (.inr (.inl e))⟩
 rw[cP e]at h
 clear e
 by_cases e:p=5
 ·rw[c8 e]at h
  cases h
  exact .inr (.inl ⟨rfl,rfl,.inr (.inr (.inl e))⟩)
 rw[cP e]at h
 clear e
 by_cases e:p=6
 ·rw[c8 e]at h
  cases h
  exact .inr (.inl ⟨rfl,rfl,.inr (.inr (.inr (.inl e)))⟩)
 rw[cP e]at h
 clear e
 by_cases e:p=7
 ·rw[c8 e]at h
  cases h
  exact .inr (.inr (.inl ⟨rfl,rfl,e⟩))
 rw[cP e]at h
 clear e
 by_cases e:p=8
 ·rw[c8 e]at h
  cases h
  exact .inr (.inl ⟨rfl,rfl,.inr (.inr (.inr (.inr (.inl e))))⟩)
 rw[cP e]at h
 clear e
 by_cases e:p=9
 ·rw[c8 e]at h
  cases h
  exact .inr (.inr (.inr ⟨rfl,rfl,e⟩))
 rw[cP e]at h
 clear e
 by_cases e:p=10
 ·rw[c8 e]at h
  cases h
  exact .inr (.inl ⟨rfl,rfl,.inr (.inr (.inr (.inr (.inr e))))⟩)
 rw[cP e]at h
 clear e
 by_cases e:p=11
 ·rw[c8 e]at h
  cases h
  exact .inl ⟨rfl,rfl,.inr (.inr (.inr e))⟩
 rw[cP e]at h
 clear e
 cases h
theorem aaS{p:Int}{r t:List Int}{c:List (List Int)}(h:Qt fU (p::r)=aa (c,t)):Rdr p r c t:=by
 have h:(match fU p with
  |none=>ab
  |some (n,k)=>if r.length<n then ab else match FP k (r.drop n)with
   |none=>ab
   |some (xs,t)=>aa ((p::r.take n)::xs,t))=aa (c,t):=h
 cases hs:fU p with
 |none=>rw[hs]at h;cases h
 |some nk=>
  obtain⟨n,k⟩:=nk;rw[hs]at h;simp only at h;split at h
  ·cases h
  rename_i hl;cases hr:FP k (r.drop n)with
  |none=>rw[hr]at h;cases h
  |some y=>
   obtain⟨xs,u⟩:=y;rw[hr]at h;cases h;rcases WR hs with⟨rfl,rfl,a⟩|⟨rfl,rfl,a⟩|⟨rfl,rfl,a⟩|⟨rfl,rfl,a⟩
   ·cases hr;exact .inl ⟨a,rfl,rfl⟩
   ·obtain⟨x,rfl,e⟩:=abH hr;obtain⟨n,r',e1,e2,e3,rfl⟩:=W3 e;exact .inr (.inl ⟨a,n,r',e1,e2,e3,rfl⟩)
   ·cases r with
    |nil=>exact(hl (by decide)).elim
    |cons z r=>
     cases hr;exact .inr (.inr (.inl ⟨a,z,rfl,rfl⟩))
   cases r with
   |nil=>exact(hl (by decide)).elim
   |cons z r=>
    obtain⟨x,rfl,e⟩:=abH hr;obtain⟨n,r',e1,e2,e3,rfl⟩:=W3 e;have e1:=e1;subst e1;exact .inr (.inr (.inr ⟨a,z,n,r',rfl,e2,e3,rfl⟩))
def Pl(ns:List Int)(q:Nat)(s:cx)(dn:List Int):Prop:=q<=ns.length/\∃f cs,oK fU f (ns.drop q)=aa cs/\(cs.map fB).all IS=ae/\dn.length+20001*cs.length<=3000150/\dn++Qs (A9 cN s (cs.map fB))=jX ns
def Nx(ns:List Int)(q:Nat)(c z:Int)(row:List Int)(q':Nat):Prop:=
 (wu (.int c) nV=af/\wu (.int c) rV=af/\z=0/\row=[]/\q'=q+1)\/
 (wu (.int c) nV=af/\wu (.int c) rV=ae/\∃n:Nat,ns[q+1]?=aa (n:Int)/\z=0/\row=(ns.drop (q+2)).take n/\q'=q+2+n)\/
 (wu (.int c) nV=ae/\wu (.int c) rV=af/\ns[q+1]?=aa z/\row=[]/\q'=q+2)\/
 (wu (.int c) nV=ae/\wu (.int c) rV=ae/\ns[q+1]?=aa z/\∃n:Nat,ns[q+2]?=aa (n:Int)/\row=(ns.drop (q+3)).take n/\q'=q+3+n)
theorem Cj{ns r:List Int}{q:Nat}{c:Int}(h:ns.drop q=c::r):ns[q]?=aa c/\ns.drop (q+1)=r:=by
 refine⟨?_,?_⟩
 ·have:=congrArg (fun l=>l[0]?) h;simpa using this
 have:=congrArg (fun l=>l.drop 1) h;simpa[lQ,Nat.add_comm]using this
theorem R1{f:Nat}{p:Int}{r:List Int}(h:oK fU f (p::r)=aa cs):∃f' c t cs',Qt fU (p::r)=aa (c,t)/\oK fU f' t=aa cs'/\cs=c::cs':=by
 cases f with
 |zero=>cases h
 |succ f=>
  unfold oK at h;cases hc:Qt fU (p::r)with
  |none=>rw[hc]at h;cases h
  |some y=>
   obtain⟨c,t⟩:=y;rw[hc]at h;simp only at h;cases hd:oK fU f t with
   |none=>rw[hd]at h;cases h
   |some cs'=>
    rw[hd]at h;cases h;exact⟨f,c,t,cs',rfl,hd,rfl⟩
theorem Pl.next{ns:List Int}{q:Nat}(h:Pl ns q s dn)(lt:q<ns.length)(len:∀k,(vW (qj s k).2).length<=20000):
 ∃(c z:Int)(row yY:List Int)(s':cx)(q':Nat),ns[q]?=aa c/\P8 s c z row s' yY/\Nx ns q c z row q'/\q<q'/\dn.length+yY.length+1<=3000150/\Pl ns q' s' (dn++((yY.length:Nat):Int)::yY):=by
 obtain⟨_,f,cs,h1,h2,h3,h4⟩:=h
 cases hd:ns.drop q with
 |nil=>
  have:=List.drop_eq_nil_iff.mp hd
  omega
 |cons c r=>
  rw[hd]at h1
  obtain⟨f',k,t,cs',e1,e2,rfl⟩:=R1 h1
  obtain⟨g1,g2⟩:=Cj hd
  rw[dC]at h2 h4
  rw[NW,cK]at h2
  rw[cJ]at h3
  have lk:=Wt len (fB k)
  have pl:∀q',q'<=ns.length->ns.drop q'=t->Pl ns q' (cN s (fB k)).1 (dn++(((cN s (fB k)).2.length:Nat):Int)::(cN s (fB k)).2):=fun q' hq e=>by
   refine⟨hq,f',cs',by rw[e];exact e2,h2.2,?_,?_⟩
   ·rw[bQ,cJ];omega
   rw[<-h4];have e:A9 cN s (fB k::cs'.map fB)=(cN s (fB k)).2::A9 cN (cN s (fB k)).1 (cs'.map fB):=rfl;rw[e];unfold Qs;rw[iU,c9]
  have lend:∀{q0:Nat}{x:Int}{r0:List Int},ns.drop q0=x::r0->q0+1+r0.length=ns.length:=fun{q0 x r0} e=>by
   have:=congrArg IX e;rw[qo,cJ]at this;omega
  have l0:=lend hd
  have j6:∀n:Nat,n<=20000->dn.length+n+1<=3000150:=fun n hn=>by omega
  have h5:=h2.1
  clear h1 h2 h3 h4 hd
  refine⟨c,?_⟩
  rcases aaS e1 with⟨a,rfl,rfl⟩|⟨a,n,r',rfl,hn,rfl,rfl⟩|⟨rfl,z,rfl,rfl⟩|⟨rfl,z,n,r',rfl,hn,rfl,rfl⟩
  ·rw[acz a]at pl lk
   obtain⟨i1,i2⟩:=adN a
   exact⟨0,[],_,_,q+1,g1,ZU a,.inl ⟨i1,i2,rfl,rfl,rfl⟩,eN _,j6 _ lk,pl _ (by omega) g2⟩
  ·obtain⟨g3,g4⟩:=Cj g2
   have l1:=lend g2
   rw[acy a]at pl lk h5
   obtain⟨i1,i2⟩:=adM a
   refine⟨0,r'.take n,_,_,q+2+n,g1,ZT a h5,.inr (.inl ⟨i1,i2,n,g3,rfl,by rw[g4],rfl⟩),by omega,j6 _ lk,pl _ (by omega) ?_⟩
   rw[<-g4,lQ]
  ·obtain⟨g3,g4⟩:=Cj g2
   have l1:=lend g2
   exact⟨z,[],_,_,q+2,g1,ZV,.inr (.inr (.inl ⟨rfl,rfl,g3,rfl,rfl⟩)),by omega,j6 _ lk,pl _ (by omega) g4⟩
  obtain⟨g3,g4⟩:=Cj g2
  obtain⟨g5,g6⟩:=Cj g4
  have l1:=lend g4
  refine⟨z,r'.take n,_,_,q+3+n,g1,Ws,.inr (.inr (.inr ⟨rfl,rfl,g3,n,g5,by rw[g6],rfl⟩)),by omega,j6 _ lk,pl _ (by omega) ?_⟩
  rw[<-g6,lQ]
theorem Pl.first{ns:List Int}(h:nQ ns=ae):Pl ns 0 Vaarrl.start []:=by
 unfold nQ V2 at h;cases hc:oK fU ns.length ns with
 |none=>rw[hc]at h;cases h
 |some cs=>
  rw[hc]at h;simp only at h;rw[cK]at h;unfold VaarrlNeutral.asked at h;have h2:=Uo.mp h.2;have h3:=Uo.mp h2.2;have h4:=of_decide_eq_true h3.2;rw[aV]at h4;refine⟨cB _,ns.length,cs,hc,h2.1,by show 0+20001*cs.length<=_;omega,?_⟩;unfold jX V2;rw[hc];rfl
theorem Pl.last{ns:List Int}{q:Nat}(h:Pl ns q s dn)(ge:ns.length<=q):dn=jX ns:=by
 obtain⟨_,f,cs,h1,_,_,h4⟩:=h;rw[kL ge]at h1
 have e:cs=[]:=by
  unfold oK at h1;cases f<;>(cases h1;rfl)
 subst e;rw[<-h4];unfold A9 Qs;simp
theorem PK{ns:List Int}{o n:Nat}:CG (mI ns) (aa (o:Int)) (aa ((o:Int)+(n:Int)))=mI ((ns.drop o).take n):=by
 have e:(o:Int)+(n:Int)=((o+n:Nat):Int):=by omega
 unfold CG;rw[e,HT.yI,HT.yI,ki];unfold mI;rw[NV,List.map_drop];by_cases h:o<=ns.length
 ·rw[show min o ns.length=o by omega];refine va fun i=>?_;rw[V7,V7,Dg];by_cases h1:i<n
  ·rw[c8 h1];by_cases h2:i<min (o+n) ns.length-o
   ·rw[c8 h2]
   rw[cP h2];refine(dY ?_).symm;rw[aV];omega
  rw[cP h1,cP (by omega)]
 rw[kL (by rw[aV];omega),kL (by rw[aV];omega)];simp
theorem adi{X:Cx}{k:Nat}{sp:Sp}{pos:Pos}(M:Mc X.prog X.w X.K X.mg X.base k x C ps sp)(hr:gG (k+1) X.A)(hg:Gl X x)(AE:(x==("__debug__":Str))=af:=by decide):PE X (.Call (.Name x p) [] [] pos) (Od C sp [] E0 Dp):=by
 obtain⟨f,fd,M,G,m,b⟩:=M.ex;exact Xm M G hr hg m b .nil rN AE
def acA(s:Stmt):List Stmt:=match s with
 |.While _ b _ _=>b
 |_=>[]
theorem uv{H:Hp}{a b:Addr}{o u:HO}(h:a≠b):upd (upd H a o) b u=upd (upd H b u) a o:=by
 funext c;unfold upd;by_cases h1:c=b
 ·subst h1;rw[c8 rfl,cP (fun z=>h z.symm),c8 rfl]
 rw[cP h1,cP h1]
theorem BS{ns:List Int}{i:Nat}(h:ns[i]?=aa z):(mI ns)[i]?=aa (V.int z):=by
 unfold mI;rw[bK,h];rfl
theorem uK{H:Hp}{w:Addr}(h:upd H l (.lst xs) w=ab):w≠l/\H w=ab:=by
 have nb:w≠l:=fun z=>by rw[z,ba]at h;cases h
 rw[bB nb]at h;exact⟨nb,h⟩
theorem TM{b:Bool}{x y:Prop}(e:b=ae)(h:x):if b=ae then x else y:=by rw[c8 e];exact h
theorem TN{b:Bool}{x y:Prop}(e:b=af)(h:y):if b=ae then x else y:=by rw[cP (by rw[e];decide)];exact h
inductive yG(K:aX)(T1 T2:Addr)(vs:ao)(H:Hp)(Q:VK)(z':XK):Prop
 |mk (a:Addr) (ns:List Int) (_:vs=[.ref a]) (_:du K H a (mI ns)) (_:TabsOk T1 T2 H) (_:nQ ns=ae) (_:∀(H':Hp)(p:Addr),H' p=aa (.lst (mI (jX ns)))->Q (.ref p) H')
theorem Ro{f CS CP CR T1 T2:Addr}{fd:gx}(F:iF K "answers" "answers" uF f fd)(M:Mc P w K mg base 1 "Rooms" CR dR (Om CR))(hl:mg "len"=ab)(hN:KT K mg "CALLS_WITH_NUMBER" nV)(hR:KT K mg "CALLS_WITH_ROW" rV)
 (Ca:Fn P w K mg base eJ 12 "answer_call" Q6 (abG (WO P8 K CS CP CR T1 T2))):
 dv P w K mg base eJ 13 f fd ["calls"] (yG K T1 T2):=by
 obtain⟨aN,hN1,hN2⟩:=hN
 obtain⟨aR,hR1,hR2⟩:=hR
 refine F.ok Hc fun fA A outer s H vs Q E hr h=>?_
 obtain⟨a,ns,rfl,hns,tab,ask,k⟩:=h
 have nd:=Hc.nd
 obtain⟨T,hT,tl⟩:∃T:L2.TS,Nm (MQ eJ P w K mg base ["calls","rooms","answered","position","call","number","row","row_end","answer"] "answers" (bA uF) f fA A outer s H E).nox ((acA ((jW uF).getD 3 (.Pass ⟨0,0,0,0⟩))).drop 6) T/\
  ∀(D:L2.Ends)(G:Hp)(l r w:Addr)(q':Nat)(c z:Int)(row yY dn:List Int)(s0 s1:cx)(v7 v8:Option V),G l=ab->iE CS CP CR G r s0->TabsOk T1 T2 G->du K G a (mI ns)->du K G w (mI row)->P8 s0 c z row s1 yY->dn.length+yY.length+1<=3000150->
   (∀G' v,G' l=ab->iE CS CP CR G' r s1->TabsOk T1 T2 G'->du K G' a (mI ns)->D.nx [aa (.ref a),aa (.ref r),aa (.ref l),aa (.int q'),aa (.int c),aa (.int z),aa (.ref w),v7,v] (upd G' l (.lst (mI (dn++((yY.length:Nat):Int)::yY)))))->
   T D [aa (.ref a),aa (.ref r),aa (.ref l),aa (.int q'),aa (.int c),aa (.int z),aa (.ref w),v7,v8] (upd G l (.lst (mI dn))):=by
  refine⟨_,bh (jy 8 nd (dG Ca hr (by rfl) (aP (pv 1) (aP (pv 4) (aP (pv 5) (aP (pv 6) bq))))))
   (bh (dJ (md cb c7 cZ iN (pv 2) (aP (dB cI (by rfl) hl cv (aP (pv 8) bq)) bq)))
   (bj (dJ (md cb gb f9 pC (pv 2) (aP (pv 8) bq))))),?_⟩
  intro D G l r w q' c z row yY dn s0 s1 v7 v8 gl ra tb ha hw st len kk
  refine⟨_,rfl,_,rfl,_,rfl,_,rfl,G,l,_,gl,rfl,r,w,s0,s1,c,z,row,yY,rfl,ra,tb,hw,st,fun n G' hn kp ra' tb' en gl'=>?_⟩
  have nnl:n≠l:=bO en gl'
  have hll:upd G' l (.lst (mI dn)) l=aa (.lst (mI dn)):=ba
  have hnn:upd G' l (.lst (mI dn)) n=aa (.lst (mI yY)):=by rw[bB nnl];exact en
  refine⟨_,rfl,.inl ⟨rfl,_,du.of hll⟩,_,rfl,n,_,rfl,.inl (du.of hnn),l,_,_,rfl,rfl,hll,by rw[ki,bX];omega,?_⟩
  rw[jg]
  have agH:upd G' l (.lst (mI dn++[V.int (((mI yY).length:Nat):Int)])) l=aa (.lst (mI dn++[V.int (((mI yY).length:Nat):Int)])):=ba
  have ajH:upd G' l (.lst (mI dn++[V.int (((mI yY).length:Nat):Int)])) n=aa (.lst (mI yY)):=by rw[bB nnl];exact en
  refine⟨_,rfl,.inl ⟨rfl,_,du.of agH⟩,_,rfl,l,n,_,_,rfl,rfl,agH,ajH,?_,?_⟩
  ·rw[bQ,ki,ki,bX]
   show _+1+_<=_
   omega
  rw[jg]
  have e:mI dn++[V.int (((mI yY).length:Nat):Int)]++mI yY=mI (dn++((yY.length:Nat):Int)::yY):=by
   rw[ki];unfold mI;rw[b9,dC,c9];rfl
  rw[e]
  exact kk G' _ gl' ra' tb' (kp.seq ha)
 refine⟨_,bh (jy 1 nd (adi M (hr.mono (by decide)) (by rfl)))
  (bh (jy 2 nd (eA bq))
  (bh (jy 3 nd cE)
  (bh (n9 bV (cR sY (pv 3) (dB cI (by rfl) hl cv (aP (pv 0) bq)) (da _))
   (bh (jy 4 nd (dU cT (pv 0) (pv 3) (fun _ _=>rfl)))
   (bh (rL (i:=3) nd rfl (ur rfl) cE qz)
   (bh (jy 5 nd cE)
   (bh (d8 (cR yM (pv 4) (Hq (by rfl) hN1) (by rfl)) (bh (jy 5 nd (dU cT (pv 0) (pv 3) (fun _ _=>rfl))) (bj (rL (i:=3) nd rfl (ur rfl) cE qz))) cS)
   (bh (jy 6 nd (eA bq))
   (bh (d8 (cR yM (pv 4) (Hq (by rfl) hR1) (by rfl)) (bh (jy 7 nd (fX j3 (fX j3 (pv 3) cE) (dU cT (pv 0) (pv 3) (fun _ _=>rfl)))) (bh (jy 6 nd (BC F5 (pv 0) (sX (fX j3 (pv 3) cE)) (sX (pv 7)))) (bj (jy 3 nd (pv 7))))) cS)
   hT)))))))
  (bj (b8 (pv 2)))))),?_⟩
 intro r dx x8 hd0 ndr
 refine⟨r,dx,rfl,ba,fun d hd=>⟨rfl,?_⟩⟩
 generalize hH1:upd (upd (upd (upd H dx (.own r)) r (.ins CR dx [])) d (.dK [])) r (.ins CR dx (W4 .j5 (.ref d)))=H1
 have af6:d≠r:=fun z=>by rw[z,ba]at hd;cases hd
 have ndd:d≠dx:=fun z=>by rw[z,bB ndr,ba]at hd;cases hd
 have dH:H d=ab:=by rw[bB af6,bB ndd]at hd;exact hd
 have s1:bG H H1:=fun b o e=>by
  rw[<-hH1,bB (bO e x8),bB (bO e dH),bB (bO e x8),bB (bO e hd0)];exact e
 have ra1:iE CS CP CR H1 r Vaarrl.start:=⟨dx,d,.j5,by rw[<-hH1,ba],⟨rfl,rfl⟩,[],by rw[<-hH1,bB af6,ba],⟨by simp,by simp⟩,fun n=>rfl⟩
 refine⟨by show 0<=bz;decide,fun l hl0=>?_⟩
 refine⟨fun m σ H'=>Ex9 fun(q:Nat)(G:Hp)(s0:cx)(dn:List Int)(v4 v5 v6 v7 v8:Option V)=>m=ns.length-q/\G l=ab/\H'=upd G l (.lst (mI dn))/\iE CS CP CR G r s0/\TabsOk T1 T2 G/\du K G a (mI ns)/\Pl ns q s0 dn/\σ=[aa (.ref a),aa (.ref r),aa (.ref l),aa (.int q),v4,v5,v6,v7,v8],
  ⟨_,0,H1,_,[],ab,ab,ab,ab,ab,rfl,hl0,rfl,ra1,tab.same s1,s1.seq hns,Pl.first ask,rfl⟩,?_⟩
 rintro m σ H' ⟨q,G,s0,dn,v4,v5,v6,v7,v8,rfl,gl,rfl,ra,tb,ha,pl,rfl⟩
 have sl:∀{xs:ao},bG G (upd G l (.lst xs)):=fun{xs}=>bG.new gl
 refine⟨_,rfl,_,rfl,a,_,rfl,.inl (sl.seq ha),_,_,rfl,rfl,_,rfl,?_⟩
 rw[ki]
 by_cases h1:(q:Int)<((ns.length:Nat):Int)
 ·rw[qi h1]
  obtain⟨c,z,row,yY,s2,q',hc,st,nx,lt,fits,pl2⟩:=pl.next (by omega) (aaZ ra.good)
  obtain⟨Nv,hNv⟩:∃Nv:L2.St->Hp->Prop,Nv=fun σ' G'=>Ex9 fun(q':Nat)(G:Hp)(s0:cx)(dn:List Int)(v4 v5 v6 v7 v8:Option V)=>ns.length-q'<ns.length-q/\G l=ab/\G'=upd G l (.lst (mI dn))/\iE CS CP CR G r s0/\TabsOk T1 T2 G/\du K G a (mI ns)/\Pl ns q' s0 dn/\σ'=[aa (.ref a),aa (.ref r),aa (.ref l),aa (.int q'),v4,v5,v6,v7,v8]:=⟨_,rfl⟩
  refine dI ⟨Nv,fun σ' G' z=>by
   rw[hNv]at z;obtain⟨q',G,s0,dn,v4,v5,v6,v7,v8,z1,z2⟩:=z;exact⟨_,z1,q',G,s0,dn,v4,v5,v6,v7,v8,rfl,z2⟩,?_⟩
  have en1:((q:Int)+1)=((q+1:Nat):Int):=by omega
  have en2:((q:Int)+1+1)=((q+2:Nat):Int):=by omega
  refine⟨_,rfl,_,rfl,a,_,_,_,rfl,rfl,sl.seq ha,at_of (j:=q) rfl (BS hc),_,rfl,_,_,rfl,rfl,?_⟩
  have fin:∀(D:L2.Ends)(Gw:Hp)(w:Addr)(v3:Int)(v7 v8:Option V),D.nx=Nv->v3=((q':Nat):Int)->Gw l=ab->iE CS CP CR Gw r s0->TabsOk T1 T2 Gw->du K Gw a (mI ns)->du K Gw w (mI row)->T D [aa (.ref a),aa (.ref r),aa (.ref l),aa (.int v3),aa (.int c),aa (.int z),aa (.ref w),v7,v8] (upd Gw l (.lst (mI dn))):=fun D Gw w v3 v7 v8 g0 g0' g1 g2 g3 g4 g5=>by
   subst g0'
   exact tl D Gw l r w q' c z row yY dn s0 s2 v7 v8 g1 g2 g3 g4 g5 st fits fun G' v x1 x2 x3 x4=>by
    rw[g0,hNv];exact⟨q',G',s2,_,_,_,_,_,_,by omega,x1,rfl,x2,x3,x4,pl2,rfl⟩
  rcases nx with⟨n1,n2,rfl,rfl,rfl⟩|⟨n1,n2,n,hn,rfl,rfl,rfl⟩|⟨n1,n2,hz,rfl,rfl⟩|⟨n1,n2,hz,n,hn,rfl,rfl⟩
  ·refine⟨_,rfl,aN,_,rfl,.inr (hN2 _),rfl,rfl,_,rfl,TN n1 ⟨by show 0<=bz;decide,fun w hw=>?_⟩⟩
   obtain⟨Xw,gw⟩:=uK hw
   rw[uv (de Xw)]
   have s2:bG G (upd G w (.lst [])):=bG.new gw
   exact⟨_,rfl,aR,_,rfl,.inr (hR2 _),rfl,rfl,_,rfl,TN n2 (fin _ _ w _ _ _ rfl rfl (by rw[bB (de Xw)];exact gl) (ra.same s2) (tb.same s2) (s2.seq ha) (du.of ba))⟩
  ·refine⟨_,rfl,aN,_,rfl,.inr (hN2 _),rfl,rfl,_,rfl,TN n1 ⟨by show 0<=bz;decide,fun w0 hw=>?_⟩⟩
   obtain⟨Xw,gw⟩:=uK hw
   rw[uv (de Xw)]
   have s2:bG G (upd G w0 (.lst [])):=bG.new gw
   have gl2:upd G w0 (.lst []) l=ab:=by rw[bB (de Xw)];exact gl
   generalize upd G w0 (.lst [])=G1 at s2 gl2
   have sl2:∀{xs:ao},bG G1 (upd G1 l (.lst xs)):=fun{xs}=>bG.new gl2
   have ha1:=s2.seq ha
   refine⟨_,rfl,aR,_,rfl,.inr (hR2 _),rfl,rfl,_,rfl,TM n2 ⟨_,rfl,_,_,rfl,rfl,_,rfl,_,rfl,a,_,_,_,rfl,rfl,sl2.seq ha1,at_of (j:=q+1) en1 (BS hn),_,_,rfl,rfl,_,rfl,_,rfl,_,_,rfl,rfl,_,rfl,_,rfl,_,rfl,a,_,rfl,sl2.seq ha1,fun p hp=>?_⟩⟩
   obtain⟨npl,gp⟩:=uK hp
   rw[uv (de npl)]
   refine⟨_,rfl,?_⟩
   have s3:=s2.trans (bG.new gp (o:=.lst (CG (mI ns) (aa ((q:Int)+1+1)) (aa ((q:Int)+1+1+(n:Int))))))
   have ec:CG (mI ns) (aa ((q:Int)+1+1)) (aa ((q:Int)+1+1+(n:Int)))=mI ((ns.drop (q+2)).take n):=by rw[en2];exact PK
   exact fin _ _ p _ _ _ rfl (by omega) (by rw[bB (de npl)];exact gl2) (ra.same s3) (tb.same s3) (s3.seq ha) (du.of (by rw[ba,ec]))
  ·refine⟨_,rfl,aN,_,rfl,.inr (hN2 _),rfl,rfl,_,rfl,TM n1 ⟨_,rfl,_,rfl,a,_,_,_,rfl,rfl,sl.seq ha,at_of (j:=q+1) en1 (BS hz),_,rfl,_,_,rfl,rfl,by show 0<=bz;decide,fun w hw=>?_⟩⟩
   obtain⟨Xw,gw⟩:=uK hw
   rw[uv (de Xw)]
   have s2:bG G (upd G w (.lst [])):=bG.new gw
   refine⟨_,rfl,aR,_,rfl,.inr (hR2 _),rfl,rfl,_,rfl,TN n2 ?_⟩
   exact fin _ _ w _ _ _ rfl en2 (by rw[bB (de Xw)];exact gl) (ra.same s2) (tb.same s2) (s2.seq ha) (du.of ba)
  have en3:((q:Int)+1+1+1)=((q+3:Nat):Int):=by omega
  refine⟨_,rfl,aN,_,rfl,.inr (hN2 _),rfl,rfl,_,rfl,TM n1 ⟨_,rfl,_,rfl,a,_,_,_,rfl,rfl,sl.seq ha,at_of (j:=q+1) en1 (BS hz),_,rfl,_,_,rfl,rfl,by show 0<=bz;decide,fun w0 hw=>?_⟩⟩
  obtain⟨Xw,gw⟩:=uK hw
  rw[uv (de Xw)]
  have s2:bG G (upd G w0 (.lst [])):=bG.new gw
  have gl2:upd G w0 (.lst []) l=ab:=by rw[bB (de Xw)];exact gl
  generalize upd G w0 (.lst [])=G1 at s2 gl2
  have sl2:∀{xs:ao},bG G1 (upd G1 l (.lst xs)):=fun{xs}=>bG.new gl2
  have ha1:=s2.seq ha
  refine⟨_,rfl,aR,_,rfl,.inr (hR2 _),rfl,rfl,_,rfl,TM n2 ⟨_,rfl,_,_,rfl,rfl,_,rfl,_,rfl,a,_,_,_,rfl,rfl,sl2.seq ha1,at_of (j:=q+2) en2 (BS hn),_,_,rfl,rfl,_,rfl,_,rfl,_,_,rfl,rfl,_,rfl,_,rfl,_,rfl,a,_,rfl,sl2.seq ha1,fun p hp=>?_⟩⟩
  obtain⟨npl,gp⟩:=uK hp
  rw[uv (de npl)]
  refine⟨_,rfl,?_⟩
  have s3:=s2.trans (bG.new gp (o:=.lst (CG (mI ns) (aa ((q:Int)+1+1+1)) (aa ((q:Int)+1+1+1+(n:Int))))))
  have ec:CG (mI ns) (aa ((q:Int)+1+1+1)) (aa ((q:Int)+1+1+1+(n:Int)))=mI ((ns.drop (q+3)).take n):=by rw[en3];exact PK
  exact fin _ _ p _ _ _ rfl (by omega) (by rw[bB (de npl)];exact gl2) (ra.same s3) (tb.same s3) (s3.seq ha) (du.of (by rw[ba,ec]))
 rw[gX h1]
 refine cD ⟨_,rfl,k _ l ?_⟩
 rw[ba,pl.last (by omega)]
end SR
end
section
namespace SR
open PySem PySem.Spec PyProof.Rows L2 XL sI
open PySem.W (WData Codec OpenSpec Well WellAll ReadsW ReadsAllW tabObj)
theorem Ka:∀{ns:List Int}{vs:au},WellAll Q h vs (ns.map WData.int)->Vals (mI ns) vs
 |[],_,x=>by
  cases x;exact .nil
 |n::r,_,x=>by
  cases x with
  |cons a b=>
   cases a;exact .cons ⟨_,rfl⟩ (Ka b)
theorem Hg{cl:Str->Option Addr}:∀{ns:List Int}{vs:au},Vals (mI ns) vs->∃as,ReadsAllW R cl h vs (ns.map WData.int) as
 |[],_,x=>by
  cases x;exact⟨_,ReadsAllW.nil⟩
 |n::r,_,x=>by
  cases x with
  |cons a b=>
   obtain⟨t,rfl⟩:=a;obtain⟨as,z⟩:=Hg (R:=R) (cl:=cl) (h:=h) b;exact⟨_,ReadsAllW.cons (ReadsW.int n t) z⟩
theorem VB{w:cU}{K:aX}{mg mb:aj}{k:Nat}{s1:bf}{ns:List Int}{cl:Str->Option Addr}{d0:WData}
 (KX:K.In s1.heap)(hns:s1.heap.Ns cW mg)(hb:s1.heap.Ns AX mb)(hbb:∀x:Str,x≠"__name__"->mb x=ij x)(ajP:s1.heap.NoLimit)(hg:s1.gens= #[])(hm:Np mg s1.heap)
 (k1:K.lookup T1=ab)(k2:K.lookup T2=ab)(t1:s1.heap.get? T1=aa (tabObj #[]))(t2:s1.heap.get? T2=aa (tabObj #[]))(c1:isCodeTable s1.heap T1)(c2:isCodeTable s1.heap T2)
 (hwl:WellAll w.params s1.heap vals [.list (ns.map WData.int)])(hwt:(WData.list (ns.map WData.int)).weight<=1048576)(hr:gG k callerA)
 (F:∀base:Heap,K.In base->base.Ns cW mg->Np mg base->dv P w K mg base eJ k fa fd ["calls"] (yG K T1 T2))(agS:∀(s:bf)(us:au),us.length=1->BindsTo s fd ⟨us,[]⟩ ((["calls"]:ak).zip us))
 (ask:nQ ns=ae)(hd0:d0=.list ((jX ns).map WData.int)):
 jx (bJ P w) callerA (.call (.ref fa) ⟨vals,[]⟩) (fun r s'=>∃u as,r=.ok (.ret u)/\ReadsW R cl s'.heap u d0 as/\OldK s1.heap s'.heap/\s'.os=s1.os/\E7 s'.gens) s1:=by
 obtain⟨a,vs,rfl,ga,hvs⟩:∃(a:Addr)(vs:au),vals=[.ref a]/\s1.heap.get? a=aa {cls:=.type "list",data:=.seq vs.toArray}/\Vals (mI ns) vs:=by
  cases hwl with
  |cons x y=>
   cases y;cases x with
   |list ho Ml=>exact⟨_,_,rfl,ho,Ka Ml⟩
 have j6:(mI ns).length<=bz:=by
  have:=PySem.W.length_le_weightAllW (ns.map WData.int);rw[aV]at this;rw[ki];exact cQ (cQ this hwt) (by decide)
 have naT:∀{T:Addr},s1.heap.get? T=aa (tabObj #[])->T≠a:=fun{T} e z=>by
  rw[z,ga]at e;cases e
 have n1:=naT t1
 have n2:=naT t2
 obtain⟨H0,hH0⟩:∃H0:Hp,H0=fun b=>if b=a/\K.lookup a=ab then aa (.Vi {cls:=.type "list",data:=.seq vs.toArray} (.lst (mI ns)))else ab:=⟨_,rfl⟩
 have is1:∀b u,H0 b=aa u->(b=a/\K.lookup a=ab)/\u=.Vi {cls:=.type "list",data:=.seq vs.toArray} (.lst (mI ns)):=fun b u q=>by
  rw[hH0]at q;dsimp only at q;by_cases z:b=a/\K.lookup a=ab
  ·rw[c8 z]at q;exact⟨z,(bR q).symm⟩
  rw[cP z]at q;cases q
 have a1:H0 T1=ab:=by
  rw[hH0];exact cP fun z=>n1 z.1
 have a2:H0 T2=ab:=by
  rw[hH0];exact cP fun z=>n2 z.1
 have is0:∀b u,H0 b=aa u->K.lookup b=ab/\(∃o x,u=.Vi o x)/\∃c vs,s1.heap.get? b=aa {cls:=c,data:=.seq vs}:=fun b u q=>by
  obtain⟨⟨rfl,e⟩,rfl⟩:=is1 b u q;exact⟨e,⟨_,_,rfl⟩,_,_,ga⟩
 have ajD:yo P w H0 s1.heap:=fun b u q=>by
  obtain⟨⟨rfl,e⟩,rfl⟩:=is1 b u q;exact⟨ga,j6,vs,_,hvs,ga⟩
 have hS:du K H0 a (mI ns):=by
  cases hk:K.lookup a with
  |none=>exact .inl (.inr ⟨_,by rw[hH0];exact c8 ⟨rfl,hk⟩⟩)
  |some o=>
   have e2:=KX a o hk;rw[ga]at e2;obtain rfl:=bR e2;refine .inr ⟨_,vs.toArray,_,hk,rfl,rfl,rfl,?_,by simpa using hvs⟩;have:=hvs.length;rw[bY,<-this];exact j6
 generalize hH:(fun b=>if b=T1\/b=T2 then aa (.FZ #[])else H0 b:Hp)=H
 have hT:∀{b:Addr},b=T1\/b=T2->H b=aa (.FZ #[]):=fun{b} z=>by rw[<-hH];exact c8 z
 have hN:∀{b:Addr},¬(b=T1\/b=T2)->H b=H0 b:=fun{b} z=>by rw[<-hH];exact cP z
 have h00:∀{b:Addr},b=T1\/b=T2->H0 b=ab:=fun{b} z=>by
  rcases z with z|z
  ·rw[z];exact a1
  rw[z];exact a2
 have gT:∀{b:Addr},b=T1\/b=T2->s1.heap.get? b=aa (tabObj #[]):=fun{b} z=>by
  rcases z with z|z
  ·rw[z];exact t1
  rw[z];exact t2
 have sm:bG H0 H:=fun b o e=>by
  rw[hN fun z=>by rw[h00 z]at e;cases e];exact e
 have gd:yo P w H s1.heap:=fun b u q=>by
  by_cases z:b=T1\/b=T2
  ·rw[hT z]at q;cases q;exact gT z
  rw[hN z]at q;exact(ajD b u q).tJ (fun _ _ _ e=>e) (fun c e=>sm _ _ e) fun c xs e=>sm _ _ e
 have hK:∀b u,H b=aa u->K.lookup b=ab:=fun b u q=>by
  by_cases z:b=T1\/b=T2
  ·rcases z with z|z
   ·rw[z];exact k1
   rw[z];exact k2
  rw[hN z]at q;exact(is0 b u q).1
 have no:∀{b:Addr}{o:Obj},s1.heap.get? b=aa o->(∀ps,o.data≠ .fields ps)->(∀vs n,o.data≠ .seq vs n)->H b=ab:=fun{b o} e d1 d2=>by
  by_cases z:b=T1\/b=T2
  ·rw[gT z]at e;cases e;exact(d1 _ rfl).elim
  rw[hN z];cases q:H0 b with
  |none=>rfl
  |some u=>
   obtain⟨_,_,c,vs,e2⟩:=is0 b u q;rw[e2]at e;cases e;exact(d2 _ _ rfl).elim
 have Nf:∀{b:Addr}{o:Obj},s1.heap.get? b=aa o->H b=ab->(JF s1.heap H).get? b=aa o:=fun e n=>Ya e n
 have nsK:∀{b:Addr}{m:aj},s1.heap.Ns b m->(JF s1.heap H).Ns b m:=fun{b m}⟨o,es,ep,e,d,r⟩=>⟨o,es,ep,Nf e (no e (fun ps z=>by rw[d]at z;cases z) fun vs n z=>by rw[d]at z;cases z),d,r⟩
 have nK:∀b o,K.lookup b=aa o->H b=ab:=fun b o e=>by
  cases q:H b with
  |none=>rfl
  |some u=>
   rw[hK b u q]at e;cases e
 have hKb:K.In (JF s1.heap H):=fun b o e=>Nf (KX b o e) (nK b o e)
 have hM:Mod K mg (JF s1.heap H):=⟨hKb,nsK hns,⟨mb,nsK hb,hbb⟩,let⟨mc,h1,h2⟩:=ajP;⟨mc,nsK h1,h2⟩⟩
 have hBm:Np mg (JF s1.heap H):=by
  obtain⟨bm,ob,b1,b2,b3,b4,b5,b6⟩:=hm;exact⟨bm,ob,b1,b2,Nf b3 (no b3 (fun ps z=>by rw[b6]at z;cases z) fun vs n z=>by rw[b6]at z;cases z),b4,b5,b6⟩
 have e0:Qa P w K mg (JF s1.heap H) callerA [] s1 H:=⟨rfl,hM,fun b o e=>aai e,kX (U9 _ _),trivial,fun b hb=>absurd (show b∈([]:ag)from hb) (by simp),gd,.of_eq hg⟩
 have VS:yG K T1 T2 [.ref a] H (fun v H'=>∃p,v=.ref p/\H' p=aa (.lst (mI (jX ns)))) fun _ _ _=>False:=
  ⟨_,ns,rfl,sm.seq hS,⟨⟨_,hT (.inl rfl),trivial,.inl rfl⟩,⟨_,hT (.inr rfl),trivial,.inl rfl⟩⟩,ask,fun H' p hp=>⟨p,rfl,hp⟩⟩
 refine iS ((F _ hKb (nsK hns) hBm).run callerA [] s1 H ⟨[.ref a],[]⟩ [.ref a] [.ref a] _ _ hr e0 (agS s1 _ rfl) (.cons rfl .nil) VS) fun r s' x=>?_
 cases r with
 |error e=>exact fq x
 |ok fl=>
  cases fl with
  |next=>exact fq x
  |brk=>exact fq x
  |cont=>exact fq x
  |ret u=>
   obtain⟨v,H',os,bare,un,ad1,r',q⟩:=x
   have kept:∀b o,¬(b=T1\/b=T2)->s1.heap.get? b=aa o->s'.heap.get? b=aa o:=fun b o nz e=>by
    cases q2:H b with
    |none=>exact un.keep b o e q2 (by intro z;exact absurd (show b∈([]:ag)from z) (by simp)) (by simp)
    |some u2=>
     have q3:=q2;rw[hN nz]at q3;obtain⟨_,⟨ob,u3,rfl⟩,_⟩:=is0 b u2 q3;have z2:=un.Il b ob _ q2;obtain⟨e1,_⟩:=gd b _ q2;obtain⟨e2,_⟩:=ad1 b _ z2;rw[e]at e1;cases e1;exact e2
   obtain⟨p,rfl,hp⟩:=q
   obtain rfl:u=cp p:=r'
   obtain⟨_,its,n,hv,gp⟩:=ad1 p _ hp
   obtain⟨as,hrd⟩:=Hg (R:=R) (cl:=cl) (h:=s'.heap) hv
   have hrd:∃as,ReadsW R cl s'.heap (.ref p) d0 as:=by
    rw[hd0];exact⟨_,ReadsW.list gp rfl rfl hrd⟩
   obtain⟨as,hrd⟩:=hrd
   have tb:∀b,b=T1\/b=T2->∃more:Array aY,s'.heap.get? b=aa {cls:=.none,data:=.fields (#[]++more)}:=fun b z=>by
    obtain⟨more,e⟩:=un.GC b _ (hT z);exact⟨more,ad1 b _ e⟩
   refine⟨_,as,rfl,hrd,⟨fun b o e=>?_,fun b o e=>?_⟩,os,bare⟩
   ·by_cases z:b=T1\/b=T2
    ·have z2:=z
     obtain⟨more,e2⟩:=tb b z
     rw[gT z]at e
     cases e
     refine .inr (.inl ⟨?_,rfl,#[],more,rfl,e2⟩)
     rcases z2 with z|z
     ·rw[z];exact c1
     rw[z];exact c2
    exact .inl (kept b o z e)
   by_cases z:b=T1\/b=T2
   ·obtain⟨more,e2⟩:=tb b z
    exact⟨_,e2⟩
   exact⟨o,kept b o z e⟩
end SR
end
section
namespace SR
open PySem PySem.Spec PyProof.Rows L2 XL sI
open PySem.W (Frag nsIn findIn isFn keepIn codeIn makesIn codeHdIn tabIn subIn)
def gA(K:Frag)(x:Str):Addr:=match nsIn K cW x with
 |some (aa (.ref a))=>a
 |_=>0
def mA(K:Frag)(C:Addr)(m:Str):Addr:=match findIn K (.ref C) m with
 |some (aa (.ref a))=>a
 |_=>0
def fnAt(K:Frag)(f:Addr):Option gx:=match K.lookup f with
 |some ⟨_,_,.func fd,_⟩=>aa fd
 |_=>ab
abbrev ahq:=Str×Str×Wb×FuncBody×l3×Addr×ai×aY×Addr
def agZ(fd:gx):ahq:=(fd.name,fd.qualname,fd.params,fd.body,fd.scope,fd.globals,fd.closure,fd.defaults,fd.builtins)
abbrev rowOf(x q:Str)(st:Stmt):ahq:=(x,q,mD st,.stmts (jW st),bA st,cW,[],.none,AX)
def aha(K:Frag)(f:Addr)(q:Str):Bool:=match fnAt K f with
 |some fd=>codeIn K fd.code q&&keepIn K (.ref f)
 |none=>af
structure FnK(K:Frag)(f:Addr)(x q:Str)(st:Stmt):Prop where
 e1:(fnAt K f).map agZ=aa (rowOf x q st)
 e2:aha K f q=ae
theorem FnK.ok{K:Frag}{f:Addr}{q:Str}{st:Stmt}(h:FnK K f x q st):∃fd,fnAt K f=aa fd/\iF K x q st f fd:=by
 obtain⟨e1,e2⟩:=h;unfold aha at e2;cases hf:fnAt K f with
 |none=>rw[hf]at e2;cases e2
 |some fd=>
  rw[hf]at e1 e2;refine⟨fd,rfl,?_⟩;rw[cK]at e2;unfold fnAt at hf;split at hf
  ·rename_i oc od fd' sl lk;cases hf;obtain⟨n,qn,ps,bd,sc,gl,cl,df,kd,dc,pm,an,cd,ct,bl⟩:=fd;have e1:=e1;injection e1 with e1
   cases e1;exact aen lk e2.1 e2.2
  cases hf
structure gP(K:Frag)(x:Str)(st:Stmt):Prop where
 e0:nsIn K cW x=aa (aa (.ref (gA K x)))
 f:FnK K (gA K x) x x st
structure lD(K:Frag)(C:Addr)(m q:Str)(st:Stmt):Prop where
 e0:findIn K (.ref C) m=aa (aa (.ref (mA K C m)))
 i:isFn K (.ref (mA K C m))=ae
 f:FnK K (mA K C m) m q st
structure MkK(K:Frag)(x q:Str)(st:Stmt):Prop where
 e0:nsIn K cW x=aa (aa (.ref (gA K x)))
 mks:makesIn K (gA K x)=ae
 kp:keepIn K (.ref (gA K x))=ae
 i:lD K (gA K x) "__init__" q st
structure FG(K:Frag)(x q:Str)(st:Stmt):Prop where
 e0:nsIn K cW x=aa (aa (.ref (gA K x)))
 ex:pZ K (gA K x) (mA K (gA K x) "__init__")=ae
 nn:findIn K (.ref (gA K x)) "number"=aa ab
 f:FnK K (mA K (gA K x) "__init__") "__init__" q st
section
variable{P:b7}{w:cU}{K:Frag}{mg:aj}{base h:Heap}{CX:Qn}{k:Nat}{ps:ak}{sp:Sp}{x m q:Str}{st:Stmt}{C:Addr}
abbrev Af(x q:Str)(st:Stmt)(ps:ak):Prop:=∀(kV doc pm:aY)(an:Option Addr)(fA ct:aY)(us:au),us.length=ps.length->oO (gQ x q (mD st) (jW st) (bA st) .none kV doc pm an fA ct) ⟨us,[]⟩=pure (ps.zip us)
theorem fY{us:au}{n:Nat}(h:us.length=n+1):∃u r,us=u::r/\r.length=n:=by
 cases us with
 |nil=>cases h
 |cons u r=>exact⟨u,r,rfl,Nat.succ.inj h⟩
theorem kj{a0:Str}(h:∀(kV doc pm:aY)(an:Option Addr)(fA ct u0:aY),oO (gQ x q (mD st) (jW st) (bA st) .none kV doc pm an fA ct) ⟨[u0],[]⟩=pure ([a0].zip [u0])):Af x q st [a0]:=fun k d p a c t us hl=>by
 obtain⟨u0,r0,rfl,g0⟩:=fY hl;cases r0 with
 |nil=>exact h k d p a c t u0
 |cons _ _=>cases g0
theorem qd{a0 a1:Str}(h:∀(kV doc pm:aY)(an:Option Addr)(fA ct u0 u1:aY),oO (gQ x q (mD st) (jW st) (bA st) .none kV doc pm an fA ct) ⟨[u0,u1],[]⟩=pure ([a0,a1].zip [u0,u1])):Af x q st [a0,a1]:=fun k d p a c t us hl=>by
 obtain⟨u0,r0,rfl,g0⟩:=fY hl;obtain⟨u1,r1,rfl,g1⟩:=fY g0;cases r1 with
 |nil=>exact h k d p a c t u0 u1
 |cons _ _=>cases g1
theorem Fy{a0 a1 a2:Str}(h:∀(kV doc pm:aY)(an:Option Addr)(fA ct u0 u1 u2:aY),oO (gQ x q (mD st) (jW st) (bA st) .none kV doc pm an fA ct) ⟨[u0,u1,u2],[]⟩=pure ([a0,a1,a2].zip [u0,u1,u2])):Af x q st [a0,a1,a2]:=fun k d p a c t us hl=>by
 obtain⟨u0,r0,rfl,g0⟩:=fY hl;obtain⟨u1,r1,rfl,g1⟩:=fY g0;obtain⟨u2,r2,rfl,g2⟩:=fY g1;cases r2 with
 |nil=>exact h k d p a c t u0 u1 u2
 |cons _ _=>cases g2
theorem Sa{a0 a1 a2 a3:Str}(h:∀(kV doc pm:aY)(an:Option Addr)(fA ct u0 u1 u2 u3:aY),oO (gQ x q (mD st) (jW st) (bA st) .none kV doc pm an fA ct) ⟨[u0,u1,u2,u3],[]⟩=pure ([a0,a1,a2,a3].zip [u0,u1,u2,u3])):Af x q st [a0,a1,a2,a3]:=fun k d p a c t us hl=>by
 obtain⟨u0,r0,rfl,g0⟩:=fY hl;obtain⟨u1,r1,rfl,g1⟩:=fY g0;obtain⟨u2,r2,rfl,g2⟩:=fY g1;obtain⟨u3,r3,rfl,g3⟩:=fY g2;cases r3 with
 |nil=>exact h k d p a c t u0 u1 u2 u3
 |cons _ _=>cases g3
theorem Nc{a0 a1 a2 a3 a4:Str}(h:∀(kV doc pm:aY)(an:Option Addr)(fA ct u0 u1 u2 u3 u4:aY),oO (gQ x q (mD st) (jW st) (bA st) .none kV doc pm an fA ct) ⟨[u0,u1,u2,u3,u4],[]⟩=pure ([a0,a1,a2,a3,a4].zip [u0,u1,u2,u3,u4])):Af x q st [a0,a1,a2,a3,a4]:=fun k d p a c t us hl=>by
 obtain⟨u0,r0,rfl,g0⟩:=fY hl;obtain⟨u1,r1,rfl,g1⟩:=fY g0;obtain⟨u2,r2,rfl,g2⟩:=fY g1;obtain⟨u3,r3,rfl,g3⟩:=fY g2;obtain⟨u4,r4,rfl,g4⟩:=fY g3;cases r4 with
 |nil=>exact h k d p a c t u0 u1 u2 u3 u4
 |cons _ _=>cases g4
theorem akv{a0 a1 a2 a3 a4 a5:Str}(h:∀(kV doc pm:aY)(an:Option Addr)(fA ct u0 u1 u2 u3 u4 u5:aY),oO (gQ x q (mD st) (jW st) (bA st) .none kV doc pm an fA ct) ⟨[u0,u1,u2,u3,u4,u5],[]⟩=pure ([a0,a1,a2,a3,a4,a5].zip [u0,u1,u2,u3,u4,u5])):Af x q st [a0,a1,a2,a3,a4,a5]:=fun k d p a c t us hl=>by
 obtain⟨u0,r0,rfl,g0⟩:=fY hl;obtain⟨u1,r1,rfl,g1⟩:=fY g0;obtain⟨u2,r2,rfl,g2⟩:=fY g1;obtain⟨u3,r3,rfl,g3⟩:=fY g2;obtain⟨u4,r4,rfl,g4⟩:=fY g3;obtain⟨u5,r5,rfl,g5⟩:=fY g4;cases r5 with
 |nil=>exact h k d p a c t u0 u1 u2 u3 u4 u5
 |cons _ _=>cases g5
variable(P w mg base)in
theorem h7(KX:K.In h)(G:h.Ns cW mg)(D:gP K x st)(hb:Af x x st ps)(ok:∀fd,iF K x x st (gA K x) fd->fnAt K (gA K x)=aa fd->dv P w K mg base CX k (gA K x) fd ps sp):Fn P w K mg base CX k x ps sp:=by
 obtain⟨fd,e,F⟩:=D.f.ok;exact⟨_,fd,ok fd F e,jK KX G D.e0,F.kp,F.binds hb⟩
variable(P w mg base)in
theorem ue(D:lD K C m q st)(hb:Af m q st ps)(ok:∀fd,iF K m q st (mA K C m) fd->dv P w K mg base CX k (mA K C m) fd ps sp):Me P w K mg base CX k C m ps sp:=by
 obtain⟨fd,e,F⟩:=D.f.ok;exact⟨_,fd,⟨D.e0,D.i,F.kp⟩,ok fd F,F.binds hb⟩
variable(P w mg base)in
theorem XM(KX:K.In h)(G:h.Ns cW mg)(D:MkK K x q st)(hb:Af "__init__" q st ps)(ok:∀fd,iF K "__init__" q st (mA K (gA K x) "__init__") fd->dv P w K mg base eJ k (mA K (gA K x) "__init__") fd ps sp):Mc P w K mg base k x (gA K x) ps sp:=by
 obtain⟨fd,e,F⟩:=D.i.f.ok;exact⟨_,fd,⟨D.mks,D.i.e0,D.i.i,D.kp⟩,ok fd F,jK KX G D.e0,F.binds hb⟩
variable(P w mg base)in
theorem JC(KX:K.In h)(G:h.Ns cW mg)(D:FG K x q st)(hb:Af "__init__" q st ps)(ok:∀fd,iF K "__init__" q st (mA K (gA K x) "__init__") fd->dv P w K mg base eJ 2 (mA K (gA K x) "__init__") fd ps sp):Ec P w K mg base x (gA K x) ps sp:=by
 obtain⟨fd,e,F⟩:=D.f.ok;exact⟨⟨_,fd,D.ex,ok fd F,jK KX G D.e0,F.binds hb⟩,D.nn⟩
def intAt(K:Frag)(x:Str):Option Int:=match nsIn K cW x with
 |some (aa (.int i _))=>aa i
 |_=>ab
def strAt(K:Frag)(x:Str):Option Str:=match nsIn K cW x with
 |some (aa (.str i _))=>aa i
 |_=>ab
theorem C3(KX:K.In h)(G:h.Ns cW mg){i:Int}(e:intAt K x=aa i):∃t,mg x=aa (.int i t):=by
 unfold intAt at e;split at e
 ·rename_i t hn;cases e;exact⟨t,jK KX G hn⟩
 cases e
theorem mkS(KX:K.In h)(G:h.Ns cW mg){i:Str}(e:strAt K x=aa i):∃t,mg x=aa (.str i t):=by
 unfold strAt at e;split at e
 ·rename_i t hn;cases e;exact⟨t,jK KX G hn⟩
 cases e
def abz(K:Frag)(a:Addr):Option (List (Option V)):=match K.lookup a with
 |some ⟨.type "tuple",_,.seq its _,_⟩=>if its.size<=bz then aa (its.toList.map aa4)else ab
 |_=>ab
structure VJ(K:Frag)(x:Str)(xs:ao):Prop where
 e0:nsIn K cW x=aa (aa (.ref (gA K x)))
 e1:abz K (gA K x)=aa (xs.map aa)
theorem aa3{u:aY}{y:V}(e:aa4 u=aa y):RelV y u:=by
 cases u<;>first|(cases e;rfl)|(cases e;exact⟨_,rfl⟩)|cases e
theorem P4:∀{us:au}{xs:ao},us.map aa4=xs.map aa->Vals xs us
 |[],[],_=>.nil
 |[],_::_,e=>by cases e
 |_::_,[],e=>by cases e
 |u::us,x::xs,e=>by
  injection e with e1 e2
  exact .cons (aa3 e1) (P4 e2)
theorem Zj(KX:K.In h)(G:h.Ns cW mg)(D:VJ K x xs):KT K mg x xs:=by
 refine⟨_,jK KX G D.e0,fun H=>?_⟩;have e:=D.e1;unfold abz at e;split at e
 ·rename_i od its n sl lk;split at e
  ·rename_i hz;injection e with e
   exact .inr ⟨_,its,n,lk,rfl,rfl,hz,P4 e⟩
  cases e
 cases e
def acZ(K:Frag)(a:Addr):Option (Int×Int×Str×Int×Int×Str):=match K.lookup a with
 |some ⟨.type "dict",ab,.dict es _,sl⟩=>if sl.toList.isEmpty=ae then(match es.toList with
  |[⟨h1,.int i _,.str x _⟩,⟨h2,.int j _,.str y _⟩]=>aa (h1,i,x,h2,j,y)
  |_=>ab)else ab
 |_=>ab
theorem afE{a:Addr}(ns:(a==jJ)=af)(e:acZ K a=aa ((59:Int),(59:Int),(";":Str),(61:Int),(61:Int),("=":Str))):KM K a Kq:=by
 unfold acZ at e;split at e
 ·rename_i es n sl lk;split at e
  ·rename_i hs;split at e
   ·rename_i h1 i t1 x t2 h2 j t3 y t4 he;cases e;have he:=J9 he;have hs:=J9 (List.isEmpty_iff.mp hs);subst he hs;exact adE (by decide+kernel) (by decide+kernel) (by decide) ns lk
   cases e
  cases e
 cases e
def QL(K:Frag)(x:Str):Addr:=match tabIn K x with
 |some (_,T)=>T
 |none=>0
def aez(K:Frag)(x:Str):Addr:=match tabIn K x with
 |some (c,_)=>c
 |none=>0
structure aa5(K:Frag)(x:Str):Prop where
 e0:tabIn K x=aa (aez K x,QL K x)
 e1:codeHdIn K (aez K x) (QL K x)=ae
 e2:K.lookup (QL K x)=ab
theorem aa5.code(D:aa5 K x)(e:fnAt K (gA K x)=aa fd):fd.code=.ref (aez K x):=by
 have e0:=D.e0;unfold tabIn at e0;unfold fnAt gA at e;split at e0
 ·rename_i f hf;rw[hf]at e;split at e0
  ·rename_i fd' _ hl;rw[hl]at e;cases e;split at e0
   ·rename_i c hc;split at e0
    ·split at e0
     ·rw[hc];injection e0 with e0
      rw[(Prod.mk.inj e0).1]
     cases e0
    cases e0
   cases e0
  cases e0
 cases e0
end
theorem aep{P:b7}{w:cU}{K:Frag}{mg:aj}{base:Heap}{CX:Qn}{k:Nat}{x:Str}{ps:ak}{sp sp':Sp}(F:Fn P w K mg base CX k x ps sp)(h:∀vs H Q E,sp' vs H Q E->sp vs H Q E):Fn P w K mg base CX k x ps sp':=by
 obtain⟨f,fd,a,b⟩:=F.ex;exact⟨f,fd,a.imp h,b⟩
structure All(K:Frag):Prop where
 uV:FG K "TooLong" "TooLong.__init__" rE
 tp:FG K "NoProgram" "NoProgram.__init__" pA
 tf:FG K "WrongPlan" "WrongPlan.__init__" pd
 pM:FG K "MissingData" "MissingData.__init__" mV
 qc:FG K "WrongForm" "WrongForm.__init__" ph
 p0:FG K "WrongName" "WrongName.__init__" pf
 RR:gP K "is_digit" Ar
 MG:gP K "remark_end" vo
 PJ:gP K "is_letter" xA
 MJ:gP K "number_end" vt
 RQ:gP K "word_end" Aq
 JO:gP K "skip_blanks" tL
 Iy:gP K "number_value" rC
 PF:gP K "word_text" xx
 Gf:MkK K "Token" "Token.__init__" vy
 MH:gP K "read_token" vp
 JQ:gP K "read_tokens" tN
 Rv:lD K (gA K "Reader") "sees" "Reader.sees" t9
 HV:MkK K "Reader" "Reader.__init__" ua
 HM:lD K (gA K "Reader") "at_end" "Reader.at_end" qx
 DX:lD K (gA K "Reader") "take_if" "Reader.take_if" pz
 xS:lD K (gA K "Reader") "take_word" "Reader.take_word" mS
 xT:lD K (gA K "Reader") "take_sign" "Reader.take_sign" mT
 xU:lD K (gA K "Reader") "take_name" "Reader.take_name" mU
 ug:lD K (gA K "Reader") "take_length" "Reader.take_length" lq
 yf:gP K "read_operand_names" lg
 x6:MkK K "Statement" "Statement.__init__" pq
 Ed:gP K "read_statement" pb
 vR:gP K "possible_first_words" kh
 Cu:gP K "read_statements" nY
 Fx:gP K "find_operands" qw
 D1:MkK K "Program" "Program.__init__" rG
 Iw:gP K "read_program" rB
 Fw:gP K "input_numbers" qv
 Cv:gP K "plain_statement" nZ
 MI:gP K "plain_text" vq
 JW:gP K "first_times" tT
 RT:gP K "end_time" Au
 MK:gP K "last_times" vw
 Fu:gP K "may_take_over" qt
 JV:gP K "live_length" tS
 zy:gP K "length_taken_over" lW
 Cy:gP K "needed_at_least" n0
 Iz:gP K "look_at_plan" rD
 AN:gP K "both_have_places" mR
 aew:gP K "meet" Q0
 Vx:gP K "overlap" DB
 uW:gP K "shares_by_taking_over" jY
 aaP:gP K "clash" LD
 JX:gP K "first_clash" tU
 Vw:gP K "room_of" DA
 AJ:gP K "possible_offsets" mM
 AM:gP K "clashes_with_any" mQ
 aaN:gP K "place" LC
 JR:gP K "placed_plan" tO
 sE:gP K "plan_one_behind_another" jv
 Ft:gP K "plan_in_order" qr
 yg:gP K "plan_longest_first" lh
 Vu:gP K "sits_on" Dz
 RS:gP K "group_of" As
 Cz:gP K "groups_in_order" n6
 Fv:gP K "is_in_the_way" qu
 JS:gP K "place_group" tP
 JT:gP K "packed_plan" tQ
 MO:gP K "is_element" vx
 AK:gP K "place_in_operand" mO
 Eb:gP K "worked_element" o9
 MF:gP K "work_array" vn
 ME:gP K "write_data" vm
 AL:gP K "memory_after_run" mP
 JP:gP K "run_by_plan" tM
 pN:FG K "BeyondLimit" "BeyondLimit.__init__" mX
 ot:FG K "ClashingPlan" "ClashingPlan.__init__" lX
 pO:FG K "AbsentInput" "AbsentInput.__init__" mY
 tm:FG K "WrongData" "WrongData.__init__" pj
 Mb:MkK K "Rooms" "Rooms.__init__" vF
 eW:lD K (gA K "Rooms") "held_program" "Rooms.held_program" lj
 Rz:lD K (gA K "Rooms") "need" "Rooms.need" vC
 Rw:lD K (gA K "Rooms") "room" "Rooms.room" vz
 L8:lD K (gA K "Rooms") "check" "Rooms.check" tY
 JU:gP K "live_ranges" tR
 RB:lD K (gA K "Rooms") "live" "Rooms.live" vE
 mB:lD K (gA K "Rooms") "look_for_data" "Rooms.look_for_data" kO
 XO:lD K (gA K "Rooms") "run" "Rooms.run" xB
 L9:lD K (gA K "Rooms") "apart" "Rooms.apart" tZ
 Rx:lD K (gA K "Rooms") "plan" "Rooms.plan" vA
 Ry:lD K (gA K "Rooms") "pack" "Rooms.pack" vB
 RA:lD K (gA K "Rooms") "load" "Rooms.load" vD
 L7:lD K (gA K "Rooms") "plain" "Rooms.plain" tX
 AD:lD K (gA K "Rooms") "set_data" "Rooms.set_data" px
 L6:lD K (gA K "Rooms") "where" "Rooms.where" tW
 PD:gP K "work_call" xu
 JY:gP K "answer_call" tV
 K1:gP K "answers" uF
 xO:nsIn K cW "Exception"=aa ab
 gZ:nsIn K cW "enumerate"=aa ab
 jO:nsIn K cW "len"=aa ab
 DV:nsIn K cW "list"=aa ab
 O5:nsIn K cW "max"=aa ab
 XI:nsIn K cW "ord"=aa ab
 qR:nsIn K cW "range"=aa ab
 XH:nsIn K cW "set"=aa ab
 xN:nsIn K cW "sorted"=aa ab
 XG:nsIn K cW "str"=aa ab
 XE:nsIn K cW "zip"=aa ab
 Na:intAt K "APART"=aa 11
 M3:intAt K "CHECK"=aa 5
 CJ:strAt K "DIGITS"=aa "0123456789"
 AQ:intAt K "IN_ORDER"=aa 1
 rW:intAt K "LENGTH_LIMIT"=aa 64
 yX:strAt K "LETTERS"=aa "abcdefghijklmnopqrstuvwxyz"
 yk:intAt K "LINE_FEED"=aa 10
 R8:intAt K "LIVE"=aa 3
 R7:intAt K "LOAD"=aa 0
 qC:intAt K "LONGEST_FIRST"=aa 2
 yj:intAt K "MAP_START"=aa 7
 yW:intAt K "MODULUS"=aa 1000003
 vV:intAt K "NAME_LIMIT"=aa 16
 R6:intAt K "NEED"=aa 4
 rT:intAt K "OFFSET_LIMIT"=aa 10000
 lC:intAt K "ONE_BEHIND_ANOTHER"=aa 0
 qB:intAt K "OPERAND_LIMIT"=aa 4
 R5:intAt K "PACK"=aa 8
 M1:intAt K "PLAIN"=aa 2
 R4:intAt K "PLAN"=aa 7
 ID:intAt K "REMARK"=aa 35
 R3:intAt K "ROOM"=aa 6
 YC:intAt K "RUN"=aa 10
 AO:intAt K "SET_DATA"=aa 9
 yV:intAt K "SMALL_A"=aa 97
 ou:intAt K "STATEMENT_LIMIT"=aa 24
 vU:intAt K "TEXT_LIMIT"=aa 4096
 vT:intAt K "TURN_START"=aa 11
 M0:intAt K "WHERE"=aa 1
 Eh:intAt K "ZERO"=aa 48
 GD:VJ K "BLANKS" [.int 32,.int 9,.int 10,.int 13]
 lU:VJ K "CALLS_WITH_NUMBER" nV
 o8:VJ K "CALLS_WITH_ROW" rV
 vh:VJ K "KEPT_WORDS" x5
 QM:VJ K "WAYS" (fS [Bm,oS])
 Yy:Gj K (gA K "Token")
 Nh:findIn K (.ref (gA K "Token")) "kind"=aa ab
 JZ:findIn K (.ref (gA K "Token")) "value"=aa ab
 El:findIn K (.ref (gA K "Token")) "position"=aa ab
 P5:findIn K (.ref (gA K "Token")) "end"=aa ab
 VA:Gj K (gA K "Reader")
 FC:findIn K (.ref (gA K "Reader")) "tokens"=aa ab
 IF:findIn K (.ref (gA K "Reader")) "place"=aa ab
 MV:Gj K (gA K "Statement")
 Em:findIn K (.ref (gA K "Statement")) "word"=aa ab
 En:findIn K (.ref (gA K "Statement")) "name"=aa ab
 AR:findIn K (.ref (gA K "Statement")) "length"=aa ab
 Fz:findIn K (.ref (gA K "Statement")) "way"=aa ab
 sF:findIn K (.ref (gA K "Statement")) "operand_names"=aa ab
 RZ:Gj K (gA K "Program")
 ym:findIn K (.ref (gA K "Program")) "statements"=aa ab
 AS:findIn K (.ref (gA K "Program")) "operands"=aa ab
 Yz:Gj K (gA K "Rooms")
 FA:findIn K (.ref (gA K "Rooms")) "program"=aa ab
 Ni:findIn K (.ref (gA K "Rooms")) "data"=aa ab
 aW:findIn K (.ref (gA K "WrongForm")) "position"=aa ab
 aN:findIn K (.ref (gA K "WrongName")) "statement_number"=aa ab
 D9:FG K "Refusal" "Refusal.__init__" rF
 rd:FO K (gA K "Refusal") (.type "type")=ae
 spc:CQ K (.ref (gA K "Refusal")) "__getattribute__"=aa (aa (.builtin "type.__getattribute__"))
 fc:wG K (.ref (gA K "Refusal")) (.type "type") "__init__"=aa (.val (.ref (mA K (gA K "Refusal") "__init__")))
 UD:subIn K (.ref (gA K "TooLong")) (.ref (gA K "Refusal"))=aa ae
 OA:subIn K (.ref (gA K "WrongForm")) (.ref (gA K "Refusal"))=aa ae
 Oz:subIn K (.ref (gA K "WrongName")) (.ref (gA K "Refusal"))=aa ae
 OC:subIn K (.ref (gA K "NoProgram")) (.ref (gA K "Refusal"))=aa ae
 Oy:subIn K (.ref (gA K "WrongPlan")) (.ref (gA K "Refusal"))=aa ae
 Jp:subIn K (.ref (gA K "BeyondLimit")) (.ref (gA K "Refusal"))=aa ae
 He:subIn K (.ref (gA K "ClashingPlan")) (.ref (gA K "Refusal"))=aa ae
 Jq:subIn K (.ref (gA K "AbsentInput")) (.ref (gA K "Refusal"))=aa ae
 OB:subIn K (.ref (gA K "WrongData")) (.ref (gA K "Refusal"))=aa ae
 Jo:subIn K (.ref (gA K "MissingData")) (.ref (gA K "Refusal"))=aa ae
 aiJ:subIn K (.ref (gA K "TooLong")) (.ref (gA K "TooLong"))=aa ae
 aiF:subIn K (.ref (gA K "WrongForm")) (.ref (gA K "TooLong"))=aa af
 aiE:subIn K (.ref (gA K "WrongForm")) (.ref (gA K "WrongForm"))=aa ae
 aiI:subIn K (.ref (gA K "WrongName")) (.ref (gA K "TooLong"))=aa af
 aiG:subIn K (.ref (gA K "WrongName")) (.ref (gA K "WrongForm"))=aa af
 aiH:subIn K (.ref (gA K "WrongName")) (.ref (gA K "WrongName"))=aa ae
 ZK:aa5 K "plan_longest_first"
 ZL:aa5 K "groups_in_order"
 neT:(QL K "plan_longest_first"==QL K "groups_in_order")=af
 neP:(gA K "Rooms"==gA K "Program")=af
 neS:(gA K "Rooms"==gA K "Statement")=af
 sg0:nsIn K cW "SIGNS"=aa (aa (.ref (gA K "SIGNS")))
 sg1:(gA K "SIGNS"==jJ)=af
 sg2:acZ K (gA K "SIGNS")=aa ((59:Int),(59:Int),(";":Str),(61:Int),(61:Int),("=":Str))
theorem aeF{P:b7}{w:cU}{K:Frag}{mg:aj}{h:Heap}(A:All K)(KX:K.In h)(G:h.Ns cW mg):
 ∃fd:gx,(∀(s:bf)(us:au),us.length=1->BindsTo s fd ⟨us,[]⟩ ((["calls"]:ak).zip us))/\∀base:Heap,Np mg base->dv P w K mg base eJ 13 (gA K "answers") fd ["calls"] (yG K (QL K "plan_longest_first") (QL K "groups_in_order")):=by
 obtain⟨fd,e,F⟩:=A.K1.f.ok
 refine⟨fd,fun s us hu=>?_,fun base B=>?_⟩
 ·obtain⟨oc,od,kV,doc,pm,an,fA,ct,Xq,rfl,lk,NN⟩:=F.ex
  match us,hu with|[_],_=>exact .of_eq rfl
 have xO:=eS KX G A.xO
 have gZ:=eS KX G A.gZ
 have jO:=eS KX G A.jO
 have DV:=eS KX G A.DV
 have O5:=eS KX G A.O5
 have XI:=eS KX G A.XI
 have qR:=eS KX G A.qR
 have XH:=eS KX G A.XH
 have xN:=eS KX G A.xN
 have XG:=eS KX G A.XG
 have XE:=eS KX G A.XE
 have Na:=C3 KX G A.Na
 have M3:=C3 KX G A.M3
 have CJ:=mkS KX G A.CJ
 have AQ:=C3 KX G A.AQ
 have rW:=C3 KX G A.rW
 have yX:=mkS KX G A.yX
 have yk:=C3 KX G A.yk
 have R8:=C3 KX G A.R8
 have R7:=C3 KX G A.R7
 have qC:=C3 KX G A.qC
 have yj:=C3 KX G A.yj
 have yW:=C3 KX G A.yW
 have vV:=C3 KX G A.vV
 have R6:=C3 KX G A.R6
 have rT:=C3 KX G A.rT
 have lC:=C3 KX G A.lC
 have qB:=C3 KX G A.qB
 have R5:=C3 KX G A.R5
 have M1:=C3 KX G A.M1
 have R4:=C3 KX G A.R4
 have ID:=C3 KX G A.ID
 have R3:=C3 KX G A.R3
 have YC:=C3 KX G A.YC
 have AO:=C3 KX G A.AO
 have yV:=C3 KX G A.yV
 have ou:=C3 KX G A.ou
 have vU:=C3 KX G A.vU
 have vT:=C3 KX G A.vT
 have M0:=C3 KX G A.M0
 have Eh:=C3 KX G A.Eh
 have GD:=Zj KX G A.GD
 have lU:=Zj KX G A.lU
 have o8:=Zj KX G A.o8
 have vh:=Zj KX G A.vh
 have QM:=Zj KX G A.QM
 have TC:Se K (gA K "Token"):=⟨A.Yy,A.Nh,A.JZ,A.El,A.P5⟩
 have RC:RdC K (gA K "Reader"):=⟨A.VA,A.FC,A.IF⟩
 have S:FE K (gA K "Statement"):=⟨A.MV,A.Em,A.En,A.AR,A.Fz,A.sF⟩
 have Gp:FF K (gA K "Program"):=⟨A.RZ,A.ym,A.AS⟩
 have RM:Ql K (gA K "Rooms"):=⟨A.Yz,A.FA,A.Ni⟩
 have gF:=jK KX G A.D9.e0
 have neT:=ne_of_beq_false A.neT
 have neP:=ne_of_beq_false A.neP
 have neS:=ne_of_beq_false A.neS
 obtain⟨TY,eR,FR⟩:=A.D9.f.ok
 have Zq:RF P w K mg base (gA K "Refusal") _ TY:=⟨gF,A.rd,A.spc,A.fc,FR.kp,FR.binds (qd fun _ _ _ _ _ _ _ _=>rfl),Fl FR xO⟩
 have uV:=JC P w mg base KX G A.uV (kj fun _ _ _ _ _ _ _=>rfl) fun fd F=>Fj F Zq
 have tp:=JC P w mg base KX G A.tp (kj fun _ _ _ _ _ _ _=>rfl) fun fd F=>BM F Zq
 have tf:=JC P w mg base KX G A.tf (kj fun _ _ _ _ _ _ _=>rfl) fun fd F=>BH F Zq
 have pM:=JC P w mg base KX G A.pM (kj fun _ _ _ _ _ _ _=>rfl) fun fd F=>zp F Zq
 have qc:=JC P w mg base KX G A.qc (qd fun _ _ _ _ _ _ _ _=>rfl) fun fd F=>BJ F Zq
 have p0:=JC P w mg base KX G A.p0 (qd fun _ _ _ _ _ _ _ _=>rfl) fun fd F=>BI F Zq
 have vQ:=h7 P w mg base KX G A.RR (kj fun _ _ _ _ _ _ _=>rfl) fun fd F e=>OZ F Eh CJ jO
 have Ms:=h7 P w mg base KX G A.MG (qd fun _ _ _ _ _ _ _ _=>rfl) fun fd F e=>Ju F yk jO
 have EW:=h7 P w mg base KX G A.PJ (kj fun _ _ _ _ _ _ _=>rfl) fun fd F e=>LX F yV yX jO
 have Mv:=h7 P w mg base KX G A.MJ (qd fun _ _ _ _ _ _ _ _=>rfl) fun fd F e=>Jx F jO vQ
 have RL:=h7 P w mg base KX G A.RQ (qd fun _ _ _ _ _ _ _ _=>rfl) fun fd F e=>OR F jO vQ EW
 have JI:=h7 P w mg base KX G A.JO (qd fun _ _ _ _ _ _ _ _=>rfl) fun fd F e=>Hx F jO GD ID Ms
 have Ir:=h7 P w mg base KX G A.Iy (kj fun _ _ _ _ _ _ _=>rfl) fun fd F e=>Ff F Eh
 have Pu:=h7 P w mg base KX G A.PF (kj fun _ _ _ _ _ _ _=>rfl) fun fd F e=>LS F Eh yV CJ yX vQ
 have Gf:=XM P w mg base KX G A.Gf (Nc fun _ _ _ _ _ _ _ _ _ _ _=>rfl) fun fd F=>JA F TC
 have TE:ahh P w K mg base _:=⟨vQ,EW,RL,Mv,Pu,Ir,Gf,⟨_,jK KX G A.sg0,afE A.sg1 A.sg2⟩,Eh⟩
 have Mt:=h7 P w mg base KX G A.MH (qd fun _ _ _ _ _ _ _ _=>rfl) fun fd F e=>Jv F TE
 have JJ:=h7 P w mg base KX G A.JQ (kj fun _ _ _ _ _ _ _=>rfl) fun fd F e=>Hz F jO TC Gf JI Mt
 have Rv:=ue P w mg base A.Rv (Fy fun _ _ _ _ _ _ _ _ _=>rfl) fun fd F=>aag F TC RC
 have HV:=XM P w mg base KX G A.HV (qd fun _ _ _ _ _ _ _ _=>rfl) fun fd F=>HH F RC
 have HM:=ue P w mg base A.HM (kj fun _ _ _ _ _ _ _=>rfl) fun fd F=>UT F TC RC
 have DX:=ue P w mg base A.DX (qd fun _ _ _ _ _ _ _ _=>rfl) fun fd F=>Rc F TC RC qc A.aW
 have RE:RdE P w K mg base _ _ _:=⟨TC,RC,Rv,DX⟩
 have xS:=ue P w mg base A.xS (qd fun _ _ _ _ _ _ _ _=>rfl) fun fd F=>LU F RE
 have xT:=ue P w mg base A.xT (qd fun _ _ _ _ _ _ _ _=>rfl) fun fd F=>LV F RE
 have xU:=ue P w mg base A.xU (kj fun _ _ _ _ _ _ _=>rfl) fun fd F=>LW F RE vh vV jO
 have ug:=ue P w mg base A.ug (kj fun _ _ _ _ _ _ _=>rfl) fun fd F=>Hw F RE rW
 have RMm:RdM P w K mg base _ _ _:=⟨RE,xS,xT,xU,ug⟩
 have yc:=h7 P w mg base KX G A.yf (kj fun _ _ _ _ _ _ _=>rfl) fun fd F e=>wL F RMm qB jO
 have x6:=XM P w mg base KX G A.x6 (akv fun _ _ _ _ _ _ _ _ _ _ _ _=>rfl) fun fd F=>BL F S
 have D7:=h7 P w mg base KX G A.Ed (qd fun _ _ _ _ _ _ _ _=>rfl) fun fd F e=>BG F RMm QM yc x6
 have vP:=h7 P w mg base KX G A.vR (kj fun _ _ _ _ _ _ _=>rfl) fun fd F e=>uI F S ou jO
 have B6:=h7 P w mg base KX G A.Cu (kj fun _ _ _ _ _ _ _=>rfl) fun fd F e=>Ax F RC HV JJ HM D7 vP
 have Fs:=h7 P w mg base KX G A.Fx (kj fun _ _ _ _ _ _ _=>rfl) fun fd F e=>DS F S p0 A.aN jO gZ
 have D1:=XM P w mg base KX G A.D1 (Fy fun _ _ _ _ _ _ _ _ _=>rfl) fun fd F=>Fm F Gp
 have yb:=h7 P w mg base KX G A.Iw (kj fun _ _ _ _ _ _ _=>rfl) fun fd F e=>Fe F jO vU uV B6 Fs D1
 have mC:=h7 P w mg base KX G A.Fw (kj fun _ _ _ _ _ _ _=>rfl) fun fd F e=>DR F S Gp gZ
 have B7:=h7 P w mg base KX G A.Cv (kj fun _ _ _ _ _ _ _=>rfl) fun fd F e=>Ay F S XG
 have Mu:=h7 P w mg base KX G A.MI (kj fun _ _ _ _ _ _ _=>rfl) fun fd F e=>Jw F S Gp B7
 have Ab:=h7 P w mg base KX G A.JW (kj fun _ _ _ _ _ _ _=>rfl) fun fd F e=>HE F S Gp
 have Iu:=h7 P w mg base KX G A.RT (kj fun _ _ _ _ _ _ _=>rfl) fun fd F e=>O1 F S Gp jO
 have Mw:=h7 P w mg base KX G A.MK (kj fun _ _ _ _ _ _ _=>rfl) fun fd F e=>Jy F S Gp gZ DV Ab Iu
 have ye:=h7 P w mg base KX G A.JU (kj fun _ _ _ _ _ _ _=>rfl) fun fd F e=>Fh F XE DV Ab Mw
 have pL:=aep ye (U1 _ _)
 have wz:=h7 P w mg base KX G A.Fu (Sa fun _ _ _ _ _ _ _ _ _ _=>rfl) fun fd F e=>DO F S Gp
 have JM:=h7 P w mg base KX G A.JV (Fy fun _ _ _ _ _ _ _ _ _=>rfl) fun fd F e=>HD F S Gp gZ
 have zw:=h7 P w mg base KX G A.zy (Fy fun _ _ _ _ _ _ _ _ _=>rfl) fun fd F e=>xK F S Gp gZ O5 wz
 have B8:=h7 P w mg base KX G A.Cy (kj fun _ _ _ _ _ _ _=>rfl) fun fd F e=>Az F qR O5 pL Iu JM zw
 have oq:=h7 P w mg base KX G A.Iz (qd fun _ _ _ _ _ _ _ _=>rfl) fun fd F e=>Fg F Gp jO rT tf (CS:=gA K "Statement")
 have rQ:=h7 P w mg base KX G A.AN (Fy fun _ _ _ _ _ _ _ _ _=>rfl) fun fd F e=>zo F S Gp
 have Yn:=h7 P w mg base KX G A.aew (Sa fun _ _ _ _ _ _ _ _ _ _=>rfl) fun fd F e=>aah F rQ
 have KZ:=h7 P w mg base KX G A.Vx (Sa fun _ _ _ _ _ _ _ _ _ _=>rfl) fun fd F e=>Rn F S Gp rQ
 have nE:=h7 P w mg base KX G A.uW (Nc fun _ _ _ _ _ _ _ _ _ _ _=>rfl) fun fd F e=>UR F wz
 have TZ:=h7 P w mg base KX G A.aaP (Nc fun _ _ _ _ _ _ _ _ _ _ _=>rfl) fun fd F e=>Xv F Yn KZ nE
 have Ac:=h7 P w mg base KX G A.JX (qd fun _ _ _ _ _ _ _ _=>rfl) fun fd F e=>HF F qR jO pL TZ
 have KY:=h7 P w mg base KX G A.Vw (qd fun _ _ _ _ _ _ _ _=>rfl) fun fd F e=>Rg F S Gp gZ O5
 have rP:=h7 P w mg base KX G A.AJ (Fy fun _ _ _ _ _ _ _ _ _=>rfl) fun fd F e=>zi F S Gp xN XH
 have AI:=h7 P w mg base KX G A.AM (Nc fun _ _ _ _ _ _ _ _ _ _ _=>rfl) fun fd F e=>zm F TZ
 have aaL:=h7 P w mg base KX G A.aaN (Nc fun _ _ _ _ _ _ _ _ _ _ _=>rfl) fun fd F e=>Xs F rP AI
 have Aa:=h7 P w mg base KX G A.JR (qd fun _ _ _ _ _ _ _ _=>rfl) fun fd F e=>HA F jO pL aaL
 have lM:=h7 P w mg base KX G A.sE (kj fun _ _ _ _ _ _ _=>rfl) fun fd F e=>OY F S Gp
 have Fp:=h7 P w mg base KX G A.Ft (kj fun _ _ _ _ _ _ _=>rfl) fun fd F e=>DN F Gp jO qR DV Aa
 have yd:=h7 P w mg base KX G A.yg (kj fun _ _ _ _ _ _ _=>rfl) fun fd F e=>wM F (A.ZK.code e) A.ZK.e1 B S Gp jO qR xN Aa
 have Vo:=h7 P w mg base KX G A.Vu (Nc fun _ _ _ _ _ _ _ _ _ _ _=>rfl) fun fd F e=>Rf F S Gp nE
 have RN:=h7 P w mg base KX G A.RS (Sa fun _ _ _ _ _ _ _ _ _ _=>rfl) fun fd F e=>O0 F jO qR Vo
 have B9:=h7 P w mg base KX G A.Cz (Fy fun _ _ _ _ _ _ _ _ _=>rfl) fun fd F e=>AA F (A.ZL.code e) A.ZL.e1 B jO qR xN RN
 have Fq:=h7 P w mg base KX G A.Fv (Nc fun _ _ _ _ _ _ _ _ _ _ _=>rfl) fun fd F e=>DQ F Yn KZ
 have JK:=h7 P w mg base KX G A.JS (Nc fun _ _ _ _ _ _ _ _ _ _ _=>rfl) fun fd F e=>HB F rP Fq
 have JL:=h7 P w mg base KX G A.JT (qd fun _ _ _ _ _ _ _ _=>rfl) fun fd F e=>HC F jO pL B9 JK
 have Mx:=h7 P w mg base KX G A.MO (kj fun _ _ _ _ _ _ _=>rfl) fun fd F e=>Jz F yW
 have AG:=h7 P w mg base KX G A.AK (Fy fun _ _ _ _ _ _ _ _ _=>rfl) fun fd F e=>zj F
 have D6:=h7 P w mg base KX G A.Eb (Nc fun _ _ _ _ _ _ _ _ _ _ _=>rfl) fun fd F e=>BF F S Gp yW vT yj gZ AG
 have Mr:=h7 P w mg base KX G A.MF (Sa fun _ _ _ _ _ _ _ _ _ _=>rfl) fun fd F e=>Jt F S Gp qR D6
 have Mq:=h7 P w mg base KX G A.ME (Fy fun _ _ _ _ _ _ _ _ _=>rfl) fun fd F e=>Js F gZ
 have AH:=h7 P w mg base KX G A.AL (Fy fun _ _ _ _ _ _ _ _ _=>rfl) fun fd F e=>zk F S Gp gZ KY mC Mq Mr
 have z9:=h7 P w mg base KX G A.JP (Fy fun _ _ _ _ _ _ _ _ _=>rfl) fun fd F e=>Hy F S Gp gZ AH
 have pN:=JC P w mg base KX G A.pN (kj fun _ _ _ _ _ _ _=>rfl) fun fd F=>zq F Zq
 have ot:=JC P w mg base KX G A.ot (kj fun _ _ _ _ _ _ _=>rfl) fun fd F=>xM F Zq
 have pO:=JC P w mg base KX G A.pO (kj fun _ _ _ _ _ _ _=>rfl) fun fd F=>zr F Zq
 have tm:=JC P w mg base KX G A.tm (kj fun _ _ _ _ _ _ _=>rfl) fun fd F=>BK F Zq
 have Mb:=XM P w mg base KX G A.Mb (kj fun _ _ _ _ _ _ _=>rfl) fun fd F=>JB F RM
 have eW:=ue P w mg base A.eW (kj fun _ _ _ _ _ _ _=>rfl) fun fd F=>Fi F RM tp (CP:=gA K "Program") (CS:=gA K "Statement")
 have Rz:=ue P w mg base A.Rz (kj fun _ _ _ _ _ _ _=>rfl) fun fd F=>Rk F RM eW B8
 have Rw:=ue P w mg base A.Rw (qd fun _ _ _ _ _ _ _ _=>rfl) fun fd F=>Rh F RM eW oq KY
 have L8:=ue P w mg base A.L8 (qd fun _ _ _ _ _ _ _ _=>rfl) fun fd F=>OW F RM jO eW oq Ac
 have RB:=ue P w mg base A.RB (kj fun _ _ _ _ _ _ _=>rfl) fun fd F=>Rm F RM eW ye
 have mB:=ue P w mg base A.mB (qd fun _ _ _ _ _ _ _ _=>rfl) fun fd F=>DP F RM pM mC
 have XO:=ue P w mg base A.XO (qd fun _ _ _ _ _ _ _ _=>rfl) fun fd F=>US F RM eW oq mB z9
 have L9:=ue P w mg base A.L9 (kj fun _ _ _ _ _ _ _=>rfl) fun fd F=>OX F RM eW mB z9 lM
 have Rx:=ue P w mg base A.Rx (qd fun _ _ _ _ _ _ _ _=>rfl) fun fd F=>Ri F RM neT.symm lC AQ qC pN eW lM Fp yd
 have Ry:=ue P w mg base A.Ry (qd fun _ _ _ _ _ _ _ _=>rfl) fun fd F=>Rj F RM neT jO ot eW oq Ac JL
 have RA:=ue P w mg base A.RA (qd fun _ _ _ _ _ _ _ _=>rfl) fun fd F=>Rl F RM Gp neP neS jO yb mC
 have L7:=ue P w mg base A.L7 (kj fun _ _ _ _ _ _ _=>rfl) fun fd F=>OU F RM XI eW Mu
 have AD:=ue P w mg base A.AD (Fy fun _ _ _ _ _ _ _ _ _=>rfl) fun fd F=>OS F RM S Gp jO DV pO tm eW mC Mx
 have L6:=ue P w mg base A.L6 (qd fun _ _ _ _ _ _ _ _=>rfl) fun fd F=>OT F yb uV qc p0 A.aW A.aN A.aiJ A.aiF A.aiE A.aiI A.aiG A.aiH
 have WK:WkC P w K mg base _ _ _ (gA K "Refusal") _ _ _ _ _ _ _ _ _ _ _ _:=⟨RM,uV,qc,p0,tp,tf,pN,ot,pO,tm,pM,A.UD,A.OA,A.Oz,A.OC,A.Oy,A.Jp,A.He,A.Jq,A.OB,A.Jo,RA,L6,L7,RB,Rz,L8,Rw,Rx,Ry,AD,XO,L9,R7,M0,M1,R8,R6,M3,R3,R4,R5,AO,YC,Na⟩
 have Pt:=h7 P w mg base KX G A.PD (Sa fun _ _ _ _ _ _ _ _ _ _=>rfl) fun fd F e=>LR F WK
 have JN:=h7 P w mg base KX G A.JY (Sa fun _ _ _ _ _ _ _ _ _ _=>rfl) fun fd F e=>HG F A.D9.ex gF Pt
 obtain⟨fc,fdc,ec,gc,kc,bc⟩:=JN.ex
 exact Ro F Mb jO lU o8 ⟨fc,fdc,aeo ec,gc,kc,bc⟩
end SR
end
section
namespace SR
open PySem PySem.Spec PyProof.Rows L2 XL sI
open PySem.W (Frag WData Codec OpenSpec Well WellAll ReadsW ReadsAllW)
theorem aht{q:b7}{XP:aj->Heap->Prop}{YP:cU->Heap->Prop}{d:DefRec}{K:Params->Frag}
 (agt:gB.wellSaid=ae)(hd:d.name="answers")(hY:∀(w:cU)(h:Heap),YP w h->(K w.params).In h)
 (r1:((recsOf q).find? fun e=>e.name==("plan_longest_first":Str)).isSome=ae)(r2:((recsOf q).find? fun e=>e.name==("groups_in_order":Str)).isSome=ae)(A:∀p:Params,All (K p)):
 PySem.W.WalkOS q loose XP YP gB d [] (fun f vs=>PySem.call f vs):=by
 intro w DC s1 mg mb G Y fa o pm cd doc dV kV ho hdd NN hD hmg hg args vals as ajA ajR hrd hwl D4
 obtain⟨a,e1,e2⟩:=PySem.W.os_pre_some ajA
 obtain⟨e3,hwi⟩:=Codec.encAll_of_decAll gB.args args a e1
 subst e3
 have KX:=hY w _ Y
 have Aw:=A w.params
 obtain⟨fd,hb,hF⟩:=aeF (P:=gB.prog) (w:=w) Aw KX G.T.g
 have efa:fa=gA (K w.params) "answers":=by
  have z:=jK KX G.T.g Aw.K1.e0;rw[hd]at hmg;rw[hmg]at z;cases z;rfl
 subst efa
 obtain⟨d1,h1⟩:=mH.mp r1
 obtain⟨d2,h2⟩:=mH.mp r2
 obtain⟨x1,y1⟩:=Za G.T KX h1 Aw.ZK.e0
 obtain⟨x2,y2⟩:=Za G.T KX h2 Aw.ZL.e0
 have ask:=e2
 refine PySem.W.enter_call (iS (VB (R:=[]) (cl:=classAt DC.heap) (ns:=a.1) (d0:=.list ((jX a.1).map WData.int)) KX G.T.g G.T.b G.T.builtins G.T.nolimit hg (let⟨bm,ob,a1,a2,a3,a4,a5,a6⟩:=G.T.bmain;⟨bm,ob,a1,a2,a3,a4,a5,a6⟩) Aw.ZK.e2 Aw.ZL.e2 y1 y2 (x1.tab y1).isCodeTable (x2.tab y2).isCodeTable hwl
  (PySem.W.layableW_iff.mp (cV.mp ajR _ (bT.mpr rfl))).2.2 ⟨rfl,by decide,by decide⟩ (fun base _ _ B=>hF base B) hb ask rfl) fun r' s' hq=>?_)
 obtain⟨u,as',rfl,g1,g2,g3,g4⟩:=hq
 exact⟨.inl ⟨u,_,as',rfl,fun _=>rfl,g1,(OpenSpec.post_iff agt hwi _ _).mpr rfl,fun z=>Bool.noConfusion (show af=ae from z)⟩,g2,g3,g4⟩
end SR
end
structure PySem.W.Fast:Prop where
 (tw7179580426321303184 tw8098342651907099539 tw607342605515525709 tw9871889529244059141 tw10741410159167630838 tw5922532953584227486 tw8128045599434272670 tw17597365873649666367 tw5317036965628884837 tw13612852612445329616 tw10751110279019360424 tw13155229033697478531 tw10143315775792173532 tw5806151449316816152 tw1481783831357383551 tw7800389859978633494 tw3064159982939289233 tw3315730158798683321 tw18429585341285462122 tw16866823797720568181 tw2392459642652020076 tw1357716811416912942 tw5942564054651195913 tw8087040187145112616 tw4809504607563195204 tw12080618144742660635 tw5184559976921290121 tw9810500527199362597 tw16105350031552441466 tw10482797068936298033 tw16334040527580443097 tw7622158245105112049 tw13168730989145368616 tw3144058548083475220 tw11843920644329245567 tw15320013314264378328 tw2362543328558010892 tw3635036131723480048 tw7923652931241204349 tw5369571749611375169 tw10321614970723940746 tw6958479423044239419 tw17982149764931310459 tw7640546335488506324 tw4741614100930763047 tw16519448311138482103 tw1507211452935331427 tw18220058378485904914 tw7857366324810062870 tw2823517718516018144 tw16931237112314314275 tw18271721170229352908 tw6687871754368553485 tw2080566004365428843 tw1607125429509376994 tw300500789326532127 tw11223666068363393945 tw12993093297741126465 tw1821727636608531835 tw7454239122986299456 tw12236168838036660095 tw15241101960648293045 tw1011943143840335343 tw8134001768880860475 tw16749608983292112560 tw543053731352652211 tw11640916769672244083 tw15679315535598025790 tw17146111977466180219 tw16404320391665138273 tw3055960325589009254 tw14646093749611651627 tw5411668202784634875 tw6557278254394753915 tw10230710843681911249 tw9566485610265259719 tw15179904499307818488 tw11201878757561635742 tw11438959656599008013 tw10183752916715195536 tw10392347818339159841 tw6871581305814201409 tw5814806231930304640 tw10349728609488342696 tw3357986213381126683 tw15886885301042526397 tw13728914220656934192 tw6442607345011962380 tw14191251602499018757 tw8222154807395755247 tw13413879349015421574 tw16293580129673579499 tw14814930212214707342 tw12973686669254187501 tw5613423445753268869 tw1534895945740293335 tw9262057345922134187 tw15825700117999993398 tw5396808124679640921 tw14203159386249781908 tw9161973146327639573 tw10354590546487980217 tw2093124473764781817 tw12598992747739606388 tw15654897533734402079 tw18236543717009563620 tw4400372538348647008 tw1947642229995549218 tw11305257485692829759 tw203489921120786944 tw6570992770209547077 tw5112745323033108093 tw819314278318880335 tw13576600828977234178 tw14914267877634499537 tw2390119030356108707 tw15025195355551484001 tw18183723130960103302 tw894886730575856019 tw6055716960284805972 tw9905527146841712195 tw10527511713235074958 tw13404073356794225757 tw5596977822215210939 tw16315829034999146623 tw18016735491081787537 tw6705117631630608746 tw9923131832519384637 tw2887829407417790938 tw17564998193152948503 tw11866388078555387826 tw6112578289129765712 tw15295770231110229037 tw3900354169034336789 tw16717425313892036719 tw5005257291929361836 tw11488858541870254401 tw16849916605979283270 tw9229753746628849175 tw12771927471603469732 tw5956493217256935025 tw11508413500628011861 tw4356836264137342790 tw9129268339653136120 tw13004830032223515434 tw1867827944172370104 tw14081509545251720510 tw17924889772866560799 tw15659278057310101930 tw18408039863062875750 tw16106330323670602479 tw4094596553925574849 tw11377815999925405533 tw965194403134915242 tw11522883400348506720 tw12212917768686283913 tw4065234305973689951 tw2297437952574463663 tw17705760242890217627 tw4057699076823802472 tw2074546201145097558 tw10703186393187181082 tw9130180978504625447 tw16334304700643886290 tw715690299091952661 tw14429619612575789656 tw13339303864446907131 tw462228959646740573 tw9050132128232775585 tw3415130733229046457 tw7354340642696820210 tw6140986611139039017 tw13977916496239271392 tw6222172083095958722 tw14595896569496715124 tw6530832520159863522 tw8526153788709551889 tw13110081252465687793 tw16338465886731080523 tw14443382187329177222 tw12024761154082501471 tw3997131933110242562 tw4862071176552015416 tw17417822282987108150 tw13736951546651575291 tw11863173157631488936 tw11145459759057609144 tw8396876204575208073 tw7030836571874380978 tw3308350638222876281 tw7868122969200835411 tw13513052606632273442 tw18315478080329781552 tw16075500887388596772 tw7438235005713654038 tw1892178896885276511 tw11718961691590227373 tw4937949373158134963 tw2020716273978752776 tw13463229476690091224 tw459451831429653310 tw9172441530266661964 tw16994350328598331714 tw9053652583157434689 tw9447298335920540094 tw8934682493724609858 tw11541910883106744825 tw7348170361639265600 tw2653575173541375204 tw5112171470685321243 tw1313205326724722085 tw2257337993220739958 tw6810474939874840487 tw963840331216826226 tw6410822681078668817 tw15301084611978991015 tw5858163891957778031 tw11539146533610046495 tw2550734288606125400 tw5152254053590073451 tw7139114190114824286 tw12626132411459092186 tw654596429239551137 tw8778480955998586944 tw15678639295012031606 tw6648663245680828150 tw16369097290007150087 tw6536318006951450914 tw10905095795870655808 tw14261590373146482735 tw2400583479540341108 tw7911578151954783768 tw5482800770529326923 tw13644406519279463729 tw11836419658176606098 tw9259008087770872660 tw7590993595676670438 tw3660841397068161677 tw10635215123740716925 tw8252861970260728096 tw16474403940240573518 tw9709896571523283635 tw11439998874117367891 tw7244584314614192020 tw14702317002095816883 tw10233851186925422070 tw3646712538496447824 tw15216608081224764853 tw13305936515826712004 tw13638262849440834212 tw2287733374057815455 tw13238759494353420991 tw13560013299104342356 tw7679200876336835092 tw16907516584282562834 tw15372418225633330642 tw8123270519574223451 tw18134273419853702352 tw14296013735565354745 tw10915716105187700398 tw2748336010252669198 tw6554220963519565646 tw6322115081886878839 tw11369550169297502355 tw12030224512185966099 tw16910211361852539155 tw13806791444030307622 tw1784073456289072879 tw13829293812170659780 tw12376058517556435693 tw13924928228122154635 tw9243562643325031849 tw4045722480216146878 tw5127457289839666503 tw9172087033603830648 tw8252267449965938957 tw7190772067001075615 tw3664388335781430982 tw671609875735802173 tw18335558243558426014 tw10740557925999421556 tw3979170213791656278 tw5478217111059996176 tw13532320284196741018 tw6773952401448840750 tw4810123174454836108 tw1197332726062687131 tw10816094802603010492 tw8486165142010495739 tw3543132227124872822 tw15510230031905751044 tw14899996234715925736 tw988790065580338424 tw13139375326275609076 tw16135099173862628947 tw9134572080748413505 tw11667417124794534461 tw3452886501679131925 tw17756079897174602727 tw10062558557173662702 tw6020194126922768460 tw5031094041206381678 tw8968448002443290041 tw11985221377774928678 tw302501161892031697 tw12074692982543369351 tw6463883352539650242 tw11653329957964763458 tw13310315026047749626 tw9220522703460084642 tw7154396986321034759 tw6283577602504645168 tw3215780516177400776 tw15807993285156174094 tw13839647113894978833 tw25458332184909954 tw6176522351272279177 tw9674368731038470991 tw13599965010194876426 tw15276310253510483722 tw3091449794017586167 tw313464494981303533 tw11381586361760042095 tw3841804442483514675 tw11082048000845852829 tw8365029586842294204 tw4383900163058845185 tw1122493181775030422 tw1690788849101731186 tw12539545986195892741 tw15904529386293392327 tw6199700081362088769 tw15609050410791860339 tw15585687832699564399 tw18311109047400882688 tw10765499509815686415 tw1638274813766485552 tw1810056100946844354 tw7387218694460753364 tw613978301511347130 tw15065290420726051567 tw7230934533877553144 tw14874617361107202152 tw16843673593114993377 tw4853772729247838636 tw4841324958506711740 tw17685975352562000653 tw844769456991640281 tw8690151914383716361 tw10423984191279823994 tw3681746001256568109 tw17200417992486198838 tw10491182504527747123 tw3467907280378461201 tw11067376883817424904 tw13333651890199650839 tw3165631804978001257 tw9737865613145100824 tw16763398482179392012 tw4620570255431191905 tw14633101757492331100 tw5630133238129943414 tw12073476044472812525 tw4493918144046457636 tw4236203770155828468 tw2528614244597906828 tw8990002632122248714 tw8251752786544076553 tw11728630041297050854 tw12229863906651915463 tw17135971478464867165 tw8132011494738653467 tw15535824193146224970 tw14437945722189907281 tw732479877857800008 tw13435623828554573672 tw164674940034688930 tw6148927775584875104 tw3922106676035225817 tw4202094583833610971 tw9249879602113836915 tw6797371157459079881 tw13779260520972101689 tw9166706379883051519 tw10663872329275106401 tw13667223219478185501 tw8264454145951298424 tw17004724770177298604 tw4163442722709235273 tw11719443835924071245 tw11568029289035386713 tw12371925516763622335 tw16781239469702711213 tw3782104861344017280 tw232958494830051813 tw9020234820813101180 tw2626391249138093667 tw15276859988687836249 tw17229880718254658802 tw15405178951367123701 tw9246659770009650445 tw4129846467503024504 tw16380983471699245606 tw1910376711957042018 tw12927596263931800238 tw14149487535966937132 tw12187105388034635080 tw7751450586078509387 tw10594524596094033616 tw6899059726389446675 tw11218346710771519590 tw15503626440408763477 tw9613058864898757224 tw5109851993027259916 tw6098668902955555677 tw3996881391907221299 tw2003765691093901957 tw5309455663224376783 tw5984342960724192230 tw13658248653261072272 tw8924504601610477929 tw12412619530739733463 tw3589487752167254136 tw2514765111744640317 tw38562876555927501 tw9645435976822696959 tw8211440490010934666 tw2466990041924366552 tw15262198376353143032 tw3792257452356897716 tw7018029323433627471 tw15636252000326729125 tw12849865610915583869 tw11361967680631563946 tw5209309976453504507 tw180769527493287212 tw10822715451913679877 tw10774735656998390319 tw16534960742737854954 tw16800740280473078271 tw14050496292386046752 tw9626050580778535724 tw16949656581543923128 tw13961333944568770263 tw6978675564295129504 tw1332715159286463153 tw13250576410850414737 tw1181062399909910914 tw15670483332819008350 tw14396403780046885997 tw11415272920440158928 tw12380810727541333964 tw1264546063336313187 tw2175403543201390372 tw5880340417341645002 tw4189300892334823777 tw2230805104014168783 tw4696800164499203022 tw13069711036155815942 tw1831409481848034565 tw4774295449521995585 tw8563057141173784879 tw4672307615975997775 tw17532496278281156248 tw2155883326435923720 tw4887700883281974314 tw9093038816808829229 tw10924009855331755644 tw8879109623363916205 tw1952202235980369417 tw6472697644234038156 tw11086060957117842672 tw2581230634553368642 tw15063582098822972890 tw1543939386833619219 tw13214398891567670740 tw8626310054315468801 tw16538229804284786913 tw4528071774335511263 tw12913604806327961193 tw15227598977075552760 tw17440086084282360782 tw11466169321679733712 tw3577899647781248584 tw3636173498169929327 tw15508828699956637084 tw9822815295924609751 tw11891436655299916269 tw13163378546926470914 tw14477559800428078704 tw2842256898905030823 tw17650741732013190765 tw1831905441938952555 tw10797314927369564375 tw5043485014474549756 tw3283942764202843401 tw15744236647217419881 tw6949310950259454532 tw16388450272409646677 tw16326882772888165590 tw15839890979822552953 tw534818870810735030 tw13600169239163588497 tw18172422615348574245 tw2165488912767033226 tw13267602759755503351 tw12010985188467719970 tw12663225079541999871 tw6623881197194031885 tw10527371897209803539 tw10805789380584263141 tw1609006763303186043 tw9941952804320769528 tw9705771576376481541 tw7778302233873360250 tw12916068686407256031 tw16762295930194732351 tw6178151409508282087 tw14893453333088811396 tw9230121079133726124 tw7863351052444182555 tw5619504886459289415 tw7158014725937534797 tw5817250568854394686 tw4247063966036002133 tw7697643466272392987 tw7222215819628890472 tw8643174761253414517 tw11840662711639135855 tw11186118621940236711 tw15350768668855479628 tw4896555628340751014 tw5176554308119174926 tw1553500075168554742 tw16170983518318595728 tw4910616639667691986 tw5840461174086849244:True)
open PySem PySem.W PyProof.Rows
set_option maxHeartbeats 0 in
theorem PySem.Challenge.cw_sharedrooms_s01_answers_holds : PySem.Challenge.rw_sharedrooms_s01_answers.Holds := by
  w_on; k_headS; (case hw => exact ⟨[.list [.int 2]], by decide +kernel, by decide +kernel⟩)
  refine SR.aht (by decide +kernel) rfl (fun w h Y => PySem.W.kIn_of Y) ?r1 ?r2 ?A
  case r1 => kernel_rfl
  case r2 => kernel_rfl
  case A =>
    intro p
    constructor
    all_goals repeat' (first | kernel_rfl | constructor)
