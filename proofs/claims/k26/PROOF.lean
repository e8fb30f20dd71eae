import PyProof.Rows.All
import Wide.All
import OpenK.AllK
import Wide.FinOn
import Lean
import PyProof.EqAt
import PyProof.EqKinds
import PyProof.TupleCall
import KE.KTryMore
import PyProof.ExcAttrAll.ValueError
import PyProof.ExcBaseAll.ValueError
import PyProof.DictWalks
import PyProof.EnumIter
import PyProof.EnumFor
import PyProof.EnumMake
import PyProof.AttrMissHeap
import KE.KDictOf
import KE.KDictList
import PyProof.StrOps2
import KE.KSortTup
import PyProof.NeKinds
import PyProof.Rows.StrJoin2
import PySem.Challenge.RW_warmrows_k26_programs_read_back
import PyProof.Rows.SortStr
import PyProof.TupleOfSeq
import PyProof.ZipIter
import PyProof.Rows.SetFrom
import PyProof.WalksMore
import KE.KRevIter
import PyProof.TupleOps
import PyProof.StrLawsRepr
import PyProof.Rows.StrClose
import PyProof.Rows.CatFin
import PyProof.Rows.StrFit
import KE.KIntText
import PyProof.StrLawsTight
import PyProof.StrCalls2
import PyProof.ReprRoads
import PyProof.CallFns
import PyProof.Rows.StrJoinMade
import PyProof.StrLawsIn
import PyProof.SeqRoads
set_option Elab.async false
set_option linter.all false
set_option maxRecDepth 100000
set_option maxHeartbeats 4000000
noncomputable section
open PySem renaming Value→ue,Shared→ut,FuncData→uB,Program→vy,model→vz,mainGlobals→wy,Builtin→xf,World→xm,starEach→xF,Around→ye,bootBuiltins→yf,NameKind→ym,compareOp→yo,sysModules→An,codeAny→BV,IsPair→De,SetTable→Do,binaryOp→Ex,behindInMarks→Hd,IsZip→Hn,backTo→JP,letOwnedTupleGo→JS,pyNext→M3,DictEntry→NB,assignEach→PQ,sliceBounds→QQ,relabel→QR,scanBound→Q3,holding→Q4,attributeBase→RC,compEnvC→R1,getItem→Th,newFunctionEnv→VV,standAt→WF,keywordEach→WN,Result→Xh,wpAny_execs_cons→Xk,field→Xl,wpAny_isInstance→Xm,relayAll→Xn,IsPart→Xr,valueAt→Xv,PyData→Xw,GenState→Xx,CmpOp→Xy,swapsWith→XC,BindsTo→XD,slicePick→XF,callerA→XH,Code→XJ
open Or renaming inl→uv,inr→MT
open PySem.Builtin.SmallTypes renaming ownedTupleIsFree→xj,nextOf→xx,ownedTupleHandOut→zb
open PySem.Value renaming ref→xn,none→HR,isStrOf→Mm,int→Tu,type→UT,str→Xj
open PySem.SeqAt renaming EqAt→xN
open False renaming elim→yz
open PySem.Builtin.Tuple renaming tupleExact→zg
open PySem.Txt renaming slice→Be,split→Up,join→We
open Sum renaming inr→By,inl→Xp
open ForInStep renaming yield→Eg
open PySem.NameKind renaming free→Ff,cell→My
open Pure renaming pure→Hb
open PySem.Builtin.Slice renaming slicePlaces→Hc,sliceAdjust→O3
open PySem.Builtin.List renaming listTooLong→Hk
open Classical renaming propDecidable→Hm
open PySem.SetTable renaming grown→HH
open PySem.Builtin.Str renaming occurrences→HQ,partsBetween→PP
open PyProof.Rows renaming AllBare→Su,assignInOrder_cons→UV,subscriptTail→Xi,envOfC→Xz
open PySem.Calls renaming spliced_cons→VM
open PySem.F renaming args_str_split_2→Wl,entry_str_split→WP,slot_str_split→Xo
open PySem.Around renaming under→Xq
open PySem.Obj renaming mapSeq→Xu
open PyProof.Rows renaming tail_any→AL,subscriptTail_builtinR→pf,IntsAre→zw,Subscript_→wa
open PySem renaming wpAny_of_eq→yk,rule→AH,Sem→AG,codeAny_of_tree→rq,cellsFrom→cm,wpAny_runValue→tw,bindL→AJ,wpAny_loadName_local→sQ,isSubtype_stop→tp,wpAny_dictSet_pairs→vc,Operator→w9,seqIndex?→tN,assignInOrder→vn,wpAny_pyNext_list_item→pc,bindName→AI,concat_meets→xb,compTurn→tj,length_partsBetween→ve,tupleKind→tJ,Keyword→xc,sizeLine→ab,subscripted→tf,Env→wT,eval→cq,inplaceOp→xB,seqIndex_of→yb,Stmt→gz,atKey→yi,rawInt→sR,builtinLookup_eq_fast→sB,wpAny_typeOf→ip,foldedSetIterable→ft,wpAny_pyIter_tuple→ca,getMethod→xC,wpAny_letOwnedTupleGo_zip→mr,wpAny_pyNext_list_end→sA,wpAny_loadName_cell→u7,evalPart_none→vt,backToKw→xa,codeAny_call_builtin→tz,bindC→AK,wpAny_isTrue_Compare1→sx,typeLookup→vT,cLine→ge,Addr→ax,Pos→mo,assign→oT,wpAny_pyIter_list→ce
open ToString renaming toString→io
abbrev aa:=@List.length_map
abbrev ac:=@List.getElem?_eq_getElem
abbrev ae:=@PySem.wpAny_bind
abbrev af:=@Nat.le_refl
abbrev ai:=@List.length_append
abbrev am:=@PySem.Heap.get?_push_of_some
abbrev ar:=@PySem.lookup_relabel_local
abbrev av:=@List.map_append
abbrev aw:=@decide_eq_true
abbrev ay:=@List.take_of_length_le
abbrev az:=@Bool.false_ne_true
abbrev aE:=@PySem.wpAny_pure
abbrev aI:=@List.length_cons
abbrev aS:=@List.mem_cons_self
abbrev aT:=@List.mem_cons
abbrev bc:=@List.cons_ne_nil
abbrev bg:=@List.mem_singleton
abbrev bj:=@List.length_take
abbrev bn:=@PySem.Heap.get?_push_size
abbrev bo:=@List.getElem?_eq_some_iff
abbrev bu:=@List.mem_append
abbrev bz:=@List.size_toArray
abbrev bE:=@List.mem_map
abbrev bS:=@List.getElem?_map
abbrev bX:=@List.getElem_mem
abbrev cf:=@List.mem_cons_of_mem
abbrev ci:=@List.map_cons
abbrev ck:=@Nat.zero_le
abbrev cn:=@PySem.sizeLine_eq
abbrev cr:=@PySem.Heap.lt_size
abbrev cw:=@decide_eq_false
abbrev cy:=@List.length_singleton
abbrev cz:=@PySem.F.plainAttrs_list
abbrev cE:=@PySem.Paired.length
abbrev cK:=@List.drop_eq_getElem_cons
abbrev cS:=@Option.some.inj
abbrev di:=@PySem.PassesOwn.never
abbrev dm:=@List.append_nil
abbrev dq:=@Nat.le_trans
abbrev dC:=@if_neg
abbrev dE:=@List.append_assoc
abbrev dL:=@if_pos
abbrev dP:=@List.mem_filter
abbrev dQ:=@List.mem_append_right
abbrev dS:=@List.not_mem_nil
abbrev d6:=@Nat.ne_of_lt
abbrev eB:=@Nat.lt_of_lt_of_le
abbrev eI:=@of_decide_eq_true
abbrev eJ:=@PySem.W.mg_none_of
abbrev eK:=@List.flatten_cons
abbrev eL:=@List.length_replicate
abbrev eM:=@List.cons_append
abbrev eQ:=@PySem.F.slot_list_append
abbrev eR:=@PySem.F.type_list_append
abbrev eS:=@List.length_filter_le
abbrev eT:=@PySem.wpAny_field
abbrev eW:=@PySem.F.plainAttrs_str
abbrev fb:=@List.all_eq_true
abbrev fc:=@List.getElem_of_mem
abbrev fg:=@List.nodup_cons
abbrev fh:=@List.drop_eq_nil_of_le
abbrev fk:=@PySem.Heap.size_push
abbrev fm:=@List.filter_cons
abbrev fz:=@List.take_append_drop
abbrev fE:=@List.flatten_append
abbrev fF:=@PySem.wpAny_mono
abbrev fN:=@Nat.ne_of_gt
abbrev fR:=@Nat.mul_le_mul_right
abbrev fS:=@PySem.wpAny_setField_rec
abbrev fT:=@PySem.F.slot_str_join
abbrev gh:=@PySem.F.type_str_join
abbrev gm:=@PySem.wpAny_callSpecial?_slot
abbrev gp:=@beq_eq_false_iff_ne
abbrev gu:=@PySem.mem_of_lookup
abbrev gv:=@PySem.W.mg_of
abbrev gx:=@Classical.byContradiction
abbrev gy:=@List.nil_append
abbrev gE:=@List.mem_of_getElem?
abbrev gI:=@PySem.wpAny_seqItems
abbrev gL:=@PyProof.Rows.slot_tuple_getitem
abbrev gN:=@Bool.eq_iff_iff
abbrev gT:=@PySem.wpAny_truthy_bool
abbrev gX:=@PySem.wpAny_newObj_type
abbrev hU:=@PySem.Around.under_plainId
abbrev ib:=@List.mem_of_mem_take
abbrev ie:=@PySem.wpAny_holding
abbrev ii:=@List.lookup_cons
abbrev ij:=@PySem.F.slot_list_extend
abbrev ik:=@PySem.F.type_list_extend
abbrev ir:=@Array.length_toList
abbrev iA:=@List.nodup_append
abbrev iE:=@List.mem_range
abbrev iF:=@List.replicate_succ'
abbrev iL:=@PySem.W.kia_one
abbrev iN:=@or_false
abbrev iO:=@Option.isSome_iff_exists
abbrev iP:=@PySem.F.slot_zip_next
abbrev iS:=@PySem.codeAny_builtin
abbrev iX:=@List.filter_append
abbrev i7:=@List.mem_append_left
abbrev ja:=@List.length_drop
abbrev jb:=@PySem.wpAny_call_entry
abbrev jp:=@Bool.and_eq_true
abbrev jv:=@List.any_eq_true
abbrev jI:=@PyProof.Rows.callWith_type1
abbrev jS:=@PySem.wpAny_rule
abbrev j0:=@List.nodup_nil
abbrev j3:=@List.replicate_succ
abbrev kf:=@Option.map_some
abbrev km:=@PySem.wpAny_Call_Name_kw
abbrev ku:=@List.getElem?_take_of_lt
abbrev ky:=@beq_iff_eq
abbrev kz:=@List.map_congr_left
abbrev kA:=@PySem.plainId_quiet
abbrev kB:=@List.getElem?_append_right
abbrev kC:=@PySem.F.slot_tuple_iterator_next
abbrev kF:=@Array.getElem?_toList
abbrev kG:=@List.getElem?_append_left
abbrev kH:=@Array.getElem?_eq_getElem
abbrev kK:=@PySem.wpAny_passesOwn
abbrev kL:=@List.find?_cons
abbrev kM:=@if_true
abbrev kN:=@List.map_nil
abbrev kP:=@PySem.wpAny_updateSeq_pair
abbrev kQ:=@List.map_map
abbrev kR:=@Nat.lt_irrefl
abbrev kS:=@PySem.wpAny_standAt
abbrev kT:=@PySem.F.args_tuple_add_2
abbrev kU:=@PySem.wpAny_onRaise
abbrev kX:=@List.length_zipWith
abbrev k6:=@PySem.F.entry_tuple_add
abbrev k8:=@PySem.wpAny_getItem_str_slice
abbrev k9:=@Nat.le_add_right
abbrev li:=@List.take_succ
abbrev lj:=@PyProof.Rows.F.plain_set_update_loop
abbrev lx:=@PySem.W.cellsFrom_some
abbrev ly:=@PySem.F.slot_tuple_add
abbrev lz:=@PySem.call_meets
abbrev lI:=@Bool.false_eq_true
abbrev lL:=@PySem.F.called_set
abbrev lP:=@List.length_nil
abbrev lS:=@List.forIn_cons
abbrev lT:=@List.getElem?_eq_none
abbrev mf:=@PySem.F.args_zip_next_1
abbrev mi:=@Array.mem_toList_iff
abbrev mn:=@List.forIn_nil
abbrev mv:=@Nat.lt_succ_self
abbrev mw:=@PySem.codeAny_mono
abbrev my:=@Nat.succ_mul
abbrev mB:=@Nat.lt_trans
abbrev mE:=@List.zipIdx_cons
abbrev mI:=@PySem.F.entry_zip_next
abbrev mM:=@PySem.F.plain_any_loop
abbrev mS:=@PySem.Str.append_assoc
abbrev nh:=@List.flatten_nil
abbrev nk:=@List.getElem_map
abbrev ny:=@PySem.F.slot_tuple_getattribute
abbrev nz:=@PySem.Heap.SameBut.update
abbrev nB:=@List.flatMap_append
abbrev nE:=@List.mem_map_of_mem
abbrev nL:=@PySem.wpAny_getItem_list_slice
abbrev nV:=@List.any_cons
abbrev nX:=@PySem.wpAny_comprehension_free
abbrev n4:=@List.zipIdx_nil
abbrev n9:=@List.sum_append
abbrev oq:=@Nat.not_lt_zero
abbrev oz:=@PySem.tupleKind_room_in1
abbrev oP:=@decide_eq_true_iff
abbrev oQ:=@Int.emod_lt_of_pos
abbrev oS:=@PySem.wpAny_pyNext_tuple_item
abbrev o0:=@PySem.wpAny_pyNext_tuple_end
abbrev pe:=@List.take_sublist
abbrev pj:=@PySem.slot_list_getitem
abbrev pE:=@List.isEmpty_cons
abbrev pM:=@List.flatMap_cons
abbrev pS:=@List.zipWith_cons_cons
abbrev pT:=@PySem.Heap.get?_update_self
abbrev pV:=@PySem.noFill_tuple_add
abbrev qc:=@PySem.wpAny_pyIter_zip
abbrev qh:=@PySem.wpAny_attempt
abbrev qi:=@List.map_take
abbrev qk:=@PySem.wpAny_letGo
abbrev qq:=@List.getElem_zipWith
abbrev qv:=@PySem.wpAny_execs_nil
abbrev qA:=@PySem.post_val_or_str
abbrev qB:=@Int.emod_nonneg
abbrev qE:=@List.filterMap_cons
abbrev qS:=@PySem.W.plainGet_of
abbrev qV:=@Array.toList_append
abbrev rg:=@ne_true_of_eq_false
abbrev rL:=@PySem.Txt.slice_le
abbrev rS:=@if_false
abbrev rV:=@PySem.typeIs_str
abbrev rX:=@Bool.not_false
abbrev r8:=@List.drop_zero
abbrev se:=@Ne.symm
abbrev sf:=@Nat.le_succ
abbrev sj:=@PySem.seq_tuple_add
abbrev sk:=@List.sum_cons
abbrev sq:=@PyProof.Rows.IsTup.new
abbrev sr:=@not_or
set_option hygiene false
local macro_rules
|`(tactic|exists 1,$s:ident,$e:ident,$H,$a,$o,$n,$K:ident)=>`(tactic|(have $s:ident :=(X6 $n : Same $H (upd $H $a $o));have $e:ident :=(ak : (upd $H $a $o) $a=some $o);generalize upd $H $a $o=$K at $s:ident $e:ident))
|`(tactic|exists 2,$s:ident,$e:ident,$p,$H,$G,$x,$y,$z,$X,$K:ident)=>`(tactic|(have $s:ident :=($X : Off $p $H (upd $G $p (.lst [.int $x,.int $y,.int $z])));have $e:ident :=(X8 : Pu (upd $G $p (.lst [.int $x,.int $y,.int $z])) $p);generalize upd $G $p (.lst [.int $x,.int $y,.int $z])=$K at $s:ident $e:ident))
|`(‹0›)=>`(⟨rfl,rfl,rfl,by decide +kernel,rfl,by decide +kernel,by decide +kernel⟩)
|`(‹1›)=>`((by decide +kernel))
|`(‹2›)=>`((hr.mono (by omega)))
|`(‹3›)=>`((fun xh A outer s H vs Q E hr h=>?_))
|`(‹4›)=>`((fun vs H Q E h=>?_))
|`(‹5›)=>`((bf bB (pv 0) aG (fun _ _=>rfl)))
|`(‹6›)=>`((fun z=>nomatch z))
|`(‹7›)=>`((vz X.prog X.w))
|`(‹8›)=>`(⟨_,rfl,rfl,_,rfl,bR (aw rfl) ?_⟩)
|`(‹9›)=>`(⟨[_],rfl,rfl⟩)
|`(‹10›)=>`((List.zipWith fO ds dt))
|`(‹11›)=>`((by decide))
|`(‹12›)=>`((L2.Dp.str _))
|`(‹13›)=>`((.inr (ar rfl)))
|`(‹14›)=>`((aj (pv 1) aq))
|`(‹15›)=>`((aj (pv 0) aq))
|`(‹16›)=>`((uv (ar rfl)))
|`(‹17›)=>`((vz prog w))
|`(‹18›)=>`(⟨_,rfl,rfl,_,rfl,aL (ne_str ‹1›) ?_⟩)
|`(‹19›)=>`(⟨_,rfl,a,_,_,_,rfl,rfl,XR ha,aK (j:=0) rfl,rfl,_,rfl,aL (ne_str ‹1›) ?_⟩)
|`(‹20›)=>`((fun _ _=>rfl))
|`(‹21›)=>`((by omega))
section
namespace L2
open PySem PySem.Spec PyProof.Rows
abbrev LL:=List (List Str)
abbrev LS:=List Str
abbrev LO:=List (ax×Obj)
abbrev ES:=ue->ut->Prop
abbrev MG:=Str->Option ue
abbrev LU:=List ue
abbrev LP:=List Xw
abbrev AV:=Array ue
abbrev LA:=List ax
abbrev ga:=Sum Int Str
def zF:ga->ue->Bool
 |.inl k,v=>ue.isInt k v
 |.inr x,v=>Mm x v
def W6(w:xm):ga->Int
 |.inl k=>hashInt k
 |.inr x=>hashStr w x
theorem fX:∀{k:ga} {v:ue},zF k v=true->(∃i t,k=Xp i/\v=Tu i t)\/(∃x t,k=By x/\v=Xj x t)
 |.inl i,v,h=>by
  obtain⟨t,e⟩:=ue.isInt_shape (k:=i) (v:=v) h;exact .inl ⟨i,t,rfl,e⟩
 |.inr x,v,h=>by
  obtain⟨t,e⟩:=ue.isStrOf_shape (x:=x) (v:=v) h;exact .inr ⟨x,t,rfl,e⟩
theorem J2(i:Int)(t:Tok):zF (.inl i) (.int i t)=true:=by simp[zF,ue.isInt]
theorem KY(x:Str)(t:Tok):zF (.inr x) (.str x t)=true:=by simp[zF,Mm]
theorem Uy(a b:Int):decide ((Xp a:ga)=Xp b)=(a== b):=by
 by_cases e:a=b
 ·subst e;simp
 ·have h:¬(Xp a:ga)=Xp b:=λq=>e (Xp.inj q);rw[cw h];exact(gp.mpr e).symm
theorem U3(a b:Str):decide ((By a:ga)=By b)=decide (a=b):=by
 by_cases e:a=b
 ·subst e;simp
 ·have h:¬(By a:ga)=By b:=λq=>e (By.inj q);rw[cw h,cw e]
theorem Tp(a:Int)(b:Str):decide ((Xp a:ga)=By b)=false:=cw (λq=>nomatch q)
theorem TY(a:Str)(b:Int):decide ((By a:ga)=Xp b)=false:=cw (λq=>nomatch q)
def cU(prog:vy)(w:xm):PySem.KeyKind prog w ga where
 is:=zF
 hash:=W6 w
 inj:=λv a b ha hb=>by
  rcases fX ha with⟨i,t,rfl,rfl⟩|⟨x,t,rfl,rfl⟩
  ·rcases fX hb with ⟨j,u,rfl,e⟩ | ⟨y,u,rfl,e⟩
   ·injection e with e1 _;rw[e1]
   ·exact nomatch e
  ·rcases fX hb with ⟨j,u,rfl,e⟩ | ⟨y,u,rfl,e⟩
   ·exact nomatch e
   ·injection e with e1 _;rw[e1]
 byValue:=λk v h=>by
  rcases fX h with⟨i,t,rfl,rfl⟩|⟨x,t,rfl,rfl⟩ <;>rfl
 pyHash:=λhv h=>by
  rcases fX hv with⟨i,t,rfl,rfl⟩|⟨x,t,rfl,rfl⟩
  ·exact wpAny_pyHash_int h
  ·exact wpAny_pyHash_str h
 eqBool:=λhu hv h=>by
  rcases fX hu with⟨i,t,rfl,rfl⟩|⟨x,t,rfl,rfl⟩
  ·rcases fX hv with ⟨j,u,rfl,rfl⟩ | ⟨y,u,rfl,rfl⟩
   ·rw[Uy]at h;exact wpAny_eqBool_int h
   ·rw[Tp]at h;exact xN.int_str i t y u _ _ _ _ h
  ·rcases fX hv with ⟨j,u,rfl,rfl⟩ | ⟨y,u,rfl,rfl⟩
   ·rw[TY]at h;exact xN.str_int x t j u _ _ _ _ h
   ·rw[U3]at h;exact wpAny_eqBool_str h
 «strs»:=λk x t v h=>by
  rcases fX h with⟨i,u,rfl,e⟩|⟨y,u,rfl,e⟩
  ·exact nomatch e
  ·injection e with e1 _;subst e1;cases v <;>rfl
theorem GK(prog:vy)(w:xm)(k:ga)(v:ue):(cU prog w).is k v=zF k v:=rfl
theorem El(prog:vy)(w:xm)(i:Int)(t:Tok):(cU prog w).is (.inl i) (.int i t)=true:=J2 i t
theorem FP(prog:vy)(w:xm)(x:Str)(t:Tok):(cU prog w).is (.inr x) (.str x t)=true:=KY x t
inductive V where
 |non|bl (b:Bool)|int (i:Int)|str (x:Str)|byt (b:Array UInt8)|flt (b:UInt64)|ref (a:ax)|ty (n:String)
 deriving DecidableEq
abbrev sg:=List (ga×V)
abbrev LV:=List V
abbrev OV:=Option V
def RelV:V->ue->Prop
 |.non,u=>u=HR
 |.bl b,u=>u=ue.bool b
 |.int i,u=>∃t,u=Tu i t
 |.str x,u=>∃t,u=Xj x t
 |.byt b,u=>∃t,u=ue.bytes b t
 |.flt b,u=>∃t,u=ue.float b t
 |.ref a,u=>u=xn a
 |.ty n,u=>u=UT n
abbrev Vals:LV->LU->Prop:=Paired RelV
theorem Vals.length{xs:LV}{us:LU}(r:Vals xs us):xs.length=us.length:=cE r
theorem Vals.get:∀{xs:LV} {us:LU} {i:Nat} {x:V},Vals xs us->xs[i]?=some x->∃u,us[i]?=some u/\RelV x u
 |_,_,_,_,.nil,e=>by simp at e
 |_,_,0,_,.cons r _,e=>by simp at e;subst e;exact⟨_,rfl,r⟩
 |_,_,i+1,x,.cons _ t,e=>by
  obtain⟨u,h1,h2⟩:=Vals.get (i:=i) (x:=x) t (by simpa using e);exact⟨u,by simpa using h1,h2⟩
theorem Vals.set{x:V}{u:ue}(r:RelV x u):∀{xs:LV} {us:LU} (i:Nat),Vals xs us->Vals (xs.set i x) (us.set i u)
 |_,_,_,.nil=>.nil
 |_,_,0,.cons _ t=>.cons r t
 |_,_,i+1,.cons q t=>.cons q (Vals.set r i t)
theorem Vals.append:∀{xs ys:LV} {us ws:LU},Vals xs us->Vals ys ws->Vals (xs++ys) (us++ws)
 |_,_,_,_,.nil,s=>s
 |_,_,_,_,.cons r t,s=>.cons r (Vals.append t s)
theorem Vals.take:∀{xs:LV} {us:LU} (n:Nat),Vals xs us->Vals (xs.take n) (us.take n)
 |_,_,0,_=>.nil
 |_,_,_+1,.nil=>.nil
 |_,_,n+1,.cons r t=>.cons r (Vals.take n t)
theorem Vals.drop:∀{xs:LV} {us:LU} (n:Nat),Vals xs us->Vals (xs.drop n) (us.drop n)
 |_,_,0,r=>r
 |_,_,_+1,.nil=>.nil
 |_,_,n+1,.cons _ t=>Vals.drop n t
def su:OV->Option ue->Prop
 |some v,some u=>RelV v u
 |none,none=>True
 |_,_=>False
def KV{κ:Type}:List (κ×V)->List (κ×ue)->Prop:=Paired λ(p:κ×V) (q:κ×ue)=>p.1=q.1/\RelV p.2 q.2
noncomputable def kV:ga->V
 |.inl i=>.int i
 |.inr x=>.str x
inductive HO where
 |lst (xs:LV)
 |tup (xs:LV)
 |dK (kvs:sg)|dT (kvs:List (List ga×V))
 |set (S:Int->Bool) (n:Nat)
 |ins (C dx:ax) (fs:List (Str×V))
 |own (x:ax)
 |xd (fs:List (Str×V))
 |met (f x:ax)
 |rng (lo hi:Int)
 |frz (o:Obj) (u:HO)
 |tbl (ps:AV)
 |ext (φ:Heap->Prop)
abbrev Hp:=ax->Option HO
def upd(H:Hp)(a:ax)(o:HO):Hp:=λb=>if b=a then some o else H b
theorem ak{H:Hp}{a:ax}{o:HO}:upd H a o a=some o:=by unfold upd;rw[dL rfl]
theorem aB{H:Hp}{a b:ax}{o:HO}(h:b≠a):upd H a o b=H b:=by unfold upd;rw[dC h]
theorem gM{H:Hp}{a:ax}{o u:HO}:upd (upd H a o) a u=upd H a u:=by
 funext b;unfold upd;split <;>rfl
theorem bV{H:Hp}{a b:ax}{o u:HO}(h:H a=some o)(h':H b=some u)(d:o≠u):a≠b:=by
 intro e;subst e;rw[h]at h';exact d (cS h')
theorem aD{H:Hp}{a b:ax}{o:HO}(h:H a=some o)(h':H b=none):a≠b:=by
 intro e;subst e;rw[h]at h';cases h'
def NoD(h:Heap)(a:ax):Prop:=∀o,h.get? a=some o->o.dict=none
theorem qR(h:Heap)(its:AV):NoD (h.push {cls:=.type "tuple",data:=.seq its}) h.objs.size:=fun o e=>by
 rw[bn _ rfl]at e;cases e;rfl
section
variable (P:vy)(w:xm)
def fV(H:Hp)(h:Heap)(a:ax):HO->Prop
 |.lst xs=>xs.length<=ab/\∃(its:LU) (n:Nat),Vals xs its/\h.get? a=some {cls:=.type "list",data:=.seq its.toArray n}
 |.tup xs=>(xs.length<=ab/\NoD h a)/\∃its:LU,Vals xs its/\IsTup h a its.toArray
 |.dK kvs=>kvs.length<=ab/\(a== An)=false/\∃vs,KV kvs vs/\h.DictOf (cU P w) a vs
 | .dT kvs=>kvs.length<=ab/\(a == An)=false/\∃ xs:List (List ga × ax × ue),
   Paired (λ(p:List ga×V) (q:List ga×ax×ue)=>p.1=q.1/\H q.2.1=some (.tup (p.1.map kV))/\RelV p.2 q.2.2) kvs xs/\
   ∃o es ep,h.get? a=some o/\o.ExactDict/\o.data=.dict es ep/\es.toList=xs.map (entryOfKey (tJ (cU P w)))/\(xs.map (·.1)).Nodup
 |.set S n=>h.SetOf (intKind P w) a S n
 | .ins C dx fs=>H dx=some (.own a)/\fs.length<=1000/\dx≠a/\h.get? a=some (PySem.W.instObj C dx)/\
   ∃mA,h.Ns1 dx mA/\(∀f,su (fs.lookup f) (mA f))/\PySem.Within mA (fs.map (·.1))
 |.own _=>∃o,h.get? a=some o
 |.xd fs=>∃mA,h.Ns1 a mA/\∀f,su (fs.lookup f) (mA f)
 |.rng lo hi=>∃t u v,h.get? a=some {cls:=.type "range",data:=.fields #[.int lo t,.int hi u,.int 1 v]}
 |.frz o u=>h.get? a=some o/\fV H h a u
 |.tbl ps=>h.get? a=some {cls:=.none,data:=.fields ps}
 |.met f x=>h.get? a=some (PySem.W.methodObj (.ref f) (.ref x))
 |.ext φ=>φ h/\(∃o,h.get? a=some o)/\∀h1 h2:Heap,φ h1->(∀o,h1.get? a=some o->h2.get? a=some o)->φ h2
def HOk(H:Hp)(h:Heap):Prop:=∀a o,H a=some o->fV P w H h a o
end
section
variable {P:vy}{w:xm}{H H':Hp}{h h':Heap}{a:ax}{o:HO}
theorem fV.lt(x:fV P w H h a o):a<h.objs.size:=by
 cases o with
 |lst xs=>obtain⟨_,_,_,_,e⟩:=x;exact cr e
 |tup xs=>obtain⟨_,_,_,p⟩:=x;exact p.lt
 |dK kvs=>obtain⟨_,_,_,_,o,_,_,e,_⟩:=x;exact cr e
 |dT kvs=>obtain⟨_,_,_,_,o,_,_,e,_⟩:=x;exact cr e
 |set S n=>obtain⟨o,_,_,_,e,_⟩:=x;exact cr e
 |ins C dx fs=>obtain⟨_,_,_,e,_⟩:=x;exact cr e
 |own y=>obtain⟨_,e⟩:=x;exact cr e
 |xd fs=>obtain⟨_,⟨_,_,_,e,_⟩,_⟩:=x;exact cr e
 |rng lo hi=>obtain⟨_,_,_,e⟩:=x;exact cr e
 |frz ob u=>obtain⟨e,_⟩:=x;exact cr e
 |tbl ps=>exact cr (show h.get? a=some _ from x)
 |met f y=>exact cr (show h.get? a=some _ from x)
 |ext φ=>obtain⟨_,⟨_,e⟩,_⟩:=x;exact cr e
theorem Paired.lK{α β:Type}{F G:α->β->Prop}:∀{Fa:List α} {Fc:List β},Paired F Fa Fc->(∀a b,F a b->G a b)->Paired G Fa Fc
 |_,_,.nil,_=>.nil
 |_,_,.cons r t,f=>.cons (f _ _ r) (Paired.lK t f)
abbrev XM:=@Paired.lK
theorem fV.stay(x:fV P w H h a o)(k:∀b u,(b=a\/H b=some (.own a))->h.get? b=some u->h'.get? b=some u)
  (ho:∀b,H b=some (.own a)->H' b=some (.own a)) (ht:∀b xs,H b=some (.tup xs)->H' b=some (.tup xs)):fV P w H' h' a o:=by
 induction o with
 |lst xs=>obtain⟨z,its,n,r,e⟩:=x;exact⟨z,its,n,r,k _ _ (.inl rfl) e⟩
 |tup xs=>
  obtain⟨z,its,r,ob,e,c⟩:=x;have e':=k _ _ (.inl rfl) e;exact⟨⟨z.1,λo q=>by rw[e']at q;cases q;exact z.2 _ e⟩,its,r,ob,e',c⟩
 |dK kvs=>obtain⟨z,y,vs,r,ob,es,ep,e,c⟩:=x;exact⟨z,y,vs,r,ob,es,ep,k _ _ (.inl rfl) e,c⟩
 |dT kvs=>
  obtain⟨z,y,xs,r,ob,es,ep,e,c⟩:=x;exact⟨z,y,xs,XM r λp q z=>⟨z.1,ht _ _ z.2.1,z.2.2⟩,ob,es,ep,k _ _ (.inl rfl) e,c⟩
 |set S n=>obtain⟨ob,es,ep,t,e,c⟩:=x;exact⟨ob,es,ep,t,k _ _ (.inl rfl) e,c⟩
 |ins C dx fs=>
  obtain⟨d,z,ne,e,mA,⟨od,es,ep,e2,c⟩,r⟩:=x;exact⟨ho _ d,z,ne,k _ _ (.inl rfl) e,mA,⟨od,es,ep,k _ _ (.inr d) e2,c⟩,r⟩
 |own y=>obtain⟨ob,e⟩:=x;exact⟨ob,k _ _ (.inl rfl) e⟩
 |xd fs=>obtain⟨mA,⟨od,es,ep,e,c⟩,r⟩:=x;exact⟨mA,⟨od,es,ep,k _ _ (.inl rfl) e,c⟩,r⟩
 |rng lo hi=>obtain⟨t,u,v,e⟩:=x;exact⟨t,u,v,k _ _ (.inl rfl) e⟩
 |frz ob u ih=>obtain⟨e,q⟩:=x;exact⟨k _ _ (.inl rfl) e,ih q⟩
 |tbl ps=>
  have e:h.get? a=some {cls:=.none,data:=.fields ps}:=x;show h'.get? a=some {cls:=.none,data:=.fields ps};exact k a _ (.inl rfl) e
 |met f y=>
  have e:h.get? a=some (PySem.W.methodObj (.ref f) (.ref y)):=x;show h'.get? a=some (PySem.W.methodObj (.ref f) (.ref y));exact k a _ (.inl rfl) e
 |ext φ=>obtain⟨p,⟨o,e⟩,st⟩:=x;exact⟨st _ _ p λo q=>k _ _ (.inl rfl) q,⟨o,k _ _ (.inl rfl) e⟩,st⟩
theorem HOk.lt(x:HOk P w H h)(e:H a=some o):a<h.objs.size:=(x a o e).lt
theorem HOk.fresh(x:HOk P w H h)(e:h.objs.size<=a):H a=none:=by
 cases q:H a with
 |none=>rfl
 |some u=>exact absurd (eB (x.lt q) e) (kR _)
theorem HOk.kept(x:HOk P w H h)(k:∀b u,h.get? b=some u->h'.get? b=some u):HOk P w H h':=λa o e=>
 (x a o e).stay (λb u _ q=>k b u q) (λ_ q=>q) λ_ _ q=>q
theorem HOk.laid(x:HOk P w H h)(k:∀b u,h.get? b=some u->h'.get? b=some u)(hp:h.objs.size<=a)(Ic:fV P w (upd H a o) h' a o):HOk P w (upd H a o) h':=λb u e=>by
 have hn:=x.fresh hp
 by_cases hb:b=a
 ·subst hb;rw[ak]at e;cases e;exact Ic
 ·rw[aB hb]at e;exact(x b u e).stay (λc v _ q=>k c v q) (λc q=>by rw[aB (aD q hn)];exact q) λc xs q=>by rw[aB (aD q hn)];exact q
end
def Rd(H:Hp)(a:ax)(u:HO):Prop:=H a=some u\/∃o,H a=some (.frz o u)
theorem Rd.ok{P:vy}{w:xm}{H:Hp}{h:Heap}{a:ax}{u:HO}(r:Rd H a u)(x:HOk P w H h):fV P w H h a u:=by
 rcases r with r|⟨o,r⟩
 ·exact x a u r
 ·obtain⟨_,q⟩:=x a _ r;exact q
def XA:Option HO->Prop
 |some (.lst _)=>True
 |some (.dK _)=>True
 |some (.dT _)=>True
 |some (.set _ _)=>True
 |some (.ins _ _ _)=>True
 |some (.ext _)=>True
 |_=>False
section
variable {P:vy}{w:xm}{H:Hp}{h h':Heap}{x e:ax}{o':HO}
theorem HOk.write(ok:HOk P w H h)(mu:XA (H x))(he:e=x\/H e=some (.own x))(k:∀b u,b≠e->h.get? b=some u->h'.get? b=some u)(UO:∃u,h'.get? e=some u)
  (Ic:fV P w (upd H x o') h' x o'):HOk P w (upd H x o') h':=λb u q=>by
 have XB:∀c y,H c=some (.own y)->c≠x:=λc y r z=>by subst z;rw[r]at mu;exact mu
 have ntup:∀c xs,H c=some (.tup xs)->c≠x:=λc xs r z=>by subst z;rw[r]at mu;exact mu
 by_cases hb:b=x
 ·subst hb;rw[ak]at q;cases q;exact Ic
 ·rw [aB hb] at q
  by_cases QU:b=e
  ·have q':H b=some (.own x):=by
    rcases he with z|z
    ·exact absurd (QU.trans z) hb
    ·rw[QU];exact z
   rw[q]at q';cases q';obtain⟨v,hv⟩:=UO;exact⟨v,by rw[QU];exact hv⟩
  ·refine(ok b u q).stay (fun c v hc r=>k c v ?_ r) (fun c r=>by rw [aB (XB c b r)]; exact r) fun c xs r=>by rw [aB (ntup c xs r)]; exact r
   rcases hc with rfl|hc
   ·exact QU
   ·rintro rfl;rcases he with z | z
    ·exact XB c b hc z
    ·rw[hc]at z;cases z;exact hb rfl
end
structure Un (fs ex:LA) (H H':Hp) (h h':Heap):Prop where
 keep:∀b o,h.get? b=some o->H b=none->b∉fs->b∉ex->h'.get? b=some o
 slot:∀b o,h.get? b=some o->H b=none->b∈fs->b∉ex->∃sl,h'.get? b=some {o with slots:=sl}
 free:∀b o,h.get? b=some o->H b=none->b∉ex->H' b=none
 there:∀b o,h.get? b=some o->b∉ex->∃o',h'.get? b=some o'
 tups:∀b xs,H b=some (.tup xs)->H' b=some (.tup xs)
 Ck:∀b o u,H b=some (.frz o u)->H' b=some (.frz o u)
 Es:∀b ps,H b=some (.tbl ps)->∃ba,H' b=some (.tbl (ps++ba))
section
variable {fs Pc ex UP:LA}{H H1 H2:Hp}{h h1 h2 h':Heap}{a x e:ax}{o:HO}
theorem Un.any(u:Un fs ex H H1 h h1){b:ax}{ob:Obj}(q:h.get? b=some ob)(n:H b=none)(hx:b∉ex):∃sl,h1.get? b=some {ob with slots:=sl}:=by
 by_cases hb:b∈fs
 ·exact u.slot b ob q n hb hx
 ·exact⟨ob.slots,u.keep b ob q n hb hx⟩
theorem Un.kept(k:∀b u,h.get? b=some u->h'.get? b=some u):Un fs ex H H h h':=
 ⟨λb ob q _ _ _=>k b ob q,λb ob q _ _ _=>⟨ob.slots,k b ob q⟩,λ_ _ _ n _=>n,λb ob q _=>⟨ob,k b ob q⟩,λ_ _ q=>q,λ_ _ _ q=>q,λ_ ps q=>⟨#[],by rw[q];simp⟩⟩
theorem Un.refl:Un fs ex H H h h:=Un.kept λ_ _ q=>q
theorem Un.laid(k:∀b u,h.get? b=some u->h'.get? b=some u)(hp:h.objs.size<=a)(hn:H a=none):Un fs ex H (upd H a o) h h' where
 keep:=λb u q _ _ _=>k b u q
 slot:=λb u q _ _ _=>⟨u.slots,k b u q⟩
 free:=λb u q n _=>by rw[aB (d6 (eB (cr q) hp))];exact n
 there:=λb u q _=>⟨u,k b u q⟩
 tups:=λb xs q=>by rw[aB (aD q hn)];exact q
 Ck:=λb u xs q=>by rw[aB (aD q hn)];exact q
 Es:=λb ps q=>⟨#[],by rw[aB (aD q hn),q];simp⟩
theorem Un.write(mu:XA (H x))(he:e=x\/H e=some (.own x))(k:∀b u,b≠e->h.get? b=some u->h'.get? b=some u)(UO:∃u,h'.get? e=some u):Un fs ex H (upd H x o) h h':=by
 have hx:∀b,H b=none->b≠x:=λb n z=>by subst z;rw[n]at mu;exact mu
 have hb:∀b,H b=none->b≠e:=λb n z=>by
  subst z;rcases he with r|r
  ·exact hx b n r
  ·rw[n]at r;cases r
 have hm:∀b u,H b=some u->¬XA (some u)->b≠x:=λb u q nm z=>by subst z;rw[q]at mu;exact nm mu
 refine⟨λb u q n _ _=>k b u (hb b n) q,λb u q n _ _=>⟨u.slots,k b u (hb b n) q⟩,λb u q n _=>by rw[aB (hx b n)];exact n,λb u q _=>?_,
  λb xs q=>by rw[aB (hm b _ q λz=>z)];exact q,λb u xs q=>by rw[aB (hm b _ q λz=>z)];exact q,λb ps q=>⟨#[],by rw[aB (hm b _ q λz=>z),q];simp⟩⟩
 by_cases QU:b=e
 ·subst QU;exact UO
 ·exact⟨u,k b u QU q⟩
end
noncomputable def trk(h:Heap)(H:Hp):LA:=(List.range h.objs.size).filter λa=>(H a).isSome
def Ds(h:Heap)(H:Hp):Heap:=PySem.W.hideAll h (trk h H)
theorem Ke(h:Heap)(H:Hp):(Ds h H).objs.size=h.objs.size:=PySem.W.hideAll_size _ _
theorem LQ{h:Heap}{H:Hp}{b:ax}{o:Obj}(e:h.get? b=some o)(n:H b=none):(Ds h H).get? b=some o:=
 PySem.W.hideAll_get _ e λhm=>by
  have q:(H b).isSome=true:=(dP.mp hm).2;rw[n]at q;simp at q
theorem Ro{h:Heap}{H:Hp}{b:ax}{o:Obj}(e:(Ds h H).get? b=some o):h.get? b=some o/\H b=none:=by
 have e':h.get? b=some o:=PySem.W.of_hideAll (trk h H) e;refine⟨e',?_⟩;cases q:H b with
 |none=>rfl
 |some x=>
  have hm:b∈trk h H:=dP.mpr ⟨iE.mpr (cr e'),by simp[q]⟩;have z:(Ds h H).get? b=none:=PySem.W.hideAll_none (trk h H) hm;rw[z]at e;cases e
noncomputable def Qw(g h:Heap)(L:ax):LO:=(List.range h.objs.size).filterMap λa=>if a=L\/(g.get? a).isSome=true then none else(h.get? a).map λo=>(a,o)
noncomputable def rest(g h:Heap)(L d:ax):LO:=(Qw g h L).filter λp=>decide (p.1≠d)
structure Mod (K:PySem.W.Frag) (mg:MG) (base:Heap):Prop where
 kin:K.In base
 glob:base.Ns wy mg
 blt:∃mb,base.Ns builtinsNs mb/\∀x:Str,x≠ "__name__" ->mb x=yf x
 nolimit:base.NoLimit
structure Cx where
 prog:vy
 w:xm
 K:PySem.W.Frag
 mg:MG
 base:Heap
 A:ye
 N:LS
 s₀:ut
 H₀:Hp
 env:wT
 outer:List wT
 stack:List wT
 ex:LA
 fn:Str->Bool
 calm:Bool
 pn:LO
 xe:ES
noncomputable def frs(l:List wT):LA:=l.filterMap (·.frame)
abbrev Cx.fs(X:Cx):LA:=frs X.outer
def XE(sc:Scope)(x:Str):Prop:=sc.names.lookup x=some .local\/sc.names.lookup x=some .cell\/sc.names.lookup x=some .free
def Loc(sc:Scope)(x:Str):Prop:=sc.names.lookup x=some .local\/sc.names.lookup x=some .cell
def Look(env:wT)(h:Heap)(m:MG)(x:Str)(u:ue):Prop:=
 (env.kindOf x=some .local/\m x=some u)\/((env.kindOf x=some .cell\/env.kindOf x=some .free)/\∃c,env.cells.lookup x=some c/\h.IsCell c (some u))
structure Cx.Ok (X:Cx):Prop where
 mod:Mod X.K X.mg X.base
 kind:X.env.scope.kind=.function
 glob:X.env.globals=wy
 blt:X.env.builtins=builtinsNs
 above:X.s₀.heap.objs.size<=X.env.locals
 inj:∀x y c,X.env.cells.lookup x=some c->X.env.cells.lookup y=some c->x=y
 has:∀x,(X.env.kindOf x=some .cell\/X.env.kindOf x=some .free)->∃c,X.env.cells.lookup x=some c
 cab:∀x c,X.fn x=true->X.env.cells.lookup x=some c->X.s₀.heap.objs.size<=c
 hd:X.calm=true->X.A.handled=none
 frames:X.A.frames=some X.stack
 stk:X.stack=X.outer\/(X.stack=X.env::X.outer/\X.env.frame=some X.env.locals)
 exf:∀b∈X.ex,b≠X.env.locals/\∀x c,X.env.cells.lookup x=some c->c≠b
 bs:∀b o,X.base.get? b=some o->X.s₀.heap.get? b=some o/\X.H₀ b=none
 bsz:X.base.objs.size<=X.s₀.heap.objs.size
 Ld:∀b o,X.base.get? b=some o->b∉X.ex
 Hl:∀b∈X.ex,b∉X.fs
 wY:X.s₀.heap.FunFrames X.base X.outer
 frf:∀b∈X.fs,X.H₀ b=none
structure Inv (X:Cx) (ag:LO) (σ:List OV) (H:Hp) (s:ut):Prop where
 ok:X.Ok
 os:s.os=X.s₀.os
 bare:Su s.gens
 base:Un X.fs X.ex X.H₀ H X.s₀.heap s.heap
 loc:∃m,s.heap.Ns X.env.locals m/\∀(i:Nat) (x:Str) (v:V),X.N[i]?=some x->σ[i]?=some (some v)->XE X.env.scope x->∃u,RelV v u/\Look X.env s.heap m x u
 cell:∀x c,X.env.cells.lookup x=some c->∃v,s.heap.IsCell c v
 free:H X.env.locals=none
 ur:∀x c,X.env.cells.lookup x=some c->H c=none
 pin:∀p∈X.pn++ag,s.heap.get? p.1=some p.2/\H p.1=none/\p.1≠X.env.locals/\p.1∉X.fs/\∀v,p.2.data≠.cell v
 hok:HOk X.prog X.w H s.heap
 len:σ.length=X.N.length
section
variable {X:Cx}{ag:LO}{σ:List OV}{H H':Hp}{s:ut}{h':Heap}
theorem Cx.Ok.WD(ok:X.Ok){b:ax}{o:Obj}(e:X.base.get? b=some o):b∉X.fs:=λhb=>by
 have:=(ok.wY.mem hb).1;rw[e]at this;cases this
theorem Inv.bs(I:Inv X ag σ H s):∀b o,X.base.get? b=some o->s.heap.get? b=some o/\H b=none:=λb o e=>
 ⟨I.base.keep b o (I.ok.bs b o e).1 (I.ok.bs b o e).2 (I.ok.WD e) (I.ok.Ld b o e),I.base.free b o (I.ok.bs b o e).1 (I.ok.bs b o e).2 (I.ok.Ld b o e)⟩
theorem Inv.bk(I:Inv X ag σ H s):∀b o,X.base.get? b=some o->s.heap.get? b=some o:=λb o e=>(I.bs b o e).1
theorem Inv.mod(I:Inv X ag σ H s):Mod X.K X.mg X.base:=I.ok.mod
theorem Inv.kIn(I:Inv X ag σ H s):X.K.In s.heap:=I.ok.mod.kin.keeps I.bk
theorem Inv.lt(I:Inv X ag σ H s):X.env.locals<s.heap.objs.size:=let⟨_,hn,_⟩:=I.loc;hn.lt
theorem Inv.sz(I:Inv X ag σ H s):X.s₀.heap.objs.size<=s.heap.objs.size:=dq I.ok.above (Nat.le_of_lt I.lt)
theorem Inv.W3(I:Inv X ag σ H s){a:ax}(h:s.heap.objs.size<=a):a∉X.fs:=λhb=>by
 obtain⟨_,o,ho,_⟩:=I.ok.wY.mem hb;exact absurd (eB (cr ho) (dq I.sz h)) (kR _)
theorem Inv.cne(I:Inv X ag σ H s):∀x c,X.env.cells.lookup x=some c->c≠X.env.locals:=λx c e z=>by
 obtain⟨v,o,ho,hd⟩:=I.cell x c e;obtain⟨m,⟨o',es,ep,MQ,XG,_⟩,_⟩:=I.loc;rw[z,MQ]at ho;cases ho;rw[XG]at hd;cases hd
theorem Inv.wY(I:Inv X ag σ H s):s.heap.FunFrames X.base X.outer:=by
 have all:∀(l:List wT),(∀b∈frs l,b∈X.fs)->X.s₀.heap.FunFrames X.base l->s.heap.FunFrames X.base l:=by
  intro l
  induction l with
  |nil=>intro _ _;trivial
  |cons env r ih=>
   intro hs hl;obtain⟨hk,⟨L,o,hf,hn,ho,hd⟩,hr⟩:=hl;have hL:L∈X.fs:=hs L (by unfold frs;rw[qE,hf];exact aS);obtain⟨sl,e⟩:=I.base.slot L o ho (I.ok.frf L hL) hL λz=>I.ok.Hl L z hL;exact⟨hk,⟨L,_,hf,hn,e,hd⟩,ih (λb hb=>hs b (by unfold frs;rw[qE,hf];exact cf _ hb)) hr⟩
 exact all X.outer (λ_ hb=>hb) I.ok.wY
theorem Inv.stack(I:Inv X ag σ H s):s.heap.FunFrames X.base X.stack:=by
 rcases I.ok.stk with e|⟨e,hf⟩
 ·rw[e];exact I.wY
 ·rw[e];obtain⟨m,hn,_⟩:=I.loc;refine .cons (by rw[I.ok.kind];decide) hf hn ?_ I.wY;exact Heap.get?_none_of_le (dq I.ok.bsz I.ok.above)
theorem Inv.GQ(I:Inv X ag σ H s):∀b∈frs X.stack,b∈X.env.locals::X.fs:=λb hb=>by
 rcases I.ok.stk with e|⟨e,hf⟩
 ·rw[e]at hb;exact cf _ hb
 ·rw[e]at hb;unfold frs at hb;rw[qE,hf]at hb;exact hb
theorem Inv.Jl(I:Inv X ag σ H s):∀b∈frs X.stack,H b=none:=λb hb=>by
 rcases aT.mp (I.GQ b hb)with e|hb
 ·rw[e];exact I.free
 ·obtain⟨_,o,ho,_⟩:=I.ok.wY.mem hb;exact I.base.free b o ho (I.ok.frf b hb) λz=>I.ok.Hl b z hb
theorem Inv.step{g':Array Xx}{t':Nat}{d':Drawn}{ch:LA}(I:Inv X ag σ H s)
  (L5:∀b∈ch,(b∈X.ex\/X.s₀.heap.objs.size<=b)/\b≠X.env.locals/\(∀x c,X.env.cells.lookup x=some c->c≠b)/\∀p∈X.pn++ag,p.1≠b)
  (keep:∀b o,b≠X.env.locals->b∉X.fs->b∉ch->s.heap.get? b=some o->H b=none->h'.get? b=some o)
  (slot:∀b o,b≠X.env.locals->b∈X.fs->b∉ch->s.heap.get? b=some o->H b=none->∃sl,h'.get? b=some {o with slots:=sl}) (free:∀b o,b∉ch->s.heap.get? b=some o->H b=none->H' b=none)
  (there:∀b o,b∉ch->s.heap.get? b=some o->∃o',h'.get? b=some o')
  (tups:∀b xs,H b=some (.tup xs)->H' b=some (.tup xs)) (Ck:∀b o u,H b=some (.frz o u)->H' b=some (.frz o u)) (Es:∀b ps,H b=some (.tbl ps)->∃ba,H' b=some (.tbl (ps++ba)))
  (ns:∀m,s.heap.Ns X.env.locals m->h'.Ns X.env.locals m) (hok:HOk X.prog X.w H' h') (hg:Su g'):
  Inv X ag σ H' {s with heap:=h',gens:=g',drawn:=d',toks:=t'}:=by
 have neL:∀b o,X.s₀.heap.get? b=some o->b≠X.env.locals:=λb o e=>d6 (eB (cr e) I.ok.above)
 have neC:∀b o,X.s₀.heap.get? b=some o->b∉X.ex->b∉ch:=λb o e hx hb=>by
  rcases(L5 b hb).1 with z|z
  ·exact hx z
  ·exact absurd (eB (cr e) z) (kR _)
 have Pd:∀x c,X.env.cells.lookup x=some c->∀v,s.heap.IsCell c v->h'.IsCell c v:=λx c e v ⟨o,ho,hd⟩=>by
  have XI:c∉ch:=λz=>(L5 c z).2.2.1 x c e rfl
  by_cases hc:c∈X.fs
  ·obtain⟨sl,q⟩:=slot c o (I.cne x c e) hc XI ho (I.ur x c e);exact⟨_,q,hd⟩
  ·exact⟨o,keep c o (I.cne x c e) hc XI ho (I.ur x c e),hd⟩
 refine⟨I.ok,I.os,hg,⟨λb o e n hb hx=>?_,λb o e n hb hx=>?_,λb o e n hx=>?_,λb o e hx=>?_,λb xs e=>tups b xs (I.base.tups b xs e),λb o xs e=>Ck b o xs (I.base.Ck b o xs e),λb ps e=>?_⟩,?_,λx c e=>?_,?_,λx c e=>?_,λp hp=>?_,hok,I.len⟩
 ·exact keep b o (neL b o e) hb (neC b o e hx) (I.base.keep b o e n hb hx) (I.base.free b o e n hx)
 ·obtain⟨sl,e1⟩:=I.base.slot b o e n hb hx;obtain⟨sl',e2⟩:=slot b _ (neL b o e) hb (neC b o e hx) e1 (I.base.free b o e n hx);exact⟨sl',e2⟩
 ·obtain⟨o',e1⟩:=I.base.there b o e hx;exact free b o' (neC b o e hx) e1 (I.base.free b o e n hx)
 ·obtain⟨o',e1⟩:=I.base.there b o e hx;exact there b o' (neC b o e hx) e1
 ·obtain⟨m1,e1⟩:=I.base.Es b ps e;obtain⟨m2,e2⟩:=Es b _ e1;exact⟨m1++m2,by rw[e2,Array.append_assoc]⟩
 ·obtain ⟨m,hn,hl⟩:=I.loc;refine⟨m,ns m hn,fun i x v e1 e2 e3=>?_⟩;obtain ⟨u,r,l⟩:=hl i x v e1 e2 e3;refine⟨u,r,?_⟩;rcases l with l | ⟨k,c,e,z⟩
  ·exact .inl l
  ·exact .inr ⟨k,c,e,Pd x c e _ z⟩
 ·obtain⟨v,z⟩:=I.cell x c e;exact⟨v,Pd x c e v z⟩
 ·obtain⟨m,⟨o,_,_,ho,_⟩,_⟩:=I.loc;exact free _ o (λz=>(L5 _ z).2.1 rfl) ho I.free
 ·obtain⟨v,o,ho,hd⟩:=I.cell x c e;exact free c o (λz=>(L5 c z).2.2.1 x c e rfl) ho (I.ur x c e)
 ·obtain⟨e,n,ne,nf,d⟩:=I.pin p hp;have XI:p.1∉ch:=λz=>(L5 p.1 z).2.2.2 p hp rfl;exact⟨keep p.1 p.2 ne nf XI e n,free p.1 p.2 XI e n,ne,nf,d⟩
theorem Inv.un{t':Nat}(I:Inv X ag σ H s)(u:Un X.fs [] H H' s.heap h')(hok:HOk X.prog X.w H' h'):Inv X ag σ H' {s with heap:=h',toks:=t'}:=by
 obtain⟨m,⟨o,es,ep,ho,r⟩,_⟩:=id I.loc;obtain⟨sl,hL⟩:=u.any ho I.free (by simp)
 exact I.step (g':=s.gens) (d':=s.drawn) (ch:=[]) (λ_ z=>nomatch z) (λb o _ hb _ e n=>u.keep b o e n hb (by simp)) (λb o _ hb _ e n=>u.slot b o e n hb (by simp)) (λb o _ e n=>u.free b o e n (by simp)) (λb o _ e=>u.there b o e (by simp)) u.tups u.Ck u.Es (λm' hm=>by
  obtain⟨o',Fh,XO,MQ,r'⟩:=hm;rw[ho]at MQ;cases MQ;exact⟨_,Fh,XO,hL,r'⟩) hok I.bare
theorem Inv.call{g':Array Xx}{t':Nat}{d':Drawn}{ch:LA}(I:Inv X ag σ H s)(u:Un (frs X.stack) ch H H' s.heap h')(hok:HOk X.prog X.w H' h')(hg:Su g')
  (L5:∀b∈ch,(b∈X.ex\/X.s₀.heap.objs.size<=b)/\b≠X.env.locals/\(∀x c,X.env.cells.lookup x=some c->c≠b)/\∀p∈X.pn++ag,p.1≠b):
  Inv X ag σ H' {s with heap:=h',gens:=g',drawn:=d',toks:=t'}:=by
 obtain⟨m,⟨o,es,ep,ho,r⟩,_⟩:=id I.loc;obtain⟨sl,hL⟩:=u.any ho I.free λz=>(L5 _ z).2.1 rfl
 exact I.step (ch:=ch) L5 (λb o hL hb hc e n=>u.keep b o e n (λz=>(aT.mp (I.GQ b z)).elim hL hb) hc) (λb o _ _ hc e n=>u.any e n hc) (λb o hc e n=>u.free b o e n hc) (λb o hc e=>u.there b o e hc) u.tups u.Ck u.Es (λm' hm=>by
  obtain⟨o',Fh,XO,MQ,r'⟩:=hm;rw[ho]at MQ;cases MQ;exact⟨_,Fh,XO,hL,r'⟩) hok hg
theorem Inv.turned{t':Nat}{it:ax}(I:Inv X ag σ H s)(k:∀b o,b≠it->s.heap.get? b=some o->h'.get? b=some o)(hn:H it=none)(hL:it≠X.env.locals)
  (h1:it∈X.ex\/X.s₀.heap.objs.size<=it) (h2:∀x c,X.env.cells.lookup x=some c->c≠it) (h3:∀p∈X.pn++ag,p.1≠it):Inv X ag σ H {s with heap:=h',toks:=t'}:=by
 have nit:∀b u,H b=some u->b≠it:=λb u e z=>by rw[z,hn]at e;cases e
 refine I.step (g':=s.gens) (d':=s.drawn) (ch:=[it]) (λb hb=>?_) (λb o _ _ hc e _=>k b o (λz=>hc (by simp[z])) e) (λb o _ _ hc e _=>⟨o.slots,k b o (λz=>hc (by simp[z])) e⟩) (λ_ _ _ _ n=>n)
  (λb o hc e=>⟨o,k b o (λz=>hc (by simp[z])) e⟩) (λ_ _ e=>e) (λ_ _ _ e=>e) (λb ps e=>⟨#[],by rw[e];simp⟩) (λm hm=>?_) (λb u e=>?_) I.bare
 ·have e:b=it:=by simpa using hb
  subst e;exact⟨h1,hL,h2,h3⟩
 ·obtain⟨o,es,ep,ho,r⟩:=hm;exact⟨o,es,ep,k _ o (se hL) ho,r⟩
 ·refine(I.hok b u e).stay (fun c v hc q=>k c v ?_ q) (fun _ q=>q) fun _ _ q=>q;rcases hc with z | z
  ·rw[z];exact nit b u e
  ·exact nit c _ z
theorem Inv.tok(I:Inv X ag σ H s)(t:Nat):Inv X ag σ H {s with toks:=t}:=I.un (h':=s.heap) (t':=t) Un.refl I.hok
theorem Inv.kept{t':Nat}(I:Inv X ag σ H s)(k:∀b u,s.heap.get? b=some u->h'.get? b=some u):Inv X ag σ H {s with heap:=h',toks:=t'}:=I.un (Un.kept k) (I.hok.kept k)
theorem Inv.laid{a:ax}{o:HO}{t':Nat}(I:Inv X ag σ H s)(k:∀b u,s.heap.get? b=some u->h'.get? b=some u)(hp:s.heap.objs.size<=a)(Ic:fV X.prog X.w (upd H a o) h' a o):
  Inv X ag σ (upd H a o) {s with heap:=h',toks:=t'}:=I.un (Un.laid k hp (I.hok.fresh hp)) (I.hok.laid k hp Ic)
theorem Inv.write{x e:ax}{o:HO}{t':Nat}(I:Inv X ag σ H s)(mu:XA (H x))(he:e=x\/H e=some (.own x))(k:∀b u,b≠e->s.heap.get? b=some u->h'.get? b=some u)(UO:∃u,h'.get? e=some u)
  (Ic:fV X.prog X.w (upd H x o) h' x o):Inv X ag σ (upd H x o) {s with heap:=h',toks:=t'}:=I.un (Un.write mu he k UO) (I.hok.write mu he k UO Ic)
theorem Inv.JH{Pe:LO}(I:Inv X ag σ H s)(h:∀p∈Pe,s.heap.get? p.1=some p.2/\H p.1=none/\p.1≠X.env.locals/\p.1∉X.fs/\∀v,p.2.data≠.cell v):Inv X Pe σ H s:=
 ⟨I.ok,I.os,I.bare,I.base,I.loc,I.cell,I.free,I.ur,λp hp=>(bu.mp hp).elim (λz=>I.pin p (i7 _ z)) (h p),I.hok,I.len⟩
theorem DY{N:LS}(hN:N.Nodup){i j:Nat}{x:Str}(a:N[i]?=some x)(b:N[j]?=some x):i=j:=by
 obtain⟨h1,e1⟩:=bo.mp a;obtain⟨h2,e2⟩:=bo.mp b;exact(List.getElem_inj hN).mp (e1.trans e2.symm)
theorem Aq{M:Model}{A:ye}{E:ES}{i:Nat}{x:Str}{v:V}{u:ue}{Q:Unit->ut->Prop}(I:Inv X ag σ H s)(hN:X.N.Nodup)(hi:X.N[i]?=some x)(hx:Loc X.env.scope x)(r:RelV v u)
  (h:∀s',Inv X ag (σ.set i (some v)) H s'->(∃a,Heap.SameBut a s.heap s'.heap/\(a=X.env.locals\/X.env.cells.lookup x=some a))->Q () s') (hf:X.fn x=true\/X.env.scope.names.lookup x=some .local:=by first|exact .inl rfl|exact .inr rfl|assumption):wpAny M A (storeName X.env x u) Q E s:=by
 obtain⟨m,hn,hl⟩:=id I.loc;have hcls:(X.env.scope.kind== .class|| (X.env.scope.kind== .module && X.env.locals !=X.env.globals))=false:=by rw[I.ok.kind];rfl
 have XT:i<σ.length:=by rw[I.len];exact(bo.mp hi).1
 have cne:=I.cne
 have EN:∀{a:ax} {h':Heap},(∃o,s.heap.get? a=some o/\H a=none)->Heap.SameBut a s.heap h'->HOk X.prog X.w H h':=λ{a h'} ha hs b ob e=>by
  obtain⟨_,_,Ct⟩:=ha;refine(I.hok b ob e).stay (λc w' hc q=>(hs.2 c ?_).trans q) (λ_ q=>q) λ_ _ q=>q;rintro rfl;rcases hc with rfl|hc
  ·rw[Ct]at e;cases e
  ·rw[Ct]at hc;cases hc
 rcases hx with hk|hk
 ·refine wpAny_storeName_local hk hn (fun h' hn' hs=>?_) hcls;obtain ⟨oL,_,_,hoL,_⟩:=id hn;refine h _ ⟨I.ok,I.os,I.bare,⟨fun b o e n hb hx=>?_,fun b o e n hb hx=>?_,I.base.free,fun b o e hx=>?_,I.base.tups,I.base.Ck,I.base.Es⟩,⟨_,hn',fun j y v' e1 e2 e3=>?_⟩,fun y c e=>?_,I.free,I.ur,fun p hp=>?_,EN ⟨oL,hoL,I.free⟩ hs,by simpa using I.len⟩ ⟨_,hs,.inl rfl⟩
  ·exact(hs.2 b (d6 (eB (cr e) I.ok.above))).trans (I.base.keep b o e n hb hx)
  ·obtain⟨sl,e1⟩:=I.base.slot b o e n hb hx;exact⟨sl,(hs.2 b (d6 (eB (cr e) I.ok.above))).trans e1⟩
  ·obtain⟨o',e1⟩:=I.base.there b o e hx;exact⟨o',(hs.2 b (d6 (eB (cr e) I.ok.above))).trans e1⟩
  ·by_cases hj:j=i
   ·subst hj;rw[hi]at e1;cases e1;rw[List.getElem?_set_self XT]at e2;cases e2;exact⟨u,r,.inl ⟨hk,by simp⟩⟩
   ·rw [List.getElem?_set_ne (se hj)] at e2;obtain ⟨u',r',q⟩:=hl j y v' e1 e2 e3;refine⟨u',r',?_⟩;rcases q with ⟨k,e⟩ | ⟨k,c,e,z⟩
    ·refine .inl ⟨k,?_⟩;have:y≠x:=λe=>hj (DY hN e1 (e ▸ hi));simp[this,e]
    ·exact .inr ⟨k,c,e,z.sameBut hs (cne y c e)⟩
  ·obtain⟨w',z⟩:=I.cell y c e;exact⟨w',z.sameBut hs (cne y c e)⟩
  ·obtain⟨e,n,ne,nf,d⟩:=I.pin p hp;exact⟨(hs.2 p.1 ne).trans e,n,ne,nf,d⟩
 ·have hfn:X.fn x=true:=by
   rcases hf with z|z
   ·exact z
   ·rw[z]at hk;cases hk
  obtain⟨c,hc⟩:=I.ok.has x (.inl hk);obtain⟨w',z⟩:=I.cell x c hc;refine wpAny_storeName_cell I.ok.kind hk hc z (λh' hc' hs=>?_);obtain⟨oc,hoc,hocd⟩:=id z;refine h {s with heap:=h'} ⟨I.ok,I.os,I.bare,⟨λb o e n hb hx=>?_,λb o e n hb hx=>?_,I.base.free,λb o e hx=>?_,I.base.tups,I.base.Ck,I.base.Es⟩,⟨m,hn.sameBut hs (se (cne x c hc)),λj y v' e1 e2 e3=>?_⟩,λy c' e=>?_,I.free,I.ur,λp hp=>?_,EN ⟨oc,hoc,I.ur x c hc⟩ hs,by simpa using I.len⟩ ⟨c,hs,.inr hc⟩
  ·exact(hs.2 b (d6 (eB (cr e) (I.ok.cab x c hfn hc)))).trans (I.base.keep b o e n hb hx)
  ·obtain⟨sl,e1⟩:=I.base.slot b o e n hb hx;exact⟨sl,(hs.2 b (d6 (eB (cr e) (I.ok.cab x c hfn hc)))).trans e1⟩
  ·obtain⟨o',e1⟩:=I.base.there b o e hx;exact⟨o',(hs.2 b (d6 (eB (cr e) (I.ok.cab x c hfn hc)))).trans e1⟩
  ·by_cases hj:j=i
   ·subst hj;rw[hi]at e1;cases e1;rw[List.getElem?_set_self XT]at e2;cases e2;exact⟨u,r,.inr ⟨.inl hk,c,hc,hc'⟩⟩
   ·rw [List.getElem?_set_ne (se hj)] at e2;obtain ⟨u',r',q⟩:=hl j y v' e1 e2 e3;refine⟨u',r',?_⟩;rcases q with q | ⟨k,c',e,z'⟩
    ·exact .inl q
    ·refine .inr ⟨k,c',e,z'.sameBut hs ?_⟩;rintro rfl;exact hj (DY hN e1 (I.ok.inj _ _ _ e hc ▸ hi))
  ·by_cases hcc:c'=c
   ·subst hcc;exact⟨_,hc'⟩
   ·obtain⟨w2,z2⟩:=I.cell y c' e;exact⟨w2,z2.sameBut hs hcc⟩
  ·obtain⟨e,n,ne,nf,d⟩:=I.pin p hp;refine⟨(hs.2 p.1 ?_).trans e,n,ne,nf,d⟩;intro q;rw[q,hoc]at e;have q':oc=p.2:=cS e;exact d w' (by rw[<- q'];exact hocd)
theorem tV{M:Model}{A:ye}{E:ES}{i:Nat}{x:Str}{v:V}{u:ue}{Q:Unit->ut->Prop}(I:Inv X ag σ H s)(hN:X.N.Nodup)(hi:X.N[i]?=some x)(hx:Loc X.env.scope x)(r:RelV v u)
  (h:∀s',Inv X ag (σ.set i (some v)) H s'->Q () s') (hf:X.fn x=true\/X.env.scope.names.lookup x=some .local:=by first|exact .inl rfl|exact .inr rfl|assumption):wpAny M A (storeName X.env x u) Q E s:=
 Aq I hN hi hx r (λs' I' _=>h s' I') hf
theorem Inv.call'{s':ut}{ch:LA}(I:Inv X ag σ H s)(ho:s'.os=s.os)(u:Un (frs X.stack) ch H H' s.heap s'.heap)(hok:HOk X.prog X.w H' s'.heap)(hg:Su s'.gens)
  (L5:∀b∈ch,(b∈X.ex\/X.s₀.heap.objs.size<=b)/\b≠X.env.locals/\(∀x c,X.env.cells.lookup x=some c->c≠b)/\∀p∈X.pn++ag,p.1≠b):Inv X ag σ H' s':=by
 obtain⟨h',g',d',t',o'⟩:=s';have e:o'=s.os:=ho;subst e;exact I.call (g':=g') (t':=t') (d':=d') u hok hg L5
end
abbrev XK:=ue->Option ax->Hp->Prop
abbrev St:=List OV
abbrev VK:=V->Hp->Prop
abbrev TE:=St->Hp->VK->Prop
abbrev TT:=St->Hp->(Bool->Hp->Prop)->Prop
abbrev TA:=St->Hp->(LV->Hp->Prop)->Prop
structure mT where
 nx:St->Hp->Prop
 rt:VK
 bk:St->Hp->Prop:=λ_ _=>False
 ct:St->Hp->Prop:=λ_ _=>False
abbrev TS:=mT->St->Hp->Prop
inductive EP (X:Cx) (ag:LO) (σ:St) (Q:VK) (u:ue) (s':ut):Prop
 |mk (v H':_):Inv X ag σ H' s'->RelV v u->Q v H'->EP X ag σ Q u s'
def TP(X:Cx)(ag:LO)(σ:St)(Q:Bool->Hp->Prop)(b:Bool)(s':ut):Prop:=∃H',Inv X ag σ H' s'/\Q b H'
inductive AP (X:Cx) (ag:LO) (σ:St) (Q:LV->Hp->Prop) (us:LU) (s':ut):Prop
 |mk (vs H':_):Inv X ag σ H' s'->Vals vs us->Q vs H'->AP X ag σ Q us s'
def SP(X:Cx)(ag:LO)(D:mT)(f:Flow)(s':ut):Prop:=
 match f with
 |.next=>∃cp H',Inv X ag cp H' s'/\D.nx cp H'
 |.brk=>∃cp H',Inv X ag cp H' s'/\D.bk cp H'
 |.cont=>∃cp H',Inv X ag cp H' s'/\D.ct cp H'
 |.ret u=>∃v cp H',Inv X ag cp H' s'/\RelV v u/\D.rt v H'
def PE(X:Cx)(e:Expr)(t:TE):Prop:=
 ∀(ag:LO) (s:ut) (σ:St) (H:Hp) (Q:VK),Inv X ag σ H s->t σ H Q->wpAny ‹7› X.A (cq e X.env) (EP X ag σ Q) X.xe s
def PT(X:Cx)(e:Expr)(t:TT):Prop:=
 ∀(ag:LO) (s:ut) (σ:St) (H:Hp) (Q:Bool->Hp->Prop),Inv X ag σ H s->t σ H Q->wpAny ‹7› X.A (isTrue e X.env (cq e X.env)) (TP X ag σ Q) X.xe s
def PW(X:Cx)(e:Expr)(t:TT):Prop:=
 ∀(zC:AG ue) (ag:LO) (s:ut) (σ:St) (H:Hp) (Q:Bool->Hp->Prop),Inv X ag σ H s->t σ H Q->wpAny ‹7› X.A (isTrue e X.env zC) (TP X ag σ Q) X.xe s
theorem PW.pt{X:Cx}{e:Expr}{t:TT}(h:PW X e t):PT X e t:=h _
abbrev XN:=@PW.pt
def PA(X:Cx)(es:List Expr)(t:TA):Prop:=
 ∀(bi:mo) (ag:LO) (s:ut) (σ:St) (H:Hp) (Q:LV->Hp->Prop),Inv X ag σ H s->t σ H Q->wpAny ‹7› X.A (spliced (JP bi (xF es X.env))) (AP X ag σ Q) X.xe s
def PS(X:Cx)(st:gz)(t:TS):Prop:=
 ∀(ag:LO) (s:ut) (σ:St) (H:Hp) (D:mT),Inv X ag σ H s->t D σ H->wpAny ‹7› X.A (exec st X.env) (SP X ag D) X.xe s
def PSs(X:Cx)(st:List gz)(t:TS):Prop:=
 ∀(ag:LO) (s:ut) (σ:St) (H:Hp) (D:mT),Inv X ag σ H s->t D σ H->wpAny ‹7› X.A (execs st X.env) (SP X ag D) X.xe s
theorem cb{α:Type}{t:AG α}{Q Q':α->ut->Prop}{M:Model}{A:ye}{E:ES}{s:ut}(h:wpAny M A t Q E s)(hQ:∀a s,Q a s->Q' a s):wpAny M A t Q' E s:=fF h hQ λ_ _ x=>x
section
variable {X:Cx}
theorem bin{a b:Expr}{ta tb:TE}(ha:PE X a ta)(hb:PE X b tb){ag:LO}{s:ut}{σ:St}{H:Hp}{R:V->V->Hp->Prop}(I:Inv X ag σ H s)(h:ta σ H λx H1=>tb σ H1 λy H2=>R x y H2)
  {α:Type} {Q:α->ut->Prop} {f:ue->ue->AG α}
  (hf:∀v u s2 x y H2,Inv X ag σ H2 s2->RelV x v->RelV y u->R x y H2->wpAny ‹7› X.A (f v u) Q X.xe s2):
  wpAny ‹7› X.A (cq a X.env) (λv bq=>wpAny ‹7› X.A (cq b X.env) (λu na=>wpAny ‹7› X.A (f v u) Q X.xe na) X.xe bq) X.xe s:=by
 refine cb (ha ag s σ H _ I h) λv s1 ⟨x,H1,I1,r1,q1⟩=>?_;refine cb (hb ag s1 σ H1 _ I1 q1) λu s2 ⟨y,H2,I2,r2,q2⟩=>?_;exact hf v u s2 x y H2 I2 r1 r2 q2
inductive UL (i:Nat) (σ:St) (H:Hp) (Q:VK):Prop
 |mk (v:_):σ[i]?=some (some v)->Q v H->UL i σ H Q
def tC(v:V):TE:=λ_ H Q=>Q v H
theorem U6{i:Nat}{x:Str}{bi:mo}(hN:X.N[i]?=some x)(hv:XE X.env.scope x)(hd:(x== ("__debug__":Str))=false:=by decide)(Iq:(x== ("__classdict__":Str))=false:=by decide):PE X (.Name x bi) (UL i):=by
 intro ag s σ H Q I h;obtain⟨v,e,h⟩:=h;obtain⟨m,hn,hl⟩:=I.loc;obtain⟨u,r,l⟩:=hl i x v hN e hv;have hJ:EP X ag σ Q u s:=⟨v,H,I,r,h⟩;rcases l with⟨hk,hm⟩|⟨hk,c,hc,EO⟩
 ·exact wpAny_Name (sQ I.ok.kind hk hn hm hJ) hd
 ·rcases hk with hk | hk
  ·exact wpAny_Name (u7 I.ok.kind hk hc EO hJ) hd
  ·exact wpAny_Name (wpAny_loadName_free I.ok.kind hk hc EO hJ Iq) hd
theorem aG{i j bi}:PE X (.Constant (.int i) j bi) (tC (.int i)):=λ_ _ _ H _ I h=>wpAny_Constant_int ⟨.int i,H,I.tok _,⟨_,rfl⟩,h⟩
theorem jP{b j bi}:PE X (.Constant (.bool b) j bi) (tC (.bl b)):=λ_ _ _ H _ I h=>Constant_bool ⟨.bl b,H,I,rfl,h⟩
theorem jz{j bi}:PE X (.Constant .none j bi) (tC .non):=λ_ _ _ H _ I h=>Constant_none ⟨.non,H,I,rfl,h⟩
theorem aP{x j bi}:PE X (.Constant (.str x) j bi) (tC (.str x)):=λ_ _ _ H _ I h=>Calls.Constant_str ⟨.str x,H,I.tok _,⟨_,rfl⟩,h⟩
def Gl(X:Cx)(x:Str):Prop:=X.env.kindOf x=some .globalImplicit
theorem Dg{E:ES}{ag:LO}{s:ut}{σ:St}{H:Hp}{x:Str}{u:ue}{bi:mo}{Q:ES}(I:Inv X ag σ H s)(hg:Gl X x)(hm:X.mg x=some u)(h:Q u s)
  (hd:(x== ("__debug__":Str))=false:=by decide):wpAny ‹7› X.A (cq (.Name x bi) X.env) Q E s:=
 Calls.Name_function_global I.ok.kind hg (Calls.loadGlobal_global (by rw[I.ok.glob];exact I.mod.glob.keeps I.bk) hm h) hd
theorem vB{E:ES}{ag:LO}{s:ut}{σ:St}{H:Hp}{x:Str}{u:ue}{bi:mo}{Q:ES}(I:Inv X ag σ H s)(hg:Gl X x)(hm:X.mg x=none)(hv:yf x=some u)(h:Q u s)
  (hn:x≠ "__name__":= by decide) (hd:(x== ("__debug__":Str))=false:=by decide):wpAny ‹7› X.A (cq (.Name x bi) X.env) Q E s:=by
 obtain⟨mb,h1,h2⟩:=I.mod.blt;exact Calls.Name_function_global I.ok.kind hg (Calls.loadGlobal_builtin (by rw[I.ok.glob];exact I.mod.glob.keeps I.bk) hm (by rw[I.ok.blt];exact h1.keeps I.bk) ((h2 x hn).trans hv) h) hd
theorem eZ{x:Str}{v:V}{u:ue}{bi:mo}(hg:Gl X x)(hm:X.mg x=some u)(r:RelV v u)(hd:(x== ("__debug__":Str))=false:=by decide):PE X (.Name x bi) (tC v):=
 λ_ _ _ H _ I h=>Dg I hg hm ⟨v,H,I,r,h⟩ hd
theorem iz{x:Str}{v:V}{u:ue}{bi:mo}(hg:Gl X x)(hm:X.mg x=none)(hv:yf x=some u)(r:RelV v u)(hn:x≠ "__name__":= by decide)(hd:(x== ("__debug__":Str))=false:=by decide):PE X (.Name x bi) (tC v):=
 λ_ _ _ H _ I h=>vB I hg hm hv ⟨v,H,I,r,h⟩ hn hd
variable {a b:Expr}{ta tb:TE}{bi:mo}
def PC(X:Cx)(op:Xy)(a b:Expr)(t:TE):Prop:=
 ∀(ag:LO) (s:ut) (σ:St) (H:Hp) (Q:VK),Inv X ag σ H s->t σ H Q->
  wpAny ‹7› X.A (cq a X.env) (λv bq=>wpAny ‹7› X.A (cq b X.env) (λu na=>wpAny ‹7› X.A (yo op v u) (EP X ag σ Q) X.xe na) X.xe bq) X.xe s
theorem DK(b:Expr){op:Xy}(h:op≠.In)(h2:op≠.NotIn):Hd op b=false:=by
 have e1:(op== Xy.In)=false:=by cases op <;>first|rfl|exact absurd rfl h
 have e2:(op== Xy.NotIn)=false:=by cases op <;>first|rfl|exact absurd rfl h2
 cases b <;>simp[Hd,e1,e2]
inductive tBI (Q:Bool->Hp->Prop) (x:V) (H1:Hp):Prop
 |mk (c:_):x=.bl c->Q c H1->tBI Q x H1
def tB(t:TE):TT:=λσ H Q=>t σ H λx H1=>tBI Q x H1
theorem Pn{op:Xy}{t:TE}(h:PC X op a b t)(h1:Hd op b=false:=by first|exact DK _ ‹11› ‹11›|rfl):PE X (.Compare a [op] [b] bi) t:=λag s σ H Q I hw=>wpAny_Compare1 (h ag s σ H Q I hw) h1
theorem CW{op:Xy}{t:TE}(h:PC X op a b t)(h1:Hd op b=false:=by first|exact DK _ ‹11› ‹11›|rfl):PT X (.Compare a [op] [b] bi) (tB t):=by
 intro ag s σ H Q I hw;refine sx (cb (h ag s σ H _ I hw) λv s1 h1=>cb h1 λu s2 h2=>cb h2 λc s3 ⟨x,H1,I1,r1,q1⟩=>?_) h1;obtain⟨d,rfl,q⟩:=q1;cases r1;exact gT ⟨H1,I1,q⟩
theorem fB{e:Expr}{t:TE}(h:PE X e t)(he:∀zC,isTrue e X.env zC=(do let v <- zC;WF e.pos;Q4 [v] (truthy v)):=by intro _;rfl):PT X e (tB t):=by
 intro ag s σ H Q I hw;refine isTrue_plain (cb (h ag s σ H _ I hw) λv s1 ⟨x,H1,I1,r1,q1⟩=>?_) (he _);obtain⟨d,rfl,q⟩:=q1;cases r1;exact gT ⟨H1,I1,q⟩
variable {tA tB':TT}{rest:List Expr}
def WL(t u:TT):TT:=λσ H Q=>t σ H λc H1=>if c=true then u σ H1 Q else Q false H1
def tOr(t u:TT):TT:=λσ H Q=>t σ H λc H1=>if c=true then Q true H1 else u σ H1 Q
def W8(t:TT):TT:=λσ H Q=>t σ H λc H1=>Q (!c) H1
theorem Dt(ha:PT X a tA):PW X (.BoolOp .And [a] bi) tA:=by
 intro wh ag s σ H Q I h;refine isTrue_and (cb (ha ag s σ H Q I h) λc s1 e=>?_);cases c with
 |true=>exact isTrue_and_nil e
 |false=>exact e
theorem je(ha:PT X a tA):PW X (.BoolOp .Or [a] bi) tA:=by
 intro wh ag s σ H Q I h;refine isTrue_or (cb (ha ag s σ H Q I h) λc s1 e=>?_);cases c with
 |false=>exact isTrue_or_nil e
 |true=>exact e
theorem Hw(ha:PT X a tA)(hb:PW X (.BoolOp .And (b::rest) bi) tB'):PW X (.BoolOp .And (a::b::rest) bi) (WL tA tB'):=by
 intro wh ag s σ H Q I h;refine isTrue_and (cb (ha ag s σ H _ I h) λc s1 ⟨H1,I1,q1⟩=>?_);cases c with
 |true=>exact hb wh ag s1 σ H1 Q I1 q1
 |false=>exact⟨H1,I1,q1⟩
theorem kZ(ha:PT X a tA)(hb:PW X (.BoolOp .Or (b::rest) bi) tB'):PW X (.BoolOp .Or (a::b::rest) bi) (tOr tA tB'):=by
 intro wh ag s σ H Q I h;refine isTrue_or (cb (ha ag s σ H _ I h) λc s1 ⟨H1,I1,q1⟩=>?_);cases c with
 |true=>exact⟨H1,I1,q1⟩
 |false=>exact hb wh ag s1 σ H1 Q I1 q1
theorem gH(ha:PT X a tA):PT X (.UnaryOp .Not a bi) (W8 tA):=by
 intro ag s σ H Q I h;exact isTrue_not (ha ag s σ H (λc H1=>Q (!c) H1) I h)
inductive Nr (tb:TE) (σ:St) (Q:VK) (x:V) (H1:Hp):Prop
 |mk (c:_):x=.bl c->(if c=true then tb σ H1 Q else Q (.bl false) H1)->Nr tb σ Q x H1
def Vp(ta tb:TE):TE:=λσ H Q=>ta σ H λx H1=>Nr tb σ Q x H1
inductive RK (tb:TE) (σ:St) (Q:VK) (x:V) (H1:Hp):Prop
 |mk (c:_):x=.bl c->(if c=true then Q (.bl true) H1 else tb σ H1 Q)->RK tb σ Q x H1
def WR(ta tb:TE):TE:=λσ H Q=>ta σ H λx H1=>RK tb σ Q x H1
inductive O4 (Q:VK) (x:V) (H1:Hp):Prop
 |mk (c:_):x=.bl c->Q (.bl (!c)) H1->O4 Q x H1
def Wa(ta:TE):TE:=λσ H Q=>ta σ H λx H1=>O4 Q x H1
theorem rH{op}{t:TE}(h:PE X a t):PE X (.BoolOp op [a] bi) t:=λag s σ H Q I hw=>BoolOp_one (h ag s σ H Q I hw)
theorem rK(ha:PE X a ta)(hb:PE X (.BoolOp .And (b::rest) bi) tb):PE X (.BoolOp .And (a::b::rest) bi) (Vp ta tb):=by
 intro ag s σ H Q I h;refine BoolOp_and (cb (ha ag s σ H _ I h) λv s1 ⟨x,H1,I1,r1,q1⟩=>?_);obtain⟨c,rfl,q1⟩:=q1;cases r1;refine gT ?_;cases c with
 |true=>exact hb ag s1 σ H1 Q I1 q1
 |false=>exact⟨.bl false,H1,I1,rfl,q1⟩
theorem VL(ha:PE X a ta)(hb:PE X (.BoolOp .Or (b::rest) bi) tb):PE X (.BoolOp .Or (a::b::rest) bi) (WR ta tb):=by
 intro ag s σ H Q I h;refine BoolOp_or (cb (ha ag s σ H _ I h) λv s1 ⟨x,H1,I1,r1,q1⟩=>?_);obtain⟨c,rfl,q1⟩:=q1;cases r1;refine gT ?_;cases c with
 |false=>exact hb ag s1 σ H1 Q I1 q1
 |true=>exact⟨.bl true,H1,I1,rfl,q1⟩
theorem Ti(ha:PE X a ta):PE X (.UnaryOp .Not a bi) (Wa ta):=by
 intro ag s σ H Q I h;refine UnaryOp_ (cb (ha ag s σ H _ I h) λv s1 ⟨x,H1,I1,r1,q1⟩=>?_);obtain⟨c,rfl,q1⟩:=q1;cases r1;exact not_of (gT ⟨.bl (!c),H1,I1,rfl,q1⟩)
def tIf(t:TT)(ta tb:TE):TE:=λσ H Q=>t σ H λc H1=>if c=true then ta σ H1 Q else tb σ H1 Q
theorem Pb{c:Expr}(hc:PT X c tA)(ha:PE X a ta)(hb:PE X b tb):PE X (.IfExp c a b bi) (tIf tA ta tb):=by
 intro ag s σ H Q I h;refine wpAny_IfExp (cb (hc ag s σ H _ I h) λd s1 ⟨H1,I1,q1⟩=>?_);cases d with
 |true=>exact ha ag s1 σ H1 Q I1 q1
 |false=>exact hb ag s1 σ H1 Q I1 q1
end
def SqL(K:PySem.W.Frag)(H:Hp)(a:ax)(xs:LV):Prop:=
 Rd H a (.lst xs)\/
  ∃(o:Obj) (its:AV) (n:Nat),K.lookup a=some o/\o.cls=.type "list" /\ o.dict=none/\o.data=.seq its n/\its.size<=ab/\Vals xs its.toList
def SqT(K:PySem.W.Frag)(H:Hp)(a:ax)(xs:LV):Prop:=
 Rd H a (.tup xs)\/
  ∃(o:Obj) (its:AV) (n:Nat),K.lookup a=some o/\o.cls=.type "tuple" /\ o.data=.seq its n/\its.size<=ab/\Vals xs its.toList
noncomputable def Xe:ue->OV
 |.none=>some .non
 |.bool b=>some (.bl b)
 |.int i _=>some (.int i)
 |.str x _=>some (.str x)
 |.bytes b _=>some (.byt b)
 |.float b _=>some (.flt b)
 |.ref a=>some (.ref a)
 |.type n=>some (.ty n)
 |_=>none
theorem RelV.abs{x:V}{u:ue}(r:RelV x u):Xe u=some x:=by
 cases x with
 |non=>cases r;rfl
 |bl _=>cases r;rfl
 |int _=>obtain⟨t,rfl⟩:=r;rfl
 |str _=>obtain⟨t,rfl⟩:=r;rfl
 |byt _=>obtain⟨t,rfl⟩:=r;rfl
 |flt _=>obtain⟨t,rfl⟩:=r;rfl
 |ref _=>cases r;rfl
 |ty _=>cases r;rfl
theorem RelV.inj{x y:V}{u:ue}(r:RelV x u)(q:RelV y u):x=y:=cS (r.abs.symm.trans q.abs)
theorem Vals.inj:∀{xs ys:LV} {us:LU},Vals xs us->Vals ys us->xs=ys
 |_,_,_,.nil,.nil=>rfl
 |_,_,_,.cons r t,.cons r' t'=>by rw[r.inj r',Vals.inj t t']
section
variable {X:Cx}{ag:LO}{σ:St}{H:Hp}{s:ut}{a:ax}{xs ys:LV}
theorem SqL.of{K:PySem.W.Frag}(h:H a=some (.lst xs)):SqL K H a xs:=.inl (.inl h)
abbrev XQ:=@SqL.of
theorem SqT.of{K:PySem.W.Frag}(h:H a=some (.tup xs)):SqT K H a xs:=.inl (.inl h)
abbrev XR:=@SqT.of
theorem Inv.list(I:Inv X ag σ H s)(h:SqL X.K H a xs):∃its:LU,Vals xs its/\PlainL s.heap a its.toArray/\xs.length<=ab:=by
 rcases h with h|⟨o,its,n,hk,hc,hd,hs,hz,r⟩
 ·obtain⟨z,its,n,r,e⟩:=h.ok I.hok;exact⟨its,r,⟨_,n,e,rfl,rfl,rfl⟩,z⟩
 ·refine⟨its.toList,r,⟨o,n,I.kIn a o hk,hc,hd,by simpa using hs⟩,?_⟩;have e:=r.length;simp only[ir]at e;omega
theorem Inv.tuple(I:Inv X ag σ H s)(h:SqT X.K H a xs):∃its:LU,Vals xs its/\IsTup s.heap a its.toArray/\xs.length<=ab:=by
 rcases h with h|⟨o,its,n,hk,hc,hs,hz,r⟩
 ·obtain⟨z,its,r,p⟩:=h.ok I.hok;exact⟨its,r,p,z.1⟩
 ·refine⟨its.toList,r,⟨o,I.kIn a o hk,hc,n,by simpa using hs⟩,?_⟩;have e:=r.length;simp only[ir]at e;omega
theorem Inv.zK(I:Inv X ag σ H s)(h:SqL X.K H a xs)(h':SqL X.K H a ys):xs=ys:=by
 obtain⟨its,r,⟨o,n,e,_,_,d⟩,_⟩:=I.list h;obtain⟨its',r',⟨o',n',e',_,_,d'⟩,_⟩:=I.list h';rw[e]at e';cases e';rw[d]at d';injection d' with d1 _;have:its=its':=by simpa using congrArg Array.toList d1
 subst this;exact r.inj r'
theorem Inv.uM(I:Inv X ag σ H s)(h:SqT X.K H a xs)(h':SqT X.K H a ys):xs=ys:=by
 obtain⟨its,r,⟨o,e,_,n,d⟩,_⟩:=I.tuple h;obtain⟨its',r',⟨o',e',_,n',d'⟩,_⟩:=I.tuple h';rw[e]at e';cases e';rw[d]at d';injection d' with d1 _;have:its=its':=by simpa using congrArg Array.toList d1
 subst this;exact r.inj r'
end
abbrev Cx.wish(X:Cx)(E:ES):Cx:={X with xe:=E}
abbrev Cx.nox(X:Cx):Cx:=X.wish λ_ _=>False
theorem Cx.Ok.wish{X:Cx}(ok:X.Ok)(E:ES):(X.wish E).Ok:=
 ⟨ok.mod,ok.kind,ok.glob,ok.blt,ok.above,ok.inj,ok.has,ok.cab,ok.hd,ok.frames,ok.stk,ok.exf,ok.bs,ok.bsz,ok.Ld,ok.Hl,ok.wY,ok.frf⟩
theorem Cx.Ok.tY{X:Cx}{E:ES}(ok:(X.wish E).Ok):X.Ok:=
 ⟨ok.mod,ok.kind,ok.glob,ok.blt,ok.above,ok.inj,ok.has,ok.cab,ok.hd,ok.frames,ok.stk,ok.exf,ok.bs,ok.bsz,ok.Ld,ok.Hl,ok.wY,ok.frf⟩
section
variable {X:Cx}{ag:LO}{σ:St}{H:Hp}{s:ut}{E:ES}
theorem Inv.wish(I:Inv X ag σ H s)(E:ES):Inv (X.wish E) ag σ H s:=⟨I.ok.wish E,I.os,I.bare,I.base,I.loc,I.cell,I.free,I.ur,I.pin,I.hok,I.len⟩
theorem Inv.tY(I:Inv (X.wish E) ag σ H s):Inv X ag σ H s:=⟨I.ok.tY,I.os,I.bare,I.base,I.loc,I.cell,I.free,I.ur,I.pin,I.hok,I.len⟩
theorem SP.tY{D:mT}{f:Flow}{s':ut}(h:SP (X.wish E) ag D f s'):SP X ag D f s':=by
 cases f with
 |next=>obtain⟨cp,H',I,q⟩:=h;exact⟨cp,H',I.tY,q⟩
 |brk=>obtain⟨cp,H',I,q⟩:=h;exact⟨cp,H',I.tY,q⟩
 |cont=>obtain⟨cp,H',I,q⟩:=h;exact⟨cp,H',I.tY,q⟩
 |ret u=>obtain⟨v,cp,H',I,r,q⟩:=h;exact⟨v,cp,H',I.tY,r,q⟩
theorem PSs.nox{st:List gz}{t:TS}(h:PSs X.nox st t):PSs X st t:=λag s σ H D I hw=>
 fF (h ag s σ H D (I.wish _) hw) (λ_ _ q=>q.tY) λ_ _ z=>yz z
end
section
variable {X:Cx}{st:gz}{rest:List gz}{t u:TS}{e:Expr}{te:TE}{bi:mo}
def RX:TS:=λD σ H=>D.nx σ H
def Wv(t u:TS):TS:=λD σ H=>t {D with nx:=u D} σ H
theorem aX:PSs X [] RX:=λ_ _ σ H _ I h=>qv ⟨σ,H,I,h⟩
theorem au(h1:PS X st t)(h2:PSs X rest u):PSs X (st::rest) (Wv t u):=by
 intro ag s σ H D I h;refine Xk (cb (h1 ag s σ H {D with nx:=u D} I h) λf s1 q=>?_);cases f with
 |next=>
  obtain⟨cp,H',I',q⟩:=q;exact h2 ag s1 cp H' D I' q
 |ret v=>exact q
 |brk=>exact q
 |cont=>exact q
theorem aF(h1:PS X st t):PSs X [st] t:=by
 intro ag s σ H D I h;refine Xk (cb (h1 ag s σ H D I h) λf s1 q=>?_);cases f with
 |next=>exact qv q
 |ret v=>exact q
 |brk=>exact q
 |cont=>exact q
theorem Inv.quiet{ag:LO}{σ:St}{H:Hp}{s:ut}(I:Inv X ag σ H s):interactive X.env=false:=by simp[interactive,I.ok.kind]
def V3(te:TE):TS:=λD σ H=>te σ H λ_ H1=>D.nx σ H1
theorem bH(he:PE X e te)(hs:XC e none bi.line X.env=Hb false:=by rfl):PS X (.Expr e bi) (V3 te):=by
 intro ag s σ H D I h;exact wpAny_Expr_any (cb (he ag s σ H _ I h) λv s1 ⟨x,H1,I1,r1,q1⟩=>⟨σ,H1,I1,q1⟩) I.quiet hs
def Xc(te:TE):TS:=λD σ H=>te σ H D.rt
theorem aM(he:PE X e te):PS X (.Return (some e) bi) (Xc te):=by
 intro ag s σ H D I h;exact wpAny_Return_some (cb (he ag s σ H _ I h) λv s1 ⟨x,H1,I1,r1,q1⟩=>⟨x,σ,H1,I1,r1,q1⟩)
def Wx(c:TT)(t u:TS):TS:=λD σ H=>c σ H λb H1=>if b=true then t D σ H1 else u D σ H1
theorem bL{c:Expr}{a b:List gz}{tc:TT}(hc:PT X c tc)(ha:PSs X a t)(hb:PSs X b u):PS X (.If c a b bi) (Wx tc t u):=by
 intro ag s σ H D I h;refine wpAny_If (cb (hc ag s σ H _ I h) λd s1 ⟨H1,I1,q1⟩=>?_);cases d with
 |true=>exact ha ag s1 σ H1 D I1 q1
 |false=>exact hb ag s1 σ H1 D I1 q1
def Uz:TS:=λ_ _ _=>False
theorem DQ:PS X st Uz:=λ_ _ _ _ _ _ h=>h.elim
end
abbrev TG:=V->St->Hp->(St->Hp->Prop)->Prop
abbrev QY:=LV->St->Hp->(St->Hp->Prop)->Prop
def PG(X:Cx)(nc:Expr)(t:TG):Prop:=
 ∀(ag:LO) (s:ut) (σ:St) (H:Hp) (v:V) (u:ue) (Q:St->Hp->Prop),Inv X ag σ H s->RelV v u->t v σ H Q->
  wpAny ‹7› X.A (oT nc X.env u) (λ_ s'=>∃cp H',Inv X ag cp H' s'/\Q cp H') X.xe s
def XU(X:Cx)(ts:List Expr)(t:QY):Prop:=
 ∀(ag:LO) (s:ut) (σ:St) (H:Hp) (vs:LV) (us:LU) (Q:St->Hp->Prop),Inv X ag σ H s->Vals vs us->t vs σ H Q->
  wpAny ‹7› X.A (vn ((PQ ts X.env).map (·.2)) us) (λ_ s'=>∃cp H',Inv X ag cp H' s'/\Q cp H') X.xe s
abbrev Tg:=V->V->V->Hp->(Hp->Prop)->Prop
def Vw(X:Cx)(t:Tg):Prop:=
 ∀(ag:LO) (s:ut) (σ:St) (H:Hp) (o i v:V) (ov iv u:ue) (Q:Hp->Prop),Inv X ag σ H s->RelV o ov->RelV i iv->RelV v u->t o i v H Q->
  wpAny ‹7› X.A (setItem ov iv u) (λ_ s'=>∃H',Inv X ag σ H' s'/\Q H') X.xe s
abbrev TIp:=V->V->Hp->VK->Prop
def PIp(X:Cx)(op:w9)(t:TIp):Prop:=
 ∀(ag:LO) (s:ut) (σ:St) (H:Hp) (x y:V) (v u:ue) (Q:VK),Inv X ag σ H s->RelV x v->RelV y u->t x y H Q->
  wpAny ‹7› X.A (xB op v u) (EP X ag σ Q) X.xe s
section
variable {X:Cx}{bi:mo}
def Jx(i:Nat):TG:=λv σ H Q=>Q (σ.set i (some v)) H
theorem aO{i:Nat}{x:Str}(hN:X.N.Nodup)(hi:X.N[i]?=some x)(hx:Loc X.env.scope x)(hf:X.fn x=true\/X.env.scope.names.lookup x=some .local:=by first|exact .inl rfl|exact .inr rfl|assumption):PG X (.Name x bi) (Jx i):=by
 intro ag s σ H v u Q I r h;exact wpAny_assign_Name (tV I hN hi hx r (λs' I'=>⟨_,H,I',h⟩) hf)
def W2:QY:=λvs σ H Q=>vs=[]/\Q σ H
inductive RZ (t:TG) (u:QY) (vs:LV) (σ:St) (H:Hp) (Q:St->Hp->Prop):Prop
 |mk (v r:_):vs=v::r->(t v σ H λcp H'=>u r cp H' Q)->RZ t u vs σ H Q
theorem jJ:XU X [] W2:=by
 intro ag s σ H vs us Q I r h;obtain⟨e,h⟩:=h;subst e;cases r;exact assignInOrder_nil ⟨σ,H,I,h⟩
theorem cu{e:Expr}{es:List Expr}{t:TG}{u:QY}(h1:PG X e t)(h2:XU X es u)
  (hs:(PQ (e::es) X.env).map (·.2)=oT e X.env::(PQ es X.env).map (·.2):=by rfl):XU X (e::es) (RZ t u):=by
 intro ag s σ H vs us Q I r h;obtain⟨v,vr,e1,h⟩:=h;subst e1;cases r with
 |cons r rr=>
  rw[hs];refine UV (cb (h1 ag s σ H _ _ _ I r h) λ_ s1 ⟨MR,H1,I1,q1⟩=>?_);exact h2 ag s1 MR H1 _ _ Q I1 rr q1
inductive Ul (K:PySem.W.Frag) (n:Nat) (t:QY) (v:V) (σ:St) (H:Hp) (Q:St->Hp->Prop):Prop
 |mk (a xs:_):v=.ref a->SqT K H a xs->xs.length=n->t xs σ H Q->Ul K n t v σ H Q
theorem PX{es:List Expr}{k:Nat}{t:QY}{n:Nat}(hc:X.calm=true)(h:XU X es t)
  (hn:(PQ es X.env).length=n:=by rfl) (mN:(PQ es X.env).findIdx? (·.1)=none:=by rfl):PG X (.Tuple es k bi) (Ul X.K n t):=by
 intro ag s σ H v u Q I r hw;obtain⟨a,xs,e1,hq,hl,hw⟩:=hw;subst e1;cases r;obtain⟨its,rv,ht,hz⟩:=I.tuple hq;refine assign_Tuple_tuple (I.ok.hd hc) ht (by simp[hn,<- hl,rv.length]) mN λh' hx=>?_;have I1:Inv X ag σ H {s with heap:=h'}:=I.kept (t':=s.toks) λb o e=>hx b o (d6 (cr e)) e;exact h ag _ σ H xs _ Q I1 (by simpa using rv) hw
def Wu(to ti:TE)(t:Tg):TG:=λv σ H Q=>to σ H λo H1=>ti σ H1 λi H2=>t o i v H2 λH3=>Q σ H3
theorem Dn{o i:Expr}{to ti:TE}{t:Tg}(ho:PE X o to)(hi:PE X i ti)(hs:Vw X t)
  (ha:∀v,oT (.Subscript o i bi) X.env v=(do
   let ov <- Q4 [v] (cq o X.env)
   let iv <- Q4 [v,ov] (cq i X.env)
   WF bi
   Q4 [v,ov,iv] (setItem ov iv v)
   release [v,ov,iv] []):=by intro _;rfl):PG X (.Subscript o i bi) (Wu to ti t):=by
 intro ag s σ H v u Q I r h;rw[ha];refine ae (ie (cb (ho ag s σ H _ I h) λov s1 ⟨x,H1,I1,r1,q1⟩=>?_));refine ae (ie (cb (hi ag s1 σ H1 _ I1 q1) λiv s2 ⟨y,H2,I2,r2,q2⟩=>?_));refine ae (kS (ae (ie (cb (hs ag s2 σ H2 x y v ov iv u _ I2 r1 r2 r q2) λ_ s3 ⟨H3,I3,q3⟩=>?_))));exact wpAny_release ⟨σ,H3,I3,q3⟩
def U9(te:TE)(g:TG):TS:=λD σ H=>te σ H λx H1=>g x σ H1 D.nx
theorem qw{tg e:Expr}{te:TE}{g:TG}(he:PE X e te)(hg:PG X tg g)(hs:swapsWithSole [tg] e bi.line X.env=Hb false:=by rfl)(hw:swappedStores [tg] e X.env=Hb none:=by rfl)
  (h1:(PQ [tg] X.env).map (·.2)=[oT tg X.env]:=by rfl):PS X (.Assign [tg] e bi) (U9 te g):=by
 intro ag s σ H D I h;refine wpAny_Assign_stores (cb (he ag s σ H _ I h) λv s1 ⟨x,H1,I1,r1,q1⟩=>?_) hs hw;rw[h1];exact cb (hg ag s1 σ H1 x v _ I1 r1 q1) λ_ s2 q=>q
theorem aU{i:Nat}{x:Str}{e:Expr}{te:TE}{tP:mo}(hN:X.N.Nodup)(hi:X.N[i]?=some x)(hx:Loc X.env.scope x)(he:PE X e te)(hs:XC e (some (.Name x tP)) bi.line X.env=Hb false:=by rfl)(hf:X.fn x=true\/X.env.scope.names.lookup x=some .local:=by first|exact .inl rfl|exact .inr rfl|assumption):
  PS X (.Assign [.Name x tP] e bi) (U9 te (Jx i)):=by
 intro ag s σ H D I h;refine wpAny_Assign_Name (cb (he ag s σ H _ I h) λv s1 ⟨y,H1,I1,r1,q1⟩=>?_) hs;exact tV I1 hN hi hx r1 (λs2 I2=>⟨_,H1,I2,q1⟩) hf
inductive Sy (i:Nat) (j:Nat) (D:mT) (σ:St) (vs:LV) (H1:Hp):Prop
 |mk (v w:_):vs=[v,w]->D.nx ((σ.set i (some v)).set j (some w)) H1->Sy i j D σ vs H1
def WQ(i j:Nat)(ta:TA):TS:=λD σ H=>ta σ H λvs H1=>Sy i j D σ vs H1
theorem T6{i j:Nat}{x y:Str}{a b:Expr}{ta:TA}{px py pt:mo}{kt k2 pt2}(hc:X.calm=true)(hN:X.N.Nodup)(hi:X.N[i]?=some x)(hj:X.N[j]?=some y)(hij:i≠j)
  (hx:X.env.scope.names.lookup x=some .local) (hy:X.env.scope.names.lookup y=some .local) (ha:PA X [a,b] ta)
  (hw:swappedStores [.Tuple [.Name x px,.Name y py] kt pt] (.Tuple [a,b] k2 pt2) X.env=Hb (some [x,y]))
  (hs:swapsWithSole [.Tuple [.Name x px,.Name y py] kt pt] (.Tuple [a,b] k2 pt2) bi.line X.env=Hb false:=by rfl):
  PS X (.Assign [.Tuple [.Name x px,.Name y py] kt pt] (.Tuple [a,b] k2 pt2) bi) (WQ i j ta):=by
 intro ag s σ H D I h;rw[exec_Assign_arm];refine ae (kS ?_);rw[hs];refine ae (aE ?_);rw[dC ‹11›];refine ae (Tuple_ (cb (ha _ ag s σ H _ I h) λus s1 ⟨vs,H1,I1,r1,q1⟩=>?_));obtain⟨v,w,e1,q1⟩:=q1;subst e1
 obtain⟨u1,u2,rfl,rv,tF⟩:∃u1 u2,us=[u1,u2]/\RelV v u1/\RelV w u2:=by
  cases r1 with
  |cons p q=>
   cases q with
   |cons p' q'=>
    cases q';exact⟨_,_,rfl,p,p'⟩
 refine gX ?_ (by show 2<=ab;decide);have I2:Inv X ag σ H1 {s1 with heap:=s1.heap.push {cls:=.type "tuple",data:=.seq [u1,u2].toArray} }:=I1.kept (t':=s1.toks) fun b o e=>am _ e;rw[hw];refine ae (aE ?_);show wpAny ‹7› X.A (do AH "assign.swapped-stores";let items <- unpackItems (.ref s1.heap.objs.size) 2 none;vn [fun v=>AI X.env y v,fun v=>AI X.env x v] items.reverse;Hb Flow.next) _ _ _;refine ae (jS (ae (unpackItems_tuple (items:=#[u1,u2]) (I.ok.hd hc) (sq s1.heap _) fun h' L6=>?_)));have I3:=I2.kept (h':=h') (t':=s1.toks) fun b o e=>L6 b o (d6 (cr e)) e;show wpAny _ _ (vn [fun v=>AI X.env y v,fun v=>AI X.env x v] [u2,u1] >>= fun _=>Hb Flow.next) _ _ _;refine ae (UV (wpAny_bindName (tV I3 hN hj (.inl hy) tF (fun s2 I4=>?_) (.inr hy))));refine UV (wpAny_bindName (tV I4 hN hi (.inl hx) rv (fun s3 I5=>assignInOrder_nil (aE ?_)) (.inr hx)));rw[List.set_comm _ _ (se hij)]at I5;exact⟨_,H1,I5,q1⟩
inductive V5 (i:Nat) (te:TE) (ti:TIp) (D:mT) (σ:St) (H:Hp):Prop
 |mk (x:_):σ[i]?=some (some x)->(te σ H λy H1=>ti x y H1 λz H2=>D.nx (σ.set i (some z)) H2)->V5 i te ti D σ H
theorem PN{i:Nat}{x:Str}{e:Expr}{te:TE}{op:w9}{ti:TIp}{tP:mo}(hN:X.N.Nodup)(hi:X.N[i]?=some x)(hx:Loc X.env.scope x)(he:PE X e te)(ho:PIp X op ti)(hf:X.fn x=true\/X.env.scope.names.lookup x=some .local:=by first|exact .inl rfl|exact .inr rfl|assumption):
  PS X (.AugAssign (.Name x tP) op e bi) (V5 i te ti):=by
 intro ag s σ H D I h;obtain⟨v,e1,h⟩:=h;obtain⟨m,hn,hl⟩:=I.loc;have vis:XE X.env.scope x:=by rcases hx with k|k;exact .inl k;exact .inr (.inl k)
 obtain⟨u,r,l⟩:=hl i x v hi e1 vis;refine wpAny_AugAssign_Name ?_
 have go:wpAny ‹7› X.A (cq e X.env) (λw na=>wpAny ‹7› X.A (xB op u w) (λr eh=>wpAny ‹7› X.A (storeName X.env x r) (λ_=>SP X ag D .next) X.xe eh) X.xe na) X.xe s:=by
  refine cb (he ag s σ H _ I h) λw s1 ⟨y,H1,I1,r1,q1⟩=>?_;refine cb (ho ag s1 σ H1 v y u w _ I1 r r1 q1) λz s2 ⟨zv,H2,I2,r2,q2⟩=>?_;exact tV I2 hN hi hx r2 (λs3 I3=>⟨_,H2,I3,q2⟩) hf
 rcases l with⟨hk,hm⟩|⟨hk,c,hc,EO⟩
 ·exact sQ I.ok.kind hk hn hm go
 ·rcases hk with hk | hk
  ·exact u7 I.ok.kind hk hc EO go
  ·rcases hx with k | k
   ·have:X.env.scope.names.lookup x=some .free:=hk;rw[k]at this;cases this
   ·have:X.env.scope.names.lookup x=some .free:=hk;rw[k]at this;cases this
end
section
variable {X:Cx}{bi:mo}
inductive NK (c:TT) (tb:TS) (D:mT) (σ:St) (H:Hp):Prop
 |mk (W:Nat->St->Hp->Prop):(∃m,W m σ H)->(∀m σ H,W m σ H->c σ H λb H1=>if b=true then∃N:St->Hp->Prop,(∀cp H',N cp H'->∃m',m'<m/\W m' cp H')/\tb {D with nx:=N,ct:=N,bk:=D.nx} σ H1 else D.nx σ H1)->NK c tb D σ H
theorem qJ{c:Expr}{zD:List gz}{tc:TT}{tb:TS}(hp:PassesOwn ‹7› X.A X.env X.xe)(hc:PT X c tc)(hb:PSs X zD tb):PS X (.While c zD [] bi) (NK tc tb):=by
 intro ag s σ H D I h;obtain⟨W,⟨m0,w0⟩,xk⟩:=h;refine wpAny_While (codeAny_whileLoop (λn s'=>∃cp H',Inv X ag cp H' s'/\W n cp H') ?_ m0 ⟨σ,H,I,w0⟩);rintro n s1 ⟨MR,H1,I1,w1⟩;refine kK hp (cb (hc ag s1 MR H1 _ I1 (xk n MR H1 w1)) λb s2 ⟨H2,I2,q2⟩=>?_);cases b with
 |true=>
  obtain⟨N,hN,q2⟩:=q2;rw[dL rfl];refine kK hp (cb (hb ag s2 MR H2 _ I2 q2) λf s3 q3=>?_);cases f with
  |next=>
   obtain⟨DH,H3,I3,n3⟩:=q3;obtain⟨m',hm,w3⟩:=hN DH H3 n3;exact⟨m',hm,DH,H3,I3,w3⟩
  |cont=>
   obtain⟨DH,H3,I3,n3⟩:=q3;obtain⟨m',hm,w3⟩:=hN DH H3 n3;exact⟨m',hm,DH,H3,I3,w3⟩
  |brk=>exact q3
  |ret v=>exact q3
 |false=>
  rw[dC az];exact qv ⟨MR,H2,I2,q2⟩
end
structure It where
 go:Nat->Hp->Prop
 yld:Nat->Hp->V->Hp->Prop
 stop:Nat->Hp->Prop
def qu(X:Cx)(ag:LO)(H:Hp)(b:ax):Prop:=
 H b=none/\b≠X.env.locals/\b∉X.fs/\(b∈X.ex\/X.s₀.heap.objs.size<=b)/\(∀x c,X.env.cells.lookup x=some c->c≠b)/\∀p∈X.pn++ag,p.1≠b
theorem Inv.qI{X:Cx}{ag:LO}{σ:St}{H H':Hp}{s:ut}{b:ax}(I:Inv X ag σ H s)(hb:s.heap.objs.size<=b)(hn:H' b=none):qu X ag H' b:=by
 refine⟨hn,fN (eB I.lt hb),I.W3 hb,.inr (dq I.sz hb),λx c e z=>?_,λp hp z=>?_⟩
 ·obtain⟨v,q⟩:=I.cell x c e;exact absurd (eB q.lt (by rw[z];exact hb)) (kR _)
 ·exact absurd (eB (cr (I.pin p hp).1) (by rw[z];exact hb)) (kR _)
structure wf (P:vy) (w:xm) (K:PySem.W.Frag) (tg:Expr) (J:It) (fp:LA) (it:ax) (tn:Nat->Heap->Prop):Prop where
 mem:it∈fp
 obj:∀i h,tn i h->∀b∈fp,∃o,h.get? b=some o/\∀v,o.data≠.cell v
 keep:∀i h h',tn i h->(∀b∈fp,∀o,h.get? b=some o->h'.get? b=some o)->tn i h'
 item:∀(X:Cx),X.prog=P->X.w=w->X.K=K->X.calm=true->∀(i:Nat) (ag:LO) (s:ut) (σ:St) (H:Hp) (E:ES),Inv X ag σ H s->(∀b∈fp,qu X ag H b)->tn i s.heap->J.go i H->
  wpAny (vz P w) X.A (M3 (.ref it)) (λr s1=>∃u,r=some u/\
   wpAny (vz P w) X.A (JS tg (.ref it) u) (λ_ s2=>∃x H',Inv X ag σ H' s2/\RelV x u/\J.yld i H x H'/\tn (i+1) s2.heap/\∀b∈fp,H' b=none) E s1) E s
 done:∀(X:Cx),X.prog=P->X.w=w->X.K=K->X.calm=true->∀(i:Nat) (ag:LO) (s:ut) (σ:St) (H:Hp) (E:ES),Inv X ag σ H s->(∀b∈fp,qu X ag H b)->tn i s.heap->J.stop i H->
  wpAny (vz P w) X.A (M3 (.ref it)) (λr s1=>r=none/\Inv X ag σ H s1) E s
 self:∀(A:ye) (i:Nat) (s:ut) (Q:ES) (E:ES),tn i s.heap->Q (.ref it) s->wpAny (vz P w) A (pyIter (.ref it)) Q E s
abbrev TI:=St->Hp->(It->Hp->Prop)->Prop
def PIE(X:Cx)(ag:LO)(σ:St)(tg:Expr)(R:It->Hp->Prop)(XV:ue)(s2:ut):Prop:=
 ∃(it:ax) (fp:LA) (tn:Nat->Heap->Prop) (J:It) (H':Hp),XV=.ref it/\Inv X ag σ H' s2/\wf X.prog X.w X.K tg J fp it tn/\tn 0 s2.heap/\(∀b∈fp,qu X ag H' b)/\R J H'
def PI(X:Cx)(tg eD:Expr)(wi:TI):Prop:=
 ∀(ag:LO) (s:ut) (σ:St) (H:Hp) (R:It->Hp->Prop),Inv X ag σ H s->wi σ H R->
  wpAny ‹7› X.A (cq eD X.env) (λv s1=>wpAny ‹7› X.A (pyIter v) (PIE X ag σ tg R) X.xe s1) X.xe s
theorem JL{M:Model}{A:ye}{E:ES}{s:ut}{tg:Expr}{it:ax}{u:ue}{o:Obj}{n:String}{vs:AV}{Q:Unit->ut->Prop}(ho:s.heap.get? it=some o)(hc:o.cls=.type n)(hd:o.data=.fields vs)
    (hn:["enumerate","zip","dict_itemiterator","dict_reverseitemiterator","odict_iterator","itertools.zip_longest","itertools.pairwise"].contains n=false) (hQ:Q () s):wpAny M A (JS tg (.ref it) u) Q E s:=by
  unfold JS
  cases tg <;> first
    |exact aE hQ
    | (cases u <;> first
        |exact aE hQ
        | (refine ae (wpAny_load ho ?_)
           rw[hc,hd];show wpAny M A (if(["enumerate","zip","dict_itemiterator","dict_reverseitemiterator","odict_iterator","itertools.zip_longest","itertools.pairwise"].contains n && vs[0]?== some (sR _))=true then _ else _) Q E s;rw[dC (by intro h;rw[hn,Bool.false_and]at h;cases h)];exact aE hQ))
def MS(K:PySem.W.Frag)(a:ax):It:=
 ⟨λi H=>∃xs x,SqL K H a xs/\xs[i]?=some x,λi H x H'=>H'=H/\∀xs,SqL K H a xs->xs[i]?=some x,λi H=>∃xs,SqL K H a xs/\xs.length<=i⟩
def MU(K:PySem.W.Frag)(a:ax):It:=
 ⟨λi H=>∃xs x,SqT K H a xs/\xs[i]?=some x,λi H x H'=>H'=H/\∀xs,SqT K H a xs->xs[i]?=some x,λi H=>∃xs,SqT K H a xs/\xs.length<=i⟩
def UQ(lo:Int)(n:Nat):It:=⟨λi _=>i<n,λi H x H'=>H'=H/\x=.int (lo+i),λi _=>n<=i⟩
theorem wX{P:vy}{w:xm}{K:PySem.W.Frag}{tg:Expr}(a it:ax):wf P w K tg (MS K a) [it] it (λi h=>h.IsListIter it a i)where
 mem:=by simp
 obj:=λi h st b hb=>by
  have e:b=it:=by simpa using hb
  subst e;obtain⟨o,e,c,d⟩:=st;exact⟨o,e,λv z=>by rw[d]at z;cases z⟩
 keep:=λi h h' st k=>st.at λo e=>k it (by simp) o e
 item:=by
  intro X hP hw hK hc i ag s σ H E I hf st hg;subst hP hw hK;obtain⟨xs,x,hq,hx⟩:=hg;obtain⟨its,rv,p,hz⟩:=I.list hq;obtain⟨u,hu,ru⟩:=rv.get hx;obtain⟨f0,f1,f2,f3,f4,f5⟩:=hf it (by simp);refine pc st p.isList (x:=u) (by simpa using hu) λh' BH sb=>?_;have I1:Inv X ag σ H {s with heap:=h'}:=I.turned (t':=s.toks) (λb o hb e=>(sb.2 b hb).trans e) f0 f1 f3 f4 f5;obtain⟨o,e,c,d⟩:=id BH;exact⟨u,rfl,JL (s:={s with heap:=h'}) e c d ‹11› ⟨x,H,I1,ru,⟨rfl,λys hy=>by rw[I.zK hy hq];exact hx⟩,BH,λb hb=>(hf b hb).1⟩⟩
 done:=by
  intro X hP hw hK hc i ag s σ H E I hf st hg;subst hP hw hK;obtain⟨xs,hq,hx⟩:=hg;obtain⟨its,rv,p,hz⟩:=I.list hq;obtain⟨f0,f1,f2,f3,f4,f5⟩:=hf it (by simp);have hl:=rv.length;exact sA (I.ok.hd hc) st p.isList (by simp;omega) λh' eb=>⟨rfl,I.turned (t':=s.toks) (λb o hb e=>eb b o hb e) f0 f1 f3 f4 f5⟩
 self:=λ_ _ _ _ _ st h=>wpAny_pyIter_listiter st h
theorem vI{P:vy}{w:xm}{K:PySem.W.Frag}{tg:Expr}(a it:ax):wf P w K tg (MU K a) [it] it (λi h=>h.IsTupleIter it a i)where
 mem:=by simp
 obj:=λi h st b hb=>by
  have e:b=it:=by simpa using hb
  subst e;obtain⟨o,e,c,d⟩:=st;exact⟨o,e,λv z=>by rw[d]at z;cases z⟩
 keep:=λi h h' st k=>st.at λo e=>k it (by simp) o e
 item:=by
  intro X hP hw hK hc i ag s σ H E I hf st hg;subst hP hw hK;obtain⟨xs,x,hq,hx⟩:=hg;obtain⟨its,rv,p,hz⟩:=I.tuple hq;obtain⟨u,hu,ru⟩:=rv.get hx;obtain⟨f0,f1,f2,f3,f4,f5⟩:=hf it (by simp);refine oS st (show s.heap.IsTuple a its.toArray from p) (x:=u) (by simpa using hu) λh' BH sb=>?_;have I1:Inv X ag σ H {s with heap:=h'}:=I.turned (t':=s.toks) (λb o hb e=>(sb.2 b hb).trans e) f0 f1 f3 f4 f5;obtain⟨o,e,c,d⟩:=id BH;exact⟨u,rfl,JL (s:={s with heap:=h'}) e c d ‹11› ⟨x,H,I1,ru,⟨rfl,λys hy=>by rw[I.uM hy hq];exact hx⟩,BH,λb hb=>(hf b hb).1⟩⟩
 done:=by
  intro X hP hw hK hc i ag s σ H E I hf st hg;subst hP hw hK;obtain⟨xs,hq,hx⟩:=hg;obtain⟨its,rv,p,hz⟩:=I.tuple hq;obtain⟨f0,f1,f2,f3,f4,f5⟩:=hf it (by simp);have hl:=rv.length;exact o0 (I.ok.hd hc) st (show s.heap.IsTuple a its.toArray from p) (by simp;omega) λh' eb=>⟨rfl,I.turned (t':=s.toks) (λb o hb e=>eb b o hb e) f0 f1 f3 f4 f5⟩
 self:=λ_ _ _ _ _ st h=>wpAny_pyIter_tupleiter st h
theorem GJ{P:vy}{w:xm}{K:PySem.W.Frag}{tg:Expr}(it:ax)(lo:Int)(n:Nat):wf P w K tg (UQ lo n) [it] it (λi h=>IsRangeIter h it (lo+(i:Nat)*1) ((n:Int) - (i:Nat)) 1)where
 mem:=by simp
 obj:=λi h st b hb=>by
  have e:b=it:=by simpa using hb
  subst e
  exact⟨_,st,λv z=>by
   have z':Data.fields _=Data.cell v:=z;cases z'⟩
 keep:=λi h h' st k=>k it (by simp) _ st
 item:=by
  intro X hP hw hK hc i ag s σ H E I hf st hg;subst hP hw hK;obtain⟨f0,f1,f2,f3,f4,f5⟩:=hf it (by simp);have W:=Walks.range (prog:=X.prog) (w:=X.w) (I.ok.hd hc) it lo 1 n;refine W.item i s _ _ hg st fun v h' tk hv BH kk=>?_;obtain⟨t,rfl⟩:=hv;have I1:Inv X ag σ H {s with heap:=h',toks:=tk}:=I.turned (fun b o hb e=>kk b o (by simpa using hb) e) f0 f1 f3 f4 f5;refine⟨_,rfl,JL (s:={s with heap:=h',toks:=tk}) (n:= "range_iterator") BH rfl rfl ‹11› ⟨.int (lo+i),H,I1,⟨t,?_⟩,⟨rfl,rfl⟩,BH,fun b hb=>(hf b hb).1⟩⟩;rw[Int.mul_one]
 done:=by
  intro X hP hw hK hc i ag s σ H E I hf st hg;subst hP hw hK;obtain⟨f0,f1,f2,f3,f4,f5⟩:=hf it (by simp);exact wpAny_pyNext_range_end (I.ok.hd hc) st (by have:n<=i:=hg;omega) λh' eb=>⟨rfl,I.turned (t':=s.toks) (λb o hb e=>eb b o hb e) f0 f1 f3 f4 f5⟩
 self:=λ_ _ _ _ _ st h=>wpAny_pyIter_rangeiter st h
section
variable {X:Cx}{tg:Expr}
inductive Pk (K:PySem.W.Frag) (R:It->Hp->Prop) (x:V) (H1:Hp):Prop
 |mk (a:_):x=.ref a->(∃xs,SqL K H1 a xs)->R (MS K a) H1->Pk K R x H1
def R3(K:PySem.W.Frag)(tl:TE):TI:=λσ H R=>tl σ H λx H1=>Pk K R x H1
inductive Sx (K:PySem.W.Frag) (R:It->Hp->Prop) (x:V) (H1:Hp):Prop
 |mk (a:_):x=.ref a->(∃xs,SqT K H1 a xs)->R (MU K a) H1->Sx K R x H1
def Vm(K:PySem.W.Frag)(tl:TE):TI:=λσ H R=>tl σ H λx H1=>Sx K R x H1
theorem Qq{l:Expr}{tl:TE}(hl:PE X l tl):PI X tg l (R3 X.K tl):=by
 intro ag s σ H R I h;refine cb (hl ag s σ H _ I h) λv s1 ⟨x,H1,I1,r1,q1⟩=>?_;obtain⟨a,e,⟨xs,hq⟩,q⟩:=q1;subst e;cases r1;obtain⟨its,rv,p,hz⟩:=I1.list hq;refine ce p.isList ?_;refine⟨s1.heap.objs.size,[s1.heap.objs.size],_,_,H1,rfl,I1.kept (t':=s1.toks) λb o e=>am _ e,wX a _,⟨_,bn _ rfl,rfl,rfl⟩,λb hb=>?_,q⟩;have e:b=s1.heap.objs.size:=by simpa using hb
 subst e;exact I1.qI (af _) (I1.hok.fresh (af _))
theorem Hy{l:Expr}{tl:TE}(hl:PE X l tl):PI X tg l (Vm X.K tl):=by
 intro ag s σ H R I h;refine cb (hl ag s σ H _ I h) λv s1 ⟨x,H1,I1,r1,q1⟩=>?_;obtain⟨a,e,⟨xs,hq⟩,q⟩:=q1;subst e;cases r1;obtain⟨its,rv,p,hz⟩:=I1.tuple hq;refine ca (show s1.heap.IsTuple a its.toArray from p) ?_;refine⟨s1.heap.objs.size,[s1.heap.objs.size],_,_,H1,rfl,I1.kept (t':=s1.toks) λb o e=>am _ e,vI a _,⟨_,bn _ rfl,rfl,rfl⟩,λb hb=>?_,q⟩;have e:b=s1.heap.objs.size:=by simpa using hb
 subst e;exact I1.qI (af _) (I1.hok.fresh (af _))
theorem O7{ag:LO}{σ:St}{H:Hp}{s:ut}{R:It->Hp->Prop}{E:ES}{lo hi:Int}{t u v:Tok}{tk:Nat}(I:Inv X ag σ H s)(h1:-(2^62)<=lo)(h2:lo<2^62)(h3:-(2^62)<=hi)(h4:hi<2^62)
  (q:R (UQ lo (hi - lo).toNat) H):wpAny ‹7› X.A (pyIter (.ref s.heap.objs.size)) (PIE X ag σ tg R) E {s with heap:=s.heap.push {cls:=.type "range",data:=.fields #[.int lo t,.int hi u,.int 1 v]},toks:=tk}:=by
 refine wpAny_pyIter_range (IsRange.new ..) (small_one h1 h2 h3 h4) ?_;have I1:Inv X ag σ H {s with heap:=s.heap.push {cls:=.type "range",data:=.fields #[.int lo t,.int hi u,.int 1 v]},toks:=tk}:=I.kept fun b o e=>am _ e
 refine⟨(s.heap.push {cls:=.type "range",data:=.fields #[.int lo t,.int hi u,.int 1 v]}).objs.size,[(s.heap.push {cls:=.type "range",data:=.fields #[.int lo t,.int hi u,.int 1 v]}).objs.size],_,_,H,rfl,
  I1.kept (t':=tk) λb o e=>am _ e,GJ _ lo (hi - lo).toNat,?_,λb hb=>?_,q⟩
 ·have e1:lo+((0:Nat):Int) * 1=lo:=by simp
  have e2:(((hi - lo).toNat:Nat):Int) - ((0:Nat):Int)=xf.Range.rangeSize lo hi 1:=by rw[rangeSize_one];split <;>omega
  show IsRangeIter _ _ (lo+((0:Nat):Int)*1) ((((hi - lo).toNat:Nat):Int) - ((0:Nat):Int)) 1;rw[e1,e2];exact bn _ rfl
 ·have e:b=(s.heap.push { cls:=.type "range",data:=.fields #[.int lo t,.int hi u,.int 1 v] }).objs.size:=by simpa using hb
  subst e;exact I1.qI (af _) (I1.hok.fresh (af _))
inductive Oo (R:It->Hp->Prop) (vs:LV) (H1:Hp):Prop
 |mk (j:Int):vs=[.int j]->-(2^62)<=j->j<2^62->R (UQ 0 j.toNat) H1->Oo R vs H1
def Vz(ta:TA):TI:=λσ H R=>ta σ H λvs H1=>Oo R vs H1
theorem iY{a:Expr}{ta:TA}{p bi:mo}(hg:Gl X "range")(hm:X.mg "range" =none)(ha:PA X [a] ta)(hs:xF [a] X.env=[(false,cq a X.env)]:=by rfl):PI X tg (.Call (.Name "range" p) [a] [] bi) (Vz ta):=by
 intro ag s σ H R I h;refine Call_ (vB I hg hm boot_range (jI (cb (ha bi ag s σ H _ I h) λus s1 ⟨vs,H1,I1,r1,q1⟩=>?_) hs rfl));obtain⟨j,e,q1,q2,q⟩:=q1;subst e;cases r1 with
 |cons r rr=>
  cases rr;obtain⟨t,rfl⟩:=r;exact call_range_1 (O7 I1 ‹21› ‹21› q1 q2 (by simpa using q))
def Wz(wi:TI)(g:TG)(tb:TS):TS:=λD σ H=>wi σ H λJ H1=>∃W:Nat->Nat->St->Hp->Prop,(∃m,W 0 m σ H1)/\∀i m σ H,W i m σ H->
 (J.stop i H/\D.nx σ H)\/(J.go i H/\∃N:St->Hp->Prop,(∀cp H',N cp H'->∃m',m'<m/\W (i+1) m' cp H')/\∀x H',J.yld i H x H'->g x σ H' λmd H2=>tb {D with nx:=N,ct:=N,bk:=D.nx} md H2)
def w6(fp:LA)(h:Heap):LO:=fp.filterMap λb=>(h.get? b).map λo=>(b,o)
theorem mz{fp:LA}{h:Heap}{b:ax}{o:Obj}(hb:b∈fp)(e:h.get? b=some o):(b,o)∈w6 fp h:=List.mem_filterMap.mpr ⟨b,hb,by rw[e];rfl⟩
theorem J7{fp:LA}{h:Heap}{p:ax×Obj}(hp:p∈w6 fp h):p.1∈fp/\h.get? p.1=some p.2:=by
 obtain⟨b,hb,e⟩:=List.mem_filterMap.mp hp;cases q:h.get? b with
 |none=>rw[q]at e;cases e
 |some o=>
  rw[q]at e;have e':(b,o)=p:=cS e;subst e';exact⟨hb,q⟩
theorem Inv.pinned{ag:LO}{σ:St}{H:Hp}{s:ut}{fp:LA}(I:Inv X ag σ H s)(hf:∀b∈fp,qu X ag H b)(ho:∀b∈fp,∃o,s.heap.get? b=some o/\∀v,o.data≠.cell v):Inv X (ag++w6 fp s.heap) σ H s:=
 I.JH λp hp=>(bu.mp hp).elim (λz=>I.pin p (dQ _ z)) λz=>by
  obtain⟨hb,e⟩:=J7 z;obtain⟨f0,f1,f2,_⟩:=hf p.1 hb;obtain⟨o,e',d⟩:=ho p.1 hb;rw[e]at e';cases e';exact⟨e,f0,f1,f2,d⟩
theorem Inv.uc{ag pl:LO}{σ:St}{H:Hp}{s:ut}(I:Inv X (ag++pl) σ H s):Inv X ag σ H s:=I.JH λp hp=>I.pin p (dQ _ (i7 _ hp))
theorem fG{eD:Expr}{zD:List gz}{wi:TI}{g:TG}{tb:TS}{bi:mo}(hp:PassesOwn ‹7› X.A X.env X.xe)(hc:X.calm=true)(hi:PI X tg eD wi)(hg:PG X tg g)(hb:PSs X zD tb)
  (hs:∀x,ft eD X.env x=Hb x:=by intro _;rfl):PS X (.For tg eD zD [] bi) (Wz wi g tb):=by
 intro ag s σ H D I h;refine wpAny_For (cb (hi ag s σ H _ I h) λv s1 h1=>cb h1 λXV s2 h2=>?_) hs;obtain⟨it,fp,tn,J,H2,e,I2,T,CA,f2,W,⟨m0,w0⟩,xk⟩:=h2;subst e;have xo:∀{H':Hp},(∀b∈fp,H' b=none)->∀b∈fp,qu X ag H' b:=λhn b hb=>⟨hn b hb,(f2 b hb).2⟩;refine codeAny_forLoop_any (λn s'=>∃i cp H',Inv X ag cp H' s'/\tn i s'.heap/\(∀b∈fp,H' b=none)/\W i n cp H') ?_ m0 ⟨0,σ,H2,I2,CA,λb hb=>(f2 b hb).1,w0⟩;rintro n s3 ⟨i,DH,H3,I3,Q1,XW,w3⟩;rcases xk i n DH H3 w3 with⟨stop,qn⟩|⟨go,N,hN,step⟩
 ·refine kK hp (cb (T.done X rfl rfl rfl hc i ag s3 DH H3 X.xe I3 (xo XW) Q1 stop) λr s4 ⟨hr,I4⟩=>?_);subst hr;exact qv ⟨DH,H3,I4,qn⟩
 ·refine kK hp (cb (T.item X rfl rfl rfl hc i ag s3 DH H3 X.xe I3 (xo XW) Q1 go) fun r s4 ⟨u,hr,h4⟩=>?_);subst hr;refine kK hp (cb h4 fun _ s5 ⟨x,H5,I5,r5,y5,L7,UR⟩=>?_);have I5':=I5.pinned (xo UR) (T.obj _ _ L7);refine kK hp (cb (hg _ s5 DH H5 x u _ I5' r5 (step x H5 y5)) fun _ s6 ⟨XY,H6,I6,q6⟩=>?_);refine kK hp (cb (hb _ s6 XY H6 _ I6 q6) fun f s7 q7=>?_)
  have again:∀{CB:St} {H7:Hp},Inv X (ag++w6 fp s5.heap) CB H7 s7->N CB H7->∃m,m<n/\∃i cp H',Inv X ag cp H' s7/\tn i s7.heap/\(∀b∈fp,H' b=none)/\W i m cp H':=λ{CB H7} I7 n7=>by
   obtain⟨m',hm,w7⟩:=hN CB H7 n7;refine⟨m',hm,i+1,CB,H7,I7.uc,T.keep _ _ _ L7 λb hb o e=>(I7.pin (b,o) (dQ _ (dQ _ (mz hb e)))).1,λb hb=>?_,w7⟩;obtain⟨o,e,d⟩:=T.obj _ _ L7 b hb;exact(I7.pin (b,o) (dQ _ (dQ _ (mz hb e)))).2.1
  cases f with
  |next=>obtain⟨CB,H7,I7,n7⟩:=q7;exact again I7 n7
  |cont=>obtain⟨CB,H7,I7,n7⟩:=q7;exact again I7 n7
  |brk=>obtain⟨CB,H7,I7,q7⟩:=q7;exact⟨CB,H7,I7.uc,q7⟩
  |ret v=>obtain⟨x7,CB,H7,I7,r7,q7⟩:=q7;exact⟨x7,CB,H7,I7.uc,r7,q7⟩
end
theorem vW{K:PySem.W.Frag}{a:ax}{xs:LV}{g:TG}{tb:TS}{D:mT}{σ:St}{H:Hp}(Pv:Nat->St->Hp->Prop)(h0:Pv 0 σ H)(hl:∀i σ H,i<=xs.length->Pv i σ H->SqL K H a xs)
  (hs:∀i x σ H,xs[i]?=some x->Pv i σ H->g x σ H λmd H2=>tb {D with nx:=Pv (i+1),ct:=Pv (i+1),bk:=D.nx} md H2) (hd:∀σ H,Pv xs.length σ H->D.nx σ H):
  ∃W:Nat->Nat->St->Hp->Prop,(∃m,W 0 m σ H)/\∀i m σ H,W i m σ H->
   ((MS K a).stop i H/\D.nx σ H)\/((MS K a).go i H/\∃N:St->Hp->Prop,(∀cp H',N cp H'->∃m',m'<m/\W (i+1) m' cp H')/\∀x H',(MS K a).yld i H x H'->g x σ H' λmd H2=>tb {D with nx:=N,ct:=N,bk:=D.nx} md H2):=by
 refine⟨λi m σ H=>m=xs.length - i/\i<=xs.length/\Pv i σ H,⟨xs.length,by simp,ck _,h0⟩,?_⟩;rintro i m σ H ⟨rfl,hi,p⟩;have q:=hl i σ H hi p
 by_cases lc:i<xs.length
 ·refine .inr ⟨⟨xs,xs[i],q,by simp[lc]⟩,Pv (i+1),λcp H' p'=>⟨xs.length - (i+1),by omega,rfl,lc,p'⟩,λx H' y=>?_⟩;obtain⟨e,y⟩:=y;subst e;exact hs i x σ _ (y xs q) p
 ·have e:i=xs.length:=by omega
  subst e;exact .inl ⟨⟨xs,q,af _⟩,hd σ H p⟩
theorem nq{K:PySem.W.Frag}{a:ax}{xs:LV}{g:TG}{tb:TS}{D:mT}{σ:St}{H:Hp}(Pv:Nat->St->Hp->Prop)(h0:Pv 0 σ H)(hl:∀i σ H,i<=xs.length->Pv i σ H->SqT K H a xs)
  (hs:∀i x σ H,xs[i]?=some x->Pv i σ H->g x σ H λmd H2=>tb {D with nx:=Pv (i+1),ct:=Pv (i+1),bk:=D.nx} md H2) (hd:∀σ H,Pv xs.length σ H->D.nx σ H):
  ∃W:Nat->Nat->St->Hp->Prop,(∃m,W 0 m σ H)/\∀i m σ H,W i m σ H->
   ((MU K a).stop i H/\D.nx σ H)\/((MU K a).go i H/\∃N:St->Hp->Prop,(∀cp H',N cp H'->∃m',m'<m/\W (i+1) m' cp H')/\∀x H',(MU K a).yld i H x H'->g x σ H' λmd H2=>tb {D with nx:=N,ct:=N,bk:=D.nx} md H2):=by
 refine⟨λi m σ H=>m=xs.length - i/\i<=xs.length/\Pv i σ H,⟨xs.length,by simp,ck _,h0⟩,?_⟩;rintro i m σ H ⟨rfl,hi,p⟩;have q:=hl i σ H hi p
 by_cases lc:i<xs.length
 ·refine .inr ⟨⟨xs,xs[i],q,by simp[lc]⟩,Pv (i+1),λcp H' p'=>⟨xs.length - (i+1),by omega,rfl,lc,p'⟩,λx H' y=>?_⟩;obtain⟨e,y⟩:=y;subst e;exact hs i x σ _ (y xs q) p
 ·have e:i=xs.length:=by omega
  subst e;exact .inl ⟨⟨xs,q,af _⟩,hd σ H p⟩
theorem mq{lo:Int}{n:Nat}{g:TG}{tb:TS}{D:mT}{σ:St}{H:Hp}(Pv:Nat->St->Hp->Prop)(h0:Pv 0 σ H)
  (hs:∀i σ H,i<n->Pv i σ H->g (.int (lo+i)) σ H λmd H2=>tb {D with nx:=Pv (i+1),ct:=Pv (i+1),bk:=D.nx} md H2) (hd:∀σ H,Pv n σ H->D.nx σ H):
  ∃W:Nat->Nat->St->Hp->Prop,(∃m,W 0 m σ H)/\∀i m σ H,W i m σ H->
   ((UQ lo n).stop i H/\D.nx σ H)\/((UQ lo n).go i H/\∃N:St->Hp->Prop,(∀cp H',N cp H'->∃m',m'<m/\W (i+1) m' cp H')/\∀x H',(UQ lo n).yld i H x H'->g x σ H' λmd H2=>tb {D with nx:=N,ct:=N,bk:=D.nx} md H2):=by
 refine⟨λi m σ H=>m=n - i/\i<=n/\Pv i σ H,⟨n,by simp,ck _,h0⟩,?_⟩;rintro i m σ H ⟨rfl,hi,p⟩
 by_cases lc:i<n
 ·refine .inr ⟨lc,Pv (i+1),λcp H' p'=>⟨n - (i+1),by omega,rfl,lc,p'⟩,λx H' y=>?_⟩;obtain⟨e,y⟩:=y;subst e y;exact hs i σ _ lc p
 ·have e:i=n:=by omega
  subst e;exact .inl ⟨af _,hd σ H p⟩
abbrev R2:=V->V->Hp->VK->Prop
def OpR(X:Cx)(f:ue->ue->AG ue)(r:R2):Prop:=
 ∀(ag:LO) (s:ut) (σ:St) (H:Hp) (x y:V) (v u:ue) (Q:VK),Inv X ag σ H s->RelV x v->RelV y u->r x y H Q->
  wpAny ‹7› X.A (f v u) (EP X ag σ Q) X.xe s
def UnR(X:Cx)(f:ue->AG ue)(r:V->Hp->VK->Prop):Prop:=
 ∀(ag:LO) (s:ut) (σ:St) (H:Hp) (x:V) (v:ue) (Q:VK),Inv X ag σ H s->RelV x v->r x H Q->
  wpAny ‹7› X.A (f v) (EP X ag σ Q) X.xe s
def iy(X:Cx)(f:ue)(r:LV->Hp->VK->Prop):Prop:=
 ∀(ag:LO) (s:ut) (σ:St) (H:Hp) (xs:LV) (us:LU) (Q:VK),Inv X ag σ H s->Vals xs us->r xs H Q->
  wpAny ‹7› X.A (call f us) (EP X ag σ Q) X.xe s
def Xb(X:Cx)(r:V->Hp->(Bool->Hp->Prop)->Prop):Prop:=
 ∀(ag:LO) (s:ut) (σ:St) (H:Hp) (x:V) (v:ue) (Q:Bool->Hp->Prop),Inv X ag σ H s->RelV x v->r x H Q->
  wpAny ‹7› X.A (truthy v) (TP X ag σ Q) X.xe s
def tOp(r:R2)(ta tb:TE):TE:=λσ H Q=>ta σ H λx H1=>tb σ H1 λy H2=>r x y H2 Q
def tUn(r:V->Hp->VK->Prop)(ta:TE):TE:=λσ H Q=>ta σ H λx H1=>r x H1 Q
inductive rI (C:Int->Int->Prop) (g:Int->Int->V) (x:V) (y:V) (H:Hp) (Q:VK):Prop
 |mk (i j:_):x=.int i->y=.int j->C i j->Q (g i j) H->rI C g x y H Q
inductive MV (g:Int->Int->V) (x:V) (y:V) (H:Hp) (Q:VK):Prop
 |mk (i j:_):x=.int i->y=.int j->Q (g i j) H->MV g x y H Q
inductive rU (g:Int->V) (x:V) (H:Hp) (Q:VK):Prop
 |mk (i:_):x=.int i->Q (g i) H->rU g x H Q
section
variable {X:Cx}{a b c:Expr}{ta tb tc:TE}{bi:mo}
theorem Ui(ha:PE X a ta)(hb:PE X b tb){ag:LO}{s:ut}{σ:St}{H:Hp}{R:V->V->Hp->Prop}(I:Inv X ag σ H s)
  (h:ta σ H λx H1=>tb σ H1 λy H2=>R x y H2) {Q:ES} {f:ue->ue->AG ue}
  (hf:∀v u s2 x y H2,Inv X ag σ H2 s2->RelV x v->RelV y u->R x y H2->wpAny ‹7› X.A (f v u) Q X.xe s2):
  wpAny ‹7› X.A (cq a X.env) (λv bq=>wpAny ‹7› X.A (cq b X.env) (λu na=>wpAny ‹7› X.A (f v u) Q X.xe na) X.xe bq) X.xe s:=by
 refine cb (ha ag s σ H _ I h) λv s1 ⟨x,H1,I1,r1,q1⟩=>?_;refine cb (hb ag s1 σ H1 _ I1 q1) λu s2 ⟨y,H2,I2,r2,q2⟩=>?_;exact hf v u s2 x y H2 I2 r1 r2 q2
theorem bh{op:w9}{r:R2}(ho:OpR X (Ex op) r)(ha:PE X a ta)(hb:PE X b tb):PE X (.BinOp a op b bi) (tOp r ta tb):=by
 intro ag s σ H Q I h;exact wpAny_BinOp (Ui ha hb I h λv u s2 x y H2 I2 rx ry q=>ho ag s2 σ H2 x y v u Q I2 rx ry q)
theorem RP{op:UnaryOp}{r:V->Hp->VK->Prop}(ho:UnR X (unaryOp op) r)(ha:PE X a ta):PE X (.UnaryOp op a bi) (tUn r ta):=by
 intro ag s σ H Q I h;exact UnaryOp_ (cb (ha ag s σ H _ I h) λv s1 ⟨x,H1,I1,r1,q1⟩=>ho ag s1 σ H1 x v Q I1 r1 q1)
theorem XZ{f:ue->ue->AG ue}{C:Int->Int->Prop}{g:Int->Int->Int}
  (AH:∀(i j:Int) (t u:Tok) (s:ut) (Q:ES) (E:ES),C i j->Q (.int (g i j) s.toks) {s with toks:=s.toks+1}->wpAny ‹7› X.A (f (.int i t) (.int j u)) Q E s):
  OpR X f (rI C λi j=>.int (g i j)):=by
 intro ag s σ H x y v u Q I rx ry h;obtain⟨i,j,rfl,rfl,hc,q⟩:=h;obtain⟨t,rfl⟩:=rx;obtain⟨t',rfl⟩:=ry;exact AH i j t t' s _ _ hc ⟨.int (g i j),H,I.tok _,⟨_,rfl⟩,q⟩
theorem Vb{f:ue->ue->AG ue}{g:Int->Int->Int}
  (AH:∀(i j:Int) (t u:Tok) (s:ut) (Q:ES) (E:ES),Q (.int (g i j) s.toks) {s with toks:=s.toks+1}->wpAny ‹7› X.A (f (.int i t) (.int j u)) Q E s):
  OpR X f (MV λi j=>.int (g i j)):=by
 intro ag s σ H x y v u Q I rx ry h;obtain⟨i,j,rfl,rfl,q⟩:=h;obtain⟨t,rfl⟩:=rx;obtain⟨t',rfl⟩:=ry;exact AH i j t t' s _ _ ⟨.int (g i j),H,I.tok _,⟨_,rfl⟩,q⟩
theorem Qs{f:ue->ue->AG ue}{g:Int->Int->Bool}
  (AH:∀(i j:Int) (t u:Tok) (s:ut) (Q:ES) (E:ES),Q (.bool (g i j)) s->wpAny ‹7› X.A (f (.int i t) (.int j u)) Q E s):
  OpR X f (MV λi j=>.bl (g i j)):=by
 intro ag s σ H x y v u Q I rx ry h;obtain⟨i,j,rfl,rfl,q⟩:=h;obtain⟨t,rfl⟩:=rx;obtain⟨t',rfl⟩:=ry;exact AH i j t t' s _ _ ⟨.bl (g i j),H,I,rfl,q⟩
def W0(i j:Int):Prop:=0<j/\j<1073741824
def W5(i j:Int):Prop:=0<=j/\j<=1000000/\i.natAbs<2^64
def U0(i j:Int):Prop:=(-(2^64)<i/\i<2^64)\/(-(2^64)<j/\j<2^64)
theorem U0.ok{i j:Int}(h:U0 i j):IntMulOk i j:=by
 rcases h with⟨h1,h2⟩|⟨h1,h2⟩
 ·exact .of_left (intBits_le_64 h1 h2)
 ·exact .of_right (intBits_le_64 h1 h2)
theorem nJ:OpR X (Ex .Add) (MV λi j=>.int (i+j)):=Vb λ_ _ _ _ _ _ _ q=>add_int q
theorem mW:OpR X (Ex .Sub) (MV λi j=>.int (i - j)):=Vb λ_ _ _ _ _ _ _ q=>sub_int q
theorem yW:OpR X (Ex .Mult) (rI U0 λi j=>.int (i*j)):=XZ λ_ _ _ _ _ _ _ hc q=>mul_int q hc.ok
theorem Q0:OpR X (Ex .FloorDiv) (rI W0 λi j=>.int (i / j)):=XZ λi j _ _ _ _ _ hc q=>by
 have h1:(0:Int)<j:=hc.1;have h2:j<1073741824:=hc.2;exact floordiv_int ‹21› (by rw[Int.fdiv_eq_ediv_of_nonneg i ‹21›];exact q) (.inl (PyProof.noPylong_small ‹21›))
theorem lV:OpR X (Ex .Mod) (rI (λ_ j=>0<j) λi j=>.int (i % j)):=XZ λi j _ _ _ _ _ hc q=>by
 have h1:(0:Int)<j:=hc;exact mod_int' ‹21› (by rw[Int.fmod_eq_emod_of_nonneg i ‹21›];exact q)
theorem Tt:OpR X (Ex .Pow) (rI W5 λi j=>.int (i^j.toNat)):=XZ λ_ _ _ _ _ _ _ hc q=>pow_int_small hc.1 hc.2.1 hc.2.2 q
theorem unI{f:ue->AG ue}{g:Int->Int}
  (AH:∀(i:Int) (t:Tok) (s:ut) (Q:ES) (E:ES),Q (.int (g i) s.toks) {s with toks:=s.toks+1}->wpAny ‹7› X.A (f (.int i t)) Q E s):
  UnR X f (rU λi=>.int (g i)):=by
 intro ag s σ H x v Q I rx h;obtain⟨i,rfl,q⟩:=h;obtain⟨t,rfl⟩:=rx;exact AH i t s _ _ ⟨.int (g i),H,I.tok _,⟨_,rfl⟩,q⟩
theorem Ml:UnR X (unaryOp .USub) (rU λi=>.int (-i)):=unI λ_ _ _ _ _ q=>neg_int q
end
noncomputable def Wk:V->V->Bool
 |.non,.non=>true|.non,.int _=>true|.int _,.non=>true|.non,.bl _=>true|.bl _,.non=>true|.non,.str _=>true|.str _,.non=>true
 |.int _,.int _=>true|.bl _,.bl _=>true|.str _,.str _=>true|.byt _,.byt _=>true
 |.int _,.str _=>true|.str _,.int _=>true|.bl _,.str _=>true|.str _,.bl _=>true
 |_,_=>false
def rEq:R2:=λx y H Q=>Wk x y=true/\Q (.bl (decide (x=y))) H
def rNe:R2:=λx y H Q=>Wk x y=true/\Q (.bl (!decide (x=y))) H
theorem Jm{i j:Int}:decide (V.int i=V.int j)=(i== j):=by
 rw[gN];simp
theorem Pa{i j:Bool}:decide (V.bl i=V.bl j)=(i== j):=by
 rw[gN];simp
theorem JK{i j:Str}:decide (V.str i=V.str j)=(i== j):=by
 rw[gN];simp
theorem Iw{i j:Array UInt8}:decide (V.byt i=V.byt j)=(i.toList== j.toList):=by
 rw[gN];cases i;cases j;simp
section
variable {X:Cx}{a b c:Expr}{ta tb tc:TE}{bi:mo}
theorem dF{ag:LO}{σ:St}{H:Hp}{s:ut}{Q:VK}{k k':Bool}(I:Inv X ag σ H s)(q:Q (.bl k) H)(e:k=k'):EP X ag σ Q (.bool k') s:=by
 subst e;exact⟨.bl k,H,I,rfl,q⟩
theorem cO:OpR X (yo .Eq) rEq:=by
 intro ag s σ H x y v u Q I rx ry h;obtain⟨hs,q⟩:=h;cases x with
 |non=>
  cases rx;cases y with
  |non=>cases ry;exact PySem.EqNone.eq_none_none (dF I q (by simp))
  |bl j=>cases ry;exact PySem.EqNone.eq_none_bool (dF I q (by simp))
  |int j=>obtain⟨t',rfl⟩:=ry;exact PySem.EqNone.eq_none_int (dF I q (by simp))
  |str j=>obtain⟨t',rfl⟩:=ry;exact PySem.EqNone.eq_none_str (dF I q (by simp))
  |_=>exact absurd (show false=true from hs) az
 |bl i=>
  cases rx;cases y with
  |non=>cases ry;exact PySem.EqNone.eq_bool_none (dF I q (by simp))
  |bl j=>cases ry;exact eq_bool (dF I q Pa)
  |str j=>obtain⟨t',rfl⟩:=ry;exact PySem.EqMixed.eq_bool_str (dF I q (by simp))
  |_=>exact absurd (show false=true from hs) az
 |int i=>
  obtain⟨t,rfl⟩:=rx;cases y with
  |non=>cases ry;exact PySem.EqNone.eq_int_none (dF I q (by simp))
  |int j=>obtain⟨t',rfl⟩:=ry;exact eq_int (dF I q Jm)
  |str j=>obtain⟨t',rfl⟩:=ry;exact PySem.EqMixed.eq_int_str (dF I q (by simp))
  |_=>exact absurd (show false=true from hs) az
 |str i=>
  obtain⟨t,rfl⟩:=rx;cases y with
  |non=>cases ry;exact PySem.EqNone.eq_str_none (dF I q (by simp))
  |bl j=>cases ry;exact PySem.EqMixed.eq_str_bool (dF I q (by simp))
  |int j=>obtain⟨t',rfl⟩:=ry;exact PySem.EqMixed.eq_str_int (dF I q (by simp))
  |str j=>obtain⟨t',rfl⟩:=ry;exact eq_str (dF I q JK)
  |_=>exact absurd (show false=true from hs) az
 |byt i=>
  obtain⟨t,rfl⟩:=rx;cases y with
  |byt j=>obtain⟨t',rfl⟩:=ry;exact PySem.W.eq_bytes (dF I q Iw)
  |_=>exact absurd (show false=true from hs) az
 |_=>cases y <;>exact absurd (show false=true from hs) az
theorem Fo:OpR X (yo .NotEq) rNe:=by
 intro ag s σ H x y v u Q I rx ry h;obtain⟨hs,q⟩:=h;cases x with
 |non=>
  cases rx;cases y with
  |non=>cases ry;exact PySem.EqNone.ne_none_none (dF I q (by simp))
  |bl j=>cases ry;exact PySem.EqNone.ne_none_bool (dF I q (by simp))
  |int j=>obtain⟨t',rfl⟩:=ry;exact PySem.EqNone.ne_none_int (dF I q (by simp))
  |str j=>obtain⟨t',rfl⟩:=ry;exact PySem.EqNone.ne_none_str (dF I q (by simp))
  |_=>exact absurd (show false=true from hs) az
 |bl i=>
  cases rx;cases y with
  |non=>cases ry;exact PySem.EqNone.ne_bool_none (dF I q (by simp))
  |bl j=>cases ry;exact ne_bool (dF I q (congrArg not Pa))
  |str j=>obtain⟨t',rfl⟩:=ry;exact PySem.EqMixed.ne_bool_str (dF I q (by simp))
  |_=>exact absurd (show false=true from hs) az
 |int i=>
  obtain⟨t,rfl⟩:=rx;cases y with
  |non=>cases ry;exact PySem.EqNone.ne_int_none (dF I q (by simp))
  |int j=>obtain⟨t',rfl⟩:=ry;exact ne_int (dF I q (congrArg not Jm))
  |str j=>obtain⟨t',rfl⟩:=ry;exact PySem.EqMixed.ne_int_str (dF I q (by simp))
  |_=>exact absurd (show false=true from hs) az
 |str i=>
  obtain⟨t,rfl⟩:=rx;cases y with
  |non=>cases ry;exact PySem.EqNone.ne_str_none (dF I q (by simp))
  |bl j=>cases ry;exact PySem.EqMixed.ne_str_bool (dF I q (by simp))
  |int j=>obtain⟨t',rfl⟩:=ry;exact PySem.EqMixed.ne_str_int (dF I q (by simp))
  |str j=>obtain⟨t',rfl⟩:=ry;exact ne_str (dF I q (congrArg not JK))
  |_=>exact absurd (show false=true from hs) az
 |byt i=>
  obtain⟨t,rfl⟩:=rx;cases y with
  |byt j=>obtain⟨t',rfl⟩:=ry;exact PySem.W.ne_bytes (dF I q (congrArg not Iw))
  |_=>exact absurd (show false=true from hs) az
 |_=>cases y <;>exact absurd (show false=true from hs) az
theorem vd:OpR X (yo .Lt) (MV λi j=>.bl (decide (i<j))):=Qs λ_ _ _ _ _ _ _ q=>lt_int q
theorem xG:OpR X (yo .LtE) (MV λi j=>.bl (decide (i<=j))):=Qs λ_ _ _ _ _ _ _ q=>le_int q
theorem qO:OpR X (yo .Gt) (MV λi j=>.bl (decide (j<i))):=Qs λ_ _ _ _ _ _ _ q=>gt_int q
theorem Vg:OpR X (yo .GtE) (MV λi j=>.bl (decide (j<=i))):=Qs λ_ _ _ _ _ _ _ q=>ge_int q
theorem tZ:OpR X (yo .Is) (λx y H Q=>y=.non/\Q (.bl (decide (x=.non))) H):=by
 intro ag s σ H x y v u Q I rx ry h;obtain⟨rfl,q⟩:=h;cases ry;refine is_none_gen (dF I q ?_)
 cases x <;> first
  |(cases rx;rfl)
  |(obtain⟨t,rfl⟩:=rx;rfl)
theorem Iu:OpR X (yo .IsNot) (λx y H Q=>y=.non/\Q (.bl (!decide (x=.non))) H):=by
 intro ag s σ H x y v u Q I rx ry h;obtain⟨rfl,q⟩:=h;cases ry;refine isnot_none_gen (dF I q ?_)
 cases x <;> first
  |(cases rx;rfl)
  |(obtain⟨t,rfl⟩:=rx;rfl)
theorem OpR.or{f:ue->ue->AG ue}{r r':R2}(h:OpR X f r)(h':OpR X f r'):OpR X f (λx y H Q=>r x y H Q\/r' x y H Q):=by
 intro ag s σ H x y v u Q I rx ry q;rcases q with q|q
 ·exact h ag s σ H x y v u Q I rx ry q
 ·exact h' ag s σ H x y v u Q I rx ry q
theorem aR(b:Expr){op:Xy}(h:op≠.In:=by decide)(h2:op≠.NotIn:=by decide):Hd op b=false:=by
 have e1:(op== Xy.In)=false:=by cases op <;>first|rfl|exact absurd rfl h
 have e2:(op== Xy.NotIn)=false:=by cases op <;>first|rfl|exact absurd rfl h2
 cases b <;>simp[Hd,e1,e2]
theorem cL{op:Xy}{r:R2}(ho:OpR X (yo op) r)(ha:PE X a ta)(hb:PE X b tb)(hm:Hd op b=false):PE X (.Compare a [op] [b] bi) (tOp r ta tb):=by
 intro ag s σ H Q I h;exact wpAny_Compare1 (Ui ha hb I h λv u s2 x y H2 I2 rx ry q=>ho ag s2 σ H2 x y v u Q I2 rx ry q) hm
inductive O9 (Q:Bool->Hp->Prop) (x:V) (H':Hp):Prop
 |mk (k:_):x=.bl k->Q k H'->O9 Q x H'
def RQ(t:TE):TT:=λσ H Q=>t σ H λx H'=>O9 Q x H'
theorem aV{op:Xy}{r:R2}(ho:OpR X (yo op) r)(ha:PE X a ta)(hb:PE X b tb)(hm:Hd op b=false):PT X (.Compare a [op] [b] bi) (RQ (tOp r ta tb)):=by
 intro ag s σ H Q I h
 refine sx (cb (ha ag s σ H _ I h) λv s1 ⟨x,H1,I1,r1,q1⟩=>cb (hb ag s1 σ H1 _ I1 q1) λu s2 ⟨y,H2,I2,r2,q2⟩=>
  cb (ho ag s2 σ H2 x y v u _ I2 r1 r2 q2) λc s3 ⟨z,H3,I3,r3,k,e,q3⟩=>?_) hm
 subst e;cases r3;exact gT ⟨H3,I3,q3⟩
inductive Jz (r':R2) (tc:TE) (σ:St) (Q:VK) (y:V) (z:V) (H3:Hp):Prop
 |mk (k:_):z=.bl k->(if k=true then tc σ H3 λw' H4=>r' y w' H4 Q else Q (.bl false) H3)->Jz r' tc σ Q y z H3
def Ut(r r':R2)(ta tb tc:TE):TE:=λσ H Q=>ta σ H λx H1=>tb σ H1 λy H2=>r x y H2 λz H3=>Jz r' tc σ Q y z H3
theorem Gq{op op':Xy}{r r':R2}(ho:OpR X (yo op) r)(MQ:OpR X (yo op') r')(ha:PE X a ta)(hb:PE X b tb)(hc:PE X c tc)
  (hm:lastMarks [op,op'] [b,c]=false:=by with_unfolding_all rfl):PT X (.Compare a [op,op'] [b,c] bi) (RQ (Ut r r' ta tb tc)):=by
 intro ag s σ H Q I h
 refine isTrue_chain (cb (ha ag s σ H _ I h) λv s1 ⟨x,H1,I1,r1,q1⟩=>test_link (cb (hb ag s1 σ H1 _ I1 q1) λu s2 ⟨y,H2,I2,r2,q2⟩=>
  cb (ho ag s2 σ H2 x y v u _ I2 r1 r2 q2) λd s3 ⟨z,H3,I3,r3,k,e,q3⟩=>?_)) hm
 subst e;cases r3;refine gT ?_;cases k with
 |false=>
  obtain⟨k',e',q'⟩:=q3;cases e';exact ite_ff ⟨H3,I3,q'⟩
 |true=>
  refine ite_tt (test_last (cb (hc ag s3 σ H3 _ I3 q3) λw' s4 ⟨z',H4,I4,r4,q4⟩=>cb (MQ ag s4 σ H4 y z' u w' _ I4 r2 r4 q4) λd' s5 ⟨z2,H5,I5,r5,k2,e2,q5⟩=>?_));subst e2;cases r5;exact gT ⟨H5,I5,q5⟩
def Tc(K:PySem.W.Frag)(x:V)(H:Hp)(k:Bool):Prop:=
 match x with
 |.non=>k=false
 |.bl b=>k=b
 |.int i=>k=(i !=0)
 |.str y=>y.length<=ab/\k=((y.length:Int) !=0)
 |.byt y=>y.size<=ab/\k=((y.size:Int) !=0)
 |.ref p=>(∃xs,SqL K H p xs/\k=!xs.isEmpty)\/(∃xs,SqT K H p xs/\k=!xs.isEmpty)\/∃kvs,H p=some (.dK kvs)/\k=!kvs.isEmpty
 |_=>False
theorem Ia{κ:Type}{kvs:List (κ×V)}{vs:List (κ×ue)}(r:KV kvs vs):(!vs.isEmpty)=!kvs.isEmpty:=by
 cases r <;>rfl
theorem sE{xs:LV}{its:LU}(r:Vals xs its):(!its.toArray.isEmpty)=!xs.isEmpty:=by
 cases r <;>simp
theorem ug:(ab:Nat)<2^63:=by rw[cn];decide
theorem S6:Xb X (λx H Q=>∃k,Tc X.K x H k/\Q k H):=by
 intro ag s σ H x v Q I rx h;obtain⟨k,e,q⟩:=h;have hl:=ug;have hs:ab=16777216:=cn;cases x with
 |non=>
  cases rx;have e':k=false:=e;subst e';exact truthy_none ⟨H,I,q⟩
 |bl b=>
  cases rx;have e':k=b:=e;subst e';exact gT ⟨H,I,q⟩
 |int i=>
  obtain⟨t,rfl⟩:=rx;have e':k=(i !=0):=e;subst e';exact PySem.P.truthy_int ⟨H,I,q⟩
 |str y=>
  obtain⟨t,rfl⟩:=rx;obtain⟨hy,e'⟩:y.length<=ab/\k=((y.length:Int) !=0):=e;subst e';exact PySem.P.truthy_str ‹21› ⟨H,I.tok _,q⟩
 |byt y=>
  obtain⟨t,rfl⟩:=rx;obtain⟨hy,e'⟩:y.size<=ab/\k=((y.size:Int) !=0):=e;subst e';exact PySem.W.truthy_bytes ‹21› ⟨H,I.tok _,q⟩
 |ref p=>
  cases rx;have e':(∃xs,SqL X.K H p xs/\k=!xs.isEmpty)\/(∃xs,SqT X.K H p xs/\k=!xs.isEmpty)\/∃kvs,H p=some (.dK kvs)/\k=!kvs.isEmpty:=e;rcases e' with⟨xs,hx,e'⟩|⟨xs,hx,e'⟩|⟨kvs,hx,e'⟩
  ·subst e';obtain⟨its,r,pl,hz⟩:=I.list hx;have eC:=r.length;exact wpAny_truthy_list pl.isList (by simp only[bz];omega) ⟨H,I.tok _,by rw[sE r];exact q⟩
  ·subst e';obtain⟨its,r,pl,hz⟩:=I.tuple hx;have eC:=r.length;exact truthy_tuple pl (by simp only[bz];omega) ⟨H,I.tok _,by rw[sE r];exact q⟩
  ·subst e';obtain⟨hz,hS,vs,r,m⟩:kvs.length<=ab/\(p== An)=false/\∃vs,KV kvs vs/\s.heap.DictOf (cU X.prog X.w) p vs:=I.hok p _ hx;have eC:kvs.length=vs.length:=cE r;exact wpAny_truthy_dict hS m ‹21› ⟨H,I.tok _,by rw[Ia r];exact q⟩
 |_=>exact(show False from e).elim
theorem yV(ha:PE X a ta)(he:∀zC,isTrue a X.env zC=(do let v <- zC;WF a.pos;Q4 [v] (truthy v))):
  PT X a (λσ H Q=>ta σ H λx H'=>∃k,Tc X.K x H' k/\Q k H'):=by
 intro ag s σ H Q I h;exact isTrue_plain (cb (ha ag s σ H _ I h) λv s1 ⟨x,H1,I1,r1,q1⟩=>S6 ag s1 σ H1 x v Q I1 r1 q1) (he _)
inductive vO (x:V) (y:V) (H:Hp) (Q:VK):Prop
 |mk (i j:_):x=.str i->y=.str j->i.length+j.length<=ab->Q (.str (i++j)) H->vO x y H Q
theorem bZ:OpR X (Ex .Add) vO:=by
 intro ag s σ H x y v u Q I rx ry h;obtain⟨i,j,rfl,rfl,hz,q⟩:=h;obtain⟨t,rfl⟩:=rx;obtain⟨t',rfl⟩:=ry;exact add_str (λt' tk=>⟨.str (i++j),H,I.tok _,⟨_,rfl⟩,q⟩) hz
theorem vals1{x:V}{us:LU}(r:Vals [x] us):∃u,us=[u]/\RelV x u:=by
 cases r with
 |cons r1 r2=>cases r2;exact⟨_,rfl,r1⟩
theorem vals2{x y:V}{us:LU}(r:Vals [x,y] us):∃u w',us=[u,w']/\RelV x u/\RelV y w':=by
 cases r with
 |cons r1 r2=>
  cases r2 with
  |cons r3 r4=>cases r4;exact⟨_,_,rfl,r1,r3⟩
inductive yG (xs:LV) (H:Hp) (Q:VK):Prop
 |mk (i:_):xs=[.int i]->Q (.int (if i<0 then -i else i)) H->yG xs H Q
theorem Qm:iy X (.builtin "abs") yG:=by
 intro ag s σ H xs us Q I r h;obtain⟨i,rfl,q⟩:=h;obtain⟨u,rfl,t,rfl⟩:=vals1 r;exact call_abs_int λu tk=>⟨.int (if i<0 then -i else i),H,I.tok _,⟨_,rfl⟩,q⟩
inductive xH (xs:LV) (H:Hp) (Q:VK):Prop
 |mk (i j:_):xs=[.int i,.int j]->Q (.int (if j >i then j else i)) H->xH xs H Q
theorem J6(hc:X.calm=true):iy X (.builtin "max") xH:=by
 intro ag s σ H xs us Q I r h;obtain⟨i,j,rfl,q⟩:=h;obtain⟨u,w',rfl,⟨t,rfl⟩,⟨t',rfl⟩⟩:=vals2 r;refine max_two_ints (I.ok.hd hc) λh' tk k=>⟨_,H,I.kept k,?_,q⟩
 by_cases hj:j >i
 ·rw[dL hj,dL hj];exact⟨_,rfl⟩
 ·rw[dC hj,dC hj];exact⟨_,rfl⟩
inductive xP (xs:LV) (H:Hp) (Q:VK):Prop
 |mk (i j:_):xs=[.int i,.int j]->Q (.int (if j<i then j else i)) H->xP xs H Q
theorem La(hc:X.calm=true):iy X (.builtin "min") xP:=by
 intro ag s σ H xs us Q I r h;obtain⟨i,j,rfl,q⟩:=h;obtain⟨u,w',rfl,⟨t,rfl⟩,⟨t',rfl⟩⟩:=vals2 r;refine min_two_ints (I.ok.hd hc) λh' tk k=>⟨_,H,I.kept k,?_,q⟩
 by_cases hj:j<i
 ·rw[dL hj,dL hj];exact⟨_,rfl⟩
 ·rw[dC hj,dC hj];exact⟨_,rfl⟩
theorem uJ:iy X (.type "int") (fun xs H Q=>(∃i,xs=[.int i]/\Q (.int i) H)\/∃k,xs=[.bl k]/\Q (.int (if k then 1 else 0)) H):=by
 intro ag s σ H xs us Q I r h;rcases h with⟨i,rfl,q⟩|⟨k,rfl,q⟩
 ·obtain⟨u,rfl,t,rfl⟩:=vals1 r;exact call_int_int ⟨.int i,H,I,⟨_,rfl⟩,q⟩
 ·obtain⟨u,rfl,r1⟩:=vals1 r;cases r1;exact call_int_bool ⟨.int (if k then 1 else 0),H,I.tok _,⟨_,rfl⟩,q⟩
inductive tX (xs:LV) (H:Hp) (Q:VK):Prop
 |mk (i:_):xs=[.int i]->i.natAbs.log2<1920->Q (.str (io i)) H->tX xs H Q
theorem fP:iy X (.type "str") tX:=by
 intro ag s σ H xs us Q I r h;obtain⟨i,rfl,hz,q⟩:=h;obtain⟨u,rfl,t,rfl⟩:=vals1 r;exact PySem.P.str_of_int hz ⟨.str _,H,I.tok _,⟨_,rfl⟩,q⟩
end
structure Hh (h:Heap) (x dx C:ax) (mA:MG):Prop where
 obj:h.get? x=some (PySem.W.instObj C dx)
 ns:h.Ns1 dx mA
 ne:dx≠x
theorem Lb{h:Heap}{dx:ax}{mA:MG}(n:h.Ns1 dx mA):∃od,h.get? dx=some od/\∀name,PySem.W.lookIn name od=some (mA name):=by
 obtain⟨o,es,ep,ho,hd,hk,_,hm⟩:=n;refine⟨o,ho,λname=>?_⟩;have e:=hm name;unfold nsFind findBy at e;rw[<- Array.find?_toList]at e;unfold PySem.W.lookIn;rw[hd];dsimp only;split
 ·rename_i y q
  rw[q]at e;exact congrArg some e
 ·rename_i q
  rw[q]at e
  have a:es.toList.any (·.refKey)=false:=by
   rw[List.any_eq_false];intro y hy;obtain⟨z,t,hkey⟩:=hk y (mi.mp hy);simp[NB.refKey,hkey]
  have a':¬es.toList.any (·.refKey)=true:=by rw[a];exact az
  rw[dC a'];exact congrArg some e
theorem Hh.look{h:Heap}{x dx C:ax}{mA:MG}(I:Hh h x dx C mA):∃od,PySem.W.InstAt h x (PySem.W.instObj C dx) C (some od)/\∀name,PySem.W.lookIn name od=some (mA name):=
 let⟨od,ho,hl⟩:=Lb I.ns
 ⟨od,⟨I.obj,rfl,rfl,ho⟩,hl⟩
section
variable {prog:vy}{w:xm}{A:ye}{E:ES}{s:ut}{K:PySem.W.Frag}{x dx C f:ax}{mA:MG}{name:Str}{v:ue}
theorem MW{expr:Bool}{Q:ES}(X:K.In s.heap)(I:Hh s.heap x dx C mA)(hg:PySem.W.plainGet K C name=true)(hh:PySem.W.hasDictIn K C=true)
  (ha:PySem.W.findIn K (.ref C) name=some none) (hv:mA name=some v) (X0:PySem.W.handedIn v=true) (h:Q v {s with toks:=s.toks+1}):
  wpAny ‹17› A (getAttr (.ref x) name expr) Q E s:=by
 obtain⟨od,J,hl⟩:=I.look;exact PySem.W.get_value X J (qS hg).1 (PySem.W.findObj_own hh ha rfl (by rw[hl,hv])) X0 h
theorem Qe{pl:AG Bool}{Q:ue×LU->ut->Prop}(X:K.In s.heap)(I:Hh s.heap x dx C mA)(hg:PySem.W.plainGet K C name=true)
  (hf:PySem.W.findIn K (.ref C) name=some (some (.ref f))) (ht:PySem.W.isFn K (.ref f)=true) (hv:mA name=none) (h:Q (.ref f,[.ref x]) s):
  wpAny ‹17› A (xC (.ref x) name pl) Q E s:=by
 obtain⟨od,J,hl⟩:=I.look;exact PySem.W.method_fn X J (qS hg).1 (qS hg).2 hf (ky.mp ht) (by show(PySem.W.lookIn name od).map (·.isSome)=some false;rw[hl,hv];rfl) h
theorem QH{ns:LS}{Q:Unit->ut->Prop}(X:K.In s.heap)(I:Hh s.heap x dx C mA)
  (hs:PySem.W.findIn K (.ref C) "__setattr__" =some (some (.builtin "object.__setattr__"))) (hp:PySem.W.plainOver K C=true) (ht:PySem.W.takerIn K C name=some none) (hh:PySem.W.hasDictIn K C=true)
  (hw:PySem.Within mA ns) (hsz:ns.length<=ab)
  (h:∀h',Hh h' x dx C (λy=>if y=name then some v else mA y)->Heap.SameBut dx s.heap h'->Q () {s with heap:=h',toks:=s.toks+2}):
  wpAny ‹17› A (setAttr (.ref x) name v) Q E s:=by
 obtain⟨od,J,hl⟩:=I.look;refine PySem.W.set_plain X J hs (PySem.W.osa_open (s:={s with toks:=s.toks+1}) (r:=none) X J hp ht λb=>?_);obtain⟨cd,hc,XG⟩:=PySem.W.any_some hh;have hx:s.heap.get? x=some ⟨.ref C,some dx,.plain,#[]⟩:=I.obj;refine ae (aE (ae (ae (wpAny_loadPart hx (ae (PySem.W.Looks.here (s:={s with toks:=s.toks+1}) (PySem.W.looks_clsIn X hc) ?_))))));rw[XG];refine aE (a:=some dx) (ae (aE (ae ?_)));refine wpAny_nsSet1 (s:={s with toks:=s.toks+1}) I.ns λh' Fk hs2=>?_;obtain⟨oD,esD,epD,hoD,hdD,hcD⟩:=Fk.count (PySem.Within.cons name v hw);refine ae (wpAny_lookBehind hoD (by rw[hdD];exact pastItsLine_dict (dq hcD (by rw[aI];omega))) ?_);exact aE (h _ ⟨(hs2.2 _ (se I.ne)).trans I.obj,Fk,I.ne⟩ hs2)
theorem Mw{R:Xh->ut->Prop}{vs:LU}{kw:List (Str×ue)}(X:K.In s.heap)(hm:PySem.W.makesIn K C=true)
  (hi:PySem.W.findIn K (.ref C) "__init__" =some (some (.ref f))) (hf:PySem.W.typeIn K (.ref f)=some (.type "function"))
  (h:BV ‹17› (A.under (.builtin "type.__call__" ⟨.ref C::vs,kw⟩)) (.call (.ref f) ⟨.ref (s.heap.objs.size+1)::vs,kw⟩) (PySem.W.InitBack (s.heap.objs.size+1) R)
   {s with heap:=(s.heap.push PySem.W.emptyDict).push (PySem.W.instObj C s.heap.objs.size)}):
  BV ‹17› A (.call (.ref C) ⟨vs,kw⟩) R s:=by
 obtain⟨hh,g,d,t,os⟩:=s;exact PySem.W.make_core (PySem.W.makes_of X hm) (PySem.W.looks_findIn X hi) (λself=>PySem.W.bind_fn X self hf) (.inl rfl) h
end
noncomputable def fQ(f:Str)(v:V):List (Str×V)->List (Str×V)
 |[]=>[(f,v)]
 |(g,x)::r=>if g=f then(g,v)::r else(g,x)::fQ f v r
theorem xq(f g:Str)(v:V):∀fs:List (Str×V),(fQ f v fs).lookup g=if g=f then some v else fs.lookup g
 |[]=>by
  show List.lookup g [(f,v)]=_
  by_cases h:g=f
  ·have hb:(g== f)=true:=ky.mpr h;simp only[List.lookup,hb,dL h]
  ·have hb:(g== f)=false:=gp.mpr h;simp only[List.lookup,hb,dC h]
 |(k,x)::r=>by
  have ih:=xq f g v r;rw[show fQ f v ((k,x)::r)=(if k=f then(k,v)::r else(k,x)::fQ f v r)from rfl]
  by_cases hk:k=f
  ·rw [dL hk]
   by_cases h:g=k
   ·have hb:(g== k)=true:=ky.mpr h;simp only[List.lookup,hb,dL (h.trans hk)]
   ·have hb:(g== k)=false:=gp.mpr h;simp only[List.lookup,hb,dC (λe:g=f=>h (e.trans hk.symm))]
  ·rw [dC hk]
   by_cases h:g=k
   ·have hb:(g== k)=true:=ky.mpr h;simp only[List.lookup,hb,dC (λe:g=f=>hk (h.symm.trans e))]
   ·have hb:(g== k)=false:=gp.mpr h;simp only[List.lookup,hb];exact ih
theorem wW(f:Str)(v:V):∀fs:List (Str×V),f∈(fQ f v fs).map (·.1)/\∀g,g∈fs.map (·.1)->g∈(fQ f v fs).map (·.1)
 |[]=>⟨by simp[fQ],λg h=>by simp at h⟩
 |(k,x)::r=>by
  obtain⟨i1,i2⟩:=wW f v r;rw[show fQ f v ((k,x)::r)=(if k=f then(k,v)::r else(k,x)::fQ f v r)from rfl]
  by_cases hk:k=f
  ·rw[dL hk];subst hk;exact⟨by simp,λg h=>by simpa using h⟩
  ·rw [dC hk];refine⟨?_,fun g h=>?_⟩
   ·rw[ci];exact cf _ i1
   ·rw [ci] at h ⊢;rcases aT.mp h with e | e
    ·exact aT.mpr (.inl e)
    ·exact cf _ (i2 g e)
theorem xJ(f:Str)(v:V):∀fs:List (Str×V),(fQ f v fs).length<=fs.length+1
 |[]=>by simp[fQ]
 |(k,x)::r=>by
  have ih:=xJ f v r;rw[show fQ f v ((k,x)::r)=(if k=f then(k,v)::r else(k,x)::fQ f v r)from rfl]
  by_cases hk:k=f
  ·rw[dL hk,aI,aI];omega
  ·rw[dC hk,aI,aI];omega
theorem su.some_of{v:V}{o:Option ue}(r:su (some v) o):∃u,o=some u/\RelV v u:=by
 cases o with
 |none=>exact(show False from r).elim
 |some u=>exact⟨u,rfl,r⟩
theorem su.none_of{o:Option ue}(r:su none o):o=none:=by
 cases o with
 |none=>rfl
 |some u=>exact(show False from r).elim
theorem J5{v:V}{u:ue}(r:RelV v u):PySem.W.handedIn u=true:=by
 cases v with
 |non=>cases(show u=HR from r);rfl
 |bl b=>cases(show u=ue.bool b from r);rfl
 |int i=>obtain⟨t,e⟩:=(show∃t,u=Tu i t from r);cases e;rfl
 |str x=>obtain⟨t,e⟩:=(show∃t,u=Xj x t from r);cases e;rfl
 |byt b=>obtain⟨t,e⟩:=(show∃t,u=ue.bytes b t from r);cases e;rfl
 |flt b=>obtain⟨t,e⟩:=(show∃t,u=ue.float b t from r);cases e;rfl
 |ref a=>cases(show u=xn a from r);rfl
 |ty n=>cases(show u=UT n from r);rfl
section
variable {P:vy}{w:xm}{H H':Hp}{h h':Heap}{a C dx:ax}{fs Pc:List (Str×V)}
theorem yD(hok:HOk P w H h)(e:H a=some (.ins C dx fs)):∃mA,Hh h a dx C mA/\(∀f,su (fs.lookup f) (mA f))/\PySem.Within mA (fs.map (·.1))/\fs.length<=1000/\H dx=some (.own a):=by
 obtain⟨d,z,ne,ob,mA,n,r,q⟩:=(show fV P w H h a (.ins C dx fs)from hok a _ e);exact⟨mA,⟨ob,n,ne⟩,r,q,z,d⟩
end
structure Cls (K:PySem.W.Frag) (C:ax):Prop where
 pg:PySem.W.plainGet K C Str.empty=true
 hd:PySem.W.hasDictIn K C=true
 po:PySem.W.plainOver K C=true
 sa:PySem.W.findIn K (.ref C) "__setattr__" =some (some (.builtin "object.__setattr__"))
theorem Cls.get{K:PySem.W.Frag}{C:ax}(c:Cls K C)(f:Str):PySem.W.plainGet K C f=true:=c.pg
def mK(K:PySem.W.Frag)(C:ax)(f:Str):Prop:=PySem.W.findIn K (.ref C) f=some none
theorem mK.taker{K:PySem.W.Frag}{C:ax}{f:Str}(n:mK K C f):PySem.W.takerIn K C f=some none:=by
 unfold PySem.W.takerIn;rw[show PySem.W.findIn K (.ref C) f=some none from n];rfl
structure yn (K:PySem.W.Frag) (C:ax) (m:Str) (f:ax):Prop where
 at_:PySem.W.findIn K (.ref C) m=some (some (.ref f))
 fn:PySem.W.isFn K (.ref f)=true
 kp:PySem.W.keepIn K (.ref f)=true
section
variable {X:Cx}{ag:LO}{σ:St}{H:Hp}{s:ut}{a C dx:ax}{fs:List (Str×V)}{f:Str}{v:V}{A:ye}{E:ES}
theorem zA{b:Bool}{Q:ES}(I:Inv X ag σ H s)(e:H a=some (.ins C dx fs))(c:Cls X.K C)(n:mK X.K C f)(l:fs.lookup f=some v)
  (h:∀u s',Inv X ag σ H s'->RelV v u->Q u s'):wpAny ‹7› A (getAttr (.ref a) f b) Q E s:=by
 obtain⟨mA,O,r,_,_,_⟩:=yD I.hok e;obtain⟨u,hu,ru⟩:=su.some_of (v:=v) (o:=mA f) (by rw[<- l];exact r f);exact MW I.kIn O (c.get f) c.hd n hu (J5 ru) (h u _ (I.tok _) ru)
theorem yL{m:Str}{g:ax}{pl:AG Bool}{Q:ue×LU->ut->Prop}(I:Inv X ag σ H s)(e:H a=some (.ins C dx fs))(c:Cls X.K C)(k:yn X.K C m g)(l:fs.lookup m=none)
  (h:Q (.ref g,[.ref a]) s):wpAny ‹7› A (xC (.ref a) m pl) Q E s:=by
 obtain⟨mA,O,r,_,_,_⟩:=yD I.hok e;have hn:mA m=none:=su.none_of (by rw[<- l];exact r m);exact Qe I.kIn O (c.get m) k.at_ k.fn hn h
theorem zu{y:V}{u:ue}{Q:Unit->ut->Prop}(I:Inv X ag σ H s)(e:H a=some (.ins C dx fs))(c:Cls X.K C)(n:mK X.K C f)(hl:fs.length<1000)(ry:RelV y u)
  (h:∀s',Inv X ag σ (upd H a (.ins C dx (fQ f y fs))) s'->Q () s'):wpAny ‹7› A (setAttr (.ref a) f u) Q E s:=by
 obtain⟨mA,O,r,wi,_,ho⟩:=yD I.hok e;have hz:(fs.map (·.1)).length<=ab:=by rw[aa,cn];omega
 refine QH I.kIn O c.sa c.po n.taker c.hd wi hz λh' O' sb=>h _ ?_;have hd:∃o,h'.get? dx=some o:=let⟨o,_,_,e',_⟩:=O'.ns;⟨o,e'⟩;refine I.write (x:=a) (e:=dx) (by rw[e];exact True.intro) (.inr ho) (λb q hb z=>(sb.2 b hb).trans z) hd ?_;refine⟨by rw[aB O.ne];exact ho,?_,O.ne,O'.obj,_,O'.ns,λg=>?_,λg hg=>?_⟩
 ·have:=xJ f y fs;omega
 ·show su ((fQ f y fs).lookup g) (if g=f then some u else mA g);rw [xq]
  by_cases q:g=f
  ·rw[dL q,dL q];exact ry
  ·rw[dC q,dC q];exact r g
 ·by_cases q:g=f
  ·rw[q];exact(wW f y fs).1
  ·refine(wW f y fs).2 g (wi g λz=>hg ?_);show(if g=f then some u else mA g)=none;rw[dC q];exact z
theorem Inv.made(I:Inv X ag σ H s):Inv X ag σ (upd (upd H s.heap.objs.size (.own (s.heap.objs.size+1))) (s.heap.objs.size+1) (.ins C s.heap.objs.size []))
  {s with heap:=(s.heap.push PySem.W.emptyDict).push (PySem.W.instObj C s.heap.objs.size)}:=by
 have e1:(s.heap.push PySem.W.emptyDict).get? s.heap.objs.size=some PySem.W.emptyDict:=bn s.heap rfl
 have e2:((s.heap.push PySem.W.emptyDict).push (PySem.W.instObj C s.heap.objs.size)).get? (s.heap.objs.size+1)=some (PySem.W.instObj C s.heap.objs.size):=by
  have:=bn (s.heap.push PySem.W.emptyDict) (o:=PySem.W.instObj C s.heap.objs.size) rfl
  rwa[fk]at this
 have e3:(s.heap.push PySem.W.emptyDict).Ns s.heap.objs.size (λ_=>none):=⟨PySem.W.emptyDict,#[],_,e1,rfl,(λe he=>absurd he (by simp)),λ_=>rfl⟩;have I1:=I.laid (a:=s.heap.objs.size) (o:=.own (s.heap.objs.size+1)) (h':=s.heap.push PySem.W.emptyDict) (t':=s.toks) (λb u q=>am _ q) (af _) ⟨_,e1⟩;refine I1.laid (a:=s.heap.objs.size+1) (o:=.ins C s.heap.objs.size []) (t':=s.toks) (λb u q=>am _ q) (Nat.le_of_eq (fk _ _)) ?_;have ne:s.heap.objs.size≠s.heap.objs.size+1:=d6 (mv _);refine⟨by rw[aB ne,ak],ck _,ne,e2,λ_=>none,(Heap.Ns1.of_empty e3).at λo q=>am _ q,λ_=>True.intro,λy hy=>absurd rfl hy⟩
theorem Rf{prog:vy}{w:xm}{env:wT}{e:Expr}{f:Str}{bi:mo}{s:ut}{Q:ES}(hb:RC e f env (cq e env)=cq e env)
  (h:wpAny ‹17› A (cq e env) (λo bq=>wpAny ‹17› A (getAttr o f true) Q E bq) E s):wpAny ‹17› A (cq (.Attribute e f bi) env) Q E s:=
 Attribute_any_ h (by rw[arm_eval_Attribute,hb])
end
inductive R8 (K:PySem.W.Frag) (f:Str) (Q:VK) (x:V) (H1:Hp):Prop
 |mk (a C dx fs v:_):x=.ref a->H1 a=some (.ins C dx fs)->Cls K C->mK K C f->fs.lookup f=some v->Q v H1->R8 K f Q x H1
def Wt(K:PySem.W.Frag)(ta:TE)(f:Str):TE:=λσ H Q=>ta σ H λx H1=>R8 K f Q x H1
inductive RV (K:PySem.W.Frag) (f:Str) (D:mT) (σ:St) (y:V) (x:V) (H2:Hp):Prop
 |mk (a C dx fs:_):x=.ref a->H2 a=some (.ins C dx fs)->Cls K C->mK K C f->fs.length<1000->D.nx σ (upd H2 a (.ins C dx (fQ f y fs)))->RV K f D σ y x H2
def WT(K:PySem.W.Frag)(ta tv:TE)(f:Str):TS:=λD σ H=>tv σ H λy H1=>ta σ H1 λx H2=>RV K f D σ y x H2
def VP(X:Cx)(op:w9)(rd:V->V->Hp->VK->Prop):Prop:=
 ∀(ag:LO) (s:ut) (σ:St) (H:Hp) (x y:V) (u v:ue) (Q:VK),Inv X ag σ H s->RelV x u->RelV y v->rd x y H Q->wpAny ‹7› X.A (xB op u v) (EP X ag σ Q) X.xe s
inductive Gm (K:PySem.W.Frag) (tv:TE) (rd:V->V->Hp->VK->Prop) (f:Str) (D:mT) (σ:St) (x:V) (H1:Hp):Prop
 |mk (a C dx fs v:_):x=.ref a->H1 a=some (.ins C dx fs)->Cls K C->mK K C f->fs.lookup f=some v->(tv σ H1 λy H2=>rd v y H2 λz H3=>∃dx' Pc,H3 a=some (.ins C dx' Pc)/\Pc.length<1000/\D.nx σ (upd H3 a (.ins C dx' (fQ f z Pc))))->Gm K tv rd f D σ x H1
def Qp(K:PySem.W.Frag)(ta tv:TE)(rd:V->V->Hp->VK->Prop)(f:Str):TS:=λD σ H=>ta σ H λx H1=>Gm K tv rd f D σ x H1
section
variable {X:Cx}{o e fo:Expr}{f:Str}{bi tP lf:mo}{ta tv:TE}
theorem jT(he:PE X e ta)(hb:RC e f X.env (cq e X.env)=cq e X.env):PE X (.Attribute e f bi) (Wt X.K ta f):=by
 intro ag s σ H Q I h;refine Rf hb (cb (he ag s σ H _ I h) λu s1 ⟨x,H1,I1,rx,a,C,dx,fs,v,ex,ea,c,n,l,q⟩=>?_);subst ex;obtain rfl:u=xn a:=rx;exact zA I1 ea c n l λu' s2 I2 ru=>⟨v,H1,I2,ru,q⟩
theorem qD(ha:PE X o ta)(hv:PE X fo tv)(hs:XC fo (some (.Attribute o f tP)) bi.line X.env=Hb false):PS X (.Assign [.Attribute o f tP] fo bi) (WT X.K ta tv f):=by
 intro ag s σ H D I h;refine plainObj_wpAny_Assign_Attribute (cb (hv ag s σ H _ I h) λu s1 ⟨y,H1,I1,ry,q⟩=>cb (ha ag s1 σ H1 _ I1 q) λov s2 ⟨x,H2,I2,rx,a,C,dx,fs,ex,ea,c,n,l,q2⟩=>?_) hs;subst ex;obtain rfl:ov=xn a:=rx;exact zu I2 ea c n l ry λs3 I3=>⟨σ,_,I3,q2⟩
theorem uI{op:w9}{rd:V->V->Hp->VK->Prop}(ha:PE X o ta)(hv:PE X fo tv)(hop:VP X op rd):PS X (.AugAssign (.Attribute o f lf) op fo bi) (Qp X.K ta tv rd f):=by
 intro ag s σ H D I h;refine wpAny_AugAssign_AttributeAny (cb (ha ag s σ H _ I h) λov s1 ⟨x,H1,I1,rx,a,C,dx,fs,v,ex,ea,c,n,l,q⟩=>?_);subst ex;obtain rfl:ov=xn a:=rx;refine zA I1 ea c n l λu s2 I2 ru=>cb (hv ag s2 σ H1 _ I2 q) λw3 s3 ⟨y,H2,I3,ry,q3⟩=>cb (hop ag s3 σ H2 v y u w3 _ I3 ru ry q3) λw4 s4 ⟨z,H3,I4,rz,dx',Pc,Re,l',q4⟩=>?_;exact zu I4 Re c n l' rz λs5 I5=>⟨σ,_,I5,q4⟩
inductive VG (x:V) (y:V) (H:Hp) (Q:VK):Prop
 |mk (i j:_):x=.int i->y=.int j->Q (.int (i+j)) H->VG x y H Q
theorem BP:VP X .Add VG:=by
 rintro ag s σ H x y u v Q I rx ry ⟨i,j,rfl,rfl,q⟩;obtain⟨t,rfl⟩:=(show∃t,u=Tu i t from rx);obtain⟨t',rfl⟩:=(show∃t',v=Tu j t' from ry);exact PyProof.Rows.iadd_int ⟨.int (i+j),H,I.tok _,⟨_,rfl⟩,q⟩
end
section
variable {X:Cx}{ag:LO}{σ:St}{H:Hp}{s:ut}{A:ye}{E:ES}{Q:ES}{c:ue}{b:Bool}
inductive vU (K:PySem.W.Frag) (H:Hp):V->ue->Prop where
 |non:vU K H .non (.type "NoneType")
 |bl (x:Bool):vU K H (.bl x) (.type "bool")
 |int (i:Int):vU K H (.int i) (.type "int")
 |str (x:Str):vU K H (.str x) (.type "str")
 |flt (x:UInt64):vU K H (.flt x) (.type "float")
 |lst {a:ax} {xs:LV} (e:H a=some (.lst xs)):vU K H (.ref a) (.type "list")
 |frz {a:ax} {o:Obj} {xs:LV} (e:H a=some (.frz o (.lst xs))):vU K H (.ref a) (.type "list")
 |tup {a:ax} {xs:LV} (e:H a=some (.tup xs)):vU K H (.ref a) (.type "tuple")
 |dK {a:ax} {kvs:sg} (e:H a=some (.dK kvs)):vU K H (.ref a) (.type "dict")
 |dT {a:ax} {kvs:List (List ga×V)} (e:H a=some (.dT kvs)):vU K H (.ref a) (.type "dict")
 | ins {a C dx:ax} {fs:List (Str × V)} (e:H a=some (.ins C dx fs)) (cl:Cls K C) (ha:PySem.W.findIn K (.ref C) "__class__" = some (some (.builtin "object.__class__")))
   (hn:PySem.W.specialIn K (.builtin "object.__class__") "__get__" =some (some (.builtin "getset_descriptor.__get__"))) (htk:PySem.W.takesIn K (.builtin "object.__class__")=some true)
   (hm:PySem.W.mroIn K C (.type "object")=some true):vU K H (.ref a) (.ref C)
theorem Ku{x:V}{u t:ue}(I:Inv X ag σ H s)(rx:RelV x u)(ty:vU X.K H x t)(e:PySem.W.kitOne X.K t c=some b)(h:∀tk,Q (.bool b) {s with toks:=tk}):
  wpAny ‹7› A (call (.builtin "isinstance") [u,c]) Q E s:=by
 cases ty with
 |non=>cases(show u=HR from rx);exact iL PySem.W.kitx_none I.kIn True.intro e ‹6› h
 |bl y=>cases(show u=ue.bool y from rx);exact iL PySem.W.kitx_bool I.kIn True.intro e ‹6› h
 |int i=>obtain⟨t,q⟩:=(show∃t,u=Tu i t from rx);cases q;exact iL PySem.W.kitx_int I.kIn True.intro e ‹6› h
 |str y=>obtain⟨t,q⟩:=(show∃t,u=Xj y t from rx);cases q;exact iL PySem.W.kitx_str I.kIn True.intro e ‹6› h
 |flt y=>obtain⟨t,q⟩:=(show∃t,u=ue.float y t from rx);cases q;exact iL PySem.W.kitx_float I.kIn True.intro e ‹6› h
 | @lst a xs ea=>
  cases(show u=xn a from rx);obtain⟨_,_,n,_,h1⟩:=(show fV X.prog X.w H s.heap a (.lst xs)from I.hok a _ ea);exact iL PySem.W.kitx_list I.kIn ⟨_,h1,rfl⟩ e ‹6› h
 | @frz a ob xs ea=>
  cases(show u=xn a from rx);obtain⟨_,_,_,n,_,h1⟩:=(show fV X.prog X.w H s.heap a (.frz ob (.lst xs))from I.hok a _ ea);exact iL PySem.W.kitx_list I.kIn ⟨_,h1,rfl⟩ e ‹6› h
 | @tup a xs ea=>
  cases(show u=xn a from rx);obtain⟨_,_,_,p⟩:=(show fV X.prog X.w H s.heap a (.tup xs)from I.hok a _ ea);obtain⟨o,h1,h2,_⟩:=p;exact iL PySem.W.kitx_tuple I.kIn ⟨o,h1,h2⟩ e ‹6› h
 | @dK a kvs ea=>
  cases(show u=xn a from rx);obtain⟨_,_,vs,_,p⟩:=(show fV X.prog X.w H s.heap a (.dK kvs)from I.hok a _ ea);obtain⟨o,es,ep,h1,h2,_⟩:=p;exact iL PySem.W.kitx_dict I.kIn ⟨o,h1,h2.1⟩ e ‹6› h
 | @dT a kvs ea=>
  cases(show u=xn a from rx);obtain⟨_,_,xs,_,o,es,ep,h1,h2,_⟩:=(show fV X.prog X.w H s.heap a (.dT kvs)from I.hok a _ ea);exact iL PySem.W.kitx_dict I.kIn ⟨o,h1,h2.1⟩ e ‹6› h
 | @ins a C dx fs ea cl ha hn htk hm=>
  cases(show u=xn a from rx);obtain⟨mA,O,_⟩:=yD I.hok ea;obtain⟨od,J,_⟩:=O.look;exact iL (PySem.W.kitx_own (cl.get _) cl.hd ha hn htk hm) I.kIn J e ‹6› h
end
structure lR (k:Nat) (A:ye):Prop where
 hd:A.handled=none
 dp:A.depth+3*k+5<recursionLimit
 un:A.units+16*k+200<ge
 gd:A.guards=some []
theorem lR.mono{j k:Nat}{A:ye}(r:lR k A)(h:j<=k):lR j A:=⟨r.hd,by have:=r.dp;omega,by have:=r.un;omega,r.gd⟩
theorem lR.deeper{k:Nat}{A:ye}(r:lR (k+1) A)(env:wT):lR k (A.deeper env):=
 ⟨r.hd,by have:=r.dp;show A.depth+1+3*k+5<_;omega,by have:=r.un;show A.units+3+16*k+200<_;omega,by have:=r.gd;first|exact this|simp[ye.deeper,this,pushGuards]⟩
theorem G5{A:ye}{C:ax}{us:LU}{kw:List (Str×ue)}:(A.under (.builtin "type.__call__" ⟨.ref C::us,kw⟩)).depth=A.depth+1:=by
 first|rfl|simp[Xq,XJ.weight,XJ.isCreation,XJ.isGuard,XJ.isCaller,XJ.frames,XJ.isFrame,guardIds]
theorem GR{A:ye}{C:ax}{us:LU}{kw:List (Str×ue)}:(A.under (.builtin "type.__call__" ⟨.ref C::us,kw⟩)).units=A.units+1:=by
 first|rfl|simp[Xq,XJ.cUnits,XJ.frames,XJ.isFrame]
theorem lR.make{k:Nat}{A:ye}(r:lR (k+1) A)(C:ax)(us:LU)(kw:List (Str×ue)):lR k (A.under (.builtin "type.__call__" ⟨.ref C::us,kw⟩)):=
 ⟨r.hd,by have:=r.dp;rw[G5];omega,by have:=r.un;rw[GR];omega,by have:=r.gd;first|exact this|(show pushGuards _ A.guards=_;rw[this];rfl)|simp[Xq,this,pushGuards,XJ.guards,XJ.isGuard,guardIds]⟩
theorem lR.depth{k:Nat}{A:ye}(r:lR k A):A.depth<recursionLimit:=by have:=r.dp;omega
theorem lR.units{k:Nat}{A:ye}(r:lR k A):A.units+64<ge:=by have:=r.un;omega
theorem lR.GP{k:Nat}{A:ye}(r:lR k A):A.units<ge:=by have:=r.un;omega
def Vl:TA:=λ_ H Q=>Q [] H
def Va(ta:TE)(tr:TA):TA:=λσ H Q=>ta σ H λx H1=>tr σ H1 λxs H2=>Q (x::xs) H2
section
variable {X:Cx}{e:Expr}{es:List Expr}{te:TE}{t:TA}{bi:mo}
theorem aq:PA X [] Vl:=λ_ _ _ _ H Q I h=>Calls.spliced_nil ⟨[],H,I,.nil,h⟩
theorem aj(ha:PE X e te)(hr:PA X es t)(hs:xF (e::es) X.env=(false,cq e X.env)::xF es X.env:=by rfl):PA X (e::es) (Va te t):=by
 intro bi ag s σ H Q I h;rw[hs];show wpAny _ _ (spliced ((false,cq e X.env)::JP bi (xF es X.env))) _ _ s;refine VM (cb (ha ag s σ H _ I h) λu s1 ⟨x,H1,I1,r1,q1⟩=>?_);exact cb (hr bi ag s1 σ H1 _ I1 q1) λus s2 ⟨xs,H2,I2,r2,q2⟩=>⟨x::xs,H2,I2,.cons r1 r2,q2⟩
def WK(t:TA):TE:=λσ H Q=>t σ H λxs H1=>xs.length<=ab/\∀p,H1 p=none->Q (.ref p) (upd H1 p (.tup xs))
def Ww(t:TA):TE:=λσ H Q=>t σ H λxs H1=>xs.length<=ab/\∀p,H1 p=none->Q (.ref p) (upd H1 p (.lst xs))
theorem bW{x1}(h:PA X es t):PE X (.Tuple es x1 bi) (WK t):=by
 intro ag s σ H Q I hq;refine wpAny_Tuple_spliced (cb (h bi ag s σ H _ I hq) λus s1 ⟨xs,H1,I1,r,z,q⟩=>⟨by rw[<- r.length];exact z,?_⟩);have hf:H1 s1.heap.objs.size=none:=I1.hok.fresh (af _);refine⟨.ref s1.heap.objs.size,upd H1 s1.heap.objs.size (.tup xs),I1.laid (t':=s1.toks) (λb u e=>am _ e) (af _) ?_,rfl,q _ hf⟩;exact⟨⟨z,qR _ _⟩,us,r,⟨_,bn _ rfl,rfl,_,rfl⟩⟩
theorem bw(h:PA X es t):PE X (.List es bi) (Ww t):=by
 intro ag s σ H Q I hq;refine wpAny_List_spliced (cb (h bi ag s σ H _ I hq) λus s1 ⟨xs,H1,I1,r,z,q⟩=>⟨by rw[<- r.length];exact z,?_⟩);have hf:H1 s1.heap.objs.size=none:=I1.hok.fresh (af _);refine⟨.ref s1.heap.objs.size,upd H1 s1.heap.objs.size (.lst xs),I1.laid (t':=s1.toks) (λb u e=>am _ e) (af _) ?_,rfl,q _ hf⟩;exact⟨z,us,0,r,bn _ rfl⟩
end
abbrev Sp:=LV->Hp->VK->XK->Prop
abbrev GG:=List wT->Hp->ut->XK->ES
structure Hf (P:vy) (w:xm) (K:PySem.W.Frag) (mg:MG) (base:Heap) (A:ye) (outer:List wT) (s:ut) (H:Hp):Prop where
 frames:A.frames=some outer
 mod:Mod K mg base
 bs:∀b o,base.get? b=some o->s.heap.get? b=some o/\H b=none
 bsz:base.objs.size<=s.heap.objs.size
 wY:s.heap.FunFrames base outer
 frf:∀b∈frs outer,H b=none
 hok:HOk P w H s.heap
 bare:Su s.gens
def CE(outer:List wT)(P:vy)(w:xm)(H:Hp)(s:ut)(Q:VK)(u:ue)(s':ut):Prop:=
 ∃v H',s'.os=s.os/\Su s'.gens/\Un (frs outer) [] H H' s.heap s'.heap/\HOk P w H' s'.heap/\RelV v u/\Q v H'
def CR(CX:GG)(outer:List wT)(P:vy)(w:xm)(H:Hp)(s:ut)(Q:VK)(E:XK)(r:Xh)(s':ut):Prop:=
 match r with
 |.ok (.ret u)=>CE outer P w H s Q u s'
 |.ok _=>False
 |.error e=>CX outer H s E e s'
structure aW (P:vy) (w:xm) (K:PySem.W.Frag) (mg:MG) (base:Heap) (CX:GG) (k:Nat) (f:ax) (fd:uB) (ps:LS) (sp:Sp):Prop where
 len:∀vs H Q E,sp vs H Q E->vs.length=ps.length
 run:∀(A:ye) (outer:List wT) (s:ut) (H:Hp) (args:Args) (us:LU) (vs:LV) (Q:VK) (E:XK),lR k A->Hf P w K mg base A outer s H->XD s fd args (ps.zip us)->Vals vs us->sp vs H Q E->
  BV (vz P w) A (.call (.ref f) args) (CR CX outer P w H s Q E) s
theorem aW.mono{P:vy}{w:xm}{K:PySem.W.Frag}{mg:MG}{base:Heap}{CX:GG}{j k:Nat}{f:ax}{fd:uB}{ps:LS}{sp:Sp}(F:aW P w K mg base CX j f fd ps sp)(h:j<=k):
  aW P w K mg base CX k f fd ps sp:=⟨F.len,λA outer s H args us vs Q E hr=>F.run A outer s H args us vs Q E (hr.mono h)⟩
theorem aW.imp{P:vy}{w:xm}{K:PySem.W.Frag}{mg:MG}{base:Heap}{CX:GG}{k:Nat}{f:ax}{fd:uB}{ps:LS}{sp sp':Sp}(F:aW P w K mg base CX k f fd ps sp)
  (h:∀vs H Q E,sp' vs H Q E->sp vs H Q E):aW P w K mg base CX k f fd ps sp':=
 ⟨λvs H Q E q=>F.len vs H Q E (h _ _ _ _ q),λA outer s H args us vs Q E hr he hb hv hs=>F.run A outer s H args us vs Q E hr he hb hv (h _ _ _ _ hs)⟩
theorem Hf.make{P:vy}{w:xm}{K:PySem.W.Frag}{mg:MG}{base:Heap}{A:ye}{outer:List wT}{s:ut}{H:Hp}(e:Hf P w K mg base A outer s H)(C:ax)(us:LU)(kw:List (Str×ue)):
  Hf P w K mg base (A.under (.builtin "type.__call__" ⟨.ref C::us,kw⟩)) outer s H:=⟨by first|exact e.frames|(simpa[Xq,XJ.envs,XJ.isFrame,pushEnvs]using e.frames),e.mod,e.bs,e.bsz,e.wY,e.frf,e.hok,e.bare⟩
section
variable {X:Cx}{ag:LO}{σ:St}{H:Hp}{s s':ut}
theorem Inv.env0(I:Inv X ag σ H s):Hf X.prog X.w X.K X.mg X.base X.A X.stack s H:=
 ⟨I.ok.frames,I.ok.mod,I.bs,dq I.ok.bsz I.sz,I.stack,I.Jl,I.hok,I.bare⟩
theorem Inv.after{Q:VK}{u:ue}(I:Inv X ag σ H s)(h:CE X.stack X.prog X.w H s Q u s'):EP X ag σ Q u s':=by
 obtain⟨v,H',os,bare,un,hok,r,q⟩:=h;obtain⟨hh,g,d,t,GH⟩:=s';obtain rfl:GH=s.os:=os;exact⟨v,H',I.call (h':=hh) (g':=g) (d':=d) (t':=t) (ch:=[]) un hok bare (λb z=>absurd z (by simp)),r,q⟩
end
def SM(sp:Sp)(y4:LV)(E:XK)(t:TA):TE:=λσ H Q=>t σ H λvs H1=>sp (vs++y4) H1 Q E
inductive Nh (C:ax) (m:Str) (sp:Sp) (y4:LV) (E:XK) (t:TA) (σ:St) (Q:VK) (x:V) (H1:Hp):Prop
 |mk (a dx fs:_):x=.ref a->H1 a=some (.ins C dx fs)->fs.lookup m=none->(t σ H1 λvs H2=>sp (x::(vs++y4)) H2 Q E)->Nh C m sp y4 E t σ Q x H1
def R7(C:ax)(m:Str)(sp:Sp)(y4:LV)(E:XK)(ta:TE)(t:TA):TE:=λσ H Q=>ta σ H λx H1=>Nh C m sp y4 E t σ Q x H1
def V2(C:ax)(sp:Sp)(y4:LV)(E:XK)(t:TA):TE:=λσ H Q=>t σ H λvs H1=>∀x dx,H1 x=none->H1 dx=none->dx≠x->
 sp (.ref x::(vs++y4)) (upd (upd H1 dx (.own x)) x (.ins C dx [])) (λv H2=>v=.non/\Q (.ref x) H2) E
def Binds(K:PySem.W.Frag)(fd:uB)(ps:LS)(ds:LU):Prop:=
 ∀(s:ut) (us:LU),K.In s.heap->(us++ds).length=ps.length->XD s fd ⟨us,[]⟩ (ps.zip (us++ds))
theorem Binds.all{K:PySem.W.Frag}{fd:uB}{ps:LS}(h:∀us:LU,us.length=ps.length->bindArgs fd ⟨us,[]⟩=Hb (ps.zip us)):Binds K fd ps []:=λs us _ hl=>by
 rw[dm]at hl⊢;exact .of_eq (h us hl)
def vw(CX:GG)(X:Cx)(E:XK):Prop:=∀(ag:LO) (σ:St) (H:Hp) (s:ut) (e:ue) (s':ut),Inv X ag σ H s->CX X.stack H s E e s'->X.xe e s'
section
variable {X:Cx}{CX:GG}{k:Nat}{f C:ax}{fd:uB}{ps:LS}{sp:Sp}{y4:LV}{ds:LU}{E:XK}{x m:Str}{p bi sK:mo}{e o:Expr}{es:List Expr}{ta:TE}{t:TA}
theorem GF{ag:LO}{σ:St}{H:Hp}{s:ut}{Q:VK}{us:LU}{vs:LV}(F:aW X.prog X.w X.K X.mg X.base CX k f fd ps sp)(hr:lR k X.A)(hb:Binds X.K fd ps ds)(hd:Vals y4 ds)(hx:vw CX X E)
  (I:Inv X ag σ H s) (r:Vals vs us) (h:sp (vs++y4) H Q E):wpAny ‹7› X.A (call (.ref f) us) (EP X ag σ Q) X.xe s:=by
 have r2:Vals (vs++y4) (us++ds):=r.append hd;have hl:(us++ds).length=ps.length:=by rw[<- r2.length];exact F.len _ _ _ _ h
 refine wpAny_call (mw (F.run X.A X.stack s H ⟨us,[]⟩ (us++ds) (vs++y4) Q E hr I.env0 (hb s us I.kIn hl) r2 h) λr s' hq=>?_);cases r with
 |error e=>exact hx ag σ H s e s' I hq
 |ok fl=>
  cases fl with
  |ret u=>exact I.after hq
  |next=>exact yz hq
  |brk=>exact yz hq
  |cont=>exact yz hq
theorem Rz(F:aW X.prog X.w X.K X.mg X.base CX k f fd ps sp)(hr:lR k X.A)(hg:Gl X x)(hm:X.mg x=some (.ref f))(hk:PySem.W.keepIn X.K (.ref f)=true)(hb:Binds X.K fd ps ds)(hd:Vals y4 ds)(hx:vw CX X E)
  (ha:PA X (e::es) t) (MX:(x== ("__debug__":Str))=false:=by decide) (he:xF (e::es) X.env=(false,cq e X.env)::xF es X.env:=by rfl) (Bn:(JP bi (xF es X.env)).any (·.1)=false:=by rfl):
  PE X (.Call (.Name x p) (e::es) [] bi) (SM sp y4 E t):=by
 intro ag s σ H Q I h;refine km (Dg I hg hm ?_ MX);refine PySem.W.callWith_K (h₀:=X.base) I.ok.mod.kin hk (cb (ha bi ag s σ H _ I h) λus s1 ⟨vs,H1,I1,r,q⟩=>⟨I1.kIn,?_⟩) he Bn;exact GF F hr hb hd hx I1 r q
theorem dW{pl:AG Bool}(he:PE X o ta)(c:Cls X.K C)(hm:yn X.K C m f)(F:aW X.prog X.w X.K X.mg X.base CX k f fd ps sp)(hr:lR k X.A)(hb:Binds X.K fd ps ds)(hd:Vals y4 ds)(hx:vw CX X E)(ha:PA X (e::es) t)
  (mN:xF (e::es) X.env=(false,cq e X.env)::xF es X.env:=by rfl) (Bn:(JP bi (xF es X.env)).any (·.1)=false:=by rfl)
  (ht:cq (.Call (.Attribute o m sK) (e::es) [] bi) X.env=(do
   let ov <- cq o X.env
   WF sK.atName
   let(f,first) <- Q4 [ov] (xC ov m pl)
   callWith bi f first (JP bi (xF (e::es) X.env)) (xa bi (WN [] X.env))):=by rfl):
  PE X (.Call (.Attribute o m sK) (e::es) [] bi) (R7 C m sp y4 E ta t):=by
 intro ag s σ H Q I h;refine PySem.W.methodCall_KW (pl:=pl) (cb (he ag s σ H _ I h) λu s1 ⟨x,H1,I1,rx,a,dx,fs,ex,ea,l,q⟩=>?_) ht;subst ex;obtain rfl:u=xn a:=rx;refine yL I1 ea c hm l ?_;refine PySem.W.callWith_K (first:=[.ref a]) (h₀:=X.base) I.ok.mod.kin hm.kp (cb (ha bi ag s1 σ H1 _ I1 q) λus s2 ⟨vs,H2,I2,r,q2⟩=>⟨I2.kIn,?_⟩) mN Bn;exact GF (us:=.ref a::us) (vs:=.ref a::vs) F hr hb hd hx I2 (.cons rfl r) q2
theorem cG{pl:AG Bool}(he:PE X o ta)(c:Cls X.K C)(hm:yn X.K C m f)(F:aW X.prog X.w X.K X.mg X.base CX k f fd ps sp)(hr:lR k X.A)(hb:Binds X.K fd ps ds)(hd:Vals y4 ds)(hx:vw CX X E)
  (ht:cq (.Call (.Attribute o m sK) [] [] bi) X.env=(do
   let ov <- cq o X.env
   WF sK.atName
   let(f,first) <- Q4 [ov] (xC ov m pl)
   callWith bi f first (JP bi (xF [] X.env)) (xa bi (WN [] X.env))):=by rfl):
  PE X (.Call (.Attribute o m sK) [] [] bi) (R7 C m sp y4 E ta Vl):=by
 intro ag s σ H Q I h;refine PySem.W.methodCall_KW (pl:=pl) (cb (he ag s σ H _ I h) λu s1 ⟨x,H1,I1,rx,a,dx,fs,ex,ea,l,q⟩=>?_) ht;subst ex;obtain rfl:u=xn a:=rx;refine yL I1 ea c hm l ?_;exact PySem.W.callWith_K0 (first:=[.ref a]) I1.kIn hm.kp (GF (us:=[.ref a]) (vs:=[.ref a]) F hr hb hd hx I1 (.cons rfl .nil) q)
structure Mk (K:PySem.W.Frag) (C f:ax):Prop where
 makes:PySem.W.makesIn K C=true
 init:PySem.W.findIn K (.ref C) "__init__" =some (some (.ref f))
 fn:PySem.W.isFn K (.ref f)=true
 kp:PySem.W.keepIn K (.ref C)=true
theorem N8{ag:LO}{σ:St}{H:Hp}{s:ut}{Q:VK}{us:LU}{vs:LV}(M:Mk X.K C f)(F:aW X.prog X.w X.K X.mg X.base CX k f fd ps sp)(hr:lR (k+1) X.A)(hb:Binds X.K fd ps ds)(hd:Vals y4 ds)
  (hx:vw CX X E) (I:Inv X ag σ H s) (r:Vals vs us)
  (h:∀x dx,H x=none->H dx=none->dx≠x->sp (.ref x::(vs++y4)) (upd (upd H dx (.own x)) x (.ins C dx [])) (λv H2=>v=.non/\Q (.ref x) H2) E):
  wpAny ‹7› X.A (call (.ref C) us) (EP X ag σ Q) X.xe s:=by
 have hq:=h (s.heap.objs.size+1) s.heap.objs.size (I.hok.fresh (sf _)) (I.hok.fresh (af _)) (d6 (mv _));have I2:=Inv.made (C:=C) I;have r2:Vals (V.ref (s.heap.objs.size+1)::(vs++y4)) (xn (s.heap.objs.size+1)::(us++ds)):=.cons rfl (r.append hd)
 have hl:(xn (s.heap.objs.size+1)::us++ds).length=ps.length:=by
  have e:=r2.length;rw[F.len _ _ _ _ hq]at e;exact e.symm
 refine wpAny_call (Mw (f:=f) I.kIn M.makes M.init (ky.mp M.fn) (mw (F.run _ X.stack _ _ ⟨xn (s.heap.objs.size+1)::us,[]⟩ (xn (s.heap.objs.size+1)::(us++ds)) _ _ E (hr.make C us [])
  (I2.env0.make C us []) (hb _ (xn (s.heap.objs.size+1)::us) I2.kIn hl) r2 hq) λr s' L8=>?_))
 cases r with
 |error e=>exact hx ag σ _ _ e s' I2 L8
 |ok fl=>
  cases fl with
  |ret u=>
   obtain⟨v,H',I3,rv,ev,q3⟩:=I2.after L8;subst ev;exact⟨rv,⟨V.ref (s.heap.objs.size+1),H',I3,rfl,q3⟩⟩
  |next=>exact yz L8
  |brk=>exact yz L8
  |cont=>exact yz L8
theorem QX(M:Mk X.K C f)(F:aW X.prog X.w X.K X.mg X.base CX k f fd ps sp)(hr:lR (k+1) X.A)(hg:Gl X x)(hm:X.mg x=some (.ref C))(hb:Binds X.K fd ps ds)(hd:Vals y4 ds)(hx:vw CX X E)
  (ha:PA X (e::es) t) (MX:(x== ("__debug__":Str))=false:=by decide) (he:xF (e::es) X.env=(false,cq e X.env)::xF es X.env:=by rfl) (Bn:(JP bi (xF es X.env)).any (·.1)=false:=by rfl):
  PE X (.Call (.Name x p) (e::es) [] bi) (V2 C sp y4 E t):=by
 intro ag s σ H Q I h;refine km (Dg I hg hm ?_ MX);refine PySem.W.callWith_K (h₀:=X.base) I.ok.mod.kin M.kp (cb (ha bi ag s σ H _ I h) λus s1 ⟨vs,H1,I1,r,q⟩=>⟨I1.kIn,?_⟩) he Bn;exact N8 M F hr hb hd hx I1 r q
end
structure aZ (N P:LS) (sc:Scope):Prop where
 kind:sc.kind=.function
 co:sc.isCoroutine=false
 gen:sc.isGenerator=false
 nd:N.Nodup
 pre:N.take P.length=P
 par:∀x∈P,sc.names.lookup x=some .local\/sc.names.lookup x=some .cell
 Ue:∀y∈sc.names,y.2≠.free
theorem Bo{kindOf:Str->Option ym}{x:Str}:∀{CC:List (Str×ue)} {m:MG},(∀v,(x,v)∉CC)->AJ kindOf CC m x=m x
 |[],_,_=>rfl
 |(n,v)::r,m,h=>by
  unfold AJ;rw[Bo λw hw=>h w (cf _ hw)];split
  ·have:x≠n:=by rintro rfl; exact h v aS
   simp[this]
  ·rfl
theorem zT{kindOf:Str->Option ym}{x:Str}:∀{CC:List (Str×ue)} {m:MG},(∀v,(x,v)∉CC)->AK kindOf CC m x=m x
 |[],_,_=>rfl
 |(n,v)::r,m,h=>by
  unfold AK;rw[zT λw hw=>h w (cf _ hw)];split
  ·rfl
  ·have:x≠n:=by rintro rfl; exact h v aS
   simp[this]
theorem Ao{kindOf:Str->Option ym}{x:Str}{v:ue}:∀{P:LS} {vs:LU} {i:Nat} {m:MG},P.Nodup->P[i]?=some x->vs[i]?=some v->kindOf x=some .local->
  AJ kindOf (P.zip vs) m x=some v
 |[],_,_,_,_,h,_,_=>by simp at h
 |_::_,[],_,_,_,_,h,_=>by simp at h
 |p::P,w::vs,0,m,nd,h1,h2,hk=>by
  simp at h1 h2;subst h1;subst h2;show AJ kindOf ((p,w)::P.zip vs) m p=_;unfold AJ;rw[Bo λv hv=>(fg.mp nd).1 (List.of_mem_zip hv).1,dL hk];simp
 |p::P,w::vs,i+1,m,nd,h1,h2,hk=>by
  show AJ kindOf ((p,w)::P.zip vs) m x=_;unfold AJ;exact Ao (i:=i) (fg.mp nd).2 (by simpa using h1) (by simpa using h2) hk
theorem Aw{kindOf:Str->Option ym}{x:Str}{v:ue}:∀{P:LS} {vs:LU} {i:Nat} {m:MG},P.Nodup->P[i]?=some x->vs[i]?=some v->kindOf x≠some .local->
  AK kindOf (P.zip vs) m x=some v
 |[],_,_,_,_,h,_,_=>by simp at h
 |_::_,[],_,_,_,_,h,_=>by simp at h
 |p::P,w::vs,0,m,nd,h1,h2,hk=>by
  simp at h1 h2;subst h1;subst h2;show AK kindOf ((p,w)::P.zip vs) m p=_;unfold AK;rw[zT λv hv=>(fg.mp nd).1 (List.of_mem_zip hv).1,dC hk];simp
 |p::P,w::vs,i+1,m,nd,h1,h2,hk=>by
  show AK kindOf ((p,w)::P.zip vs) m x=_;unfold AK;exact Aw (i:=i) (fg.mp nd).2 (by simpa using h1) (by simpa using h2) hk
noncomputable def start(N:LS)(vs:LV):St:=vs.map some++List.replicate (N.length - vs.length) none
noncomputable def jm(CX:GG)(P:vy)(w:xm)(K:PySem.W.Frag)(mg:MG)(base:Heap)(N:LS)(qual:Str)(scope:Scope)(f:ax)(cd:ue)(A:ye)(outer:List wT)(s:ut)(H:Hp)(E:XK):Cx where
 prog:=P
 w:=w
 K:=K
 mg:=mg
 base:=base
 A:=A.deeper (Xz qual scope s.heap.objs.size f cd)
 N:=N
 s₀:=s
 H₀:=H
 env:=Xz qual scope s.heap.objs.size f cd
 outer:=outer
 stack:=Xz qual scope s.heap.objs.size f cd::outer
 ex:=[]
 calm:=true
 fn:=λ_=>true
 pn:=[]
 xe:=λe s'=>wpAny (vz P w) (A.deeper (Xz qual scope s.heap.objs.size f cd)) (leaving (Xz qual scope s.heap.objs.size f cd) e) (λ_ MY=>CX outer H s E e MY) (λe' MY=>CX outer H s E e' MY) s'
theorem Ew{sc:Scope}{n:Nat}{x:Str}(h:sc.names.lookup x=some .cell):∃c,(cm n sc.names []).lookup x=some c:=by
 have q:=lx sc.names n [] (.inl h);exact iO.mp q
theorem KZ{CX:GG}{P:vy}{w:xm}{K:PySem.W.Frag}{mg:MG}{base:Heap}{N ps:LS}{qual:Str}{scope:Scope}{f:ax}{cd:ue}{A:ye}{outer:List wT}{s s1:ut}{H:Hp}{E:XK}{us:LU}{vs:LV}
  (S:aZ N ps scope) (hd:A.handled=none) (e0:Hf P w K mg base A outer s H) (hl:vs.length=ps.length) (r:Vals vs us)
  (x:InCallC s s.heap.objs.size (AJ (Xz qual scope s.heap.objs.size f cd).kindOf (ps.zip us) λ_=>none) (cm (s.heap.objs.size+1) scope.names []) (AK (Xz qual scope s.heap.objs.size f cd).kindOf (ps.zip us) λ_=>none) s1):
  Inv (jm CX P w K mg base N qual scope f cd A outer s H E) [] (start N vs) H s1:=by
 have Bn:ps.length<=N.length:=by have:=congrArg List.length S.pre;rw[bj]at this;omega
 obtain⟨h1,tk,rfl,hk⟩:=x.done;have X1:∀b:ax,b∉(jm CX P w K mg base N qual scope f cd A outer s H E).ex:=λb z=>absurd (show b∈([]:LA)from z) (by simp)
 refine⟨⟨e0.mod,S.kind,rfl,rfl,af _,λy z c h1 h2=>?_,λy hy=>?_,λy c _ h=>?_,λ_=>hd,ye.frames_deeper e0.frames,.inr ⟨rfl,rfl⟩,λb z=>absurd z (X1 b),e0.bs,e0.bsz,λb _ _=>X1 b,λb z=>absurd z (X1 b),e0.wY,e0.frf⟩,
  rfl,e0.bare,Un.kept hk,⟨_,x.toInCall.ns,λi y v h1 h2 h3=>?_⟩,λy c h=>⟨_,x.cell y c h⟩,e0.hok.fresh (af _),λy c h=>?_,λp hp=>absurd (show p∈([]:LO)from hp) (by simp),e0.hok.kept hk,?_⟩
 ·exact name_of_addr x.apart (gu h1) (gu h2)
 ·have hy:scope.names.lookup y=some .cell\/scope.names.lookup y=some .free:=hy;rcases hy with hy | hy
  ·exact Ew hy
  ·exact absurd rfl (S.Ue _ (gu hy))
 ·exact Nat.le_of_lt (x.above y c (gu h))
 ·have hi:i<vs.length:=by
   unfold start at h2
   by_cases hi:i<vs.length
   ·exact hi
   ·rw[kB (by simpa using hi)]at h2;rw[List.getElem?_replicate]at h2;split at h2 <;>cases h2
  have ha:vs[i]?=some v:=by
   unfold start at h2;rw[kG (by simpa using hi),bS]at h2;cases e:vs[i]? with
   |none=>rw[e]at h2;cases h2
   |some a=>rw[e]at h2;cases h2;rfl
  obtain⟨u,hu,rv⟩:=r.get ha
  have hp:ps[i]?=some y:=by
   rw[<- S.pre,ku ‹21›];exact h1
  have ndP:ps.Nodup:=by rw[<- S.pre];exact S.nd.sublist (pe _ _)
  refine⟨u,rv,?_⟩;rcases S.par y (gE hp)with k|k
  ·exact .inl ⟨k,Ao ndP hp hu k⟩
  ·obtain⟨c,e⟩:=Ew (n:=s.heap.objs.size+1) k;refine .inr ⟨.inl k,c,e,?_⟩;have q:=x.cell y c e;rw[Aw ndP hp hu (by show scope.names.lookup y≠_;rw[k];decide)]at q;exact q
 ·exact e0.hok.fresh (Nat.le_of_lt (x.above y c (gu h)))
 ·unfold start;show _=N.length;rw[ai,aa,eL];omega
theorem Vf{CX:GG}{P:vy}{w:xm}{K:PySem.W.Frag}{mg:MG}{base:Heap}{k:Nat}{f:ax}{name qual:Str}{params:Arguments}{zD:List gz}{scope:Scope}{dV kV Ch pm xh ct oc:ue}{an od:Option ax}
  {Pf:Array (Option ue)} {N ps:LS} {sp:Sp} (lk:K.lookup f=some ⟨oc,od,.func (PySem.W.fnOf name qual params zD scope dV kV Ch pm an xh ct),Pf⟩) (Iq:PySem.W.codeIn K xh qual=true) (S:aZ N ps scope)
  (len:∀vs H Q E,sp vs H Q E->vs.length=ps.length)
  (Ix:∀(A:ye) (outer:List wT) (s:ut) (H:Hp) (vs:LV) (Q:VK) (E:XK),lR k (A.deeper (Xz qual scope s.heap.objs.size f xh))->sp vs H Q E->
   ∃t,PSs (jm CX P w K mg base N qual scope f xh A outer s H E) zD t/\t {nx:=λ_ H'=>Q .non H',rt:=Q} (start N vs) H):
  aW P w K mg base CX (k+1) f (PySem.W.fnOf name qual params zD scope dV kV Ch pm an xh ct) ps sp:=by
 refine⟨len,λA outer s H args us vs Q E hr e0 hb r Pl=>?_⟩;have hl:=len _ _ _ _ Pl;have KX:K.In s.heap:=e0.mod.kin.keeps λb o e=>(e0.bs b o e).1;have lim:s.heap.NoLimit:=e0.mod.nolimit.keeps λb o e=>(e0.bs b o e).1
 have X2:∀y∈ps.zip us,scope.names.lookup y.1=some .local\/(scope.names.lookup y.1=some .cell/\((cm (s.heap.objs.size+1) scope.names []).lookup y.1).isSome=true):=λ⟨n,v⟩ hy=>by
  rcases S.par n (List.of_mem_zip hy).1 with q|q
  ·exact .inl q
  ·exact .inr ⟨q,lx _ _ _ (.inl q)⟩
 refine codeAny_call_function hr.depth (KX _ _ lk) rfl S.co S.gen rfl (PySem.W.codeRec_of KX Iq) (hb _ _ _ _ ?_);refine wpAny_newFunctionEnv_cells S.kind X2 λenv he s1 x=>?_;subst he;refine⟨lim.keeps x.toInCall.keep,codeAny_func ?_⟩;obtain⟨t,ht,hq⟩:=Ix A outer s H vs Q E (hr.deeper _) Pl;have I:Inv (jm CX P w K mg base N qual scope f xh A outer s H E) [] (start N vs) H s1:=KZ S hr.hd e0 hl r x;refine fF (ht [] s1 (start N vs) H _ I hq) (λfl s' hs=>?_) λe s' hs=>hs
 have hJ:∀{cp:St} {H':Hp} {v:V} {u:ue},Inv (jm CX P w K mg base N qual scope f xh A outer s H E) [] cp H' s'->RelV v u->Q v H'->CE outer P w H s Q u s':=
  λ{cp H' v u} J rv q=>⟨v,H',J.os,J.bare,J.base,J.hok,rv,q⟩
 cases fl with
 |ret u=>
  obtain⟨v,cp,H',J,rv,q⟩:=hs;exact hJ J rv q
 |next=>
  obtain⟨cp,H',J,q⟩:=hs;exact hJ (v:=V.non) (u:=HR) J rfl q
 |brk=>
  obtain⟨_,_,_,q⟩:=hs;exact yz q
 |cont=>
  obtain⟨_,_,_,q⟩:=hs;exact yz q
section
variable {X:Cx}{x:Str}{p bi:mo}{e:Expr}{es:List Expr}{t:TA}{id T:String}{r:LV->Hp->VK->Prop}
def tCB(r:LV->Hp->VK->Prop)(t:TA):TE:=λσ H Q=>t σ H λvs H1=>r vs H1 Q
theorem aN(hc:iy X (.builtin id) r)(hg:Gl X x)(hm:X.mg x=none)(hv:yf x=some (.builtin id))(ha:PA X (e::es) t)(hn:x≠ "__name__":= by decide)(MX:(x== ("__debug__":Str))=false:=by decide)
  (he:xF (e::es) X.env=(false,cq e X.env)::xF es X.env:=by rfl) (Bn:(JP bi (xF es X.env)).any (·.1)=false:=by rfl):PE X (.Call (.Name x p) (e::es) [] bi) (tCB r t):=by
 intro ag s σ H Q I h;refine km (vB I hg hm hv ?_ hn MX);exact PyProof.Rows.callWith_builtin1 (cb (ha bi ag s σ H _ I h) λus s1 ⟨vs,H1,I1,r1,q1⟩=>hc ag s1 σ H1 vs us Q I1 r1 q1) he Bn
theorem aY(hc:iy X (.type T) r)(hg:Gl X x)(hm:X.mg x=none)(hv:yf x=some (.type T))(ha:PA X (e::es) t)(hn:x≠ "__name__":= by decide)(MX:(x== ("__debug__":Str))=false:=by decide)
  (he:xF (e::es) X.env=(false,cq e X.env)::xF es X.env:=by rfl) (Bn:(JP bi (xF es X.env)).any (·.1)=false:=by rfl):PE X (.Call (.Name x p) (e::es) [] bi) (tCB r t):=by
 intro ag s σ H Q I h;refine km (vB I hg hm hv ?_ hn MX);exact jI (cb (ha bi ag s σ H _ I h) λus s1 ⟨vs,H1,I1,r1,q1⟩=>hc ag s1 σ H1 vs us Q I1 r1 q1) he Bn
end
end L2
end
section
namespace HT
open PySem PyProof.Rows
variable {Q:ue->ut->Prop}{sl:ax}{vl vu:ue}{hi lo:Option Int}{n:Nat}{items:Array ue}
section
variable {prog:vy}{w:xm}{A:ye}{E:ue->ut->Prop}{s:ut}
theorem QJ{t b:ax}{vs ws:List ue}(ht:IsTup s.heap t vs.toArray)(hb:IsTup s.heap b ws.toArray)(hv:vs≠[])
  (h1:ws=[]->Q (.ref t) s) (h2:ws≠[]->Q (.ref s.heap.objs.size) {s with heap:=s.heap.push {cls:=.type "tuple",data:=.seq (vs++ws).toArray} })
  (hsz:vs.length+ws.length<=ab):wpAny ‹17› A (Ex .Add (.ref t) (.ref b)) Q E s:=by
 obtain⟨⟨cls,dd,data,sl⟩,ho,hc,n,hd⟩:=id ht;obtain⟨⟨Rl,Pm,data2,DZ⟩,DI,Cn,n2,y6⟩:=id hb;simp only at hc hd Cn y6;subst hc hd Cn y6;have e:vs.toArray++ws.toArray=(vs++ws).toArray:=by simp
 by_cases hw:ws=[]
 ·exact xb ⟨_,ho,rfl⟩ ⟨_,DI,rfl⟩ pV sj ly k6 (kT _ _)
   (tuple_addW1 t b vs.toArray ws.toArray n n2 dd Pm sl DZ (by simpa using hv) (by simp[hw])) ⟨ho,DI,h1 hw⟩
 ·refine xb ⟨_,ho,rfl⟩ ⟨_,DI,rfl⟩ pV sj ly k6 (kT _ _)
   (tuple_addW2 t b vs.toArray ws.toArray n n2 dd Pm sl DZ (by simpa using hv) (by simpa using hw) (by rw[bz,bz];exact hsz)) ⟨ho,DI,?_⟩
  rw[e];exact h2 hw
noncomputable def sIx(n d:Nat):Option Int->Nat
 |none=>d
 |some v=>if v<0 then(v+(n:Int)).toNat else min v.toNat n
theorem yp(n d k:Nat):sIx n d (some (k:Int))=min k n:=by
 show(if(k:Int)<0 then((k:Int)+(n:Int)).toNat else min (k:Int).toNat n)=min k n;rw[dC ‹21›,Int.toNat_natCast]
theorem U4(n d:Nat)(hd:d<=n)(o:Option Int):sIx n d o<=n:=by
 cases o with
 |none=>exact hd
 |some v=>
  show(if v<0 then(v+(n:Int)).toNat else min v.toNat n)<=n
  by_cases hv:v<0
  ·rw[dL hv];omega
  ·rw[dC hv];exact Nat.min_le_right _ _
theorem Im(v:Int)(n d:Nat):(if v<0 then max (v+(n:Int)) 0 else min v (n:Int))=((sIx n d (some v):Nat):Int):=by
 show(if v<0 then max (v+(n:Int)) 0 else min v (n:Int))=(((if v<0 then(v+(n:Int)).toNat else min v.toNat n):Nat):Int)
 by_cases hv:v<0
 ·simp only[dL hv];omega
 ·simp only[dC hv];omega
theorem Gz(lo hi:Option Int)(n:Nat):O3 lo hi 1 (n:Int)=(((sIx n 0 lo:Nat):Int),((sIx n n hi:Nat):Int)):=by
 have h1:¬((1:Int)<0):=by omega
 unfold O3;simp only[h1,rS];refine Prod.ext ?_ ?_
 ·cases lo with
  |none=>rfl
  |some v=>exact Im v n 0
 ·cases hi with
  |none=>rfl
  |some v=>exact Im v n n
theorem HN(i j:Nat):Hc (i:Int) (j:Int) 1=j - i:=by
 unfold Hc;have h1:(1:Int) >0:=by omega
 simp only[h1,kM,Int.ediv_one];split <;>omega
theorem zB{v:ue}{o:Option Int}{Q:Option Int->ut->Prop}(p:Xr v o)(h:Q o s):wpAny ‹17› A (xf.Slice.slicePartIndex v) Q E s:=by
 cases p with
 |none=>exact slicePart_none h
 |int i t=>exact slicePart_int h
theorem qT{Q:Int×Int×Nat->ut->Prop}(hs:s.heap.IsSliceOf sl vl vu .none)(pl:Xr vl lo)(pu:Xr vu hi)
  (h:Q (((sIx n 0 lo:Nat):Int),1,sIx n n hi - sIx n 0 lo) s):wpAny ‹17› A (xf.Slice.sliceApplied (.ref sl) (Hb (n:Int))) Q E s:=by
 obtain⟨os,GI,X9,Ya⟩:=id hs;unfold xf.Slice.sliceApplied xf.Slice.sliceFields;refine ae (ae (eT GI Ya (x:=vl) rfl (ae (eT GI Ya (x:=vu) rfl (ae (eT GI Ya (x:=.none) rfl (aE ?_)))))));refine ae (slicePart_none ?_);show wpAny _ _ (if((1:Int)== 0)=true then _ else _) _ _ s;rw[dC ‹11›];refine ae (zB pl (ae (zB pu (ae (aE ?_)))));show wpAny _ _ (match O3 lo hi 1 (n:Int)with |(lo,hi)=>Hb (lo,(1:Int),Hc lo hi 1)) _ _ s;rw[Gz lo hi n];show wpAny _ _ (Hb (((sIx n 0 lo:Nat):Int),(1:Int),Hc ((sIx n 0 lo:Nat):Int) ((sIx n n hi:Nat):Int) 1)) _ _ s;rw[HN];exact aE h
theorem LK(xs:Array ue)(i k:Nat):((List.range k).filterMap λ(m:Nat)=>xs[((i:Int)+(m:Int)*1).toNat]?).toArray=((xs.toList.drop i).take k).toArray:=by
 have e:(λ(m:Nat)=>xs[((i:Int)+(m:Int)*1).toNat]?)=λm=>xs[i+m]?:=by
  funext m;have:((i:Int)+(m:Int)*1).toNat=i+m:=by omega
  rw[this]
 rw[e];have:=pick_run xs i k;rw[List.filterMap_map]at this;have e2:((λx=>xs[x]?) ∘ λx=>i+x)=λm=>xs[i+m]?:=rfl;rw[e2]at this;rw[this]
theorem wF{t:ax}(ht:IsTup s.heap t items)(hs:s.heap.IsSliceOf sl vl vu .none)(pl:Xr vl lo)(pu:Xr vu hi)
  (hw:¬(sIx items.size 0 lo=0/\sIx items.size items.size hi=items.size))
  (h:Q (.ref s.heap.objs.size) {s with heap:=s.heap.push {cls:=.type "tuple",data:=.seq ((items.toList.drop (sIx items.size 0 lo)).take (sIx items.size items.size hi - sIx items.size 0 lo)).toArray} })
  (hsz:items.size<=ab):wpAny ‹17› A (Th (.ref t) (.ref sl)) Q E s:=by
 have EQ:sizeOk (.seq ((items.toList.drop (sIx items.size 0 lo)).take (sIx items.size items.size hi - sIx items.size 0 lo)).toArray):=by
  show((items.toList.drop (sIx items.size 0 lo)).take (sIx items.size items.size hi - sIx items.size 0 lo)).toArray.size<=ab;rw[bz,bj,ja,ir];omega
 have hj:sIx items.size items.size hi<=items.size:=U4 _ _ (af _) hi;obtain⟨os,GI,X9,Ya⟩:=id hs;have Yb:s.TypeIs (.ref sl) "slice":= ⟨os,GI,X9⟩;unfold Th
 try with_reducible refine ie ?_
 first|refine ae (aE ?_)|skip
 refine ae (wpAny_sequenceKey ht.typeIs ‹11› ?_)
 refine ae (gm (name:=Str.ofString "__getitem__") ht.typeIs gL
  (jb gL ht.typeIs entry_tuple_getitem ?_ (args_tuple_getitem _ _)))
 show wpAny _ _ (xf.Tuple.tupleItemsOf (.ref t) >>= _) _ _ s;refine ae (tupleItemsOf_ ht ?_);refine ae (ip Yb ?_);rw[dL ‹11›];refine ae (qT hs pl pu ?_)
 have AR:¬((((sIx items.size 0 lo:Nat):Int)== 0 && (1:Int)== 1 && (sIx items.size items.size hi - sIx items.size 0 lo)== items.size)=true):=by
  intro q;rw[jp,jp]at q;have q1:((sIx items.size 0 lo:Nat):Int)=0:=eq_of_beq q.1.1;have q2:sIx items.size items.size hi - sIx items.size 0 lo=items.size:=eq_of_beq q.2;exact hw ⟨by omega,by omega⟩
 show wpAny _ _ (if(((sIx items.size 0 lo:Nat):Int)== 0 && (1:Int)== 1 && (sIx items.size items.size hi - sIx items.size 0 lo)== items.size)=true then _ else _) _ _ s;rw[dC AR,LK]
 first
  |exact ae (m:=zg _) (gX (aE ⟨_,rfl,aE h⟩) EQ)
  |exact ae (m:=zg _) (gX (ae (aE (aE ⟨_,rfl,aE h⟩))) EQ)
  |exact ae (ae (m:=zg _) (gX (aE (aE ⟨_,rfl,aE h⟩)) EQ))
  |exact ae (ae (m:=zg _) (gX (aE ⟨_,rfl,aE h⟩) EQ))
end
end HT
namespace L2
open PySem PySem.Spec PyProof.Rows
variable {xs:LV}{its us:LU}{j n t':Nat}{ag:LO}{σ:St}{H H':Hp}{s:ut}{a p:ax}{A:ye}{y:V}{u:ue}{P prog:vy}{w:xm}{kvs:sg}{E Q:ES}{h':Heap}{env:wT}{bi:mo}{X:Cx}
abbrev TO:=St->Hp->(Option Int->Hp->Prop)->Prop
def PO(X:Cx)(e:Option Expr)(t:TO):Prop:=
 ∀(ag:LO) (s:ut) (σ:St) (H:Hp) (Q:Option Int->Hp->Prop),Inv X ag σ H s->t σ H Q->
  wpAny ‹7› X.A (evalPart e X.env) (λu s'=>∃o H',Inv X ag σ H' s'/\Xr u o/\Q o H') X.xe s
def Qv:TO:=λ_ H Q=>Q none H
inductive NT (Q:Option Int->Hp->Prop) (x:V) (H1:Hp):Prop
 |mk (i:_):x=.int i->Q (some i) H1->NT Q x H1
def Vn(t:TE):TO:=λσ H Q=>t σ H λx H1=>NT Q x H1
section
variable {X:Cx}{e:Expr}{te:TE}{lo hi:Option Expr}{tl th:TO}{bi p2:mo}
theorem iH:PO X none Qv:=by
 intro ag s σ H Q I h;rw[vt];exact aE ⟨none,H,I,.none,h⟩
theorem iM(h:PE X e te):PO X (some e) (Vn te):=by
 intro ag s σ H Q I hw;rw[evalPart_some];refine cb (h ag s σ H _ I hw) λu s1 ⟨x,H1,I1,r1,q1⟩=>?_;obtain⟨i,rfl,q⟩:=q1;obtain⟨t,rfl⟩:=r1;exact⟨some i,H1,I1,.int i t,q⟩
def SlR(X:Cx)(r:V->Option Int->Option Int->Hp->VK->Prop):Prop:=
 ∀(ag:LO) (s:ut) (σ:St) (H:Hp) (x:V) (v vl vu:ue) (lo hi:Option Int) (sl:ax) (Q:VK),Inv X ag σ H s->RelV x v->s.heap.IsSliceOf sl vl vu .none->Xr vl lo->Xr vu hi->r x lo hi H Q->
  ∃T id,vT (.type T) "__getitem__" =Hb (some (.builtin id))/\s.TypeIs v T/\wpAny ‹7› X.A (Th v (.ref sl)) (EP X ag σ Q) X.xe s
theorem SlR.or{r r':V->Option Int->Option Int->Hp->VK->Prop}(h:SlR X r)(h':SlR X r'):SlR X (λx lo hi H Q=>r x lo hi H Q\/r' x lo hi H Q):=by
 intro ag s σ H x v vl vu lo hi sl Q I rx hs pl pu q;rcases q with q|q
 ·exact h ag s σ H x v vl vu lo hi sl Q I rx hs pl pu q
 ·exact h' ag s σ H x v vl vu lo hi sl Q I rx hs pl pu q
def tSl(r:V->Option Int->Option Int->Hp->VK->Prop)(te:TE)(tl th:TO):TE:=λσ H Q=>te σ H λx H1=>tl σ H1 λl H2=>th σ H2 λu H3=>r x l u H3 Q
theorem gn{r:V->Option Int->Option Int->Hp->VK->Prop}(hr:SlR X r)(he:PE X e te)(hl:PO X lo tl)(hu:PO X hi th):PE X (.Subscript e (.Slice lo hi none p2) bi) (tSl r te tl th):=by
 intro ag s σ H Q I h;refine wa (cb (he ag s σ H _ I h) fun v s1 ⟨x,H1,I1,r1,q1⟩=>?_);refine wpAny_Slice (cb (hl ag s1 σ H1 _ I1 q1) fun vl s2 ⟨l,H2,I2,pl,q2⟩=>cb (hu ag s2 σ H2 _ I2 q2) fun vu s3 ⟨u,H3,I3,pu,q3⟩=>?_);rw[vt];refine aE ?_;have I4:Inv X ag σ H3 {s3 with heap:=s3.heap.push {cls:=.type "slice",data:=.fields #[vl,vu,.none]} }:=I3.kept (t':=s3.toks) fun b ob q=>am _ q;obtain⟨T,id,hT,ht,hg⟩:=hr ag {s3 with heap:=s3.heap.push {cls:=.type "slice",data:=.fields #[vl,vu,.none]} } σ H3 x v vl vu l u s3.heap.objs.size Q I4 r1 (Heap.IsSliceOf.new ..) pl pu q3;show wpAny ‹7› X.A (Xi e (.Slice lo hi none p2) v (.ref s3.heap.objs.size)) (EP X ag σ Q) X.xe {s3 with heap:=s3.heap.push {cls:=.type "slice",data:=.fields #[vl,vu,.none]} };exact AL (ops:=[.ref s3.heap.objs.size,v]) ht hT hg (by with_unfolding_all rfl)
def mO(xs:LV)(lo hi:Option Int):LV:=(xs.drop (HT.sIx xs.length 0 lo)).take (HT.sIx xs.length xs.length hi - HT.sIx xs.length 0 lo)
theorem xU(xs:LV)(lo hi:Option Int):(mO xs lo hi).length<=xs.length:=by
 unfold mO;rw[bj,ja];omega
inductive Rw (K:PySem.W.Frag) (x:V) (lo:Option Int) (hi:Option Int) (H:Hp) (Q:VK):Prop
 |mk (a xs:_):x=.ref a->SqT K H a xs->¬(HT.sIx xs.length 0 lo=0/\HT.sIx xs.length xs.length hi=xs.length)->(∀p,H p=none->Q (.ref p) (upd H p (.tup (mO xs lo hi))))->Rw K x lo hi H Q
theorem Nj:SlR X (Rw X.K):=by
 intro ag s σ H x v vl vu lo hi sl Q I rx hs pl pu h;obtain⟨a,xs,rfl,hx,hw,q⟩:=h;cases rx;obtain⟨its,r,ht,hz⟩:=I.tuple hx;have eC:its.toArray.size=xs.length:=by rw[bz];exact r.length.symm
 refine⟨"tuple",_,gL.lookup,ht.typeIs,?_⟩;refine HT.wF ht hs pl pu (by rw[eC];exact hw) ?_ (by rw[eC];exact hz);rw[eC];refine⟨.ref s.heap.objs.size,_,I.laid (t':=s.toks) (o:=.tup (mO xs lo hi)) (fun b ob q=>am _ q) (af _) ?_,rfl,q _ (I.hok.fresh (af _))⟩;exact⟨⟨dq (xU xs lo hi) hz,qR _ _⟩,_,(r.drop (HT.sIx xs.length 0 lo)).take (HT.sIx xs.length xs.length hi - HT.sIx xs.length 0 lo),sq _ _⟩
inductive Lk (K:PySem.W.Frag) (x:V) (y:V) (H:Hp) (Q:VK):Prop
 |mk (a b xs ys:_):x=.ref a->y=.ref b->SqT K H a xs->SqT K H b ys->xs≠[]->xs.length+ys.length<=ab->(ys=[]->Q (.ref a) H)->(ys≠[]->∀p,H p=none->Q (.ref p) (upd H p (.tup (xs++ys))))->Lk K x y H Q
theorem Vals.lG(r:Vals xs us):us=[]↔xs=[]:=by
 cases r with
 |nil=>simp
 |cons _ _=>simp
theorem Jg:OpR X (Ex .Add) (Lk X.K):=by
 intro ag s σ H x y v u Q I rx ry h;obtain⟨a,b,xs,ys,rfl,rfl,ha,hb,hx,hz,q1,q2⟩:=h;cases rx;cases ry;obtain⟨its,r1,p1,_⟩:=I.tuple ha;obtain⟨fi,r2,p2,_⟩:=I.tuple hb;refine HT.QJ p1 p2 (λz=>hx (r1.lG.mp z)) (λz=>⟨.ref a,H,I,rfl,q1 (r2.lG.mp z)⟩) (λz=>?_) (by rw[<- r1.length,<- r2.length];exact hz);refine⟨.ref s.heap.objs.size,_,I.laid (t':=s.toks) (o:=.tup (xs++ys)) (λb ob q=>am _ q) (af _) ?_,rfl,q2 (λw=>z (r2.lG.mpr w)) _ (I.hok.fresh (af _))⟩;exact⟨⟨by rw[ai];exact hz,qR _ _⟩,_,r1.append r2,sq _ _⟩
end
noncomputable def MZ(n:Nat)(i:Int):Option Nat:=if 0<=i then(if i<n then some i.toNat else none)else if -(n:Int)<=i then some (i+n).toNat else none
noncomputable def tS{α:Type}(xs:List α)(i:Int):Option α:=(MZ xs.length i).bind λj=>xs[j]?
theorem Ja{i:Int}(h:MZ n i=some j):tN i n=some j/\j<n/\-(n:Int)<=i/\i<n:=by
 unfold MZ at h
 by_cases h0:0<=i
 ·rw [dL h0] at h
  by_cases h1:i<n
  ·rw[dL h1]at h;have e:i.toNat=j:=cS h;exact⟨by rw[yb h0 h1,e],by omega,by omega,h1⟩
  ·rw[dC h1]at h;cases h
 ·rw [dC h0] at h
  by_cases h1:-(n:Int)<=i
  ·rw[dL h1]at h;have e:(i+n).toNat=j:=cS h;exact⟨by rw[seqIndex_neg ‹21› h1,e],by omega,h1,by omega⟩
  ·rw[dC h1]at h;cases h
theorem BJ{α:Type}{xs:List α}{i:Int}{v:α}(h:tS xs i=some v):∃j,tN i xs.length=some j/\xs[j]?=some v/\j<xs.length/\-(xs.length:Int)<=i/\i<xs.length:=by
 unfold tS at h;cases e:MZ xs.length i with
 |none=>rw[e]at h;cases h
 |some j=>
  rw[e]at h;obtain⟨h1,h2,h3,h4⟩:=Ja e;exact⟨j,h1,h,h2,h3,h4⟩
theorem aK{α:Type}{xs:List α}{v:α}(h:xs[j]?=some v):tS xs (j:Int)=some v:=by
 have hj:j<xs.length:=(bo.mp h).1
 have e:MZ xs.length (j:Int)=some j:=by
  unfold MZ;rw[dL ‹21›,dL ‹21›];simp
 unfold tS;rw[e];exact h
theorem Pq{α:Type}(xs:List α)(v:α):tS (xs++[v]) (-1)=some v:=by
 have hl:(xs++[v]).length=xs.length+1:=by simp
 have e:MZ (xs++[v]).length (-1)=some xs.length:=by
  unfold MZ;rw[hl,dC ‹11›,dL ‹21›];congr 1;omega
 unfold tS;rw[e];show(xs++[v])[xs.length]?=some v;simp
def QW(b:Expr):Prop:=∀o i,tf b false o i=operate [o,i] (Th o i)
def IxR(X:Cx)(r:R2):Prop:=
 ∀(fo slice:Expr) (ag:LO) (s:ut) (σ:St) (H:Hp) (x y:V) (v u:ue) (Q:VK),Inv X ag σ H s->RelV x v->RelV y u->r x y H Q->
  tf slice false v u=operate [v,u] (Th v u)->wpAny ‹7› X.A (Xi fo slice v u) (EP X ag σ Q) X.xe s
def MtR(X:Cx)(id:String)(r:V->LV->Hp->VK->Prop):Prop:=
 ∀(ag:LO) (s:ut) (σ:St) (H:Hp) (x:V) (xs:LV) (v:ue) (us:LU) (Q:VK),Inv X ag σ H s->RelV x v->Vals xs us->r x xs H Q->
  wpAny ‹7› X.A (call (.builtin id) (v::us)) (EP X ag σ Q) X.xe s
section
variable {X:Cx}{a b:Expr}{ta tb:TE}{bi:mo}
theorem IxR.or{r r':R2}(h:IxR X r)(h':IxR X r'):IxR X (λx y H Q=>r x y H Q\/r' x y H Q):=by
 intro fo slice ag s σ H x y v u Q I rx ry q hs;rcases q with q|q
 ·exact h fo slice ag s σ H x y v u Q I rx ry q hs
 ·exact h' fo slice ag s σ H x y v u Q I rx ry q hs
theorem bf{r:R2}(hr:IxR X r)(ha:PE X a ta)(hb:PE X b tb)(hs:QW b):PE X (.Subscript a b bi) (tOp r ta tb):=by
 intro ag s σ H Q I h;exact wa (Ui ha hb I h λv u s2 x y H2 I2 rx ry q=>hr a b ag s2 σ H2 x y v u Q I2 rx ry q (hs _ _))
inductive Qg (K:PySem.W.Frag) (x:V) (y:V) (H:Hp) (Q:VK):Prop
 |mk (p xs i v:_):x=.ref p->y=.int i->SqL K H p xs->tS xs i=some v->Q v H->Qg K x y H Q
inductive Kl (K:PySem.W.Frag) (x:V) (y:V) (H:Hp) (Q:VK):Prop
 |mk (p xs i v:_):x=.ref p->y=.int i->SqT K H p xs->tS xs i=some v->Q v H->Kl K x y H Q
inductive Vd (x:V) (y:V) (H:Hp) (Q:VK):Prop
 |mk (z i c:_):x=.str z->y=.int i->z.length<=ab->tS z.cps.toList i=some c->Q (.str ⟨#[c]⟩) H->Vd x y H Q
theorem yu:IxR X (Qg X.K):=by
 intro fo slice ag s σ H x y v u Q I rx ry h hs;obtain⟨p,xs,i,z,rfl,rfl,hq,he,q⟩:=h;cases rx;obtain⟨t,rfl⟩:=ry;obtain⟨its,r,pl,hz⟩:=I.list hq;obtain⟨j,h1,h2,h3,h4,h5⟩:=BJ he;obtain⟨w,ew,tF⟩:=r.get h2;have hl:=r.length;have hn:=ug;have hJ:EP X ag σ Q w s:=⟨z,H,I,tF,q⟩
 by_cases h0:0<=i
 ·have hj:i.toNat=j:=by
   rw[yb h0 h5]at h1;exact cS h1
  exact item_listR pl.isList h0 ‹21› (by rw[hj];simpa using ew) hJ hs
 ·have hj:(i+(its.toArray.size:Int)).toNat=j:=by
   rw[seqIndex_neg ‹21› h4]at h1;rw[bz,<- hl];exact cS h1
  exact pf (x:=w) pl.isList.typeIs pj.lookup
   (wpAny_getItem_list_neg (Q:=λr s'=>r=w/\EP X ag σ Q r s') pl.isList ‹21› (by rw[bz] <;>omega) ‹21› (by rw[hj];simpa using ew) ⟨rfl,hJ⟩) hs
theorem Cr:IxR X (Kl X.K):=by
 intro fo slice ag s σ H x y v u Q I rx ry h hs;obtain⟨p,xs,i,z,rfl,rfl,hq,he,q⟩:=h;cases rx;obtain⟨t,rfl⟩:=ry;obtain⟨its,r,pl,hz⟩:=I.tuple hq;obtain⟨j,h1,h2,h3,h4,h5⟩:=BJ he;obtain⟨w,ew,tF⟩:=r.get h2;have hl:=r.length;have hn:=ug;have hJ:EP X ag σ Q w s:=⟨z,H,I,tF,q⟩
 exact pf (x:=w) pl.typeIs slot_tuple_getitem.lookup
  (getItem_tuple (j:=j) (Q:=λr s'=>r=w/\EP X ag σ Q r s') pl ‹21› ‹21› (by rw[bz,<- hl];exact h1) (by simpa using ew) ⟨rfl,hJ⟩) hs
theorem Qh:IxR X Vd:=by
 intro fo slice ag s σ H x y v u Q I rx ry h hs;obtain⟨z,i,c,rfl,rfl,hz,he,q⟩:=h;obtain⟨t,rfl⟩:=rx;obtain⟨t',rfl⟩:=ry;obtain⟨j,h1,h2,h3,h4,h5⟩:=BJ he;have hl:z.cps.toList.length=z.length:=by simp[Str.length]
 rw[hl]at h1 h4 h5;have hn:=ug
 exact AL (rV s z t) slot_str_getitem.lookup (getItem_str (c:=c) (by
  have e1:decide (i< -(2^63:Int))=false:=cw ‹21›;have e2:decide (i ≥ 2^63)=false:=cw ‹21›;rw[e1,e2,Bool.or_false]) (by rw[h1];simpa using h2) ⟨.str ⟨#[c]⟩,H,I.tok _,⟨_,rfl⟩,q⟩) hs
theorem GZ(its:LU)(n j:Nat)(u:ue):Xu (·.setIfInBounds j u) {cls:=.type "list",data:=.seq its.toArray n}={cls:=.type "list",data:=.seq (its.set j u).toArray n}:=by
 simp[Xu]
theorem Inv.lst{ag:LO}{σ:St}{H:Hp}{s:ut}{p:ax}{xs:LV}(I:Inv X ag σ H s)(h:H p=some (.lst xs)):
  ∃(its:LU) (n:Nat),Vals xs its/\s.heap.get? p=some {cls:=.type "list",data:=.seq its.toArray n}/\xs.length<=ab:=by
 obtain⟨z,its,n,r,e⟩:=I.hok p _ h;exact⟨its,n,r,e,z⟩
theorem Inv.Uv{ys:LV}{its':LU}{n':Nat}{f:Obj->Obj}(I:Inv X ag σ H s)(h:H p=some (.lst xs))
  (ho:s.heap.get? p=some {cls:=.type "list",data:=.seq its.toArray n}) (hf:f {cls:=.type "list",data:=.seq its.toArray n}={cls:=.type "list",data:=.seq its'.toArray n'}) (r:Vals ys its') (hz:ys.length<=ab) (t:Nat):
  Inv X ag σ (upd H p (.lst ys)) {s with heap:=s.heap.update p f,toks:=t}:=by
 have e:(s.heap.update p f).get? p=some {cls:=.type "list",data:=.seq its'.toArray n'}:=by
  rw[pT f ho (by rw[hf] <;>rfl),hf]
 refine I.write (x:=p) (e:=p) (by rw[h];trivial) (.inl rfl) (λb u hb q=>(Heap.get?_update_other _ _ (se hb)).trans q) ⟨_,e⟩ ?_;exact⟨hz,its',n',r,e⟩
inductive R0 (o:V) (i:V) (v:V) (H:Hp) (Q:Hp->Prop):Prop
 |mk (p xs k j:_):o=.ref p->i=.int k->H p=some (.lst xs)->MZ xs.length k=some j->Q (upd H p (.lst (xs.set j v)))->R0 o i v H Q
theorem wm:Vw X R0:=by
 intro ag s σ H o i v ov iv u Q I ro ri rv h;obtain⟨p,xs,k,j,rfl,rfl,hp,hj,q⟩:=h;cases ro;obtain⟨t,rfl⟩:=ri;obtain⟨its,n,r,ho,hz⟩:=I.lst hp;obtain⟨h1,h2,h3,h4⟩:=Ja hj;have hl:=r.length;have hn:=ug
 have I':Inv X ag σ (upd H p (.lst (xs.set j v))) {s with heap:=s.heap.update p (Xu (·.setIfInBounds j u))}:=
  I.Uv hp ho (GZ its n j u) (r.set rv j) (by rw[List.length_set];exact hz) s.toks
 by_cases h0:0<=k
 ·have hk:k.toNat=j:=by
   rw[yb h0 h4]at h1;exact cS h1
  exact PySem.W.ki_setAt ho h0 ‹21› (by rw[bz,<- hl];exact h4) (by rw[hk];exact⟨_,I',q⟩)
 ·have hk:(k+(its.toArray.size:Int)).toNat=j:=by
   rw[seqIndex_neg ‹21› h3]at h1;rw[bz,<- hl];exact cS h1
  exact PySem.W.ki_setBack ho ‹21› (by rw[bz,<- hl];exact h3) ‹21› (by rw[hk];exact⟨_,I',q⟩)
theorem Dw(lo hi:Option Int)(n:Nat):(QQ lo hi none n).1=((HT.sIx n 0 lo:Nat):Int)/\(QQ lo hi none n).2.1=((HT.sIx n n hi:Nat):Int)/\(QQ lo hi none n).2.2=1:=by
 refine⟨?_,?_,rfl⟩
 ·cases lo with
  |none=>simp[QQ,HT.sIx]
  |some i=>
   simp only[QQ,HT.sIx,Option.getD_none,show(1:Int) >0 by decide,kM]
   by_cases h:i<0
   ·simp only[h,kM] <;>omega
   ·simp only[h,rS] <;>omega
 ·cases hi with
  |none=>simp[QQ,HT.sIx]
  |some i=>
   simp only[QQ,HT.sIx,Option.getD_none,show(1:Int) >0 by decide,kM]
   by_cases h:i<0
   ·simp only[h,kM] <;>omega
   ·simp only[h,rS] <;>omega
theorem uT(its:LU)(lo hi:Option Int):XF its.toArray lo hi none=((its.drop (HT.sIx its.length 0 lo)).take (HT.sIx its.length its.length hi - HT.sIx its.length 0 lo)).toArray:=by
 obtain⟨h1,h2,h3⟩:=Dw lo hi its.toArray.size;unfold XF;rw[h1,h2,h3];simp only[sliceRange_one,pick_run,bz] <;>rfl
inductive Nq (K:PySem.W.Frag) (x:V) (lo:Option Int) (hi:Option Int) (H:Hp) (Q:VK):Prop
 |mk (a xs:_):x=.ref a->SqL K H a xs->(∀p,H p=none->Q (.ref p) (upd H p (.lst (mO xs lo hi))))->Nq K x lo hi H Q
theorem Cq:SlR X (Nq X.K):=by
 intro ag s σ H x v vl vu lo hi sl Q I rx hs pl pu h;obtain⟨a,xs,rfl,hx,q⟩:=h;cases rx;obtain⟨its,r,ht,hz⟩:=I.list hx;have eC:=r.length;refine⟨"list",_,pj.lookup,ht.isList.typeIs,?_⟩;refine nL ht.isList hs pl pu .none (by simp) ?_ (by rw[bz] <;>omega);rw[uT,<- eC];refine⟨.ref s.heap.objs.size,_,I.laid (t':=s.toks) (o:=.lst (mO xs lo hi)) (fun b ob q=>am _ q) (af _) ?_,rfl,q _ (I.hok.fresh (af _))⟩;exact⟨dq (xU xs lo hi) hz,_,0,(r.drop (HT.sIx xs.length 0 lo)).take (HT.sIx xs.length xs.length hi - HT.sIx xs.length 0 lo),bn _ rfl⟩
def tM:V->Bool
 |.non=>true
 |.bl _=>true
 |.int _=>true
 |.str _=>true
 |_=>false
noncomputable def M0:V->V->Bool
 |.non,.non=>true
 |.bl a,.bl b=>a== b
 |.bl a,.int b=>(if a then 1 else 0)== b
 |.int a,.bl b=>a== (if b then 1 else 0)
 |.int a,.int b=>a== b
 |.str a,.str b=>a== b
 |_,_=>false
theorem Lr{x:V}{v:ue}(ry:RelV y u)(rx:RelV x v)(fy:tM y=true)(fx:tM x=true):xN A s u v (M0 y x):=by
 cases y with
 |non=>
  cases ry;cases x with
  |non=>cases rx;exact xN.same _
  |bl b=>cases rx;exact xN.none_bool b
  |int b=>obtain⟨t,rfl⟩:=rx;exact xN.none_int b t
  |str b=>obtain⟨t,rfl⟩:=rx;exact xN.none_str b t
  |_=>exact absurd (show false=true from fx) az
 |bl a=>
  cases ry;cases x with
  |non=>cases rx;exact xN.bool_none a
  |bl b=>cases rx;exact xN.bool_bool a b
  |int b=>obtain⟨t,rfl⟩:=rx;exact xN.bool_int a b t
  |str b=>obtain⟨t,rfl⟩:=rx;exact xN.bool_str a b t
  |_=>exact absurd (show false=true from fx) az
 |int a=>
  obtain⟨t',rfl⟩:=ry;cases x with
  |non=>cases rx;exact xN.int_none a t'
  |bl b=>cases rx;exact xN.int_bool a t' b
  |int b=>obtain⟨t,rfl⟩:=rx;exact xN.int_int a t' b t
  |str b=>obtain⟨t,rfl⟩:=rx;exact xN.int_str a t' b t
  |_=>exact absurd (show false=true from fx) az
 |str a=>
  obtain⟨t',rfl⟩:=ry;cases x with
  |non=>cases rx;exact xN.str_none a t'
  |bl b=>cases rx;exact xN.str_bool a t' b
  |int b=>obtain⟨t,rfl⟩:=rx;exact xN.str_int a t' b t
  |str b=>obtain⟨t,rfl⟩:=rx;exact xN.str_str a t' b t
  |_=>exact absurd (show false=true from fx) az
 |_=>exact absurd (show false=true from fy) az
noncomputable def D0(x:V)(u:ue):Bool:=match u with
 |.none=>M0 .non x
 |.bool b=>M0 (.bl b) x
 |.int i _=>M0 (.int i) x
 |.str z _=>M0 (.str z) x
 |_=>false
theorem Nz{x:V}(r:RelV y u)(f:tM y=true):D0 x u=M0 y x:=by
 cases y with
 |non=>cases r;rfl
 |bl b=>cases r;rfl
 |int i=>obtain⟨t,rfl⟩:=r;rfl
 |str z=>obtain⟨t,rfl⟩:=r;rfl
 |_=>exact absurd (show false=true from f) az
theorem vZ{x:V}:∀{xs:LV} {us:LU},Vals xs us->xs.all tM=true->us.any (D0 x)=xs.any λy=>M0 y x
 |_,_,.nil,_=>rfl
 |y::xs,u::us,.cons r t,f=>by
  rw[List.all_cons,jp]at f;rw[nV,nV,Nz r f.1,vZ t f.2]
theorem tK{A:ye}{s:ut}{x:V}{v:ue}(rx:RelV x v)(fx:tM x=true):∀{xs:LV} {us:LU},Vals xs us->xs.all tM=true->∀u∈us,xN A s u v (D0 x u)
 |_,_,.nil,_=>λu hu=>by cases hu
 |y::xs,u::us,.cons r t,f=>λu' hu=>by
  rw[List.all_cons,jp]at f;rcases aT.mp hu with rfl|hu
  ·rw[Nz r f.1];exact Lr r rx f.1 fx
  ·exact tK rx fx t f.2 u' hu
noncomputable def Iy(x:V)(xs:LV):Bool:=xs.any λy=>M0 y x
inductive Yc (K:PySem.W.Frag) (Yd:Bool) (x:V) (y:V) (H:Hp) (Q:VK):Prop
 |mk (p xs:_):y=.ref p->(SqL K H p xs\/SqT K H p xs)->tM x=true->xs.all tM=true->Q (.bl (if Yd then !Iy x xs else Iy x xs)) H->Yc K Yd x y H Q
theorem Lj:OpR X (yo .In) (Yc X.K false):=by
 intro ag s σ H x y v u Q I rx ry h;obtain⟨p,xs,rfl,hq,fx,fs,q⟩:=h;cases ry;rcases hq with hq|hq
 ·obtain⟨its,r,pl,hz⟩:=I.list hq;refine SeqAt.in_listAt (D0 x) pl.isList (λw hw=>tK rx fx r fs w (by simpa using hw)) ⟨.bl _,H,I,rfl,?_⟩;rw[show its.toArray.any (D0 x)=its.any (D0 x)by simp,vZ r fs];exact q
 ·obtain⟨its,r,pl,hz⟩:=I.tuple hq;refine SeqAt.in_tupleAt (D0 x) pl (λw hw=>tK rx fx r fs w (by simpa using hw)) ⟨.bl _,H,I,rfl,?_⟩;rw[show its.toArray.any (D0 x)=its.any (D0 x)by simp,vZ r fs];exact q
theorem Cd:OpR X (yo .NotIn) (Yc X.K true):=by
 intro ag s σ H x y v u Q I rx ry h;obtain⟨p,xs,rfl,hq,fx,fs,q⟩:=h;cases ry;rcases hq with hq|hq
 ·obtain⟨its,r,pl,hz⟩:=I.list hq;refine SeqAt.notIn_listAt (D0 x) pl.isList (λw hw=>tK rx fx r fs w (by simpa using hw)) ⟨.bl _,H,I,rfl,?_⟩;rw[show its.toArray.any (D0 x)=its.any (D0 x)by simp,vZ r fs];exact q
 ·obtain⟨its,r,pl,hz⟩:=I.tuple hq;refine SeqAt.notIn_tupleAt (D0 x) pl (λw hw=>tK rx fx r fs w (by simpa using hw)) ⟨.bl _,H,I,rfl,?_⟩;rw[show its.toArray.any (D0 x)=its.any (D0 x)by simp,vZ r fs];exact q
inductive pJ (K:PySem.W.Frag) (xs:LV) (H:Hp) (Q:VK):Prop
 |mk (p ys:_):xs=[.ref p]->(SqL K H p ys\/SqT K H p ys)->Q (.int ys.length) H->pJ K xs H Q
theorem iK:iy X (.builtin "len") (pJ X.K):=by
 intro ag s σ H xs us Q I r h;obtain⟨p,ys,rfl,hq,q⟩:=h;obtain⟨u,rfl,rx⟩:=vals1 r;cases rx;have hn:=ug;rcases hq with hq|hq
 ·obtain⟨its,r',pl,hz⟩:=I.list hq;have eC:=r'.length;exact Calls.call_len_list pl.isList (by simp only[bz] <;>omega) ⟨.int ys.length,H,I.tok _,⟨s.toks+1,by rw[bz,eC]⟩,q⟩
 ·obtain⟨its,r',pl,hz⟩:=I.tuple hq;have eC:=r'.length;exact len_tuple pl (by simp only[bz] <;>omega) ⟨.int ys.length,H,I.tok _,⟨s.toks+1,by rw[bz,eC]⟩,q⟩
inductive sW (xs:LV) (H:Hp) (Q:VK):Prop
 |mk (z:_):xs=[.str z]->z.length<=ab->Q (.int z.length) H->sW xs H Q
theorem rY:iy X (.builtin "len") sW:=by
 intro ag s σ H xs us Q I r h;obtain⟨z,rfl,hz,q⟩:=h;obtain⟨u,rfl,t,rfl⟩:=vals1 r;have hn:=ug;exact len_str ‹21› ⟨.int z.length,H,I.tok _,⟨_,rfl⟩,q⟩
inductive oZ (K:PySem.W.Frag) (xs:LV) (H:Hp) (Q:VK):Prop
 |mk (p ys:_):xs=[.ref p]->(SqL K H p ys\/SqT K H p ys)->(∀l,H l=none->Q (.ref l) (upd H l (.lst ys)))->oZ K xs H Q
theorem rA:iy X (.type "list") (oZ X.K):=by
 intro ag s σ H xs us Q I r h;obtain⟨p,ys,rfl,hq,q⟩:=h;obtain⟨u,rfl,rx⟩:=vals1 r;cases rx
 have hJ:∀(its:LU),Vals ys its->ys.length<=ab->∀(h':Heap) (c':Nat),(∀b o',s.heap.get? b=some o'->h'.get? b=some o')->
   h'.get? s.heap.objs.size=some {cls:=.type "list",dict:=none,data:=.seq its.toArray c',slots:=#[]}->EP X ag σ Q (.ref s.heap.objs.size) {s with heap:=h'}:=fun its r' hz h' c' kp e=>
  ⟨.ref s.heap.objs.size,_,I.laid (t':=s.toks) kp (af _) (show fV X.prog X.w _ h' _ (.lst ys)from⟨hz,its,c',r',e⟩),rfl,q _ (I.hok.fresh (af _))⟩
 rcases hq with hq|hq
 ·obtain⟨its,r',pl,hz⟩:=I.list hq;have eC:=r'.length;obtain⟨o,ho,hc,n,hd⟩:=pl.isList;exact call_list_seq p (.inl rfl) ho hc hd (λh' c' kp e=>hJ its r' hz h' c' kp e) (by simp only[bz] <;>omega)
 ·obtain⟨its,r',pl,hz⟩:=I.tuple hq;have eC:=r'.length;obtain⟨o,ho,hc,n,hd⟩:=pl;exact call_list_seq p (.inr rfl) ho hc hd (λh' c' kp e=>hJ its r' hz h' c' kp e) (by simp only[bz] <;>omega)
inductive nM (K:PySem.W.Frag) (xs:LV) (H:Hp) (Q:VK):Prop
 |mk (p ys:_):xs=[.ref p]->((SqL K H p ys/\∀l,H l=none->Q (.ref l) (upd H l (.tup ys)))\/(SqT K H p ys/\Q (.ref p) H))->nM K xs H Q
theorem mZ:iy X (.type "tuple") (nM X.K):=by
 intro ag s σ H xs us Q I r h;obtain⟨p,ys,rfl,h⟩:=h;obtain⟨u,rfl,rx⟩:=vals1 r;cases rx;rcases h with⟨hq,q⟩|⟨hq,q⟩
 ·obtain ⟨its,r',pl,hz⟩:=I.list hq;have eC:=r'.length;refine call_tuple_list pl.isList (fun h' kp=>?_) (by simp only [bz] <;> omega);have I1:Inv X ag σ H { s with heap:=h' }:=I.kept (t':=s.toks) kp
  have I2:Inv X ag σ (upd H h'.objs.size (.tup ys)) {s with heap:=h'.push {cls:=.type "tuple",data:=.seq its.toArray} }:=
   I1.laid (t':=s.toks) (λb o e=>am _ e) (af _) (show fV X.prog X.w _ _ _ (.tup ys)from⟨⟨hz,qR _ _⟩,its,r',sq _ _⟩)
  exact⟨.ref h'.objs.size,_,I2,rfl,q _ (I1.hok.fresh (af _))⟩
 ·obtain⟨its,r',pl,hz⟩:=I.tuple hq;exact call_tuple_same pl ⟨.ref p,H,I,rfl,q⟩
def tyV(K:PySem.W.Frag)(T:String)(x:V)(H:Hp):Prop:=match x with
 |.str _=>T="str"
 |.int _=>T="int"
 | .ref p=>(T = "list" /\ ∃ xs,SqL K H p xs)\/(T = "tuple" /\ ∃ o,K.lookup p=some o/\o.cls=.type "tuple" /\ o.dict=none)\/
   (T="dict" /\ ((∃kvs,H p=some (.dK kvs))\/∃kvs,H p=some (.dT kvs)))\/(T="set" /\ ∃S n,H p=some (.set S n))
 |_=>False
theorem Tv{T:String}{x:V}{v:ue}(I:Inv X ag σ H s)(r:RelV x v)(ty:tyV X.K T x H):
  s.TypeIs v T/\∀a,v=.ref a->∃ob,s.heap.get? a=some ob/\ob.dict=none:=by
 cases x with
 |str z=>
  obtain⟨t,rfl⟩:=r;cases(show T="str"from ty);exact⟨rV s z t,fun _ e=>nomatch e⟩
 |int i=>
  obtain⟨t,rfl⟩:=r;cases(show T="int"from ty);exact⟨typeIs_int s i t,fun _ e=>nomatch e⟩
 |ref p=>
  cases r;rcases ty with⟨rfl,xs,hq⟩|⟨rfl,o,hk,hc,hd⟩|⟨rfl,hk⟩|⟨rfl,S,n,hk⟩
  ·obtain⟨its,_,pl,_⟩:=I.list hq;refine⟨pl.isList.typeIs,λa e=>?_⟩;cases e;obtain⟨o,n,e,c,hd,_⟩:=pl;exact⟨o,e,hd⟩
  ·refine⟨⟨o,I.kIn p o hk,hc⟩,λa e=>?_⟩;cases e;exact⟨o,I.kIn _ o hk,hd⟩
  ·have z:∃o,s.heap.get? p=some o/\o.ExactDict:=by
    rcases hk with⟨kvs,hk⟩|⟨kvs,hk⟩
    ·obtain⟨_,_,_,_,o,_,_,e,ex,_⟩:=I.hok p _ hk;exact⟨o,e,ex⟩
    ·obtain⟨_,_,_,_,o,_,_,e,ex,_⟩:=I.hok p _ hk;exact⟨o,e,ex⟩
   obtain⟨o,e,ex⟩:=z;refine⟨⟨o,e,ex.1⟩,λa e2=>?_⟩;cases e2;exact⟨o,e,ex.2.1⟩
  ·obtain⟨o,_,_,_,e,ex,_⟩:=I.hok p _ hk;refine⟨⟨o,e,ex.1⟩,λa e2=>?_⟩;cases e2;exact⟨o,e,ex.2.1⟩
 |_=>exact yz ty
def tBM(K:PySem.W.Frag)(T:String)(r:V->LV->Hp->VK->Prop)(to:TE)(t:TA):TE:=λσ H Q=>to σ H λx H1=>tyV K T x H1/\t σ H1 λxs H2=>r x xs H2 Q
variable {o e:Expr}{es:List Expr}{to:TE}{t:TA}{name:Str}{sK ng:mo}{T id:String}{r:V->LV->Hp->VK->Prop}
theorem gb(pa:PlainAttrs T)(slot:Slot T name id)(hty:typeOf (.builtin id)=Hb (.type "method_descriptor"))(hm:MtR X id r)(ho:PE X o to)(ha:PA X (e::es) t)
  (IA:RC o name X.env (cq o X.env)=cq o X.env:=by rfl)
  (RA:((JP ng (xF (e::es) X.env)).all (fun x=>!x.1) && (xa ng (WN [] X.env)).all (fun x=>x.1.isSome)
   && decide ((e::es).length+([]:List xc).length+(if([]:List xc).isEmpty then 0 else 1)<30))=true:=by rfl)
  (IB:(sK.endLine== ng.line)=true:=by rfl) (hs:xF (e::es) X.env=(false,cq e X.env)::xF es X.env:=by rfl) (D7:(JP ng (xF es X.env)).any (·.1)=false:=by rfl):
  PE X (.Call (.Attribute o name sK) (e::es) [] ng) (tBM X.K T r to t):=by
 intro ag s σ H Q I h;refine wpAny_Call_method_late IA RA IB rfl (cb (ho ag s σ H _ I h) λv s1 ⟨x,H1,I1,r1,ty,q1⟩=>?_);obtain⟨h1,h2⟩:=Tv I1 r1 ty;refine⟨T,id,pa,slot,hty,h1,h2,?_⟩;have hA:=ha ng ag s1 σ H1 _ I1 q1;rw[hs]at hA⊢;refine Calls.callWith_builtin (by show(false|| (JP ng (xF es X.env)).any (·.1))=false;rw[D7] <;>rfl) (Calls.evalArgs_plain ?_);exact cb hA λus s2 ⟨vs,H2,I2,r2,q2⟩=>hm ag s2 σ H2 x vs v us Q I2 r1 r2 q2
end
def US(X:Cx)(id:String)(r:V->LV->Hp->VK->Prop):Prop:=
 ∀(ag:LO) (s:ut) (σ:St) (H:Hp) (x:V) (xs:LV) (v:ue) (us:LU) (Q:VK),Inv X ag σ H s->RelV x v->Vals xs us->r x xs H Q->
  wpAny ‹7› X.A (call (.builtin id) (v::us)) (EP X ag σ Q) X.xe s
theorem Vals.one{x:V}(h:Vals [x] us):∃u,us=[u]/\RelV x u:=by
 cases h with
 |cons r t=>
  cases t;exact⟨_,rfl,r⟩
theorem Vals.two{x:V}(h:Vals [x,y] us):∃u v,us=[u,v]/\RelV x u/\RelV y v:=by
 cases h with
 |cons r t=>
  obtain⟨v,e,q⟩:=Vals.one t;exact⟨_,v,by rw[e],r,q⟩
theorem Vals.eraseIdx:∀{xs:LV} {us:LU} (i:Nat),Vals xs us->Vals (xs.eraseIdx i) (us.eraseIdx i)
 |_,_,_,.nil=>.nil
 |_,_,0,.cons _ t=>t
 |_,_,i+1,.cons r t=>.cons r (Vals.eraseIdx i t)
theorem Vals.reverse(h:Vals xs us):Vals xs.reverse us.reverse:=by
 induction h with
 |nil=>exact .nil
 |cons r t ih=>rw[List.reverse_cons,List.reverse_cons];exact Vals.append ih (.cons r .nil)
theorem Vals.rep{xs:LV}{us:LU}(h:Vals xs us):∀k:Nat,Vals (List.replicate k xs).flatten (List.replicate k us).flatten
 |0=>.nil
 |k+1=>by
  rw[j3,j3,eK,eK];exact Vals.append h (Vals.rep h k)
theorem Ar{α:Type}:∀(l:List α) (i:Nat),(l.eraseIdx i).length<=l.length
 |[],_=>af _
 |_::_,0=>sf _
 |_::r,i+1=>Nat.succ_le_succ (Ar r i)
theorem foldl_rep(its:LU):∀(k:Nat) (cv:LU),
  List.foldl (λx1 x2=>x1++x2) cv.toArray (List.replicate k its.toArray)=(cv++(List.replicate k its).flatten).toArray
 |0,cv=>by simp
 |k+1,cv=>by
  have e:cv.toArray++its.toArray=(cv++its).toArray:=by simp
  have e2:(cv++its)++(List.replicate k its).flatten=cv++(List.replicate (k+1) its).flatten:=by
   rw[j3,eK,dE]
  rw[<- e2,<- foldl_rep its k (cv++its),<- e,j3,List.foldl_cons]
section
variable {X:Cx}{ag:LO}{σ:St}{H:Hp}{s:ut}{l b:ax}{xs ys zs:LV}
theorem Inv.Uh{its':LU}{f:AV->AV}(I:Inv X ag σ H s)(hH:H l=some (.lst xs))
  (e:s.heap.get? l=some {cls:=.type "list",data:=.seq its.toArray n}) (hf:f its.toArray=its'.toArray) (hv:Vals ys its') (hz:ys.length<=ab):
  Inv X ag σ (upd H l (.lst ys)) {s with heap:=s.heap.update l (Xu f),toks:=t'}:=by
 have q:=PySem.IsL.update e f;rw[hf]at q;refine I.write (x:=l) (e:=l) (by rw[hH];exact trivial) (.inl rfl) (λb' u hb hu=>(Heap.get?_update_other s.heap (Xu f) (se hb)).trans hu) ⟨_,q⟩ ?_;exact⟨hz,its',_,hv,q⟩
theorem Inv.QZ(I:Inv X ag σ H s)(hv:Vals ys its)(hz:ys.length<=ab):
  Inv X ag σ (upd H s.heap.objs.size (.lst ys)) {s with heap:=s.heap.push {cls:=.type "list",data:=.seq its.toArray},toks:=t'}:=
 I.laid (λ_ _ q=>am _ q) (af _) ⟨hz,its,0,hv,bn _ rfl⟩
theorem Inv.fresh(I:Inv X ag σ H s):H s.heap.objs.size=none:=I.hok.fresh (af _)
theorem Inv.Ho(I:Inv X ag σ H s)(hH:H l=some (.lst xs)):xs.length<=ab/\∃(its:LU) (n:Nat),Vals xs its/\xs.length=its.length/\s.heap.get? l=some {cls:=.type "list",data:=.seq its.toArray n}:=by
 obtain⟨z,its,n,r,e⟩:=I.hok l _ hH;exact⟨z,its,n,r,r.length,e⟩
theorem Er(h:n<=ab):Hk n=false:=by
 unfold Hk;exact cw ‹21›
end
section
variable {X:Cx}
inductive Jr (x:V) (vs:LV) (H:Hp) (Q:VK):Prop
 |mk (l xs y:_):x=.ref l->vs=[y]->H l=some (.lst xs)->xs.length<ab->Q .non (upd H l (.lst (xs++[y])))->Jr x vs H Q
theorem fY:US X "list.append" Jr:=by
 intro ag s σ H x vs v us Q I rx rv h;obtain⟨l,xs,y,rfl,rfl,hH,hz,q⟩:=h;cases rx;obtain⟨u,rfl,ru⟩:=rv.one;obtain⟨z,its,n,r,hl,e⟩:=I.Ho hH;refine lz F.slot_list_append ⟨_,e,rfl⟩ F.entry_list_append (F.args_list_append_2 _ _) (PySem.list_append l its.toArray n u (by rw[bz];omega)) ⟨e,?_⟩;refine⟨.non,_,I.Uh (its':=its++[u]) hH e (by simp) (r.append (.cons ru .nil)) ?_,rfl,q⟩;rw[ai,cy];omega
inductive JM (x:V) (vs:LV) (H:Hp) (Q:VK):Prop
 |mk (l b xs zs:_):x=.ref l->vs=[.ref b]->H l=some (.lst xs)->H b=some (.lst zs)->xs.length+zs.length<=ab->Q .non (upd H l (.lst (xs++zs)))->JM x vs H Q
theorem mU:US X "list.extend" JM:=by
 intro ag s σ H x vs v us Q I rx rv h;obtain⟨l,b,xs,zs,rfl,rfl,hH,hB,hz,q⟩:=h;cases rx;obtain⟨u,rfl,ru⟩:=rv.one;cases ru;obtain⟨z,its,n,r,hl,e⟩:=I.Ho hH;obtain⟨z2,fi,n2,r2,cx,e2⟩:=I.Ho hB;have hsz:its.toArray.size+fi.toArray.size<=ab:=by rw[bz,bz];omega
 have IC:¬(!its.toArray.isEmpty && Hk (its.toArray.size+fi.toArray.size))=true:=by
  rw[Er hsz,Bool.and_false];exact az
 refine lz F.slot_list_extend ⟨_,e,rfl⟩ F.entry_list_extend (F.args_list_extend_2 _ _)
  (AutoSeq1.list_extend_list_list_0 l its.toArray n b fi.toArray n2 IC (by rw[bz];omega) ‹21›) ⟨e,e2,?_⟩
 refine⟨.non,_,I.Uh (its':=its++fi) hH e (by simp) (r.append r2) ?_,rfl,q⟩;rw[ai];omega
inductive Ly (x:V) (vs:LV) (H:Hp) (Q:VK):Prop
 |mk (l xs i k y:_):x=.ref l->vs=[.int i]->H l=some (.lst xs)->-(2^63)<=i->i<2^63->tN i xs.length=some k->xs[k]?=some y->Q y (upd H l (.lst (xs.eraseIdx k)))->Ly x vs H Q
theorem FT:US X "list.pop" Ly:=by
 intro ag s σ H x vs v us Q I rx rv h;obtain⟨l,xs,i,k,y,rfl,rfl,hH,h1,h2,hk,hy,q⟩:=h;cases rx;obtain⟨u,rfl,ru⟩:=rv.one;obtain⟨t,rfl⟩:=ru;obtain⟨z,its,n,r,hl,e⟩:=I.Ho hH;obtain⟨w,hw,tF⟩:=r.get hy
 refine lz F.slot_list_pop ⟨_,e,rfl⟩ F.entry_list_pop (F.args_list_pop_2 _ _)
  (MeetsSeq.list_pop_at l its.toArray n i t k w (fitsIndex_both h1 h2) (by rw[bz,<- hl];exact hk) (by rw[<- kF];exact hw) (by rw[bz];omega)) ⟨e,?_⟩
 refine⟨y,_,I.Uh (its':=its.eraseIdx k) hH e ?_ (r.eraseIdx k) ?_,tF,q⟩
 ·show its.toArray.eraseIdxIfInBounds k=(its.eraseIdx k).toArray;rw[List.eraseIdxIfInBounds_toArray]
 ·have:=Ar xs k;omega
inductive Vh (x:V) (y:V) (H:Hp) (Q:VK):Prop
 |mk (l b xs zs:_):x=.ref l->y=.ref b->H l=some (.lst xs)->H b=some (.lst zs)->xs.length+zs.length<=ab->(∀p,H p=none->Q (.ref p) (upd H p (.lst (xs++zs))))->Vh x y H Q
theorem cX:OpR X (Ex .Add) Vh:=by
 intro ag s σ H x y v u Q I rx ry h;obtain⟨l,b,xs,zs,rfl,rfl,hH,hB,hz,q⟩:=h;cases rx;cases ry;obtain⟨z,its,n,r,hl,e⟩:=I.Ho hH;obtain⟨z2,fi,n2,r2,cx,e2⟩:=I.Ho hB;refine PySem.P.add_list e e2 ?_ (by rw[bz,bz];omega);have ea:its.toArray++fi.toArray=(its++fi).toArray:=by simp
 rw[ea];exact⟨.ref _,_,I.QZ (t':=s.toks) (r.append r2) (by rw[ai];omega),rfl,q _ I.fresh⟩
inductive Vi (x:V) (y:V) (H:Hp) (Q:VK):Prop
 |mk (l k xs:_):x=.ref l->y=.int k->H l=some (.lst xs)->-(2^63)<=k->k<2^63->xs.length*k.toNat<=ab->(∀p,H p=none->Q (.ref p) (upd H p (.lst (List.replicate k.toNat xs).flatten)))->Vi x y H Q
theorem M1{α:Type}(xs:List α)(k:Nat):(List.replicate k xs).flatten.length=k*xs.length:=by
 induction k with
 |zero=>simp
 |succ k ih=>rw[j3,eK,ai,ih,my,Nat.add_comm]
theorem P0:OpR X (Ex .Mult) Vi:=by
 intro ag s σ H x y v u Q I rx ry h;obtain⟨l,k,xs,rfl,rfl,hH,h1,h2,hz,q⟩:=h;cases rx;obtain⟨t,rfl⟩:=ry;obtain⟨z,its,n,r,hl,e⟩:=I.Ho hH;have eC:its.toArray.size*k.toNat<=ab:=by rw[bz,<- hl];exact hz
 have hcap:¬its.toArray.size*k.toNat >(2^63 - 1) / 8:=by
  have:(ab:Nat)<=(2^63 - 1) / 8:=by decide
  omega
 have hfit:¬(!xf.List.listFitsIndex k)=true:=by
  rw[fitsIndex_both h1 h2];exact az
 have IC:¬Hk (its.toArray.size*k.toNat)=true:=by
  rw[Er eC];exact az
 have Na:List.foldl (λx1 x2=>x1++x2) #[] (List.replicate (if its.toArray.isEmpty=true then 0 else k.toNat) its.toArray)=(List.replicate k.toNat its).flatten.toArray:=by
  have f0:∀m:Nat,List.foldl (λx1 x2=>x1++x2) #[] (List.replicate m its.toArray)=(List.replicate m its).flatten.toArray:=λm=>by
   have:=foldl_rep its m [];rw[gy]at this;exact this
  rw[f0];cases its with
  |nil=>simp
  |cons a r'=>rw[dC (by simp)]
 refine wpAny_binaryOp_repeat_ref (T:= "list") (U:= "int") ‹11› ⟨_,e,rfl⟩ (fun s'=>typeIs_int s' k t) noFill_list_mul F.fills_int_mul F.slot_int_rmul repeat_list F.slot_int_index.lookup
  (lz F.slot_int_rmul (typeIs_int s k t) F.entry_int_rmul (F.args_int_rmul_2 _ _) (int___rmul___int_list k t l its.toArray n)
   ⟨e,rfl,⟨_,e,rfl⟩,lz F.slot_list_mul ⟨_,e,rfl⟩ F.entry_list_mul (F.args_list_mul_2 _ _) (AutoListH.list___mul___list_int_3 l its.toArray n k t hfit hcap IC) ⟨e,?_⟩⟩)
 rw[Na];exact⟨.ref _,_,I.QZ (t':=s.toks) (r.rep k.toNat) (by rw[M1,Nat.mul_comm];exact hz),rfl,q _ I.fresh⟩
end
section
variable {κ:Type}[DecidableEq κ]
noncomputable def eU(kvs:List (κ×V))(k:κ):OV:=(kvs.find? λkv=>decide (kv.1=k)).map (·.2)
noncomputable def db(kvs:List (κ×V))(k:κ)(v:V):List (κ×V):=
 if(kvs.any λkv=>decide (kv.1=k))=true then kvs.map (λkv=>if kv.1=k then(kv.1,v)else kv)else kvs++[(k,v)]
theorem gJ{p:κ×V}{r:List (κ×V)}{k:κ}(e:p.1=k):eU (p::r) k=some p.2:=by simp[eU,kL,e]
theorem fZ{p:κ×V}{r:List (κ×V)}{k:κ}(e:¬p.1=k):eU (p::r) k=eU r k:=by simp[eU,kL,e]
theorem qX(k:κ):∀kvs:List (κ×V),(kvs.any λkv=>decide (kv.1=k))=(eU kvs k).isSome
 |[]=>rfl
 |p::r=>by
  rw[nV]
  by_cases e:p.1=k
  ·simp only[gJ e,aw e,Bool.true_or,Option.isSome_some]
  ·rw[fZ e,cw e,Bool.false_or];exact qX k r
theorem Gg(k j:κ)(y:V):∀kvs:List (κ×V),eU (kvs.map λkv=>if kv.1=k then(kv.1,y)else kv) j=(eU kvs j).map λx=>if j=k then y else x
 |[]=>rfl
 |p::r=>by
  have ih:=Gg k j y r;rw[ci]
  by_cases h:p.1=k
  ·rw [dL h]
   by_cases e:p.1=j
   ·rw[gJ (p:=(p.1,y)) e,gJ e,kf,dL (e.symm.trans h)]
   ·rw[fZ (p:=(p.1,y)) e,fZ e,ih]
  ·rw [dC h]
   by_cases e:p.1=j
   ·rw[gJ (p:=p) e,gJ e,kf,dC (λz=>h (e.trans z))]
   ·rw[fZ (p:=p) e,fZ e,ih]
theorem Aj(k j:κ)(y:V):∀kvs:List (κ×V),eU kvs k=none->eU (kvs++[(k,y)]) j=if j=k then some y else eU kvs j
 |[],_=>by
  by_cases e:k=j
  ·rw[dL e.symm];exact gJ (p:=(k,y)) e
  ·rw[dC (λz=>e z.symm)];exact fZ (p:=(k,y)) e
 |p::r,hn=>by
  rw[eM];have hk:¬p.1=k:=λz=>by rw[gJ z]at hn;cases hn
  rw[fZ hk]at hn;have ih:=Aj k j y r hn
  by_cases e:p.1=j
  ·rw[gJ e,gJ e,dC (λz=>hk (e.trans z))]
  ·rw[fZ e,fZ e,ih]
theorem zE(kvs:List (κ×V))(k j:κ)(y:V):eU (db kvs k y) j=if j=k then some y else eU kvs j:=by
 unfold db
 by_cases a:(kvs.any λkv=>decide (kv.1=k))=true
 ·rw [dL a,Gg];rw [qX] at a
  by_cases e:j=k
  ·obtain⟨x,hx⟩:=iO.mp a;rw[dL e,e,hx,kf,dL rfl]
  ·rw [dC e];cases eU kvs j with
   |none=>rfl
   |some x=>rw[kf,dC e]
 ·rw [dC a];refine Aj k j y kvs ?_;rw [qX] at a;cases q:eU kvs k with
  |none=>rfl
  |some x=>rw[q]at a;exact(a rfl).elim
theorem jr(kvs:List (κ×V))(k:κ)(v:V):(db kvs k v).length<=kvs.length+1:=by
 unfold db;split
 ·rw[aa];omega
 ·rw[ai,aI,lP];omega
theorem DP{kvs:List (κ×V)}{k:κ}(v:V)(h:eU kvs k=none):db kvs k v=kvs++[(k,v)]:=by
 unfold db;rw[qX,h];exact dC ‹11›
theorem su.mY{o:OV}{u:Option ue}(r:su o u):o.isSome=u.isSome:=by
 cases o with
 | none=>cases u with
  |none=>rfl
  |some _=>exact(show False from r).elim
 | some _=>cases u with
  |none=>exact(show False from r).elim
  |some _=>rfl
theorem su.getD{o:OV}{u:Option ue}{d:V}{d':ue}(r:su o u)(rd:RelV d d'):RelV (o.getD d) (u.getD d'):=by
 cases o with
 | none=>cases u with
  |none=>exact rd
  |some _=>exact(show False from r).elim
 | some _=>cases u with
  |none=>exact(show False from r).elim
  |some _=>exact r
theorem KV.val{kvs:List (κ×V)}{vs:List (κ×ue)}(r:KV kvs vs)(k:κ):su (eU kvs k) (Xv vs k):=by
 unfold KV at r
 induction r with
 |nil=>exact True.intro
 | @cons p q ps qs h t ih=>
  obtain⟨h1,h2⟩:=h
  by_cases e:p.1=k
  ·have e':q.1=k:=h1.symm.trans e;have b:Xv (q::qs) k=some q.2:=by simp [Xv,kL,e']
   rw[gJ e,b];exact h2
  ·have e':¬ q.1=k:=fun z=>e (h1.trans z);have b:Xv (q::qs) k=Xv qs k:=by simp [Xv,kL,e']
   rw[fZ e,b];exact ih
theorem KV.any{kvs:List (κ×V)}{vs:List (κ×ue)}(r:KV kvs vs)(k:κ):(kvs.any λkv=>decide (kv.1=k))=vs.any λkv=>decide (kv.1=k):=by
 unfold KV at r
 induction r with
 |nil=>rfl
 |cons h t ih=>rw[nV,nV,ih,h.1]
theorem KV.repl{kvs:List (κ×V)}{vs:List (κ×ue)}(r:KV kvs vs)(k:κ)(ry:RelV y u):
  KV (kvs.map λkv=>if kv.1=k then(kv.1,y)else kv) (vs.map λkv=>if kv.1=k then(kv.1,u)else kv):=by
 unfold KV at r⊢
 induction r with
 |nil=>exact .nil
 | @cons p q ps qs h t ih=>
  rw[ci,ci];refine .cons ?_ ih;obtain⟨h1,h2⟩:=h
  by_cases e:p.1=k
  ·rw[dL e,dL (h1.symm.trans e)];exact⟨h1,ry⟩
  ·rw[dC e,dC (λz=>e (h1.trans z))];exact⟨h1,h2⟩
theorem KV.put{kvs:List (κ×V)}{vs:List (κ×ue)}(r:KV kvs vs)(k:κ)(ry:RelV y u):KV (db kvs k y) (stored vs k u):=by
 unfold db stored;rw[r.any k]
 by_cases e:(vs.any λkv=>decide (kv.1=k))=true
 ·rw[dL e,dL e];exact r.repl k ry
 ·rw[dC e,dC e];exact Paired.snoc r ⟨rfl,ry⟩
theorem KV.length{kvs:List (κ×V)}{vs:List (κ×ue)}(r:KV kvs vs):kvs.length=vs.length:=cE r
end
theorem tD{k:ga}(r:RelV (kV k) u):(cU P w).is k u=true:=by
 cases k with
 |inl i=>obtain⟨t,e⟩:=(show∃t,u=Tu i t from r);subst e;exact El P w i t
 |inr x=>obtain⟨t,e⟩:=(show∃t,u=Xj x t from r);subst e;exact FP P w x t
theorem Bg{P:vy}{w:xm}:∀{ks:List ga} {us:LU},Vals (ks.map kV) us->ItemsAre (cU P w) ks us
 |[],_,r=>by rw[kN]at r;cases r;exact .nil
 |k::ks,_,r=>by
  rw[ci]at r;cases r with
  |cons h t=>exact .cons (tD h) (Bg t)
abbrev KT(H:Hp):List (List ga×V)->List (List ga×ax×ue)->Prop:=Paired λp q=>p.1=q.1/\H q.2.1=some (.tup (p.1.map kV))/\RelV p.2 q.2.2
theorem KT.val{kvs:List (List ga×V)}{xs:List (List ga×ax×ue)}(r:KT H kvs xs)(k:List ga):su (eU kvs k) ((yi xs k).map (·.2)):=by
 induction r with
 |nil=>exact True.intro
 | @cons p q ps qs h t ih=>
  obtain⟨h1,_,h2⟩:=h
  by_cases e:p.1=k
  ·have e':q.1=k:=h1.symm.trans e;have b:yi (q::qs) k=some q.2:=by simp [yi,kL,e']
   rw[gJ e,b];exact h2
  ·have e':¬ q.1=k:=fun z=>e (h1.trans z);have b:yi (q::qs) k=yi qs k:=by simp [yi,kL,e']
   rw[fZ e,b];exact ih
theorem KT.repl{kvs:List (List ga×V)}{xs:List (List ga×ax×ue)}(r:KT H kvs xs)(k:List ga)(ry:RelV y u):
  KT H (kvs.map λkv=>if kv.1=k then(kv.1,y)else kv) (xs.map (putAt k u)):=by
 induction r with
 |nil=>exact .nil
 | @cons p q ps qs h t ih=>
  rw[ci,ci];refine .cons ?_ ih;obtain⟨h1,h2,h3⟩:=h;unfold putAt
  by_cases e:p.1=k
  ·rw[dL e,dL (h1.symm.trans e)];exact⟨h1,h2,ry⟩
  ·rw[dC e,dC (λz=>e (h1.trans z))];exact⟨h1,h2,h3⟩
theorem KT.put{kvs:List (List ga×V)}{xs:List (List ga×ax×ue)}(r:KT H kvs xs)(k:List ga){b:ax}(hb:H b=some (.tup (k.map kV)))(ry:RelV y u):
  KT H (db kvs k y) (storedH xs k b u):=by
 have e:(kvs.any λkv=>decide (kv.1=k))=(yi xs k).isSome:=by
  rw[qX,(r.val k).mY,Option.isSome_map]
 unfold db storedH;rw[e]
 by_cases q:(yi xs k).isSome=true
 ·rw[dL q,dL q];exact r.repl k ry
 ·rw[dC q,dC q];exact Paired.snoc r ⟨rfl,hb,ry⟩
theorem KT.keeps{kvs:List (List ga×V)}{xs:List (List ga×ax×ue)}(r:KT H kvs xs)(ht:∀b ys,H b=some (.tup ys)->H' b=some (.tup ys)):KT H' kvs xs:=
 XM r λ_ _ z=>⟨z.1,ht _ _ z.2.1,z.2.2⟩
section
variable {P:vy}{w:xm}{H:Hp}{h:Heap}{a:ax}
theorem RL{u:HO}(ok:HOk P w H h)(e:Rd H a u):fV P w H h a u:=e.ok ok
theorem Av(ok:HOk P w H h)(e:Rd H a (.dK kvs)):kvs.length<=ab/\(a== An)=false/\∃vs,KV kvs vs/\h.DictOf (cU P w) a vs:=
 show fV P w H h a (.dK kvs)from RL ok e
theorem O2(ok:HOk P w H h)(e:H a=some (.dK kvs)):kvs.length<=ab/\(a== An)=false/\∃vs,KV kvs vs/\h.DictOf (cU P w) a vs:=Av ok (.inl e)
theorem yS{ks:List ga}(ok:HOk P w H h)(e:H a=some (.tup (ks.map kV))):(tJ (cU P w)).is h ks a:=by
 obtain⟨_,its,r,o,h1,h2,n,h3⟩:=(show fV P w H h a (.tup (ks.map kV))from ok a _ e);exact⟨o,its.toArray,n,h1,h2,h3,by simpa using Bg r⟩
theorem Fb{kvs:List (List ga×V)}(ok:HOk P w H h)(e:Rd H a (.dT kvs)):kvs.length<=ab/\(a== An)=false/\
  ∃xs,KT H kvs xs/\h.DictOfH (tJ (cU P w)) a xs:=by
 obtain⟨z,y,xs,r,o,es,ep,h1,h2,h3,h4,h5⟩:=(show fV P w H h a (.dT kvs)from RL ok e);refine⟨z,y,xs,r,o,es,ep,h1,h2,h3,h4,λx hx=>?_,h5⟩
 have all:∀{l:List (List ga×V)} {m:List (List ga×ax×ue)},KT H l m->∀x∈m,(tJ (cU P w)).is h x.1 x.2.1:=by
  intro l m q
  induction q with
  |nil=>intro x hx;exact nomatch hx
  | @cons p q ps qs hq t ih=>
   intro x hx;rcases aT.mp hx with e|hx
   ·subst e;exact yS ok (by rw[<- hq.1];exact hq.2.1)
   ·exact ih x hx
 exact all r x hx
theorem Vy{kvs:List (List ga×V)}(ok:HOk P w H h)(e:H a=some (.dT kvs)):kvs.length<=ab/\(a== An)=false/\
  ∃xs,KT H kvs xs/\h.DictOfH (tJ (cU P w)) a xs:=Fb ok (.inl e)
end
def uO(H:Hp)(a:ax)(y:V)(r:OV):Prop:=
 (∃kvs k,Rd H a (.dK kvs)/\y=kV k/\r=eU kvs k)\/∃kvs k b,Rd H a (.dT kvs)/\y=.ref b/\H b=some (.tup (k.map kV))/\r=eU kvs k
def zQ(H:Hp)(a:ax)(y v:V)(H':Hp):Prop:=
 (∃kvs k,H a=some (.dK kvs)/\y=kV k/\kvs.length<ab/\H'=upd H a (.dK (db kvs k v)))\/
 ∃kvs k b,H a=some (.dT kvs)/\y=.ref b/\H b=some (.tup (k.map kV))/\kvs.length<ab/\H'=upd H a (.dT (db kvs k v))
theorem uO.k{H:Hp}{a:ax}{kvs:sg}{k:ga}(e:H a=some (.dK kvs)):uO H a (kV k) (eU kvs k):=.inl ⟨kvs,k,.inl e,rfl,rfl⟩
theorem zQ.k{H:Hp}{a:ax}{kvs:sg}{k:ga}{v:V}(e:H a=some (.dK kvs))(hl:kvs.length<ab):zQ H a (kV k) v (upd H a (.dK (db kvs k v))):=.inl ⟨kvs,k,e,rfl,hl,rfl⟩
section
variable {X:Cx}{ag:LO}{σ:St}{H:Hp}{s:ut}{a:ax}{y v:V}{u r:ue}{o:OV}{A:ye}{E:ES}
theorem Inv.big(I:Inv X ag σ H s):An<s.heap.objs.size:=by
 have h:wy<s.heap.objs.size:=(I.mod.glob.keeps I.bk).lt;exact mB ‹11› h
theorem Kq(hu:A.units+1<ge)(I:Inv X ag σ H s)(g:uO H a y (some v))(ry:RelV y u)(h:∀w' s',Inv X ag σ H s'->RelV v w'->Q w' s'):
  wpAny ‹7› A (Th (.ref a) u) Q E s:=by
 rcases g with⟨kvs,k,e,ey,l⟩|⟨kvs,k,b,e,ey,eb,l⟩
 ·subst ey;obtain⟨z,hd,vs,so,dd⟩:=Av I.hok e;obtain⟨w',hw,tF⟩:=su.some_of (v:=v) (o:=Xv vs k) (by rw[l];exact so.val k);exact wpAny_getItem_of (tD ry) dd.mapOf hw (h w' _ (I.tok _) tF)
 ·subst ey;cases(show u=xn b from ry);obtain⟨z,hd,xs,so,dd⟩:=Fb I.hok e;obtain⟨w',hw,tF⟩:=su.some_of (v:=v) (o:=(yi xs k).map (·.2)) (by rw[l];exact so.val k);obtain⟨p,hp,UU⟩:=Option.map_eq_some_iff.mp hw;refine wpAny_getItem_heap (oz hu) (yS I.hok eb) dd hp ?_;rw[UU];exact h w' _ (I.tok _) tF
theorem WY(hu:A.units+1<ge)(I:Inv X ag σ H s)(g:uO H a y o)(ry:RelV y u)(h:∀s',Inv X ag σ H s'->Q (.bool o.isSome) s'):
  wpAny ‹7› A (yo .In u (.ref a)) Q E s:=by
 rcases g with⟨kvs,k,e,ey,l⟩|⟨kvs,k,b,e,ey,eb,l⟩
 ·subst ey;obtain⟨z,hd,vs,so,dd⟩:=Av I.hok e;refine wpAny_in_of (tD ry) hd dd.mapOf ?_;rw[<- (so.val k).mY,<- l];exact h _ (I.tok _)
 ·subst ey;cases(show u=xn b from ry);obtain⟨z,hd,xs,so,dd⟩:=Fb I.hok e;refine wpAny_in_heap (oz hu) (yS I.hok eb) hd dd ?_;have q:=(so.val k).mY;rw[Option.isSome_map]at q;rw[<- q,<- l];exact h _ (I.tok _)
theorem RB(hu:A.units+1<ge)(I:Inv X ag σ H s)(g:uO H a y o)(ry:RelV y u)(h:∀s',Inv X ag σ H s'->Q (.bool (!o.isSome)) s'):
  wpAny ‹7› A (yo .NotIn u (.ref a)) Q E s:=by
 rcases g with⟨kvs,k,e,ey,l⟩|⟨kvs,k,b,e,ey,eb,l⟩
 ·subst ey;obtain⟨z,hd,vs,so,dd⟩:=Av I.hok e;refine wpAny_notIn_of (tD ry) hd dd.mapOf ?_;rw[<- (so.val k).mY,<- l];exact h _ (I.tok _)
 ·subst ey;cases(show u=xn b from ry);obtain⟨z,hd,xs,so,dd⟩:=Fb I.hok e;refine wpAny_notIn_heap (oz hu) (yS I.hok eb) hd dd ?_;have q:=(so.val k).mY;rw[Option.isSome_map]at q;rw[<- q,<- l];exact h _ (I.tok _)
theorem yg{ob:HO}(I:Inv X ag σ H s)(mu:XA (H a))(hs:Heap.SameBut a s.heap h')(he:∃q,h'.get? a=some q)(Ic:fV X.prog X.w (upd H a ob) h' a ob):
  Inv X ag σ (upd H a ob) {s with heap:=h',toks:=t'}:=
 I.write (x:=a) (e:=a) mu (.inl rfl) (λb q hb z=>(hs.2 b hb).trans z) he Ic
theorem GX{vs:List (ga×ue)}(z:kvs.length<=ab)(hd:(a== An)=false)(so:KV kvs vs)(dd:h'.DictOf (cU P w) a vs):
  fV P w H' h' a (.dK kvs):=⟨z,hd,vs,so,dd⟩
theorem KJ{Q:Unit->ut->Prop}(hu:A.units+1<ge)(I:Inv X ag σ H s)(g:zQ H a y v H')(ry:RelV y u)(rv:RelV v r)(h:∀s',Inv X ag σ H' s'->Q () s'):
  wpAny ‹7› A (setItem (.ref a) u r) Q E s:=by
 rcases g with⟨kvs,k,e,ey,l,eH⟩|⟨kvs,k,b,e,ey,eb,l,eH⟩
 ·subst ey eH;obtain ⟨z,hd,vs,so,dd⟩:=O2 I.hok e;have hz:vs.length<=ab:=by rw [<- so.length]; exact z
  have hl:(db kvs k v).length<=ab:=by have:=jr kvs k v;omega
  refine wpAny_setItem_pairs (hsz:=hz) (tD ry) dd λh' L9 hs=>h _ ?_;have he:∃q,h'.get? a=some q:=let⟨q,_,_,hq,_⟩:=L9;⟨q,hq⟩;exact yg I (by rw[e];exact True.intro) hs he (GX hl hd (so.put k rv) L9)
 ·subst ey eH;cases (show u=xn b from ry);obtain ⟨z,hd,xs,so,dd⟩:=Vy I.hok e;have hz:xs.length<=ab:=by rw [<- cE so]; exact z
  have hl:(db kvs k v).length<=ab:=by have:=jr kvs k v;omega
  refine wpAny_setItem_heap (hsz:=hz) (oz hu) (yS I.hok eb) dd λh' L9 hs=>h _ ?_;obtain⟨q,es,ep,hq,h2,h3,h4,_,h5⟩:=L9;refine yg I (by rw[e];exact True.intro) hs ⟨q,hq⟩ ⟨hl,hd,_,(so.put k eb rv).keeps λc ys ec=>?_,q,es,ep,hq,h2,h3,h4,h5⟩;rw[aB (bV ec e ‹6›)];exact ec
end
section
variable {X:Cx}{ag:LO}{σ:St}{H:Hp}{s:ut}{a:ax}{kvs:sg}{k:ga}{u:ue}{A:ye}{E:ES}
theorem Wj(I:Inv X ag σ H s)(e:Rd H a (.dK kvs))(h:∀t s',Inv X ag σ H s'->Q (.int kvs.length t) s'):wpAny ‹7› A (call (.builtin "len") [.ref a]) Q E s:=by
 obtain⟨z,hd,vs,so,dd⟩:=Av I.hok e;refine call_len_dict hd dd (by rw[<- so.length];rw[cn]at z;omega) ?_;rw[<- so.length];exact h _ _ (I.tok _)
end
def Ug(i:Expr):Prop:=∀ov iv,tf i false ov iv=operate [ov,iv] (Th ov iv)
theorem IV{fo slice:Expr}{T id:String}
  (hl:vT (.type T) "__getitem__" =Hb (some (.builtin id))) (hs:Ug slice)
  (h:wpAny ‹17› A (cq fo env) (λo bq=>wpAny ‹17› A (cq slice env) (λi na=>na.TypeIs o T/\wpAny ‹17› A (Th o i) Q E na) E bq) E s):
  wpAny ‹17› A (cq (.Subscript fo slice bi) env) Q E s:=by
 refine wa (fF h (λo bq ix=>fF ix (λi na D8=>?_) λ_ _ x=>x) λ_ _ x=>x);obtain⟨hT,D8⟩:=D8;unfold Xi;refine ae ?_;rw[getitemInPython_of_ne hT.not_modules];refine ae (wpAny_specialOf hT hl ?_)
 have hJ:wpAny ‹17› A (tf slice false o i) (λr eh=>wpAny ‹17› A (letTemporaryGo fo o r >>= λ_=>Hb r) Q E eh) E na:=by
  rw[hs o i];exact wpAny_operating (fF D8 (λr eh D9=>ae (wpAny_letTemporaryGo (aE D9))) λ_ _ x=>x)
 first
  |exact aE (ae hJ)
  |exact ae (aE (ae hJ))
  |exact ae hJ
theorem Fj{o:OV}(I:Inv X ag σ H s)(g:uO H a y o):s.TypeIs (.ref a) "dict":= by
 rcases g with⟨kvs,k,e,_,_⟩|⟨kvs,k,b,e,_,_,_⟩
 ·obtain⟨_,_,vs,_,dd⟩:=Av I.hok e;exact dd.typeIs
 ·obtain⟨_,_,xs,_,dd⟩:=Fb I.hok e;exact dd.typeIs
inductive OD (Q:VK) (x:V) (y:V) (H2:Hp):Prop
 |mk (a v:_):x=.ref a->uO H2 a y (some v)->Q v H2->OD Q x y H2
def V1(td ty:TE):TE:=λσ H Q=>td σ H λx H1=>ty σ H1 λy H2=>OD Q x y H2
inductive Sg (Q:VK) (y:V) (x:V) (H2:Hp):Prop
 |mk (a o:_):x=.ref a->uO H2 a y o->Q (.bl o.isSome) H2->Sg Q y x H2
def WX(ty td:TE):TE:=λσ H Q=>ty σ H λy H1=>td σ H1 λx H2=>Sg Q y x H2
inductive Ek (Q:VK) (y:V) (x:V) (H2:Hp):Prop
 |mk (a o:_):x=.ref a->uO H2 a y o->Q (.bl (!o.isSome)) H2->Ek Q y x H2
def Rq(ty td:TE):TE:=λσ H Q=>ty σ H λy H1=>td σ H1 λx H2=>Ek Q y x H2
inductive Ny (D:mT) (σ:St) (v:V) (x:V) (y:V) (H3:Hp):Prop
 |mk (a H4:_):x=.ref a->zQ H3 a y v H4->D.nx σ H4->Ny D σ v x y H3
def Vs(td ty tv:TE):TS:=λD σ H=>tv σ H λv H1=>td σ H1 λx H2=>ty σ H2 λy H3=>Ny D σ v x y H3
section
variable {X:Cx}{o i e fo:Expr}{bi tP lf:mo}{td ty tv:TE}
theorem oA(hu:X.A.units+1<ge)(ho:PE X o td)(hi:PE X i ty)(hs:Ug i):PE X (.Subscript o i bi) (V1 td ty):=by
 intro ag s σ H Q I h;refine IV PySem.F.slot_dict_getitem.lookup hs (cb (ho ag s σ H _ I h) λu s1 ⟨x,H1,I1,rx,q1⟩=>cb (hi ag s1 σ H1 _ I1 q1) λiv s2 ⟨y,H2,I2,ry,a,v,ex,g,q2⟩=>?_);subst ex;obtain rfl:u=xn a:=rx;exact⟨Fj I2 g,Kq hu I2 g ry λw' s3 I3 tF=>⟨v,H2,I3,tF,q2⟩⟩
theorem Qk(hu:X.A.units+1<ge)(hi:PE X i ty)(ho:PE X o td):PC X .In i o (WX ty td):=by
 intro ag s σ H Q I h;refine cb (hi ag s σ H _ I h) λiv s1 ⟨y,H1,I1,ry,q1⟩=>cb (ho ag s1 σ H1 _ I1 q1) λu s2 ⟨x,H2,I2,rx,a,ov,ex,g,q2⟩=>?_;subst ex;obtain rfl:u=xn a:=rx;exact WY hu I2 g ry λs3 I3=>⟨.bl ov.isSome,H2,I3,rfl,q2⟩
theorem Bk(hu:X.A.units+1<ge)(hi:PE X i ty)(ho:PE X o td):PC X .NotIn i o (Rq ty td):=by
 intro ag s σ H Q I h;refine cb (hi ag s σ H _ I h) λiv s1 ⟨y,H1,I1,ry,q1⟩=>cb (ho ag s1 σ H1 _ I1 q1) λu s2 ⟨x,H2,I2,rx,a,ov,ex,g,q2⟩=>?_;subst ex;obtain rfl:u=xn a:=rx;exact RB hu I2 g ry λs3 I3=>⟨.bl (!ov.isSome),H2,I3,rfl,q2⟩
theorem rB(hu:X.A.units+1<ge)(ho:PE X o td)(hi:PE X i ty)(hv:PE X fo tv)(hs:XC fo (some (.Subscript o i tP)) bi.line X.env=Hb false):
  PS X (.Assign [.Subscript o i tP] fo bi) (Vs td ty tv):=by
 intro ag s σ H D I h;refine wpAny_Assign_Subscript (cb (hv ag s σ H _ I h) λr s1 ⟨v,H1,I1,rv,q1⟩=>cb (ho ag s1 σ H1 _ I1 q1) λu s2 ⟨x,H2,I2,rx,q2⟩=>cb (hi ag s2 σ H2 _ I2 q2) λiv s3 ⟨y,H3,I3,ry,a,H4,ex,g,q3⟩=>?_) hs;subst ex;obtain rfl:u=xn a:=rx;exact KJ hu I3 g ry rv λs4 I4=>⟨σ,H4,I4,q3⟩
end
theorem zH(h:Heap)(hb:An<h.objs.size):fV P w H (h.push {cls:=.type "dict",data:=.dict #[]}) h.objs.size (.dK []):=
 ⟨ck _,gp.mpr (se (d6 hb)),[],.nil,Heap.DictOf.new h⟩
def TX:TE:=λ_ H Q=>∀p,H p=none->Q (.ref p) (upd H p (.dK []))
section
variable {X:Cx}{bi:mo}
theorem qQ:PE X (.Dict [] [] bi) TX:=λag s σ H Q I h=>
 wpAny_Dict_empty ⟨.ref s.heap.objs.size,_,I.laid (a:=s.heap.objs.size) (o:=.dK []) (t':=s.toks) (λ_ _ q=>am _ q) (af _) (zH s.heap I.big),rfl,h _ (I.hok.fresh (af _))⟩
end
noncomputable def jU(kvs ba:sg):sg:=ba.foldl (λcv kv=>db cv kv.1 kv.2) kvs
theorem uV:∀(ba kvs:sg),(jU kvs ba).length<=kvs.length+ba.length
 |[],kvs=>by show kvs.length<=kvs.length+0;omega
 |p::r,kvs=>by
  have h1:=uV r (db kvs p.1 p.2);have h2:=jr kvs p.1 p.2;show(jU (db kvs p.1 p.2) r).length<=_;rw[aI];omega
structure M2 (X:Cx) (o:Expr) (m:Str) (sK:mo) (e f:Expr) (ng:mo):Prop where
 base:RC o m X.env (cq o X.env)=cq o X.env
 few:((JP ng (xF [e,f] X.env)).all (λx=>!x.1) && (xa ng (WN [] X.env)).all (λx=>x.1.isSome)
  && decide (([e,f]:List Expr).length+([]:List xc).length+(if([]:List xc).isEmpty then 0 else 1)<30))=true
 line:(sK.endLine== ng.line)=true
 trees:JP ng (xF [e,f] X.env)=[(false,cq e X.env),(false,cq f X.env)]
end L2
end
section
namespace Att
open PySem PySem.W PySem.Calls PyProof.Rows
variable {h:Heap}{n:Nat}{Bz:List Str}{YP:xm->Heap->Prop}
theorem xY{P:Params}:∀(ns:List Int) (vs:List ue),WellAll P h vs (ns.map WData.int)->zw vs ns:=by
 intro ns
 induction ns with
 |nil=>
  intro vs w;rw[kN]at w;cases w;exact .nil
 |cons n ns ih=>
  intro vs w;rw[ci]at w;cases w with
  |cons a b=>
   cases a;exact .cons _ _ (ih _ b)
theorem KD{l:OpenLaw}(hn:l.most=some n){P:Params}{args:List WData}{RE:List ue}
  (AS:l.row.toRowW.claim.pre args=true) (Mb:WellAll P h RE args):
  ∃a vs ns,RE=[xn a]/\args=[WData.list (ns.map WData.int)]/\h.get? a=some {cls:=.type "list",data:=.seq vs.toArray}/\zw vs ns/\ns.length<=n:=by
 have hsh:WShape.hasAll [] args [.list .int]=true:=(pre_splitW AS).1;have hc:l.pre.holds [] {args:=args}=true:=(pre_splitW AS).2;obtain⟨d,r,rfl,h1,h2⟩:=hasAllW_cons hsh;obtain rfl:=hasAllW_nil h2;obtain⟨xs,rfl,h3⟩:=hasW_list h1;obtain⟨ns,rfl⟩:=items_int h3
 have eC:ns.length<=n:=by
  unfold OpenLaw.pre at hc
  have h4:(WTm.not (.lt (.lit (.int (n:Int))) (.len (.arg 0)))).holds [] {args:=[.list (ns.map .int)]}=true:=by
   have h4:=(holds_andW hc).1;rw[hn]at h4;exact h4
  have h5:=condW_of h4 (w_not (w_lt w_lit (w_len_list (w_arg rfl))));rw[aa]at h5;refine Nat.le_of_not_lt λq=>?_;have q':(n:Int)<((ns.length:Nat):Int):=by omega
  first
   |(rw[aw q']at h5;exact absurd h5 ‹11›)
   |(simp at h5;omega)
 cases Mb with
 |cons w1 w2=>
  cases w2;cases w1 with
  |list ho hX=>exact⟨_,_,ns,rfl,rfl,ho,xY ns _ hX,eC⟩
theorem J0(l:OpenLaw)(args:List WData):l.row.toRowW.claim.post args (.bool true) args=true:=
 postW_of (r:=l.row.toRowW) (X:=(true== true))
  (show WShape.has [] (.bool true) .bool=true by first|rfl|decide|simp[WShape.has,WShape.arms,WShape.armsAll])
  (show(WTm.eq .res (.lit (.bool true))).value [] {args:=args,res:=some (.bool true),after:=args}=some (.bool (true== true))from w_eq_bool (w_res rfl) w_lit) rfl
theorem Ge{l:OpenLaw}{q:vy}{XP:(Str->Option ue)->Heap->Prop}{d:DefRec}
  (hn:l.most=some n) (Ye:d.params.defaults=[])
  (call:∀(w:xm) (s₀ bq:ut) (mg mb:Str->Option ue) (fa:ax) (o:Obj) (pm cd Ch:ue) (a:ax) (vs:List ue) (ns:List Int),
   Ground q Bz [] XP w s₀ mg mb bq.heap->YP w bq.heap->
   bq.heap.get? fa=some o->o.data=.func (docDef d.name d.params d.body d.scope pm cd Ch)->bq.heap.CodeRec cd d.name->mg d.name=some (.ref fa)->
   bq.heap.get? a=some {cls:=.type "list",data:=.seq vs.toArray}->zw vs ns->ns.length<=n->bq.gens=#[]->
   BV (vz l.prog w) XH (.call (.ref fa) ⟨[.ref a],[]⟩) (λr s'=>r=.ok (.ret (.bool true))/\OldK bq.heap s'.heap/\s'.os=bq.os/\Su s'.gens) bq):
  WalkO q Bz XP YP l.row.toRowW d [] (λf vs=>PySem.call f vs):=by
 intro w s₀ bq mg mb G Y fa o pm cd Ch dV kV ho hd Iq hD hmg hg args RE as AS hlay UX Mb hlo;obtain rfl:dV=.none:=Dflts.none hD Ye;obtain rfl:kV=.none:=Dflts.noKw hD;obtain⟨a,vs,ns,rfl,rfl,RF,ID,eC⟩:=KD hn AS Mb;refine enter_call (mw (call w s₀ bq mg mb fa o pm cd Ch a vs ns G Y ho (fd_plain hd) Iq hmg RF ID eC hg) λr s' hq=>?_);obtain⟨rfl,h2,h3,h4⟩:=hq;exact⟨.inl ⟨.bool true,.bool true,[],rfl,λ_=>rfl,.bool true,J0 l _,λ_=>⟨List.Pairwise.nil,λ_ hm=>(nomatch hm)⟩⟩,h2,h3,h4⟩
end Att
namespace L2
open PySem PySem.Spec PyProof.Rows
variable {P prog:vy}{w:xm}{K:PySem.W.Frag}{mg:MG}{C a i1 i2 it p t1 t2 z:ax}{fd:uB}{sp:Sp}{i n t' x1:Nat}{Bz ns ps:LS}{YP:xm->Heap->Prop}{X:Cx}{qual:Str}{st:gz}{cv b ct oc pm u:ue}{an od:Option ax}{A:ye}{bi lf:mo}{H H' H1 H2:Hp}{env:wT}{scope:Scope}{E Q:ES}{s:ut}{R:Xh->ut->Prop}{e eD tg:Expr}{no ifs:List Expr}{fp:LA}{ag:LO}{σ:St}{tn:Nat->Heap->Prop}{J:It}{xs:LV}{v:V}{te:TE}{items ys:AV}{h':Heap}{o:HO}{ta:TA}{kvs:sg}
theorem Ax:∀{vs:LU} {ns:List Int},zw vs ns->Vals (ns.map V.int) vs
 |_,_,.nil=>.nil
 |_,_,.cons n t h=>.cons ⟨t,rfl⟩ (Ax h)
def RH(H:Hp):Prop:=∀b,H b=none\/∃o xs,H b=some (.frz o (.lst xs))
theorem Oh{mb:MG}{CX:GG}{k:Nat}{fa:ax}{x:Str}{bq:ut}{vs:LU}{ns:List Int}
  (KX:K.In bq.heap) (hns:bq.heap.Ns wy mg) (hb:bq.heap.Ns builtinsNs mb) (hbb:∀x:Str,x≠ "__name__" ->mb x=yf x) (hlim:bq.heap.NoLimit) (hg:bq.gens=#[])
  (ha:bq.heap.get? a=some {cls:=.type "list",data:=.seq vs.toArray}) (hi:zw vs ns) (hl:ns.length<=ab) (hr:lR k XH)
  (F:∀base:Heap,K.In base->base.Ns wy mg->aW P w K mg base CX k fa fd [x] sp) (Yf:∀(s:ut) (u:ue),XD s fd ⟨[u],[]⟩ [(x,u)])
  (Pl:∀H:Hp,RH H->SqL K H a (ns.map V.int)->sp [.ref a] H (λv _=>v=.bl true) λ_ _ _=>False)
  (hCX:∀H e s',CX [] H bq (λ_ _ _=>False) e s'->False):
  BV (vz P w) XH (.call (.ref fa) ⟨[.ref a],[]⟩) (λr s'=>r=.ok (.ret (.bool true))/\OldK bq.heap s'.heap/\s'.os=bq.os/\Su s'.gens) bq:=by
 have rv:=Ax hi;have lenV:=hi.length
 have Yg:∀H:Hp,RH H->SqL K H a (ns.map V.int)->HOk P w H bq.heap->(∀b,H b≠none->b=a)->(H a≠none->K.lookup a=none)->
   BV (vz P w) XH (.call (.ref fa) ⟨[.ref a],[]⟩) (λr s'=>r=.ok (.ret (.bool true))/\OldK bq.heap s'.heap/\s'.os=bq.os/\Su s'.gens) bq:=by
  intro H hO hS hok hA hK;have ER:∀{b:ax} {o:Obj},bq.heap.get? b=some o->H b=none->(Ds bq.heap H).get? b=some o:=λe n=>LQ e n
  have X1:∀{b:ax} {o:Obj} {es:Array NB} {ep:Nat},bq.heap.get? b=some o->o.data=.dict es ep->H b=none:=λ{b o es ep} e d=>by
   cases q:H b with
   |none=>rfl
   |some u=>
    have e':b=a:=hA b (by rw[q];simp);subst e';rw[ha]at e;cases e;have d':Data.seq vs.toArray _=Data.dict es ep:=d;cases d'
  have nsK:∀{b:ax} {m:MG},bq.heap.Ns b m->(Ds bq.heap H).Ns b m:=λ{b m} ⟨o,es,ep,e,d,r⟩=>⟨o,es,ep,ER e (X1 e d),d,r⟩
  have hKb:K.In (Ds bq.heap H):=λb o e=>ER (KX b o e) (by
   cases q:H b with
   |none=>rfl
   |some u=>
    have e':b=a:=hA b (by rw[q];simp);subst e';rw[hK (by rw[q];simp)]at e;cases e)
  have hM:Mod K mg (Ds bq.heap H):=⟨hKb,nsK hns,⟨mb,nsK hb,hbb⟩,let⟨mc,h1,h2⟩:=hlim;⟨mc,nsK h1,h2⟩⟩;have e0:Hf P w K mg (Ds bq.heap H) XH [] bq H:=⟨rfl,hM,λb o e=>Ro e,Nat.le_of_eq (Ke _ _),trivial,λb hb=>absurd (show b∈([]:LA)from hb) (by simp),hok,.of_eq hg⟩;refine mw ((F _ hKb (nsK hns)).run XH [] bq H ⟨[.ref a],[]⟩ [.ref a] [.ref a] _ _ hr e0 (Yf bq (.ref a)) (.cons rfl .nil) (Pl H hO hS)) λr s' h=>?_;cases r with
  |error e=>exact(hCX H e s' h).elim
  |ok fl=>
   cases fl with
   |next=>exact yz h
   |brk=>exact yz h
   |cont=>exact yz h
   |ret u=>
    obtain⟨v,H',os,bare,un,hok',r',q⟩:=h;have q':v=.bl true:=q;subst q';obtain rfl:u=ue.bool true:=r';refine⟨rfl,OldK.of_keep λb o e=>?_,os,bare⟩;cases q:H b with
    |none=>exact un.keep b o e q (by intro z;exact absurd (show b∈([]:LA)from z) (by simp)) (by simp)
    |some u=>
     rcases hO b with z|⟨ob,xs,z⟩
     ·rw[q]at z;cases z
     ·have z2:=un.Ck b ob _ z;obtain⟨e1,_⟩:=hok b _ z;obtain⟨e2,_⟩:=hok' b _ z2;rw[e]at e1;cases e1;exact e2
 cases hk:K.lookup a with
 |some o=>
  have e:=KX a o hk;rw[ha]at e;cases e;refine Yg (λ_=>none) (λ_=>.inl rfl) (.inr ⟨_,vs.toArray,_,hk,rfl,rfl,rfl,by rw[bz,lenV];exact hl,by simpa using rv⟩) (λb u z=>by have z':(none:Option HO)=some u:=z;cases z') (λb z=>absurd rfl z) λz=>absurd rfl z
 |none=>
  refine Yg (fun b=>if b=a then some (.frz {cls:=.type "list",data:=.seq vs.toArray} (.lst (ns.map V.int)))else none) (fun b=>?_) (.inl (.inr ⟨{cls:=.type "list",data:=.seq vs.toArray},dL rfl⟩)) (fun b u z=>?_) (fun b z=>?_) fun _=>hk
  ·by_cases hb:b=a
   ·exact .inr ⟨_,_,dL hb⟩
   ·exact .inl (dC hb)
  ·by_cases hb:b=a
   ·have z':=(dL hb).symm.trans z;cases z';subst hb;exact⟨ha,by rw[aa];exact hl,vs,_,rv,ha⟩
   ·have z':=(dC hb).symm.trans z;cases z'
  ·by_cases hb:b=a
   ·exact hb
   ·exact absurd (dC hb) z
theorem Rp{l:PySem.W.OpenLaw}{k:Nat}{q:vy}{XP:(MG)->Heap->Prop}{d:DefRec}{K:Params->PySem.W.Frag}{CX:xm->GG}{sp:xm->Sp}{x:Str}
  (hn:l.most=some n) (Fk:n<=ab) (Ye:d.params.defaults=[]) (hr:lR k XH)
  (hY:∀(w:xm) (h:Heap),YP w h->(K w.params).In h)
  (F:∀(w:xm) (mg:MG) (fa:ax) (h:Heap),(K w.params).In h->h.Ns wy mg->mg d.name=some (.ref fa)->
   ∃fd:uB,(∀(s:ut) (u:ue),XD s fd ⟨[u],[]⟩ [(x,u)])/\
    ∀base:Heap,(K w.params).In base->base.Ns wy mg->aW l.prog w (K w.params) mg base (CX w) k fa fd [x] (sp w))
  (Pl:∀(w:xm) (H:Hp) (a:ax) (ns:List Int),ns.length<=n->RH H->SqL (K w.params) H a (ns.map V.int)->sp w [.ref a] H (λv _=>v=.bl true) λ_ _ _=>False)
  (hCX:∀(w:xm) (H:Hp) (s:ut) (e:ue) (s':ut),CX w [] H s (λ_ _ _=>False) e s'->False):
  PySem.W.WalkO q Bz XP YP l.row.toRowW d [] (λf vs=>PySem.call f vs):=by
 refine Att.Ge hn Ye λw s₀ bq mg mb fa o pm cd Ch a vs ns G Y ho hd Iq hmg RF ID eC hg=>?_;have KX:=hY w _ Y;obtain⟨fd,hb,hF⟩:=F w mg fa _ KX G.T.g hmg;exact Oh KX G.T.g G.T.b G.T.builtins G.T.nolimit hg RF ID (dq eC Fk) hr hF hb (λH hO hS=>Pl w H a ns eC hO hS) λH e s'=>hCX w H bq e s'
def lh(s:gz)(j:Nat):gz:=match s with
 |.ClassDef _ _ _ zD _ _ _ _ _ _ _=>zD.getD j (.Pass ⟨0,0,0,0⟩)
 |_=>.Pass ⟨0,0,0,0⟩
def uK(s:gz):Arguments:=match s with
 |.FunctionDef _ a _ _ _ _ _ _ _ _=>a
 |_=>{posonlyargs:=[],args:=[],vararg:=none,kwonlyargs:=[],kw_defaults:=[],kwarg:=none,defaults:=[]}
def rC(s:gz):List gz:=match s with
 |.FunctionDef _ _ b _ _ _ _ _ _ _=>b
 |_=>[]
def aJ(s:gz):Scope:=match s with
 |.FunctionDef _ _ _ _ _ _ sc _ _ _=>sc
 |_=>{kind:=.function,names:=[],isGenerator:=false,isCoroutine:=false}
abbrev bm:GG:=λ_ _ _ _ _ _=>False
abbrev E0:XK:=λ_ _ _=>False
theorem cN:vw bm X E0:=λ_ _ _ _ _ _ _ h=>h.elim
structure Fun (K:PySem.W.Frag) (x qual:Str) (st:gz) (f:ax) (fd:uB):Prop where
 ex:∃(oc:ue) (od:Option ax) (kV Ch pm:ue) (an:Option ax) (xh ct:ue) (Pf:Array (Option ue)),
  fd=PySem.W.fnOf x qual (uK st) (rC st) (aJ st) .none kV Ch pm an xh ct/\K.lookup f=some ⟨oc,od,.func fd,Pf⟩/\PySem.W.codeIn K xh qual=true
 kp:PySem.W.keepIn K (.ref f)=true
section
variable {P:vy}{w:xm}{K:PySem.W.Frag}{mg:MG}{base:Heap}
theorem Fun.ok{x:Str}{f:ax}{N:LS}{k:Nat}(F:Fun K x qual st f fd)(S:aZ N ps (aJ st))(len:∀vs H Q E,sp vs H Q E->vs.length=ps.length)
  (Ix:∀(xh:ue) (A:ye) (outer:List wT) (s:ut) (H:Hp) (vs:LV) (Q:VK) (E:XK),lR k (A.deeper (Xz qual (aJ st) s.heap.objs.size f xh))->sp vs H Q E->
   ∃t,PSs (jm bm P w K mg base N qual (aJ st) f xh A outer s H E).nox (rC st) t/\t {nx:=λ_ H'=>Q .non H',rt:=Q} (start N vs) H):aW P w K mg base bm (k+1) f fd ps sp:=by
 obtain⟨oc,od,kV,Ch,pm,an,xh,ct,Pf,rfl,lk,Iq⟩:=F.ex;refine Vf lk Iq S len λA outer s H vs Q E hr Pl=>?_;obtain⟨t,h,q⟩:=Ix xh A outer s H vs Q E hr Pl;exact⟨t,h.nox,q⟩
theorem Fun.binds{x:Str}{f:ax}(F:Fun K x qual st f fd)
  (h:∀(kV Ch pm:ue) (an:Option ax) (xh ct:ue) (us:LU),us.length=ps.length->bindArgs (PySem.W.fnOf x qual (uK st) (rC st) (aJ st) .none kV Ch pm an xh ct) ⟨us,[]⟩=Hb (ps.zip us)):Binds K fd ps []:=by
 obtain⟨oc,od,kV,Ch,pm,an,xh,ct,Pf,rfl,lk,Iq⟩:=F.ex;exact .all (h kV Ch pm an xh ct)
theorem NP{x:Str}{f:ax}{Pf:Array (Option ue)}{kV Ch xh:ue}(l:K.lookup f=some ⟨oc,od,.func (PySem.W.fnOf x qual (uK st) (rC st) (aJ st) .none kV Ch pm an xh ct),Pf⟩)
  (c:PySem.W.codeIn K xh qual=true) (k:PySem.W.keepIn K (.ref f)=true):Fun K x qual st f (PySem.W.fnOf x qual (uK st) (rC st) (aJ st) .none kV Ch pm an xh ct):=⟨⟨oc,od,kV,Ch,pm,an,xh,ct,Pf,rfl,l,c⟩,k⟩
end
theorem lF{k:Nat}(hr:lR k A):A.units+1<ge:=Nat.lt_of_le_of_lt (Nat.add_le_add_left (by decide:1<=64) _) hr.units
section
variable {X:Cx}
theorem pv(i:Nat){x:Str}(hN:X.N[i]?=some x:=by rfl)(hv:XE X.env.scope x:=by first|exact uv rfl|exact MT (uv rfl)|exact MT (MT rfl))(hd:(x== ("__debug__":Str))=false:=by decide)
  (Iq:(x== ("__classdict__":Str))=false:=by decide):PE X (.Name x bi) (UL i):=U6 hN hv hd Iq
inductive xQ (xs:LV) (H:Hp) (Q:VK):Prop
 |mk (a kvs:_):xs=[V.ref a]->H a=some (.dK kvs)->Q (.int kvs.length) H->xQ xs H Q
theorem K9:iy X (.builtin "len") xQ:=by
 intro ag s σ H xs us Q I r h;obtain⟨a,kvs,rfl,ha,q⟩:=h;obtain⟨u,rfl,ru⟩:=vals1 r;cases ru;exact Wj I (.inl ha) λt s' I'=>⟨.int kvs.length,H,I',⟨t,rfl⟩,q⟩
end
theorem iu{A B:Prop}(h:B):if false=true then A else B:=by
 rw[dC az];exact h
theorem jq{A B:Prop}(h:A):if true=true then A else B:=by
 rw[dL rfl];exact h
theorem rJ{c A B:Prop}[Decidable c](h1:c->A)(h2:¬c->B):if c then A else B:=by
 by_cases h:c
 ·rw[dL h];exact h1 h
 ·rw[dC h];exact h2 h
def Same(H H':Hp):Prop:=∀b o,H b=some o->H' b=some o
theorem Same.refl(H:Hp):Same H H:=λ_ _ h=>h
abbrev XS:=@Same.refl
theorem Same.trans(a:Same H H1)(b:Same H1 H2):Same H H2:=λc o h=>b c o (a c o h)
section
variable {κ:Type}[DecidableEq κ]
theorem uG:∀{l:List κ} {k:κ},l.Nodup->¬k∈l->(l++[k]).Nodup
 |[],k,_,_=>by simp
 |a::r,k,h,hk=>by
  obtain⟨h1,h2⟩:=fg.mp h;show(a::(r++[k])).Nodup;refine fg.mpr ⟨λm=>?_,uG h2 λm=>hk (aT.mpr (MT m))⟩;rcases bu.mp m with q|q
  ·exact h1 q
  ·exact hk (aT.mpr (uv (bg.mp q).symm))
end
set_option autoImplicit false
noncomputable def clo(cells:List (Str×ax)):List (Str×ym)->List (Str×ax)->List (Str×ax)
 |[],cv=>cv
 |(n,k)::r,cv=>if k== .free then clo cells r ((n,(cells.lookup n).getD 0)::cv)else clo cells r cv
theorem Hj{cells:List (Str×ax)}:∀{names:List (Str×ym)} {cv:List (Str×ax)} {x:Str} {c:ax},(∀y∈names,y.2=.free->∃c,cells.lookup y.1=some c)->
  (clo cells names cv).lookup x=some c->cells.lookup x=some c\/cv.lookup x=some c
 |[],cv,x,c,_,h=>.inr h
 |(n,k)::r,cv,x,c,ha,h=>by
  have har:∀y∈r,y.2=.free->∃c,cells.lookup y.1=some c:=λy hy=>ha y (cf _ hy);unfold clo at h
  by_cases hk:k=.free
  ·subst hk;rw [dL (by rfl)] at h;rcases Hj har h with q | q
   ·exact .inl q
   ·obtain ⟨c',e⟩:=ha (n,.free) aS rfl;rw [ii] at q;cases hx:x == n with
    |true=>
     rw[hx]at q;have L6:x=n:=by simpa using hx
     have e':cells.lookup n=some c':=e;rw[e']at q;rw[L6,e'];exact .inl q
    |false=>
     rw[hx]at q;exact .inr q
  ·rw[dC (by simpa using hk)]at h;exact Hj har h
theorem Bq{cells:List (Str×ax)}:∀{names:List (Str×ym)} {cv:List (Str×ax)} {x:Str},(∃c,cv.lookup x=some c)->∃c,(clo cells names cv).lookup x=some c
 |[],_,_,h=>h
 |(n,k)::r,cv,x,h=>by
  unfold clo;split
  ·refine Bq ?_;rw [ii];cases hx:x == n with
   |true=>exact⟨_,rfl⟩
   |false=>exact h
  ·exact Bq h
theorem yq{cells:List (Str×ax)}:∀{names:List (Str×ym)} {cv:List (Str×ax)} {x:Str},(x,Ff)∈names->∃c,(clo cells names cv).lookup x=some c
 |[],_,_,h=>by simp at h
 |(n,k)::r,cv,x,h=>by
  unfold clo;rcases aT.mp h with e|e
  ·cases e;rw[dL (by rfl)];exact Bq ⟨(cells.lookup n).getD 0,by simp[ii]⟩
  ·split
   ·exact yq e
   ·exact yq e
theorem vH
  (ha:∀y∈scope.names,y.2=.free->∃c,env.cells.lookup y.1=some c):closureFor scope env=Hb (clo env.cells scope.names []):=by
 have go:∀(names:List (Str×ym)) (cv:List (Str×ax)),(∀y∈names,y.2=.free->∃c,env.cells.lookup y.1=some c)->
   (forIn names cv λ(x:Str×ym) (cs:List (Str×ax))=>(do
    if x.2== .free then
     let c <- cellOf env x.1
     Hb (Eg ((x.1,c)::cs))
    else Hb (Eg cs):AG (ForInStep (List (Str×ax)))))=Hb (clo env.cells names cv):=by
  intro names
  induction names with
  |nil=>intro cv _;rfl
  |cons y r ih=>
   intro cv h;obtain⟨n,k⟩:=y;have hr:∀y∈r,y.2=.free->∃c,env.cells.lookup y.1=some c:=λy hy=>h y (cf _ hy);rw[lS];unfold clo
   by_cases hk:k=.free
   ·subst hk;obtain ⟨c,e⟩:=h (n,.free) aS rfl;have e':env.cells.lookup n=some c:=e
    have hc:cellOf env n=Hb c:=by
     unfold cellOf;rw[e']
    simp only[beq_self_eq_true,kM,hc,pure_bind,e',Option.getD_some];exact ih _ hr
   ·have hb:(k == Ff)=false:=by simpa using hk
    simp only[hb,lI,rS,pure_bind];exact ih _ hr
 have q:=go scope.names [] ha;unfold closureFor;simp only[bind_pure];exact q
theorem jF{scope:Scope}{env:wT}{x:Str}:∀{names:List (Str×ym)},
  (names.map fun(n,k)=>if (k == Ff && env.scope.kind == .function && env.kindOf n == some .cell) then (n,My) else (n,k)).lookup x =
   (names.lookup x).map λk=>if(k== Ff && env.scope.kind== .function && env.kindOf x== some .cell)then My else k
 |[]=>rfl
 |(n,k)::r=>by
  have ih:=@jF scope env x r;show List.lookup x ((if(k== Ff && env.scope.kind== .function && env.kindOf n== some .cell)=true then(n,My)else(n,k))::_)=_;cases hx:x== n with
  |true=>
   have L6:x=n:=by simpa using hx
   subst L6
   by_cases hc:(k== Ff && env.scope.kind== .function && env.kindOf x== some .cell)=true
   ·rw[dL hc];simp only[ii,hx,kf,hc,kM]
   ·rw[dC hc];simp only[ii,hx,kf,dC hc]
  |false=>
   by_cases hc:(k== Ff && env.scope.kind== .function && env.kindOf n== some .cell)=true
   ·rw[dL hc];simp only[ii,hx];exact ih
   ·rw[dC hc];simp only[ii,hx];exact ih
theorem lZ:∀(names:List (Str×ym)) (n:Nat) (cv:List (Str×ax)),cm n names cv=cm n names []++cv
 |[],_,_=>rfl
 |(x,k)::r,n,cv=>by
  unfold cm;split
  ·rw[lZ r (n+1) ((x,n)::cv),lZ r (n+1) [(x,n)],dE];rfl
  ·exact lZ r n cv
theorem qW:∀{names:List (Str×ym)} {n:Nat} {x:Str} {c:ax},(x,c)∈cm n names []->(x,My)∈names/\n<=c
 |[],_,_,_,h=>by cases h
 |(y,k)::r,n,x,c,h=>by
  unfold cm at h;split at h
  ·rename_i hk
   rw[lZ]at h;rcases bu.mp h with q|q
   ·obtain⟨h1,h2⟩:=qW q;exact⟨cf _ h1,by omega⟩
   ·cases bg.mp q;have e:k=.cell:=by simpa using hk
    rw[e];exact⟨aS,af _⟩
  ·obtain⟨h1,h2⟩:=qW h;exact⟨cf _ h1,h2⟩
theorem wD{α:Type}{x:Str}:∀(l m:List (Str×α)),(l++m).lookup x=(l.lookup x).or (m.lookup x)
 |[],m=>by simp
 |(k,v)::r,m=>by
  rw[eM,ii,ii];cases x== k with
  |true=>rfl
  |false=>exact wD r m
theorem JC:∀{names:List (Str×ym)} {x:Str} {k k':ym},(names.map (·.1)).Nodup->names.lookup x=some k->(x,k')∈names->k'=k
 |[],_,_,_,_,h,_=>by cases h
 |(y,j)::r,x,k,k',hn,h,hm=>by
  rw[ci]at hn;obtain⟨n1,n2⟩:=fg.mp hn;rw[ii]at h;rcases aT.mp hm with e|e
  ·cases e;rw[show(y== y)=true by simp]at h;exact cS h
  ·cases hx:x == y with
   |true=>
    have L6:x=y:=by simpa using hx
    subst L6;exact absurd (bE.mpr ⟨_,e,rfl⟩) n1
   |false=>
    rw[hx]at h;exact JC n2 h e
abbrev qU(C:ax)(cells:List (Str×ax))(names:List (Str×ym)):List (Str×ax):=cm (C+1) names (clo cells names [])
theorem mV{cells:List (Str×ax)}{names:List (Str×ym)}{x:Str}{c:ax}(h:(qU C cells names).lookup x=some c):
  ((x,c)∈cm (C+1) names []/\(x,My)∈names/\C+1<=c)\/(clo cells names []).lookup x=some c:=by
 unfold qU at h;rw[lZ,wD]at h;cases q:(cm (C+1) names []).lookup x with
 |none=>
  rw[q]at h;exact .inr h
 |some d=>
  rw[q]at h;cases h;have m:=gu q;exact .inl ⟨m,qW m⟩
theorem Bh{cells:List (Str×ax)}{names:List (Str×ym)}{x:Str}(hn:(names.map (·.1)).Nodup)(h:names.lookup x=some .free):(qU C cells names).lookup x=(clo cells names []).lookup x:=by
 unfold qU;rw[lZ,wD];cases q:(cm (C+1) names []).lookup x with
 |none=>rfl
 |some d=>
  have m:=(qW (gu q)).1;cases JC hn h m
theorem xK{M:Model}{cl:List (Str×ax)}{Q:wT->ut->Prop}
  (hQ:∀ h',h'.Ns s.heap.objs.size (fun _=>none)->(∀ b o,s.heap.get? b=some o->h'.get? b=some o)->CellsOk h' (s.heap.objs.size+1) (cm (s.heap.objs.size+1) scope.names [])->
   Q {scope:=scope,locals:=s.heap.objs.size,globals:=env.globals,cells:=cm (s.heap.objs.size+1) scope.names cl,qual:=env.qual,func:=none,code:=env.code,frame:=env.frame,builtins:=env.builtins} {s with heap:=h'}):
  wpAny M A (VV scope env.globals cl [] env.qual none .none (some env)) Q E s:=by
 simp only[VV,Option.isSome_some,kM];refine ae (wpAny_alloc ?_);refine ae (wpAny_layCells _ (fun name kind cells=>by cases hkc:kind== My <;>simp[hkc]) _ _ _ _ ?_);have ok:=cellsFrom_ok scope.names (s.heap.push {cls:=.type "dict",data:=.dict #[]}) (s.heap.objs.size+1) [] ⟨fun _ _ hm=>(nomatch hm),List.Pairwise.nil⟩ (by rw[fk];exact af _);rw[fk]at ok;rw[show({s with heap:=s.heap.push {cls:=.type "dict",data:=.dict #[]} }:ut).heap.objs.size=s.heap.objs.size+1 from fk ..];refine ae ?_;rw[mn];exact aE (aE (hQ _ ((Heap.Ns.new s.heap (.type "dict")).keeps (pushCells_keeps _ _)) (fun b o e=>pushCells_keeps _ _ b o (am _ e)) ok))
noncomputable def gF(X:Cx)(scope:Scope)(cl:List (Str×ax))(N:LS)(C:ax)(eh:ut)(hV:Hp)(fp:LA):Cx where
 prog:=X.prog
 w:=X.w
 K:=X.K
 mg:=X.mg
 base:=X.base
 A:=X.A
 N:=N
 s₀:=eh
 H₀:=hV
 env:=R1 scope cl C X.env
 outer:=X.stack
 stack:=X.stack
 ex:=fp
 calm:=X.calm
 fn:=λx=>scope.names.lookup x== some .cell
 pn:=[]
 xe:=λ_ _=>False
structure aQ (X:Cx) (scope:Scope) (own:LS) (fr:List Nat) (N:LS):Prop where
 kind:scope.kind=.function
 nodup:(scope.names.map (·.1)).Nodup
 names:∀y∈scope.names,y.2=.local->scope.names.lookup y.1=some .local
 free:∀y∈scope.names,y.2=.free->X.env.kindOf y.1=some .cell\/X.env.kindOf y.1=some .free
 len:N.length=own.length+fr.length
 Tj:∀(j i:Nat),fr[j]?=some i->∃x,N[own.length+j]?=some x/\X.N[i]?=some x/\scope.names.lookup x=some .free
 frs:∀(j:Nat) (x:Str),N[j]?=some x->j<own.length->own[j]?=some x
noncomputable def DJ(σ:St)(fr:List Nat):St:=fr.map λi=>(σ[i]?).join
def RI(X:Cx)(ifs:List Expr)(t:TT):Prop:=
 ∀(ag:LO) (s:ut) (σ:St) (H:Hp) (Q:Bool->Hp->Prop),Inv X ag σ H s->t σ H Q->
  wpAny ‹7› X.A (forIn ifs true λc r=>if r=true then do let ok <- isTrue c X.env (cq c X.env);Hb (Eg ok)else Hb (Eg r)) (TP X ag σ Q) X.xe s
def TQ:TT:=λ_ H Q=>Q true H
theorem cJ:RI X [] TQ:=λ_ _ _ H _ I h=>wpAny_tests_nil ⟨H,I,h⟩
theorem oJ{c:Expr}{t:TT}(h:PT X c t):RI X [c] t:=λag s σ H Q I hq=>wpAny_tests_one (h ag s σ H Q I hq)
theorem CQ{elt nc:Expr}{it:ue}(I:Nat->ut->Prop)
  (xk:∀ n s,I n s->wpAny ‹17› A (M3 it) (fun r bq=>match r with
   |none=>R (.ok .next) bq
   |some v=>wpAny ‹17› A (JS nc it v) (λ_ CD=>wpAny ‹17› A (oT nc env v) (λ_ na=>
     wpAny ‹17› A (forIn ifs true λc r=>if r=true then do let ok <- isTrue c env (cq c env);Hb (Eg ok)else Hb (Eg r)) (λok eh=>
      if ok=true then wpAny ‹17› A (cq elt env) (λx AT=>
       wpAny ‹17› A (call (.builtin "list.append") [cv,x]) (fun _ IE=>∃m,m<n/\I m IE) (fun _ _=>False) AT) (fun _ _=>False) eh
      else∃m,m<n/\I m eh) (λ_ _=>False) na) (λ_ _=>False) CD) (λ_ _=>False) bq) (λ_ _=>False) s)
  (n:Nat) (h:I n s):
  BV ‹17› A (.compLoop (.ListComp elt [⟨nc,eD,ifs,0⟩] scope bi) 0 it cv env) R s:=by
 refine codeAny_loop rfl I (λn s hI=>?_) n h;show wpAny _ A ((tj (.ListComp elt [⟨nc,eD,ifs,0⟩] scope bi) 0 it cv env).onRaise (λx=>do noteFrame x env;theTreesLotGoes x)) _ _ s;refine wpAny_noted ?_;rw[compTurn_list];refine ae (kS (ae (fF (xk n s hI) (λr bq ix=>?_) λ_ _ h'=>h'.elim)));cases r with
 |none=>exact aE ix
 |some v=>
  refine ae (fF ix (λ_ CD IF=>?_) λ_ _ h'=>h'.elim);refine ae (fF IF (λ_ na D8=>ae (fF D8 (λok eh D9=>?_) λ_ _ h'=>h'.elim)) λ_ _ h'=>h'.elim);cases ok with
  |false=>exact aE ⟨rfl,D9⟩
  |true=>
   exact ae (ae (fF D9 (λx AT h₄=>ae (fF h₄ (λ_ IE RO=>aE (aE ⟨rfl,RO⟩)) λ_ _ h'=>h'.elim)) λ_ _ h'=>h'.elim))
section
variable {X:Cx}{scope:Scope}{own N:LS}{fr:List Nat}{ag:LO}{σ:St}{H2 H3:Hp}{s2 s3:ut}
theorem aQ.clo(S:aQ X scope own fr N)(ok:X.Ok):∀y∈scope.names,y.2=.free->∃c,X.env.cells.lookup y.1=some c:=λy hy e=>ok.has y.1 (S.free y hy e)
theorem aQ.sub(S:aQ X scope own fr N)(ok:X.Ok){x:Str}{c:ax}(h:(L2.clo X.env.cells scope.names []).lookup x=some c):X.env.cells.lookup x=some c:=by
 rcases Hj (S.clo ok) h with q|q
 ·exact q
 ·simp at q
theorem aQ.look(S:aQ X scope own fr N)(ok:X.Ok){x:Str}(h:scope.names.lookup x=some .free){cl:List (Str×ax)}:
  (R1 scope cl C X.env).kindOf x=some .cell\/(R1 scope cl C X.env).kindOf x=some .free:=by
 show((QR scope X.env).names.lookup x)=_\/((QR scope X.env).names.lookup x)=_;unfold QR;show List.lookup x (List.map _ _)=_\/List.lookup x (List.map _ _)=_;rw[jF (scope:=scope),h];simp only[kf];split
 ·exact .inl rfl
 ·exact .inr rfl
theorem CJ(S:aQ X scope own fr N)(I:Inv X ag σ H3 s3)(hf:∀b∈fp,qu X ag H3 b)(lc:∀b∈fp,b<s3.heap.objs.size):
  (gF X scope (qU s3.heap.objs.size X.env.cells scope.names) N s3.heap.objs.size s3 H3 fp).Ok where
 mod:=I.ok.mod
 kind:=S.kind
 glob:=I.ok.glob
 blt:=I.ok.blt
 above:=af _
 inj:=λx y c h1 h2=>by
  have BA:∀{z:Str},(L2.clo X.env.cells scope.names []).lookup z=some c->c<s3.heap.objs.size:=λ{z} h=>by
   obtain⟨v,q⟩:=I.cell z c (S.sub I.ok h);exact q.lt
  have ap:=(cellsFrom_ok scope.names (s3.heap.push {cls:=.type "dict",data:=.dict #[]}) (s3.heap.objs.size+1) [] ⟨fun _ _ hm=>(nomatch hm),List.Pairwise.nil⟩ (by rw[fk];exact af _)).apart;rw[fk]at ap;rcases mV h1 with⟨m1,_,l1⟩|q1
  ·rcases mV h2 with ⟨m2,_,_⟩ | q2
   ·exact name_of_addr ap m1 m2
   ·exact absurd (mB l1 (BA q2)) (kR _)
  ·rcases mV h2 with ⟨m2,_,l2⟩ | q2
   ·exact absurd (mB l2 (BA q1)) (kR _)
   ·exact I.ok.inj x y c (S.sub I.ok q1) (S.sub I.ok q2)
 has:=λx hx=>by
  have hx:(QR scope X.env).names.lookup x=some .cell\/(QR scope X.env).names.lookup x=some .free:=hx;unfold QR at hx;have hx:List.lookup x (scope.names.map _)=some My\/List.lookup x (scope.names.map _)=some Ff:=hx;rw[jF (scope:=scope)]at hx;cases e:scope.names.lookup x with
  |none=>rw[e]at hx;simp at hx
  |some k=>
   have hm:=gu e;rw[e]at hx;simp only[kf]at hx
   have hk:k=.free\/k=.cell:=by
    by_cases hk:k=.free
    ·exact .inl hk
    ·have hb:(k == Ff)=false:=by simpa using hk
     simp only[hb,Bool.false_and,lI,rS]at hx;rcases hx with z|z
     ·exact .inr (cS z)
     ·exact .inl (cS z)
   rcases hk with hk|hk
   ·subst hk;obtain⟨c,q⟩:=yq (cells:=X.env.cells) (cv:=[]) hm;exact⟨c,(Bh S.nodup e).trans q⟩
   ·subst hk;exact iO.mp (lx scope.names _ _ (.inl e))
 cab:=λx c h q=>by
  have e:scope.names.lookup x=some .cell:=ky.mp h;show s3.heap.objs.size<=c;have q':(qU s3.heap.objs.size X.env.cells scope.names).lookup x=some c:=q;unfold qU at q';rw[lZ,wD]at q';obtain⟨d,z⟩:=iO.mp (lx scope.names (s3.heap.objs.size+1) [] (.inl e));rw[z]at q';cases q';have:=(qW (gu z)).2;omega
 hd:=I.ok.hd
 frames:=I.ok.frames
 stk:=.inl rfl
 exf:=λb hb=>⟨d6 (lc b hb),λx c e=>by
  rcases mV e with⟨_,_,l⟩|q
  ·exact fN (mB (lc b hb) l)
  ·exact(hf b hb).2.2.2.2.1 x c (S.sub I.ok q)⟩
 bs:=I.bs
 bsz:=dq I.ok.bsz I.sz
 Ld:=λb o e hb=>by
  rcases(hf b hb).2.2.2.1 with z|z
  ·exact I.ok.Ld b o e z
  ·exact absurd (eB (eB (cr e) I.ok.bsz) z) (kR _)
 Hl:=λb hb hm=>by
  rcases aT.mp (I.GQ b hm)with z|z
  ·exact(hf b hb).2.1 z
  ·exact(hf b hb).2.2.1 z
 wY:=I.stack
 frf:=I.Jl
theorem DG(S:aQ X scope own fr N)(I:Inv X ag σ H3 s3)(hf:∀b∈fp,qu X ag H3 b)(lc:∀b∈fp,b<s3.heap.objs.size){h1:Heap}{t:Nat}{m:MG}
  (hn:h1.Ns s3.heap.objs.size m) (hk:∀b o,s3.heap.get? b=some o->h1.get? b=some o) (Yh:CellsOk h1 (s3.heap.objs.size+1) (cm (s3.heap.objs.size+1) scope.names [])):
  Inv (gF X scope (qU s3.heap.objs.size X.env.cells scope.names) N s3.heap.objs.size s3 H3 fp) [] (List.replicate own.length none++DJ σ fr) H3 {s3 with heap:=h1,toks:=t}where
 ok:=CJ S I hf lc
 os:=rfl
 bare:=I.bare
 base:=Un.kept hk
 loc:=by
  refine⟨m,hn,λj x v e1 e2 e3=>?_⟩;have e1:N[j]?=some x:=e1
  by_cases hj:j<own.length
  ·rw[kG (by simpa using hj),List.getElem?_replicate]at e2;split at e2 <;>cases e2
  ·rw [kB (by simpa using hj),eL] at e2;unfold DJ at e2;rw [bS] at e2;cases ef:fr[j - own.length]? with
   |none=>rw[ef]at e2;cases e2
   |some i=>
    rw[ef]at e2;obtain⟨x',n1,n2,n3⟩:=S.Tj _ _ ef;rw[show own.length+(j - own.length)=j by omega,e1]at n1;cases n1;have e4:(σ[i]?).join=some v:=by simpa using e2
    have e5:σ[i]?=some (some v):=by
     cases q:σ[i]? with
     |none=>rw[q]at e4;cases e4
     |some z=>rw[q]at e4;have e4:z=some v:=e4;rw[e4]
    have Ct:=S.free _ (gu n3) rfl;obtain⟨mX,hnX,hl⟩:=I.loc
    have hv:XE X.env.scope x:=by
     rcases Ct with z|z
     ·exact .inr (.inl z)
     ·exact .inr (.inr z)
    obtain⟨u,r,l⟩:=hl i x v n2 e5 hv;refine⟨u,r,.inr ⟨S.look I.ok n3,?_⟩⟩;rcases l with⟨z,_⟩|⟨_,c,ec,hc⟩
    ·rcases Ct with y | y
     ·rw[z]at y;cases y
     ·rw[z]at y;cases y
    ·obtain⟨c',e'⟩:=yq (cells:=X.env.cells) (cv:=[]) (gu n3);have:=S.sub I.ok e';rw[ec]at this;cases this;exact⟨c,(Bh S.nodup n3).trans e',hc.keeps hk⟩
 cell:=λx c e=>by
  rcases mV e with⟨mm,_,_⟩|q
  ·exact⟨none,(Yh.empty x c mm).1⟩
  ·obtain⟨v,z⟩:=I.cell x c (S.sub I.ok q);exact⟨v,z.keeps hk⟩
 free:=I.hok.fresh (af _)
 ur:=λx c e=>by
  rcases mV e with⟨_,_,l⟩|q
  ·exact I.hok.fresh (Nat.le_of_lt l)
  ·exact I.ur x c (S.sub I.ok q)
 pin:=λp hp=>by
  have hp:p∈([]:LO):=hp;simp at hp
 hok:=I.hok.kept hk
 len:=by
  show _=N.length;rw[S.len,ai,eL];unfold DJ;rw[aa]
end
inductive Ac (own:Nat) (fr:List Nat) (g:TG) (tc:TT) (te:TE) (σ:St) (Q:VK) (J:It) (D:ax) (H0:Hp):Prop
 |mk (W:Nat->Nat->LV->Hp->Prop):(∃m,W 0 m [] H0)->(∀i m ys H,W i m ys H->(J.stop i H/\Q (.ref D) H)\/(J.go i H/\∀x H',J.yld i H x H'->∀gi:St,gi.length=own->g x (gi++DJ σ fr) H' λmd H2=>(∃BI:St,BI.length=own/\md=BI++DJ σ fr)/\tc md H2 λb H3=>if b=true then te md H3 λy H4=>ys.length<ab/\H4 D=some (.lst ys)/\∃m',m'<m/\W (i+1) m' (ys++[y]) (upd H4 D (.lst (ys++[y])))else∃m',m'<m/\W (i+1) m' ys H3))->Ac own fr g tc te σ Q J D H0
def RN(own:Nat)(fr:List Nat)(wi:TI)(g:TG)(tc:TT)(te:TE):TE:=λσ H Q=>wi σ H λJ H1=>∀D,H1 D=none->Ac own fr g tc te σ Q J D (upd H1 D (.lst []))
structure wO (X:Cx) (scope:Scope) (N:LS) (tg elt:Expr) (ifs:List Expr) (g:TG) (tc:TT) (te:TE):Prop where
 tg:∀(cl:List (Str×ax)) (C:ax) (eh:ut) (hV:Hp) (fp:LA),PG (gF X scope cl N C eh hV fp) tg g
 ifs:∀(cl:List (Str×ax)) (C:ax) (eh:ut) (hV:Hp) (fp:LA),RI (gF X scope cl N C eh hV fp) ifs tc
 elt:∀(cl:List (Str×ax)) (C:ax) (eh:ut) (hV:Hp) (fp:LA),PE (gF X scope cl N C eh hV fp) elt te
section
variable {X:Cx}{scope:Scope}{own N:LS}{fr:List Nat}{tg elt eD:Expr}{ifs:List Expr}{g:TG}{tc:TT}{te:TE}{wi:TI}{bi:mo}
theorem FW(hc:X.calm=true)(S:aQ X scope own fr N)(CP:wO X scope N tg elt ifs g tc te){s2:ut}(I2:Inv X ag σ H2 s2)
  (T:wf X.prog X.w X.K tg J fp it tn) (CA:tn 0 s2.heap) (f2:∀b∈fp,qu X ag H2 b) {Q:VK}  {RR:ue->ax->Xh->ut->Prop}
  (hw:∀D,H2 D=none->Ac own.length fr g tc te σ Q J D (upd H2 D (.lst [])))
  (hR:∀D C s' H' m,Inv X ag σ H' s'->qu X ag H' C->s'.heap.Ns C m->Q (.ref D) H'->RR (.ref D) C (.ok .next) s'):
  wpAny ‹7› X.A (newList []) (λcv eh=>wpAny ‹7› X.A (VV scope X.env.globals (clo X.env.cells scope.names []) [] X.env.qual none .none (some X.env)) (λIG AT=>
   BV ‹7› X.A (.compStart (.ListComp elt [⟨tg,eD,ifs,0⟩] scope bi) 0 (.ref it) cv {IG with scope:=QR scope X.env}) (RR cv IG.locals) AT) E eh) E s2:=by
 have hD:H2 s2.heap.objs.size=none:=I2.hok.fresh (af _)
 have I3:Inv X ag σ (upd H2 s2.heap.objs.size (.lst [])) {s2 with heap:=s2.heap.push {cls:=.type "list",data:=.seq ([]:LU).toArray} }:=
  I2.QZ (t':=s2.toks) (ys:=[]) (its:=[]) .nil (ck _)
 have IH:∀b∈fp,b<s2.heap.objs.size:=λb hb=>by
  obtain⟨o,e,_⟩:=T.obj _ _ CA b hb;exact cr e
 have f3:∀b∈fp,qu X ag (upd H2 s2.heap.objs.size (.lst [])) b:=λb hb=>⟨by rw[aB (d6 (IH b hb))];exact(f2 b hb).1,(f2 b hb).2⟩;obtain⟨W,⟨m0,w0⟩,xk⟩:=hw _ hD;refine gX (xK λix ox zI zS=>?_)
 suffices RS:∀s3:ut,s3={s2 with heap:=s2.heap.push {cls:=.type "list",data:=.seq ([]:LU).toArray} }->Inv X ag σ (upd H2 s2.heap.objs.size (.lst [])) s3->∀m:MG,ix.Ns s3.heap.objs.size m->
   (∀ b o,s3.heap.get? b=some o->ix.get? b=some o)->CellsOk ix (s3.heap.objs.size+1) (cm (s3.heap.objs.size+1) scope.names [])->BV ‹7› X.A (.compStart (.ListComp elt [⟨tg,eD,ifs,0⟩] scope bi) 0 (.ref it) (.ref s2.heap.objs.size) (R1 scope (qU s3.heap.objs.size X.env.cells scope.names) s3.heap.objs.size X.env))
    (RR (.ref s2.heap.objs.size) s3.heap.objs.size) {s3 with heap:=ix,toks:=s3.toks}from
  RS _ rfl I3 _ ox zI zS
 clear ox zI zS;intro s3 hH3 I3 m3 ox BA Yh;have e3:s3.heap=s2.heap.push {cls:=.type "list",data:=.seq ([]:LU).toArray}:=by rw[hH3]
 have hs3:s2.heap.objs.size<s3.heap.objs.size:=by rw[e3,fk];exact mv _
 have Ee:∀b∈fp,b<s3.heap.objs.size:=λb hb=>mB (IH b hb) hs3;have I4:=DG S I3 f3 Ee (t:=s3.toks) ox BA Yh;have Yi:=CJ S I3 f3 Ee;have Yj:tn 0 ix:=T.keep 0 s2.heap ix CA λb hb o e=>BA b o (by rw[e3];exact am _ e)
 have xo:∀{H':Hp},(∀b∈fp,H' b=none)->∀b∈fp,qu (gF X scope (qU s3.heap.objs.size X.env.cells scope.names) N s3.heap.objs.size s3 (upd H2 s2.heap.objs.size (.lst [])) fp) [] H' b:=λ{H'} hn b hb=>
  ⟨hn b hb,d6 (Ee b hb),Yi.Hl b hb,.inl hb,(Yi.exf b hb).2,λp hp=>by
   have hp:p∈([]:LO):=hp;simp at hp⟩
 have II:∀AT:ut,AT={s3 with heap:=ix,toks:=s3.toks}->
   BV ‹7› X.A (.compLoop (.ListComp elt [⟨tg,eD,ifs,0⟩] scope bi) 0 (.ref it) (.ref s2.heap.objs.size) (R1 scope (qU s3.heap.objs.size X.env.cells scope.names) s3.heap.objs.size X.env))
    (RR (.ref s2.heap.objs.size) s3.heap.objs.size) AT:=by
  rintro AT rfl
  refine CQ (λn s'=>∃i ys gi H',gi.length=own.length/\Inv (gF X scope (qU s3.heap.objs.size X.env.cells scope.names) N s3.heap.objs.size s3 (upd H2 s2.heap.objs.size (.lst [])) fp) [] (gi++DJ σ fr) H' s'/\
   tn i s'.heap/\(∀b∈fp,H' b=none)/\W i n ys H') ?_ m0 ⟨0,[],List.replicate own.length none,_,eL,I4,Yj,λb hb=>(f3 b hb).1,w0⟩
  rintro n s5 ⟨i,ys,gi,H5,hσ,I5,L7,UR,w5⟩;rcases xk i n ys H5 w5 with⟨stop,qn⟩|⟨go,step⟩
  ·refine cb (T.done (gF X scope (qU s3.heap.objs.size X.env.cells scope.names) N s3.heap.objs.size s3 (upd H2 s2.heap.objs.size (.lst [])) fp) rfl rfl rfl hc i [] s5 (gi++DJ σ fr) H5 _ I5 (xo UR) L7 stop) λr s6 ⟨hr,I6⟩=>?_;subst hr;obtain⟨m,hn6,_⟩:=I6.loc;refine hR _ _ s6 H5 m (I3.call' (ch:=fp) I6.os I6.base I6.hok I6.bare λb hb=>⟨(f3 b hb).2.2.2.1,(f3 b hb).2.1,(f3 b hb).2.2.2.2.1,(f3 b hb).2.2.2.2.2⟩) (I3.qI (af _) I6.free) hn6 qn
  ·refine cb (T.item (gF X scope (qU s3.heap.objs.size X.env.cells scope.names) N s3.heap.objs.size s3 (upd H2 s2.heap.objs.size (.lst [])) fp) rfl rfl rfl hc i [] s5 (gi++DJ σ fr) H5 _ I5 (xo UR) L7 go) fun r s6 ⟨u,hr,h6⟩=>?_;subst hr;refine cb h6 fun _ s7 ⟨x,H7,I7,r7,y7,st7,fr7⟩=>?_;have I7':=I7.pinned (xo fr7) (T.obj _ _ st7)
   have again:∀{UY:St} {H8:Hp} {s8:ut} {zs:LV},Inv (gF X scope (qU s3.heap.objs.size X.env.cells scope.names) N s3.heap.objs.size s3 (upd H2 s2.heap.objs.size (.lst [])) fp) ([]++w6 fp s7.heap) (UY++DJ σ fr) H8 s8->UY.length=own.length->
     (∃ m',m' < n/\W (i+1) m' zs H8)->∃ m,m < n/\∃ i ys gi H',gi.length=own.length/\Inv (gF X scope (qU s3.heap.objs.size X.env.cells scope.names) N s3.heap.objs.size s3 (upd H2 s2.heap.objs.size (.lst [])) fp) [] (gi++DJ σ fr) H' s8/\
      tn i s8.heap/\(∀b∈fp,H' b=none)/\W i m ys H':=λ{UY H8 s8 zs} I8 h8 ⟨m',hm,w8⟩=>by
    refine⟨m',hm,i+1,zs,UY,H8,h8,I8.uc,T.keep _ _ _ st7 λb hb o e=>(I8.pin (b,o) (dQ _ (dQ _ (mz hb e)))).1,λb hb=>?_,w8⟩;obtain⟨o,e,d⟩:=T.obj _ _ st7 b hb;exact(I8.pin (b,o) (dQ _ (dQ _ (mz hb e)))).2.1
   refine cb (CP.tg _ _ _ _ _ _ s7 _ H7 x u _ I7' r7 (step x H7 y7 gi hσ)) λ_ s8 ⟨UY,H8,I8,⟨BI,Yk,eσ⟩,q8⟩=>?_;subst eσ;refine cb (CP.ifs _ _ _ _ _ _ s8 _ H8 _ I8 q8) λb s9 ⟨H9,I9,q9⟩=>?_;cases b with
   |false=>
    rw[dC az]at q9⊢;exact again I9 Yk q9
   |true=>
    rw[dL rfl]at q9⊢;refine cb (CP.elt _ _ _ _ _ _ s9 _ H9 _ I9 q9) λz AM ⟨y,AU,I10,r10,hz,hD10,q10⟩=>?_
    exact cb (fY _ AM _ AU (.ref s2.heap.objs.size) [y] (.ref s2.heap.objs.size) [z] (λ_ H=>∃m',m'<n/\W (i+1) m' (ys++[y]) H) I10 rfl (.cons r10 .nil) ⟨_,ys,y,rfl,rfl,hD10,hz,q10⟩)
     λ_ s11 ⟨_,UZ,I11,_,q11⟩=>again I11 Yk q11
 exact codeAny_compStart_list (II _ rfl) (T.self _ 0 _ _ _ Yj (II _ rfl))
theorem cI(hc:X.calm=true)(S:aQ X scope own fr N)(CP:wO X scope N tg elt ifs g tc te)(hi:PI X tg eD wi)(hs:∀x,ft eD X.env x=Hb x:=by intro _;rfl):
  PE X (.ListComp elt [⟨tg,eD,ifs,0⟩] scope bi) (RN own.length fr wi g tc te):=by
 intro ag s σ H Q I h;rw[eval_ListComp];refine nX (use:=none) (g:=⟨tg,eD,ifs,0⟩) (gs:=[]) rfl hs (vH (S.clo I.ok)) S.kind S.names (cb (hi ag s σ H _ I h) λv s1 h1=>cb h1 λXV s2 h2=>?_);obtain⟨it,fp,tn,J,H2,e,I2,T,CA,f2,hw⟩:=h2;subst e
 exact FW (RR:=λcv C=>compPost ‹7› X.A X.xe none (EP X ag σ Q) cv C) hc S CP I2 T CA f2 hw λD C s' H' m I' fC hn q=>
  ⟨m,hn,λh' hb=>⟨.ref D,H',I'.turned (t':=s'.toks) (λb o wn e=>hb.extBut b o wn e) fC.1 fC.2.1 fC.2.2.2.1 fC.2.2.2.2.1 fC.2.2.2.2.2,rfl,q⟩⟩
theorem rD{x:Str}{RU tP:mo}(hc:X.calm=true)(hN:X.N.Nodup)(ET:X.N[i]?=some x)(hx:Loc X.env.scope x)(S:aQ X scope own fr N)(CP:wO X scope N tg elt ifs g tc te)(hi:PI X tg eD wi)
  (hsw:XC (.ListComp elt [⟨tg,eD,ifs,0⟩] scope RU) (some (.Name x tP)) bi.line X.env=Hb true:=by rfl)
  (hf:X.fn x=true\/X.env.scope.names.lookup x=some .local:=by first|exact .inl rfl|exact .inr rfl|assumption) (hs:∀x,ft eD X.env x=Hb x:=by intro _;rfl):
  PS X (.Assign [.Name x tP] (.ListComp elt [⟨tg,eD,ifs,0⟩] scope RU) bi) (U9 (RN own.length fr wi g tc te) (Jx i)):=by
 intro ag s σ H D I h;rw[exec_Assign_Name_used _ _ _ _ hsw];refine ae (kS (ae ?_));show wpAny _ X.A (do let _ <- comprehension (.ListComp elt [⟨tg,eD,ifs,0⟩] scope RU) scope X.env _ (newList []) false (cq eD X.env) (some (oT (.Name x tP) X.env))) _ _ s
 refine ae (fF (nX (use:=some (oT (.Name x tP) X.env)) (g:=⟨tg,eD,ifs,0⟩) (gs:=[]) (Q:=λ_ s'=>SP X ag D .next s') rfl hs (vH (S.clo I.ok)) S.kind S.names
  (cb (hi ag s σ H _ I h) λv s1 h1=>cb h1 λXV s2 h2=>?_)) (λ_ _ q=>aE (aE q)) λ_ _ e=>e)
 obtain⟨it,fp,tn,J,H2,e,I2,T,CA,f2,hw⟩:=h2;subst e;refine FW (Q:=λx H1=>Jx i x σ H1 D.nx) (RR:=λcv C=>compPost ‹7› X.A X.xe (some (oT (.Name x tP) X.env)) (λ_ s'=>SP X ag D .next s') cv C) hc S CP I2 T CA f2 hw λDd C s' H' m I' fC hn q=>?_;refine wpAny_assign_Name (Aq I' hN ET hx (show RelV (.ref Dd) (.ref Dd)from rfl) (λMY I'' ⟨a,EU,ha⟩=>?_) hf)
 have hCa:C≠a:=by
  rcases ha with z|z
  ·rw[z];exact fC.2.1
  ·exact λe=>fC.2.2.2.2.1 x a z e.symm
 refine⟨m,hn.sameBut EU hCa,λh' hb=>?_⟩;exact⟨_,H',I''.turned (t':=MY.toks) (λb o wn e=>hb.extBut b o wn e) fC.1 fC.2.1 fC.2.2.2.1 fC.2.2.2.2.1 fC.2.2.2.2.2,q⟩
end
inductive T where
 |non|int (i:Int)|str (x:Str)|tup (ts:List T)
mutual
def Dp(H:Hp):T->V->Prop
 |.non,v=>v=V.non
 |.int i,v=>v=V.int i
 |.str x,v=>v=V.str x
 |.tup ts,v=>∃a xs,v=V.ref a/\H a=some (.tup xs)/\DpL H ts xs
def DpL(H:Hp):List T->LV->Prop
 |[],xs=>xs=[]
 |t::ts,xs=>∃x r,xs=x::r/\Dp H t x/\DpL H ts r
end
def fH(H H':Hp):Prop:=∀a xs,H a=some (.tup xs)->H' a=some (.tup xs)
theorem fH.trans(a:fH H H1)(b:fH H1 H2):fH H H2:=λc o h=>b c o (a c o h)
theorem Same.tups(h:Same H H'):fH H H':=λa xs e=>h a _ e
abbrev XX:=@Same.tups
mutual
theorem Dp.mono{H H':Hp}(h:fH H H'):∀{t:T} {v:V},Dp H t v->Dp H' t v
 |.non,_,e=>by rw[Dp]at e⊢;exact e
 |.int _,_,e=>by rw[Dp]at e⊢;exact e
 |.str _,_,e=>by rw[Dp]at e⊢;exact e
 |.tup ts,v,e=>by
  rw[Dp]at e⊢;obtain⟨a,xs,e,ha,hl⟩:=e;exact⟨a,xs,e,h a xs ha,DpL.mono h hl⟩
theorem DpL.mono{H H':Hp}(h:fH H H'):∀{ts:List T} {xs:LV},DpL H ts xs->DpL H' ts xs
 |[],_,e=>by rw[DpL]at e⊢;exact e
 |t::ts,xs,e=>by
  rw[DpL]at e⊢;obtain⟨x,r,e,h1,h2⟩:=e;exact⟨x,r,e,Dp.mono h h1,DpL.mono h h2⟩
end
theorem DpL.nil:DpL H [] []:=by rw[DpL]
theorem DpL.cons{H:Hp}{t:T}{ts:List T}{x:V}{xs:LV}(h:Dp H t x)(r:DpL H ts xs):DpL H (t::ts) (x::xs):=by
 rw[DpL];exact⟨x,xs,rfl,h,r⟩
theorem DpL.cases{t:T}{ts:List T}(h:DpL H (t::ts) xs):∃x r,xs=x::r/\Dp H t x/\DpL H ts r:=by
 rw[DpL]at h;exact h
theorem DpL.eO(h:DpL H [] xs):xs=[]:=by
 rw[DpL]at h;exact h
theorem Dp.int(i:Int):Dp H (.int i) (.int i):=by rw[Dp]
theorem Dp.str(x:Str):Dp H (.str x) (.str x):=by rw[Dp]
theorem Dp.N5{i:Int}(h:Dp H (.int i) v):v=.int i:=by
 rw[Dp]at h;exact h
theorem Dp.eG{x:Str}(h:Dp H (.str x) v):v=.str x:=by
 rw[Dp]at h;exact h
theorem Dp.cR{ts:List T}(h:Dp H (.tup ts) v):∃a xs,v=V.ref a/\H a=some (.tup xs)/\DpL H ts xs:=by
 rw[Dp]at h;exact h
theorem Dp.tup{H:Hp}{ts:List T}{a:ax}{xs:LV}(h:H a=some (.tup xs))(r:DpL H ts xs):Dp H (.tup ts) (.ref a):=by
 rw[Dp];exact⟨a,xs,rfl,h,r⟩
theorem DpL.length{H:Hp}:∀{ts:List T} {xs:LV},DpL H ts xs->xs.length=ts.length
 |[],xs,h=>by rw[h.eO];rfl
 |t::ts,xs,h=>by
  obtain⟨x,r,rfl,_,h2⟩:=h.cases;rw[aI,aI,h2.length]
theorem DpL.get{H:Hp}:∀{ts:List T} {xs:LV} {i:Nat} {t:T},DpL H ts xs->ts[i]?=some t->∃x,xs[i]?=some x/\Dp H t x
 |[],_,_,_,_,e=>by simp at e
 |t::ts,xs,0,t',h,e=>by
  obtain⟨x,r,rfl,h1,_⟩:=h.cases;simp at e;subst e;exact⟨x,rfl,h1⟩
 |t::ts,xs,i+1,t',h,e=>by
  obtain⟨x,r,rfl,_,h2⟩:=h.cases;obtain⟨y,e1,e2⟩:=h2.get (i:=i) (t:=t') (by simpa using e);exact⟨y,by simpa using e1,e2⟩
theorem DpL.append{H:Hp}:∀{ts us:List T} {xs ys:LV},DpL H ts xs->DpL H us ys->DpL H (ts++us) (xs++ys)
 |[],_,xs,_,h,g=>by rw[h.eO];exact g
 |t::ts,us,xs,ys,h,g=>by
  obtain⟨x,r,rfl,h1,h2⟩:=h.cases;exact .cons h1 (h2.append g)
theorem DpL.strs{H:Hp}:∀(ns:LS),DpL H (ns.map T.str) (ns.map V.str)
 |[]=>.nil
 |n::ns=>.cons (Dp.str n) (DpL.strs ns)
abbrev X3:=@DpL.strs
theorem DpL.rR{H:Hp}:∀{ns:LS} {xs:LV},DpL H (ns.map T.str) xs->xs=ns.map V.str
 |[],_,h=>h.eO
 |n::ns,xs,h=>by
  obtain⟨x,r,rfl,h1,h2⟩:=DpL.cases (t:=T.str n) (ts:=ns.map T.str) h;rw[h1.eG,DpL.rR h2];rfl
mutual
theorem Dp.fn{H:Hp}:∀{t t':T} {v:V},Dp H t v->Dp H t' v->t=t'
 |.non,t',v,h,g=>by
  rw[Dp]at h;subst h;cases t' <;>rw[Dp]at g
  all_goals first|rfl|(cases g;done)|(obtain⟨_,_,e,_⟩:=g;cases e)
 |.int i,t',v,h,g=>by
  rw[Dp]at h;subst h;cases t' <;>rw[Dp]at g
  all_goals first|(cases g;rfl)|(cases g;done)|(obtain⟨_,_,e,_⟩:=g;cases e)
 |.str i,t',v,h,g=>by
  rw[Dp]at h;subst h;cases t' <;>rw[Dp]at g
  all_goals first|(cases g;rfl)|(cases g;done)|(obtain⟨_,_,e,_⟩:=g;cases e)
 |.tup ts,t',v,h,g=>by
  obtain⟨a,xs,rfl,ha,hl⟩:=h.cR;cases t' with
  |tup us=>
   obtain⟨b,ys,e,hb,gl⟩:=g.cR;cases e;rw[ha]at hb;cases hb;rw[DpL.fn hl gl]
  |_=>rw[Dp]at g;cases g
theorem DpL.fn{H:Hp}:∀{ts us:List T} {xs:LV},DpL H ts xs->DpL H us xs->ts=us
 |[],us,xs,h,g=>by
  have e:=h.eO;subst e;cases us with
  |nil=>rfl
  |cons u us=>
   obtain⟨_,_,e,_⟩:=g.cases;cases e
 |t::ts,us,xs,h,g=>by
  obtain⟨x,r,rfl,h1,h2⟩:=h.cases;cases us with
  |nil=>
   have e:=g.eO;cases e
  |cons u us=>
   obtain⟨_,_,e,g1,g2⟩:=g.cases;cases e;rw[Dp.fn h1 g1,DpL.fn h2 g2]
end
def Lv:Nat->T->Prop
 |_,.non=>True
 |_,.int _=>True
 |_,.str _=>True
 |0,.tup _=>False
 |n+1,.tup ts=>∀t∈ts,Lv n t
noncomputable def wo (p:Prop):Bool:=@decide p (Hm p)
theorem wB{p:Prop}(h:p):wo p=true:=@aw p (Hm p) h
theorem nU{p:Prop}(h:¬p):wo p=false:=@cw p (Hm p) h
theorem yc{p:Prop}:wo p=true↔p:=⟨λh=>@eI p (Hm p) h,wB⟩
theorem GC{p q:Prop}(h:p↔q):wo p=wo q:=by rw[propext h]
theorem wJ{p:Prop}{b:Bool}(h:b=true↔p):b=wo p:=by
 by_cases hp:p
 ·rw[wB hp];exact h.mpr hp
 ·rw [nU hp];cases b with
  |false=>rfl
  |true=>exact absurd (h.mp rfl) hp
section
variable {X:Cx}{ag:LO}{σ:St}{H:Hp}{s:ut}
theorem rW(I:Inv X ag σ H s)(h:H a=some (.tup xs)):∃its:LU,Vals xs its/\s.heap.IsTuple a its.toArray:=by
 obtain⟨its,r,p,_⟩:=I.tuple (XR h);exact⟨its,r,p⟩
theorem Pr(I:Inv X ag σ H s):∀(n:Nat) (A:ye) (t1 t2:T) (v1 v2:V) (u1 u2:ue),Lv n t1->A.units+n<ge->Dp H t1 v1->Dp H t2 v2->RelV v1 u1->RelV v2 u2->xN A s u1 u2 (wo (t1=t2)):=by
 have BM:∀(A:ye) (t1 t2:T) (v1 v2:V) (u1 u2:ue),tM v1=true->tM v2=true->Dp H t1 v1->Dp H t2 v2->RelV v1 u1->RelV v2 u2->M0 v1 v2=wo (t1=t2)->xN A s u1 u2 (wo (t1=t2)):=
  λA t1 t2 v1 v2 u1 u2 f1 f2 _ _ r1 r2 e=>by
   rw[<- e];exact Lr r1 r2 f1 f2
 intro n
 induction n with
 |zero=>
  intro A t1 t2 v1 v2 u1 u2 hn hu d1 d2 r1 r2;have Po:A.units<ge:=by omega
  cases t1 with
  |tup ts=>exact(show False from hn).elim
  |non=>
   rw[Dp]at d1;subst d1;cases t2 with
   |tup us=>
    obtain⟨b,ys,rfl,hb,_⟩:=d2.cR;obtain⟨its,r,p⟩:=rW I hb;cases r1;cases r2;rw[nU (by intro h;cases h)];exact xN.none_tuple p Po
   |non=>rw[Dp]at d2;subst d2;exact BM A _ _ _ _ _ _ rfl rfl (by rw[Dp]) (by rw[Dp]) r1 r2 (wB rfl).symm
   |int j=>rw[Dp]at d2;subst d2;exact BM A _ _ _ _ _ _ rfl rfl (by rw[Dp]) (by rw[Dp]) r1 r2 (nU (by intro h;cases h)).symm
   |str j=>rw[Dp]at d2;subst d2;exact BM A _ _ _ _ _ _ rfl rfl (by rw[Dp]) (by rw[Dp]) r1 r2 (nU (by intro h;cases h)).symm
  |int i=>
   rw[Dp]at d1;subst d1;cases t2 with
   |tup us=>
    obtain⟨b,ys,rfl,hb,_⟩:=d2.cR;obtain⟨its,r,p⟩:=rW I hb;obtain⟨t,rfl⟩:=r1;cases r2;rw[nU (by intro h;cases h)];exact xN.int_tuple i t p Po
   |non=>rw[Dp]at d2;subst d2;exact BM A _ _ _ _ _ _ rfl rfl (by rw[Dp]) (by rw[Dp]) r1 r2 (nU (by intro h;cases h)).symm
   |int j=>
    rw[Dp]at d2;subst d2;exact BM A _ _ _ _ _ _ rfl rfl (by rw[Dp]) (by rw[Dp]) r1 r2 (wJ (by show(i== j)=true↔_;rw[ky];exact⟨λh=>by rw[h],λh=>by cases h;rfl⟩))
   |str j=>rw[Dp]at d2;subst d2;exact BM A _ _ _ _ _ _ rfl rfl (by rw[Dp]) (by rw[Dp]) r1 r2 (nU (by intro h;cases h)).symm
  |str i=>
   rw[Dp]at d1;subst d1;cases t2 with
   |tup us=>
    obtain⟨b,ys,rfl,hb,_⟩:=d2.cR;obtain⟨its,r,p⟩:=rW I hb;obtain⟨t,rfl⟩:=r1;cases r2;rw[nU (by intro h;cases h)];exact xN.str_tuple i t p Po
   |non=>rw[Dp]at d2;subst d2;exact BM A _ _ _ _ _ _ rfl rfl (by rw[Dp]) (by rw[Dp]) r1 r2 (nU (by intro h;cases h)).symm
   |int j=>rw[Dp]at d2;subst d2;exact BM A _ _ _ _ _ _ rfl rfl (by rw[Dp]) (by rw[Dp]) r1 r2 (nU (by intro h;cases h)).symm
   |str j=>
    rw[Dp]at d2;subst d2;exact BM A _ _ _ _ _ _ rfl rfl (by rw[Dp]) (by rw[Dp]) r1 r2 (wJ (by show(i== j)=true↔_;rw[ky];exact⟨λh=>by rw[h],λh=>by cases h;rfl⟩))
 |succ n ih=>
  intro A t1 t2 v1 v2 u1 u2 hn hu d1 d2 r1 r2;cases t1 with
  |non=>exact(ih A .non t2 v1 v2 u1 u2 (by cases n <;>trivial) ‹21› d1 d2 r1 r2)
  |int i=>exact(ih A (.int i) t2 v1 v2 u1 u2 (by cases n <;>trivial) ‹21› d1 d2 r1 r2)
  |str i=>exact(ih A (.str i) t2 v1 v2 u1 u2 (by cases n <;>trivial) ‹21› d1 d2 r1 r2)
  |tup ts=>
   have hn:∀t∈ts,Lv n t:=hn;have Po:A.units<ge:=by omega
   obtain⟨a,xs,rfl,ha,hl⟩:=d1.cR;obtain⟨its,r,p⟩:=rW I ha;cases r1;cases t2 with
   |non=>
    rw[Dp]at d2;subst d2;cases r2;rw[nU (by intro h;cases h)];exact xN.tuple_none p Po
   |int j=>
    rw[Dp]at d2;subst d2;obtain⟨t,rfl⟩:=r2;rw[nU (by intro h;cases h)];exact xN.tuple_int j t p Po
   |str j=>
    rw[Dp]at d2;subst d2;obtain⟨t,rfl⟩:=r2;rw[nU (by intro h;cases h)];exact xN.tuple_str j t p Po
   |tup us=>
    obtain⟨b,ys,rfl,hb,gl⟩:=d2.cR;obtain⟨fi,q,p2⟩:=rW I hb;cases r2
    by_cases hab:a=b
    ·subst hab;rw[ha]at hb;cases hb;rw[wB (by rw[DpL.fn hl gl])];exact xN.same _
    ·have l1:its.toArray.size=ts.length:=by rw [bz,<- r.length,hl.length]
     have l2:fi.toArray.size=us.length:=by rw[bz,<- q.length,gl.length]
     have y8:=SeqAt.RcAt.tuples (A:=A) (s:=s) (e:=λj=>wo (ts[j]?=us[j]?)) p p2 Po (λj h1 h2=>by
      have j1:j<ts.length:=by omega
      have j2:j<us.length:=by omega
      have e1:ts[j]?=some ts[j]:=ac j1;have e2:us[j]?=some us[j]:=ac j2;obtain⟨x1,f1,g1⟩:=hl.get e1;obtain⟨x2,f2,g2⟩:=gl.get e2;obtain⟨w1,k1,m1⟩:=r.get f1;obtain⟨w2,k2,m2⟩:=q.get f2
      have n1:its.toArray[j]=w1:=by
       have:its.toArray[j]?=some w1:=by simpa using k1
       rw[kH h1]at this;exact cS this
      have n2:fi.toArray[j]=w2:=by
       have:fi.toArray[j]?=some w2:=by simpa using k2
       rw[kH h2]at this;exact cS this
      rw[n1,n2];have:=ih A.in1 ts[j] us[j] x1 x2 w1 w2 (hn _ (bX j1)) (by show A.units+1+n<ge;omega) g1 g2 m1 m2;rw[show wo (ts[j]?=us[j]?)=wo (ts[j]=us[j])from GC (by rw[e1,e2];exact⟨λh=>cS h,λh=>by rw[h]⟩)];exact this)
     have hJ:=xN.of_refs hab y8
     have ee:((List.range (min its.toArray.size fi.toArray.size)).all (λj=>wo (ts[j]?=us[j]?)) && its.toArray.size== fi.toArray.size)=wo (T.tup ts=T.tup us):=by
      refine wJ ?_;rw[l1,l2,jp,fb,ky];constructor
      ·rintro ⟨h1,h2⟩
       have:ts=us:=by
        apply List.ext_getElem?;intro j
        by_cases hj:j<ts.length
        ·exact yc.mp (h1 j (iE.mpr ‹21›))
        ·rw[lT ‹21›,lT ‹21›]
       rw[this]
      ·intro h;cases h;exact⟨λj _=>wB rfl,rfl⟩
     rw[ee]at hJ;exact hJ
noncomputable def Pp (H:Hp) (t:T) (u:ue):Bool:=wo (∃v,RelV v u/\Dp H t v)
theorem Mr{t t':T}(r:RelV v u)(d:Dp H t' v):Pp H t u=wo (t'=t):=by
 refine GC ⟨?_,?_⟩
 ·rintro⟨v',r',d'⟩;rw[r'.inj r]at d';exact(d'.fn d).symm
 ·intro h;subst h;exact⟨v,r,d⟩
theorem JG:∀{ts:List T} {xs:LV} {us:LU},DpL H ts xs->Vals xs us->∀u∈us,∃t∈ts,∃v,RelV v u/\Dp H t v
 |[],xs,us,h,r=>by
  have e:=h.eO;subst e;cases r;exact λu hu=>by cases hu
 |t::ts,xs,us,h,r=>by
  obtain⟨x,xr,rfl,h1,h2⟩:=h.cases;cases r with
  |cons r1 r2=>
   intro u hu;rcases aT.mp hu with e|e
   ·rw[e];exact⟨t,aS,x,r1,h1⟩
   ·obtain⟨t',m,z⟩:=JG h2 r2 u e;exact⟨t',cf _ m,z⟩
theorem Sh{t:T}:∀{ts:List T} {xs:LV} {us:LU},DpL H ts xs->Vals xs us->us.any (Pp H t)=wo (t∈ts)
 |[],xs,us,h,r=>by
  have e:=h.eO;subst e;cases r;rw[nU (by simp)];rfl
 |t'::ts,xs,us,h,r=>by
  obtain⟨x,xr,rfl,h1,h2⟩:=h.cases;cases r with
  |cons r1 r2=>
   rw[nV,Mr r1 h1,Sh h2 r2];refine wJ ?_;rw[Bool.or_eq_true,yc,yc,aT];exact⟨λh=>h.imp (λz=>z.symm) id,λh=>h.imp (λz=>z.symm) id⟩
end
section
variable {X:Cx}
inductive V6 (Yd:Bool) (x:V) (y:V) (H:Hp) (Q:VK):Prop
 |mk (p xs t ts:_):y=.ref p->(H p=some (.lst xs)\/H p=some (.tup xs))->Dp H t x->DpL H ts xs->(∀t∈ts,Lv 6 t)->Q (.bl (if Yd then !wo (t∈ts)else wo (t∈ts))) H->V6 Yd x y H Q
theorem zX(hu:X.A.units+10<ge):OpR X (yo .NotIn) (V6 true):=by
 intro ag s σ H x y v u Q I rx ry h;obtain⟨p,xs,t,ts,rfl,hq,dx,dl,lv,q⟩:=h;cases ry
 have hJ:∀its:LU,Vals xs its->(∀w,w∈its.toArray->xN X.A.in1 s w v (Pp H t w))/\its.toArray.any (Pp H t)=wo (t∈ts):=λits r=>by
  refine⟨λw hw=>?_,by rw[show its.toArray.any (Pp H t)=its.any (Pp H t)by simp,Sh dl r]⟩;obtain⟨t',m,v',r',d'⟩:=JG dl r w (by simpa using hw);rw[Mr r' d'];exact Pr I 6 _ t' t v' x w v (lv t' m) (by show X.A.units+1+6<ge;omega) d' dx r' rx
 rcases hq with hq|hq
 ·obtain⟨its,r,pl,hz⟩:=I.list (XQ hq);obtain⟨f1,f2⟩:=hJ its r;refine SeqAt.notIn_listAt (Pp H t) pl.isList f1 ⟨.bl _,H,I,rfl,?_⟩;rw[f2];exact q
 ·obtain⟨its,r,pl,hz⟩:=I.tuple (XR hq);obtain⟨f1,f2⟩:=hJ its r;refine SeqAt.notIn_tupleAt (Pp H t) pl f1 ⟨.bl _,H,I,rfl,?_⟩;rw[f2];exact q
end
section
variable {X:Cx}
inductive Wq (x:V) (lo:Option Int) (hi:Option Int) (H:Hp) (Q:VK):Prop
 |mk (z:_):x=.str z->z.length<=ab->Q (.str (Be z lo hi)) H->Wq x lo hi H Q
theorem O5:SlR X Wq:=by
 intro ag s σ H x v vl vu lo hi sl Q I rx hs pl pu h;obtain⟨z,rfl,hz,q⟩:=h;obtain⟨t,rfl⟩:=rx;obtain⟨o,ho,hc,hd⟩:=hs;have hJ:∀(t':Tok) (k:Nat),EP X ag σ Q (.str (Be z lo hi) t') {s with toks:=k}:=fun t' k=>⟨.str _,H,I.tok k,⟨_,rfl⟩,q⟩;refine⟨"str",_,F.slot_str_getitem.lookup,rV _ _ _,?_⟩;cases pl with
 |none=>
  cases pu with
  |none=>exact k8 (l:=none) (u:=none) (st:=none) ⟨o,ho,hc,hd⟩ rfl (qA ⟨dq (rL z _ _) hz,hJ⟩)
  |int j uj=>exact k8 (l:=none) (u:=some (j,uj)) (st:=none) ⟨o,ho,hc,hd⟩ rfl (qA ⟨dq (rL z _ _) hz,hJ⟩)
 |int i ui=>
  cases pu with
  |none=>exact k8 (l:=some (i,ui)) (u:=none) (st:=none) ⟨o,ho,hc,hd⟩ rfl (qA ⟨dq (rL z _ _) hz,hJ⟩)
  |int j uj=>exact k8 (l:=some (i,ui)) (u:=some (j,uj)) (st:=none) ⟨o,ho,hc,hd⟩ rfl (qA ⟨dq (rL z _ _) hz,hJ⟩)
inductive Sv (K:PySem.W.Frag) (Q:VK) (x:V) (y:V) (H2:Hp):Prop
 |mk (a xs i:_):x=.ref a->y=.int i->SqL K H2 a xs->((i=1/\∀p,H2 p=none->Q (.ref p) (upd H2 p (.lst xs)))\/(i=-1/\∀p,H2 p=none->Q (.ref p) (upd H2 p (.lst xs.reverse))))->Sv K Q x y H2
def Xd(K:PySem.W.Frag)(te tk:TE):TE:=λσ H Q=>te σ H λx H1=>tk σ H1 λy H2=>Sv K Q x y H2
theorem M7(its:LU):XF its.toArray none none (some 1)=its.toArray:=by
 have e:XF its.toArray none none (some 1)=XF its.toArray none none none:=rfl;rw[e,uT];simp[HT.sIx]
theorem Uu{k:Expr}{tk:TE}{p2:mo}(he:PE X e te)(hk:PE X k tk):PE X (.Subscript e (.Slice none none (some k) p2) bi) (Xd X.K te tk):=by
 intro ag s σ H Q I h;refine wa (cb (he ag s σ H _ I h) fun v s1 ⟨x,H1,I1,r1,q1⟩=>?_);refine wpAny_Slice ?_;rw[vt];refine aE ?_;refine aE ?_;rw[evalPart_some];refine cb (hk ag s1 σ H1 _ I1 q1) fun vk s3 ⟨y,H3,I3,r3,q3⟩=>?_;obtain⟨a,xs,i,rfl,rfl,hq,q⟩:=q3;cases r1;obtain⟨t,rfl⟩:=r3;have I4:Inv X ag σ H3 {s3 with heap:=s3.heap.push {cls:=.type "slice",data:=.fields #[.none,.none,.int i t]} }:=I3.kept (t':=s3.toks) fun b ob q=>am _ q;obtain⟨its,r,ht,hz⟩:=I4.list hq;have eC:its.toArray.size=xs.length:=by rw[bz];exact r.length.symm
 show wpAny ‹7› X.A (Xi e (.Slice none none (some k) p2) (.ref a) (.ref s3.heap.objs.size)) (EP X ag σ Q) X.xe {s3 with heap:=s3.heap.push {cls:=.type "slice",data:=.fields #[.none,.none,.int i t]} }
 have hJ:∀ys:LV,ys.length<=ab->∀EV:LU,Vals ys EV->(∀p,H3 p=none->Q (.ref p) (upd H3 p (.lst ys)))->
   EP X ag σ Q (.ref (s3.heap.push {cls:=.type "slice",data:=.fields #[.none,.none,.int i t]}).objs.size)
    {s3 with heap:=(s3.heap.push {cls:=.type "slice",data:=.fields #[.none,.none,.int i t]}).push {cls:=.type "list",data:=.seq EV.toArray} }:=fun ys hy EV rj hQ=>
  ⟨.ref _,_,I4.QZ (t':=s3.toks) rj hy,rfl,hQ _ I4.fresh⟩
 rcases q with⟨rfl,q⟩|⟨rfl,q⟩
 ·refine AL (ops:=[.ref a,.ref s3.heap.objs.size]) ht.isList.typeIs pj.lookup (nL ht.isList (Heap.IsSliceOf.new ..) .none .none (.int 1 t) ‹11› ?_ (by rw[eC];exact hz)) (by with_unfolding_all rfl);rw[M7];exact hJ xs hz its r q
 ·refine AL (ops:=[.ref a,.ref s3.heap.objs.size]) ht.isList.typeIs pj.lookup (nL ht.isList (Heap.IsSliceOf.new ..) .none .none (.int (-1) t) ‹11› ?_ (by rw[eC];exact hz)) (by with_unfolding_all rfl);rw[PySem.W.krv_pick,List.toList_toArray];exact hJ xs.reverse (by rw[List.length_reverse];exact hz) its.reverse r.reverse q
end
open AutoSeq1 (wpAny_loadPart') in
open MeetsSeq MeetsSeq2 MeetsSeq3 SeqRoads2 SeqAt in
section
variable {prog:vy}{w:xm}{A:ye}{E:ES}{s:ut}
theorem sy{t:ax}{x:ue}(sv:s.heap.IsTupleIter it t i)(ht:s.heap.IsTuple t items)(hx:items[i]?=some x)
  (hQ:∀h',h'.IsTupleIter it t (i+1)->Heap.SameBut it s.heap h'->Q x {s with heap:=h'}):wpAny ‹17› A (xx (.ref it)) Q E s:=by
 obtain⟨ob,e1,e2,e3⟩:=id sv;obtain⟨ot,g1,_,nn,g2⟩:=ht;unfold xx;refine ae (gm (name:=Str.ofString "__next__") sv.typeIs kC (jb kC sv.typeIs F.entry_tuple_iterator_next ?_ (F.args_tuple_iterator_next_1 _)));show wpAny _ _ (Xl (.ref it) 0 >>= _) _ _ s;refine ae (eT e1 e3 (x:=.ref t) rfl ?_);show wpAny _ _ (if(xn t== HR)=true then _ else _) _ _ s;rw[dC (show¬((xn t== HR)=true)from az)];show wpAny _ _ (Xl (.ref it) 1 >>= _) _ _ s;refine ae (eT e1 e3 (x:=.int i 0) rfl ?_);show wpAny _ _ (seqItems? (.ref t) >>= _) _ _ s;refine ae (gI g1 g2 ?_);simp only[Int.toNat_natCast,hx];refine ae (wpAny_setField e1 e3 (by simp) (aE ⟨x,rfl,aE (hQ _ ⟨_,pT _ e1 (Obj.isFreed_of_fields (Obj.data_mapFields e3 _)),(Obj.cls_mapFields ..).trans e2,?_⟩ (nz ..))⟩));rw[Obj.data_mapFields e3];simp[sR]
theorem Ad{t:ax}(hh:A.handled=none)(sv:s.heap.IsTupleIter it t i)(ht:s.heap.IsTuple t items)(hx:items[i]?=none)
  (hE:∀h' e,Heap.ExtBut it s.heap h'->(∃o,h'.get? e=some o/\o.cls=.type "StopIteration")->E (.ref e) {s with heap:=h'}):wpAny ‹17› A (xx (.ref it)) Q E s:=by
 obtain⟨ob,e1,e2,e3⟩:=id sv;obtain⟨ot,g1,_,nn,g2⟩:=ht;unfold xx;refine ae (gm (name:=Str.ofString "__next__") sv.typeIs kC (jb kC sv.typeIs F.entry_tuple_iterator_next ?_ (F.args_tuple_iterator_next_1 _)));show wpAny _ _ (Xl (.ref it) 0 >>= _) _ _ s;refine ae (eT e1 e3 (x:=.ref t) rfl ?_);show wpAny _ _ (if(xn t== HR)=true then _ else _) _ _ s;rw[dC (show¬((xn t== HR)=true)from az)];show wpAny _ _ (Xl (.ref it) 1 >>= _) _ _ s;refine ae (eT e1 e3 (x:=.int i 0) rfl ?_);show wpAny _ _ (seqItems? (.ref t) >>= _) _ _ s;refine ae (gI g1 g2 ?_);simp only[Int.toNat_natCast,hx];refine ae (jS (ae (wpAny_setField e1 e3 (by simp) ?_)));show wpAny _ _ (newExc (.type "StopIteration") [] >>= _) _ _ _;refine ae ?_;simp only[newExc,newTuple];refine ae (gX ?_ (by size_fits));refine ae (m:=firstArgMember _ _) (yk (a:=HR) (by first|rfl|(simp only[firstArgMember];rfl)) ?_);refine gX ?_ (by size_fits);simp only[raiseNew];refine ae (wpAny_handled ?_)
 first|rw[show A.in1.handled=none from hh]|rw[hh]
 refine ae (aE (wpAny_throw (hE _ _ (((nz ..).extBut.push _).push _) ⟨_,bn _ rfl,rfl⟩)))
structure ZA (z TI TO i1 i2 t1 t2:ax):Prop where
 a1:TI≠z
 a2:TO≠z
 a3:i1≠z
 a4:i2≠z
 a5:TI≠TO
 a6:TI≠i1
 a7:TI≠i2
 a8:TO≠i1
 a9:TO≠i2
 b1:i1≠i2
 b2:t1≠z
 b3:t1≠TO
 b4:t1≠i1
 b5:t1≠i2
 b6:t2≠z
 b7:t2≠TO
 b8:t2≠i1
 b9:t2≠i2
theorem Kc{TI TO:ax}{k:Nat}{xs:AV}{x y a:ue}(D:ZA z TI TO i1 i2 t1 t2)
  (hz:Hn s.heap z TI TO .none) (vE:De s.heap TI (.ref i1) (.ref i2)) (xp:De s.heap TO a b) (h1:s.heap.IsTupleIter i1 t1 k) (h2:s.heap.IsTupleIter i2 t2 k)
  (fq:s.heap.IsTuple t1 xs) (cx:s.heap.IsTuple t2 ys) (hx:xs[k]?=some x) (hy:ys[k]?=some y)
  (hQ:∀ h',Hn h' z TI TO (sR s.heap.objs.size)->De h' TO x y->h'.IsTupleIter i1 t1 (k+1)->h'.IsTupleIter i2 t2 (k+1)->De h' s.heap.objs.size x y->
   (∀c o,c≠z->c≠TO->c≠i1->c≠i2->s.heap.get? c=some o->h'.get? c=some o)->Q (.ref s.heap.objs.size) {s with heap:=h'}):
  wpAny ‹17› A (xf.«zip.__next__» ⟨[.ref z],[]⟩) (λhJ s'=>∃v,hJ=.done (.ret v)/\Q v s') E s:=by
 show wpAny _ _ (Xl (.ref z) 2 >>= _) _ _ _;refine ae (eT hz rfl (x:=.bool false) rfl ?_);show wpAny _ _ (Xl (.ref z) 3 >>= _) _ _ _;refine ae (eT hz rfl (x:=.ref TI) rfl (ae (gI vE rfl ?_)));show wpAny _ _ (xj (.ref z) >>= _) _ _ _;unfold xj;refine ae (ae (eT hz rfl (x:=.none) rfl (aE ?_)));simp only[kM];refine ae (jS (ae (eT hz rfl (x:=.ref TO) rfl (ae (fS hz (by simp) λg1 z1 q1=>?_)))))
 replace z1:Hn g1 z TI TO .ellipsis:=z1
 simp only[mE,n4,lS,mn];refine ae (ae (ae (kU ?_)));show wpAny _ _ (xx (.ref i1) >>= _) _ _ _;refine ae (sy (h1.extBut q1.extBut D.a3) (fq.extBut q1.extBut D.b2) hx λg2 j2 q2=>aE ?_);have p2:De g2 TO a b:=q2.extBut _ _ D.a8 (q1.extBut _ _ D.a2 xp);refine ae (gI p2 rfl (ae (kP p2 λg3 p3 q3=>ae (qk (aE ?_)))))
 replace p3:De g3 TO x b:=p3
 refine ae (ae (kU ?_));show wpAny _ _ (xx (.ref i2) >>= _) _ _ _;refine ae (sy (((h2.extBut q1.extBut D.a4).extBut q2.extBut D.b1.symm).extBut q3.extBut D.a9.symm) (((cx.extBut q1.extBut D.b6).extBut q2.extBut D.b8).extBut q3.extBut D.b7) hy λg4 j4 q4=>aE ?_);have p4:De g4 TO x b:=q4.extBut _ _ D.a9 p3;refine ae (gI p4 rfl (ae (kP p4 λg5 p5 q5=>ae (qk (aE (aE ?_))))))
 replace p5:De g5 TO x y:=p5
 refine ae (gI p5 rfl (ae (wpAny_newTuple ?_)));have sz:g5.objs.size=s.heap.objs.size:=by rw[q5.1,q4.1,q3.1,q2.1,q1.1]
 have z5:Hn g5 z TI TO .ellipsis:=q5.extBut _ _ D.a2.symm (q4.extBut _ _ D.a4.symm (q3.extBut _ _ D.a2.symm (q2.extBut _ _ D.a3.symm z1)));have k5:∀c o,c≠z->c≠TO->c≠i1->c≠i2->s.heap.get? c=some o->g5.get? c=some o:=fun c o c1 c2 c3 c4 e=>q5.extBut _ _ c2 (q4.extBut _ _ c4 (q3.extBut _ _ c2 (q2.extBut _ _ c3 (q1.extBut _ _ c1 e))));have j5:g5.IsTupleIter i1 t1 (k+1):=((j2.extBut q3.extBut D.a8.symm).extBut q4.extBut D.b1).extBut q5.extBut D.a8.symm;have l5:g5.IsTupleIter i2 t2 (k+1):=j4.extBut q5.extBut D.a9.symm;have zl:z<g5.objs.size:=cr z5;show wpAny _ _ (zb (.ref z) (.ref g5.objs.size) >>= _) _ _ _;refine ae ?_;unfold zb;have z6:Hn (g5.push {cls:=.type "tuple",data:=.seq #[x,y]}) z TI TO .ellipsis:=am _ z5;refine ae (fS z6 (by simp) fun g7 z7 q7=>?_)
 replace z7:Hn g7 z TI TO (sR g5.objs.size):=z7
 refine fS z7 (by simp) λg8 z8 q8=>?_
 replace z8:Hn g8 z TI TO (sR g5.objs.size):=z8
 have up:∀c o,c≠z->g5.get? c=some o->g8.get? c=some o:=λc o c1 e=>q8.extBut _ _ c1 (q7.extBut _ _ c1 (am _ e));have n8:De g8 g5.objs.size x y:=q8.extBut _ _ (fN zl) (q7.extBut _ _ (fN zl) (bn _ rfl));rw[sz]at z8 n8;refine aE ⟨_,rfl,?_⟩;show Q (.ref g5.objs.size) _;rw[sz];refine hQ g8 z8 (up _ _ D.a2 p5) ?_ ?_ n8 λc o c1 c2 c3 c4 e=>up c o c1 (k5 c o c1 c2 c3 c4 e)
 ·obtain⟨o,e,r⟩:=j5;exact⟨o,up _ o D.a3 e,r⟩
 ·obtain⟨o,e,r⟩:=l5;exact⟨o,up _ o D.a4 e,r⟩
theorem M4{TI TO:ax}{k:Nat}{xs:AV}{a:ue}{Q:Fin->ut->Prop}(hh:A.handled=none)(D:ZA z TI TO i1 i2 t1 t2)
  (hz:Hn s.heap z TI TO .none) (vE:De s.heap TI (.ref i1) (.ref i2)) (xp:De s.heap TO a b) (h1:s.heap.IsTupleIter i1 t1 k) (fq:s.heap.IsTuple t1 xs) (hx:xs[k]?=none)
  (hE:∀h' e,(∀c o,c≠z->c≠TO->c≠i1->c≠i2->s.heap.get? c=some o->h'.get? c=some o)->(∃o,h'.get? e=some o/\o.cls=.type "StopIteration")->E (.ref e) {s with heap:=h'}):
  wpAny ‹17› A (xf.«zip.__next__» ⟨[.ref z],[]⟩) Q E s:=by
 show wpAny _ _ (Xl (.ref z) 2 >>= _) _ _ _;refine ae (eT hz rfl (x:=.bool false) rfl ?_);show wpAny _ _ (Xl (.ref z) 3 >>= _) _ _ _;refine ae (eT hz rfl (x:=.ref TI) rfl (ae (gI vE rfl ?_)));show wpAny _ _ (xj (.ref z) >>= _) _ _ _;unfold xj;refine ae (ae (eT hz rfl (x:=.none) rfl (aE ?_)));simp only[kM];refine ae (jS (ae (eT hz rfl (x:=.ref TO) rfl (ae (fS hz (by simp) λg1 z1 q1=>?_)))))
 replace z1:Hn g1 z TI TO .ellipsis:=z1
 simp only[mE,n4,lS,mn];refine ae (ae (ae (kU ?_)));show wpAny _ _ (xx (.ref i1) >>= _) _ _ _;refine ae (Ad hh (h1.extBut q1.extBut D.a3) (fq.extBut q1.extBut D.b2) hx λg2 e q2 ⟨oe,e1,e2⟩=>?_);have z2:Hn g2 z TI TO .ellipsis:=q2 _ _ D.a3.symm z1;have Yl:e≠z:=λx=>by subst x;rw[z2]at e1;cases e1;simp at e2
 exact fS z2 (by simp) λg3 _ q3=>hE g3 e (λc o c1 _ c3 _ x=>q3.extBut _ _ c1 (q2 _ _ c3 (q1.extBut _ _ c1 x))) ⟨oe,q3.extBut _ _ Yl e1,e2⟩
end
theorem Inv.yP(I:Inv X ag σ H s)(hf:∀b∈fp,qu X ag H b)
  (k:∀b u,b∉fp->s.heap.get? b=some u->h'.get? b=some u) (hp:s.heap.objs.size<=a) (Ic:fV X.prog X.w (upd H a o) h' a o):Inv X ag σ (upd H a o) {s with heap:=h',toks:=t'}:=by
 have hn:H a=none:=I.hok.fresh hp;have nf:∀b u,H b=some u->b∉fp:=λb u e hb=>by rw[(hf b hb).1]at e;cases e
 refine I.step (g':=s.gens) (d':=s.drawn) (ch:=fp) (λb hb=>⟨(hf b hb).2.2.2.1,(hf b hb).2.1,(hf b hb).2.2.2.2.1,(hf b hb).2.2.2.2.2⟩) (λb u _ _ hc e _=>k b u hc e) (λb u _ _ hc e _=>⟨u.slots,k b u hc e⟩)
  (λb u _ e n=>by rw[aB (d6 (eB (cr e) hp))];exact n) (λb u hc e=>⟨u,k b u hc e⟩) (λb xs e=>by rw[aB (aD e hn)];exact e)
  (λb u v e=>by rw[aB (aD e hn)];exact e) (λb ps e=>⟨#[],by rw[aB (aD e hn),e];simp⟩) (λm hm=>?_) (λb u e=>?_) I.bare
 ·obtain⟨ob,es,ep,ho,r⟩:=hm;exact⟨ob,es,ep,k _ ob (λz=>(hf _ z).2.1 rfl) ho,r⟩
 ·by_cases hb:b=a
  ·subst hb;rw[ak]at e;cases e;exact Ic
  ·rw [aB hb] at e;refine(I.hok b u e).stay (fun c v hc q=>k c v ?_ q) (fun c q=>by rw [aB (aD q hn)]; exact q) fun c xs q=>by rw [aB (aD q hn)]; exact q
   rcases hc with z|z
   ·rw[z];exact nf b u e
   ·exact nf c _ z
theorem Inv.xZ(I:Inv X ag σ H s)(hf:∀b∈fp,qu X ag H b)
  (k:∀b u,b∉fp->s.heap.get? b=some u->h'.get? b=some u):Inv X ag σ H {s with heap:=h',toks:=t'}:=by
 have nf:∀b u,H b=some u->b∉fp:=λb u e hb=>by rw[(hf b hb).1]at e;cases e
 refine I.step (g':=s.gens) (d':=s.drawn) (ch:=fp) (λb hb=>⟨(hf b hb).2.2.2.1,(hf b hb).2.1,(hf b hb).2.2.2.2.1,(hf b hb).2.2.2.2.2⟩) (λb u _ _ hc e _=>k b u hc e) (λb u _ _ hc e _=>⟨u.slots,k b u hc e⟩)
  (λb u _ e n=>n) (λb u hc e=>⟨u,k b u hc e⟩) (λb xs e=>e) (λb u v e=>e) (λb ps e=>⟨#[],by rw[e];simp⟩) (λm hm=>?_) (λb u e=>?_) I.bare
 ·obtain⟨ob,es,ep,ho,r⟩:=hm;exact⟨ob,es,ep,k _ ob (λz=>(hf _ z).2.1 rfl) ho,r⟩
 ·refine(I.hok b u e).stay (fun c v hc q=>k c v ?_ q) (fun c q=>q) fun c xs q=>q;rcases hc with z | z
  ·rw[z];exact nf b u e
  ·exact nf c _ z
def Itz(K:PySem.W.Frag)(t1 t2:ax):It:=
 ⟨λi H=>∃xs ys x y,SqT K H t1 xs/\SqT K H t2 ys/\xs[i]?=some x/\ys[i]?=some y,λi H v H'=>∃p,H p=none/\v=.ref p/\∀xs ys x y,SqT K H t1 xs->SqT K H t2 ys->xs[i]?=some x->ys[i]?=some y->H'=upd H p (.tup [x,y]),
  λi H=>∃xs,SqT K H t1 xs/\xs.length<=i⟩
theorem qM{TI TO:ax}(D:ZA z TI TO i1 i2 t1 t2):wf P w K (.Tuple no x1 lf) (Itz K t1 t2) [z,TI,TO,i1,i2] z
  (λi h=>Hn h z TI TO .none/\De h TI (.ref i1) (.ref i2)/\(∃a b,De h TO a b)/\h.IsTupleIter i1 t1 i/\h.IsTupleIter i2 t2 i)where
 mem:=by simp
 obj:=λi h st b hb=>by
  obtain⟨hz,vE,⟨a,c,xp⟩,⟨o1,e1,_,d1⟩,⟨o2,e2,_,d2⟩⟩:=st;simp only[aT,dS,iN]at hb;rcases hb with rfl|rfl|rfl|rfl|rfl
  ·exact⟨_,hz,λv q=>nomatch q⟩
  ·exact⟨_,vE,λv q=>nomatch q⟩
  ·exact⟨_,xp,λv q=>nomatch q⟩
  ·exact⟨_,e1,λv q=>by rw[d1]at q;cases q⟩
  ·exact⟨_,e2,λv q=>by rw[d2]at q;cases q⟩
 keep:=λi h h' st k=>by
  obtain⟨hz,vE,⟨a,c,xp⟩,⟨o1,e1,r1⟩,⟨o2,e2,r2⟩⟩:=st;exact⟨k z (by simp) _ hz,k TI (by simp) _ vE,⟨a,c,k TO (by simp) _ xp⟩,⟨o1,k i1 (by simp) _ e1,r1⟩,⟨o2,k i2 (by simp) _ e2,r2⟩⟩
 item:=by
  intro X hP hw hK hc i ag s σ H E I hf st hg;subst hP hw hK;obtain⟨xs,ys,x,y,q1,q2,e1,e2⟩:=hg;obtain⟨its,rv,p,pi⟩:=I.tuple q1;obtain⟨EV,tF,p',Ym⟩:=I.tuple q2;obtain⟨u,hu,ru⟩:=rv.get e1;obtain⟨u',RY,ru'⟩:=tF.get e2;obtain⟨hz,vE,⟨a,c,xp⟩,h1,h2⟩:=st;have hT:s.TypeIs (.ref z) "zip":= ⟨_,hz,rfl⟩;unfold M3
  refine ae (qh (gm (name:=Str.ofString "__next__") hT iP (jb iP hT mI
   (Kc D hz vE xp h1 h2 (show s.heap.IsTuple t1 its.toArray from p) (show s.heap.IsTuple t2 EV.toArray from p') (x:=u) (y:=u') (by simpa using hu) (by simpa using RY) λh' a1 a2 a3 a4 a5 a6=>aE ?_) (mf _))))
  refine⟨_,rfl,mr a1 λIJ Yn q'=>?_⟩;have hn:H s.heap.objs.size=none:=I.hok.fresh (af _);have Sa:z<s.heap.objs.size:=cr hz;have tlt:TO<s.heap.objs.size:=cr xp;have Sb:i1<s.heap.objs.size:=by obtain⟨_,e,_⟩:=h1;exact cr e
  have Sc:i2<s.heap.objs.size:=by obtain⟨_,e,_⟩:=h2;exact cr e
  have kk:∀b ob,b∉ [z,TI,TO,i1,i2]->s.heap.get? b=some ob->IJ.get? b=some ob:=λb ob hb e=>by
   simp only[aT,dS,iN,sr]at hb;exact q'.extBut _ _ hb.1 (a6 b ob hb.1 hb.2.2.1 hb.2.2.2.1 hb.2.2.2.2 e)
  have I1:Inv X ag σ (upd H s.heap.objs.size (.tup [x,y])) {s with heap:=IJ}:=I.yP (t':=s.toks) hf kk (af _)
   ⟨⟨by show 2<=ab;decide,λo e=>by rw[q'.extBut _ _ (fN Sa) a5]at e;cases e;rfl⟩,[u,u'],.cons ru (.cons ru' .nil),⟨_,q'.extBut _ _ (fN Sa) a5,rfl,_,rfl⟩⟩
  refine⟨.ref s.heap.objs.size,_,I1,rfl,⟨_,hn,rfl,λxs' ys' x' y' k1 k2 k3 k4=>?_⟩,⟨Yn,q'.extBut _ _ D.a1 (a6 _ _ D.a1 D.a5 D.a6 D.a7 vE),⟨_,_,q'.extBut _ _ D.a2 a2⟩,a3.extBut q'.extBut D.a3,a4.extBut q'.extBut D.a4⟩,λb hb=>?_⟩
  ·rw[I.uM k1 q1,e1]at k3;rw[I.uM k2 q2,e2]at k4;cases k3;cases k4;rfl
  ·have kD:=hb;simp only [aT,dS,iN] at kD
   have lc:b<s.heap.objs.size:=by
    rcases kD with rfl|rfl|rfl|rfl|rfl
    ·exact Sa
    ·exact cr vE
    ·exact tlt
    ·exact Sb
    ·exact Sc
   rw[aB (d6 lc)];exact(hf b hb).1
 done:=by
  intro X hP hw hK hc i ag s σ H E I hf st hg;subst hP hw hK;obtain⟨xs,q1,e1⟩:=hg;obtain⟨its,rv,p,pi⟩:=I.tuple q1;obtain⟨hz,vE,⟨a,c,xp⟩,h1,h2⟩:=st;have hT:s.TypeIs (.ref z) "zip":= ⟨_,hz,rfl⟩;have hl:=rv.length;unfold M3
  refine ae (qh (gm (name:=Str.ofString "__next__") hT iP (jb iP hT mI
   (M4 (I.ok.hd hc) D hz vE xp h1 (show s.heap.IsTuple t1 its.toArray from p) (by simp;omega) λh' e kk ⟨o,ho,GN⟩=>?_) (mf _))))
  refine ae (Xm (T:= "StopIteration") (b:=true) ⟨o,ho,GN⟩ tp (aE ⟨rfl,I.xZ (t':=s.toks) hf fun b u hb q=>?_⟩));simp only[aT,dS,iN,sr]at hb;exact kk b u hb.1 hb.2.2.1 hb.2.2.2.1 hb.2.2.2.2 q
 self:=λ_ _ _ _ _ st h=>qc st.1 h
abbrev Yo(h:Heap)(l1:ax):Heap:=h.push {cls:=.type "tuple_iterator",data:=.fields #[.ref l1,.int 0 0]}
abbrev U1(h:Heap)(l1 l2:ax):Heap:=(Yo h l1).push {cls:=.type "tuple_iterator",data:=.fields #[.ref l2,.int 0 0]}
abbrev U2(h:Heap)(l1 l2:ax):Heap:=(U1 h l1 l2).push {cls:=.type "tuple",data:=.seq #[.ref h.objs.size,.ref (Yo h l1).objs.size]}
abbrev Ps(h:Heap)(l1 l2:ax):Heap:=(U2 h l1 l2).push {cls:=.type "tuple",data:=.seq #[.none,.none]}
abbrev zq5(h:Heap)(l1 l2:ax):Heap:=(Ps h l1 l2).push {cls:=.type "zip",data:=.fields #[.none,.bool false,.bool false,.ref (U1 h l1 l2).objs.size,.ref (U2 h l1 l2).objs.size]}
theorem Tz(l1 l2:ax)(xs ys:AV):Meets (xf.«zip.__new__» ⟨[.type "zip",.ref l1,.ref l2],[]⟩) (fun _ R s=>s.heap.IsTuple l1 xs/\s.heap.IsTuple l2 ys/\R (.ok (.ret (.ref (Ps s.heap l1 l2).objs.size))) {s with heap:=zq5 s.heap l1 l2}):=
 .of_wp λprog w A R s h=>by
  obtain⟨hp,g,d,tk,os⟩:=s;obtain⟨fq,cx,h⟩:=h;have Ev:=sub_zip;have hL1:Heap.IsTuple (ut.heap ⟨hp,g,d,tk,os⟩) l1 xs:=fq;have hL2:Heap.IsTuple (ut.heap ⟨hp.push {cls:=.type "tuple_iterator",data:=.fields #[.ref l1,.int 0 0]},g,d,tk,os⟩) l2 ys:=Heap.IsTuple.push cx _
  wp_walk using ca hL1,ca hL2
  exact⟨_,rfl,h⟩
theorem Rn{l1 l2:ax}{xs:AV}(fq:s.heap.IsTuple l1 xs)(cx:s.heap.IsTuple l2 ys)
  (h:Q (.ref (Ps s.heap l1 l2).objs.size) {s with heap:=zq5 s.heap l1 l2}):wpAny ‹17› A (call (.type "zip") [.ref l1,.ref l2]) Q E s:=by
 refine callType_new F.called_zip ‹11› (F.typeCall_zip_2 _ _) (F.newCall_zip_2 _ _) (λobj=>F.args_object_init_3 obj _ _) F.entry_zip_new (Tz l1 l2 xs ys) ⟨fq,cx,?_⟩;show _/\_;exact⟨⟨_,bn _ rfl,rfl⟩,h⟩
theorem R4{t1 t2:Nat}(h1:t1<n)(h2:t2<n):ZA (n+4) (n+2) (n+3) n (n+1) t1 t2:=by
 constructor <;>(change @Ne Nat _ _;omega)
section
variable {X:Cx}
inductive vG (K:PySem.W.Frag) (xs:LV) (H:Hp) (Q:VK):Prop
 |mk (p:ax) (bs:List Bool):xs=[.ref p]->SqL K H p (bs.map V.bl)->Q (.bl (bs.all id)) H->vG K xs H Q
theorem Ea(hc:X.calm=true):iy X (.builtin "all") (vG X.K):=by
 intro ag s σ H xs us Q I r h;obtain⟨p,bs,rfl,hq,q⟩:=h;obtain⟨u,rfl,ru⟩:=vals1 r;cases ru;obtain⟨its,rv,pl,hz⟩:=I.list hq;have hl:=rv.length;rw[aa]at hl;refine call_all_walk (ce pl.isList ?_);have plt:p<s.heap.objs.size:=by obtain⟨o,e,_⟩:=pl.isList;exact cr e
 refine⟨s.heap.objs.size,_,_,_,_,_,λi=>bs.getD i true,rfl,Walks.list (A:=X.A.in1) (I.ok.hd hc) s.heap.objs.size p (d6 plt) its.toArray,⟨⟨_,bn _ rfl,rfl,rfl⟩,pl.isList.push _⟩,λi v s' Q' E' hv hQ=>?_,λh' tk kk=>?_⟩
 ·have hi:i<bs.length:=by
   have:=(Array.getElem?_eq_some_iff.mp hv).1;rw[bz]at this;omega
  obtain⟨u,hu,ru⟩:=rv.get (i:=i) (x:=V.bl bs[i]) (by simp[hi]);have X0:its[i]?=some v:=by simpa using hv
  rw[X0]at hu;cases hu;cases ru;refine gT ?_;simpa[hi]using hQ
 ·have ee:((List.range its.toArray.size).all λi=>bs.getD i true)=bs.all id:=by
   rw[bz,<- hl];apply gN.mpr;rw[fb,fb];constructor
   ·intro h b hb;obtain⟨i,hi,rfl⟩:=fc hb;have:=h i (iE.mpr hi);simpa[hi]using this
   ·intro h i hi;have ET:=iE.mp hi;have:=h bs[i] (bX ET);simpa[ET]using this
  rw[ee];have I1:Inv X ag σ H {s with heap:=s.heap.push {cls:=.type "list_iterator",data:=.fields #[.ref p,.int 0 0]} }:=I.kept (t':=s.toks) fun b o e=>am _ e;refine⟨.bl _,H,I1.turned (t':=tk) (it:=s.heap.objs.size) (fun b o hb e=>kk b o (by simpa using hb) e) (I.hok.fresh (af _)) (fN I.lt) (.inr I.sz) ?_ ?_,rfl,q⟩
  ·exact(I.qI (af _) (I.hok.fresh (af _))).2.2.2.2.1
  ·exact(I.qI (af _) (I.hok.fresh (af _))).2.2.2.2.2
def Its(x:Str):It:=⟨λi _=>i<x.cps.size,λi H v H'=>H'=H/\∃c,x.cps[i]?=some c/\v=.str ⟨#[c]⟩,λi _=>x.cps.size<=i⟩
theorem Qj(x:Str)(t:Tok)(it:ax):wf P w K tg (Its x) [it] it (fun i h=>h.IsStrIter it "str_ascii_iterator" x t i)where
 mem:=by simp
 obj:=λi h st b hb=>by
  have e:b=it:=by simpa using hb
  subst e;obtain⟨o,e,c,d⟩:=st;exact⟨o,e,λv z=>by rw[d]at z;cases z⟩
 keep:=λi h h' st k=>by
  obtain⟨o,e,r⟩:=st;exact⟨o,k it (by simp) o e,r⟩
 item:=by
  intro X hP hw hK hc i ag s σ H E I hf st hg;subst hP hw hK;have hg:i<x.cps.size:=hg;obtain⟨f0,f1,f2,f3,f4,f5⟩:=hf it (by simp);refine wpAny_pyNext_ascii_item st (c:=x.cps[i]) (by simp[hg]) λh' BH sb=>?_;have I1:Inv X ag σ H {s with heap:=h',toks:=s.toks+1}:=I.turned (λb o hb e=>(sb.2 b hb).trans e) f0 f1 f3 f4 f5;obtain⟨o,e,c,d⟩:=id BH;exact⟨_,rfl,JL (s:={s with heap:=h',toks:=s.toks+1}) e c d ‹11› ⟨.str ⟨#[x.cps[i]]⟩,H,I1,⟨_,rfl⟩,⟨rfl,_,by simp[hg],rfl⟩,BH,λb hb=>(hf b hb).1⟩⟩
 done:=by
  intro X hP hw hK hc i ag s σ H E I hf st hg;subst hP hw hK;have hg:x.cps.size<=i:=hg;obtain⟨f0,f1,f2,f3,f4,f5⟩:=hf it (by simp);exact wpAny_pyNext_ascii_end (I.ok.hd hc) st (by simp[hg]) λh' eb=>⟨rfl,I.turned (t':=s.toks) (λb o hb e=>eb b o hb e) f0 f1 f3 f4 f5⟩
 self:=λ_ _ _ _ _ st h=>wpAny_pyIter_striter_ascii st h
inductive SJ (R:It->Hp->Prop) (v:V) (H1:Hp):Prop
 |mk (x:_):v=.str x->x.cps.all (· <128)=true->R (Its x) H1->SJ R v H1
def Wy(te:TE):TI:=λσ H R=>te σ H λv H1=>SJ R v H1
theorem G4(he:PE X e te):PI X tg e (Wy te):=by
 intro ag s σ H R I h;refine cb (he ag s σ H _ I h) λv s1 ⟨y,H1,I1,r1,x,e,hx,q⟩=>?_;subst e;obtain⟨t,rfl⟩:=r1;refine wpAny_pyIter_ascii hx ?_;refine⟨s1.heap.objs.size,[s1.heap.objs.size],_,_,H1,rfl,I1.kept (t':=s1.toks) λb o e=>am _ e,Qj x t _,⟨_,bn _ rfl,rfl,rfl⟩,λb hb=>?_,q⟩;have e:b=s1.heap.objs.size:=by simpa using hb
 subst e;exact I1.qI (af _) (I1.hok.fresh (af _))
inductive qp (K:PySem.W.Frag) (xs:LV) (H:Hp) (Q:VK):Prop
 |mk (x n t b:_):xs=[x,.ty n]->vU K H x t->PySem.W.kitOne K t (.type n)=some b->Q (.bl b) H->qp K xs H Q
theorem jG:iy X (.builtin "isinstance") (qp X.K):=by
 intro ag s σ H xs us Q I r h;obtain⟨x,n,t,b,rfl,ty,e,q⟩:=h;obtain⟨u,w',rfl,ru,tF⟩:=vals2 r;cases tF;exact Ku I ru ty e λtk=>⟨.bl b,H,I.tok _,rfl,q⟩
theorem gG(K:PySem.W.Frag)(n:String):PySem.W.kitOne K (.type n) (.type n)=some true:=by
 unfold PySem.W.kitOne;rw[dL (by simp)]
end
structure Vc (P:vy) (w:xm) (outer:List wT) (H:Hp) (s:ut) (e:ax) (cls:ue) (H':Hp) (B:Heap) (a0:ue) (s':ut):Prop where
 os:s'.os=s.os
 bare:Su s'.gens
 un:Un (frs outer) [] H H' s.heap s'.heap
 hok:HOk P w H' s'.heap
 fl:Heap.FlyingW B outer e cls a0 s'.heap
 Xg:∀b,H' b≠none->∃o,B.get? b=some o
 Xf:∀b o,s.heap.get? b=some o->b∉frs outer->∃o,B.get? b=some o
structure hZ (K:PySem.W.Frag) (mg:MG) (x:Str) (st:gz) (ps:LS) (f:ax) (fd:uB):Prop where
 fn:Fun K x x st f fd
 b:Binds K fd ps []
 m:mg x=some (.ref f)
theorem aH{X:Cx}{x:Str}{st:gz}{ps:LS}{f:ax}{fd:uB}{k:Nat}{sp:Sp}{e:Expr}{es:List Expr}{t:TA}{p bi:mo}(D:hZ X.K X.mg x st ps f fd)(G:aW X.prog X.w X.K X.mg X.base bm k f fd ps sp)(hr:lR k X.A)(hg:Gl X x)(ha:PA X (e::es) t)
  (MX:(x== ("__debug__":Str))=false:=by decide) (he:xF (e::es) X.env=(false,cq e X.env)::xF es X.env:=by rfl) (Bn:(JP bi (xF es X.env)).any (·.1)=false:=by rfl):PE X (.Call (.Name x p) (e::es) [] bi) (SM sp [] E0 t):=
 Rz G hr hg D.m D.fn.kp D.b .nil cN ha MX he Bn
theorem cg:yf "len" =some (.builtin "len"):=by decide +kernel
theorem cD:yf "isinstance" =some (.builtin "isinstance"):=by decide +kernel
theorem wL:yf "int" =some (.type "int"):=by decide +kernel
theorem Q7:yf "bool" =some (.type "bool"):=by decide +kernel
theorem lM:yf "str" =some (.type "str"):=by decide +kernel
theorem cP:yf "tuple" =some (.type "tuple"):=by decide +kernel
theorem ji:yf "list" =some (.type "list"):=by decide +kernel
theorem Ur:yf "abs" =some (.builtin "abs"):=by decide +kernel
theorem oW:yf "all" =some (.builtin "all"):=by decide +kernel
theorem Ob:yf "any" =some (.builtin "any"):=by decide +kernel
theorem Tq:yf "max" =some (.builtin "max"):=by decide +kernel
theorem S9:yf "min" =some (.builtin "min"):=by decide +kernel
inductive SN (t u:TS) (D:mT) (σ:St) (H:Hp):Prop
 |mk (M:St->Hp->Prop):t {D with nx:=M} σ H->(∀cp H',M cp H'->u D cp H')->SN t u D σ H
theorem Ef{rest:List gz}{t u:TS}(h1:PS X st t)(h2:PSs X rest u):PSs X (st::rest) (SN t u):=by
 intro ag s σ H D I h;obtain⟨M,h,hM⟩:=h;refine Xk (cb (h1 ag s σ H _ I h) λf s1 q=>?_);cases f with
 |next=>
  obtain⟨MR,H1,I1,m1⟩:=q;exact h2 ag s1 MR H1 D I1 (hM MR H1 m1)
 |brk=>exact q
 |cont=>exact q
 |ret u=>exact q
def Off(p:ax)(H H':Hp):Prop:=∀b o,b≠p->H b=some o->H' b=some o
theorem Off.refl(p:ax)(H:Hp):Off p H H:=λ_ _ _ e=>e
theorem Off.trans(a:Off p H H1)(b:Off p H1 H2):Off p H H2:=λc o n e=>b c o n (a c o n e)
theorem Off.upd:Off p H (upd H p o):=λc u n e=>by rw[aB n];exact e
abbrev X4:=@Off.upd
theorem Off.new{p q:ax}{H:Hp}{o:HO}(h:H q=none):Off p H (L2.upd H q o):=λc u _ e=>by rw[aB (aD e h)];exact e
abbrev X5:=@Off.new
theorem Same.off(h:Same H H'):Off p H H':=λc u _ e=>h c u e
theorem Same.new{q:ax}{H:Hp}{o:HO}(h:H q=none):Same H (upd H q o):=λc u e=>by rw[aB (aD e h)];exact e
abbrev X6:=@Same.new
theorem GD{α:Type}{xs:List α}{i:Int}(h0:0<=i)(h1:i<xs.length):∃v,tS xs i=some v/\v∈xs/\xs[i.toNat]?=some v:=by
 have h:i.toNat<xs.length:=by omega
 refine⟨xs[i.toNat],?_,bX h,ac h⟩;have:=aK (xs:=xs) (j:=i.toNat) (v:=xs[i.toNat]) (ac h);rw[Int.toNat_of_nonneg h0]at this;exact this
theorem jw{i:Int}(h0:0<=i)(h1:i<ns.length):∃x,tS (ns.map V.str) i=some (.str x)/\x∈ns/\ns[i.toNat]?=some x:=by
 obtain⟨v,e,m,g⟩:=GD (xs:=ns.map V.str) h0 (by rw[aa];exact h1);rw[bS]at g;cases q:ns[i.toNat]? with
 |none=>rw[q]at g;cases g
 |some x=>
  rw[q]at g;cases g;exact⟨x,e,gE q,rfl⟩
theorem Qy{as:LS}{a b c:Int}:¬HO.lst [.int a,.int b,.int c]=HO.lst (as.map V.str):=by
 intro h;cases as with
 |nil=>cases h
 |cons x r=>
  injection h with h;injection h with h;cases h
theorem pH{x:Str}:Iy (.str x) (ns.map V.str)=decide (x∈ns):=by
 unfold Iy;rw[List.any_map];apply gN.mpr;rw[jv,oP];constructor
 ·rintro⟨y,hy,e⟩;have:(y== x)=true:=e;rw[ky]at this;rw[<- this];exact hy
 ·intro h;exact⟨x,h,by show(x== x)=true;simp⟩
theorem lY(ns:LS):(ns.map V.str).all tM=true:=by
 rw[List.all_map,fb];exact λ_ _=>rfl
noncomputable def vF:List Expr->Option LS
 |[]=>some []
 |.Constant (.str x) _ _::r=>(vF r).map (x::·)
 |_=>none
theorem yC{X:Cx}:∀{es:List Expr} (ns:LS),vF es=some ns->PA X es (λ_ H Q=>Q (ns.map V.str) H)
 |[],ns,h=>by
  have e:ns=[]:=by
   unfold vF at h;exact(cS h).symm
  subst e;exact aq
 |e::es,ns,h=>by
  cases e with
  |Constant c j bi=>
   cases c with
   |str x=>
    unfold vF at h;cases q:vF es with
    |none=>rw[q]at h;cases h
    |some ms=>
     rw[q]at h;have e:ns=x::ms:=(cS h).symm;subst e;exact aj aP (yC ms q)
   |_=>unfold vF at h;cases h
  |_=>unfold vF at h;cases h
theorem Eh(h:X.K=K):IxR X (Kl K):=by subst h;exact Cr
noncomputable def okF(scope:Scope)(N0 N own:LS)(fr:List Nat)(j:Nat):Bool:=match fr[j]? with
 |none=>false
 | some i=>match N[own.length+j]?,N0[i]? with
  |some x,some y=>(x== y) && (scope.names.lookup x== some .free)
  |_,_=>false
def CSc(Se:Scope)(N0:LS)(scope:Scope)(own:LS)(fr:List Nat)(N:LS):Prop:=
 scope.kind=.function/\(scope.names.map (·.1)).Nodup/\(∀y∈scope.names,y.2=.local->scope.names.lookup y.1=some .local)/\(∀y∈scope.names,y.2=.free->Se.names.lookup y.1=some .cell\/Se.names.lookup y.1=some .free)/\
  N.length=own.length+fr.length/\(∀j∈List.range fr.length,okF scope N0 N own fr j=true)/\N.take own.length=own
instance (Se:Scope) (N0:LS) (scope:Scope) (own:LS) (fr:List Nat) (N:LS):Decidable (CSc Se N0 scope own fr N):=by
 unfold CSc
 infer_instance
theorem aQ.of(own:LS)(fr:List Nat)(N:LS)(Se:Scope)(N0:LS)(hsc:X.env.scope=Se)(hN:X.N=N0)(h:CSc Se N0 scope own fr N):aQ X scope own fr N where
 kind:=h.1
 nodup:=h.2.1
 names:=h.2.2.1
 free:=λy hy e=>by
  show X.env.scope.names.lookup y.1=_\/X.env.scope.names.lookup y.1=_;rw[hsc];exact h.2.2.2.1 y hy e
 len:=h.2.2.2.2.1
 Tj:=λj i e=>by
  have hj:j<fr.length:=(bo.mp e).1;have q:=h.2.2.2.2.2.1 j (iE.mpr hj);unfold okF at q;rw[e]at q;simp only at q;cases e1:N[own.length+j]? with
  |none=>rw[e1]at q;simp at q
  |some x=>
   cases e2:N0[i]? with
   |none=>rw[e1,e2]at q;simp at q
   |some y=>
    rw[e1,e2]at q;simp only[jp,ky]at q;exact⟨x,rfl,by rw[hN,e2,q.1],q.2⟩
 frs:=λj x e hj=>by
  rw[<- h.2.2.2.2.2.2,ku hj];exact e
abbrev X7:=@aQ.of
theorem nQ{x:Str}(h:scope.names.lookup x=some .cell):(QR scope env).names.lookup x=some .cell:=by
 unfold QR;show List.lookup x (List.map _ _)=_;rw[jF (scope:=scope),h];rfl
theorem aQ.of2{sc0:Scope}{e0:wT}(own:LS)(fr:List Nat)(N:LS)(N0:LS)(hsc:X.env.scope=QR sc0 e0)(hN:X.N=N0)(h:CSc sc0 N0 scope own fr N):aQ X scope own fr N where
 kind:=h.1
 nodup:=h.2.1
 names:=h.2.2.1
 free:=λy hy e=>by
  show X.env.scope.names.lookup y.1=_\/X.env.scope.names.lookup y.1=_;rw[hsc];rcases h.2.2.2.1 y hy e with z|z
  ·exact .inl (nQ z)
  ·unfold QR;show List.lookup y.1 (List.map _ _)=_\/List.lookup y.1 (List.map _ _)=_;rw [jF (scope:=sc0),z];simp only [kf];split
   ·exact .inl rfl
   ·exact .inr rfl
 len:=h.2.2.2.2.1
 Tj:=λj i e=>by
  have hj:j<fr.length:=(bo.mp e).1;have q:=h.2.2.2.2.2.1 j (iE.mpr hj);unfold okF at q;rw[e]at q;simp only at q;cases e1:N[own.length+j]? with
  |none=>rw[e1]at q;simp at q
  |some x=>
   cases e2:N0[i]? with
   |none=>rw[e1,e2]at q;simp at q
   |some y=>
    rw[e1,e2]at q;simp only[jp,ky]at q;exact⟨x,rfl,by rw[hN,e2,q.1],q.2⟩
 frs:=λj x e hj=>by
  rw[<- h.2.2.2.2.2.2,ku hj];exact e
section
variable {X:Cx}{ag:LO}{σ:St}{H:Hp}{s:ut}
abbrev Cx.suite(X:Cx)(ea:ax):Cx:={X with A:=X.A.mark (some (.ref ea)),calm:=false,xe:=λ_ _=>False}
end
inductive XP (X:Cx) (ag:LO) (σ:St) (E:XK) (e:ue) (s':ut):Prop
 |mk (ea C H s H' B a0:_):e=.ref ea->Inv X ag σ H s->Vc X.prog X.w X.stack H s ea (.ref C) H' B a0 s'->E (.ref C) none H'->XP X ag σ E e s'
def Wh(_ j:Int):Prop:=0<j/\j<1606938044258990275541962092341162602522202993782792835301376
theorem Py:OpR X (Ex .FloorDiv) (rI Wh λi j=>.int (i / j)):=XZ λi j _ _ _ _ _ hc q=>by
 have h1:(0:Int)<j:=hc.1;have h2:j<1606938044258990275541962092341162602522202993782792835301376:=hc.2;refine floordiv_int ‹21› (by rw[Int.fdiv_eq_ediv_of_nonneg i ‹21›];exact q) (.inl (PyProof.noPylong_of_log2 ?_));have h3:j.natAbs≠0:=by omega
 have h4:j.natAbs<2^200:=by
  have e:(2:Nat)^200=1606938044258990275541962092341162602522202993782792835301376:=by decide +kernel
  rw[e];omega
 exact mB ((Nat.log2_lt h3).mpr h4) ‹11›
inductive Hs (x:V) (y:V) (H:Hp) (Q:VK):Prop
 |mk (a b:ax) (ys:LV):x=.ref a->y=.ref b->H a=some (.tup [])->H b=some (.tup ys)->Q (.ref b) H->Hs x y H Q
theorem Et:OpR X (Ex .Add) Hs:=by
 intro ag s σ H x y v u Q I rx ry h;obtain⟨a,b,ys,rfl,rfl,ha,hb,q⟩:=h;cases rx;cases ry;obtain⟨its,r,p⟩:=rW I ha;obtain⟨fi,r2,p2⟩:=rW I hb;have e0:its=[]:=r.lG.mpr rfl;subst e0;obtain⟨⟨cls,dd,data,sl⟩,ho,hc,n,hd⟩:=id p;obtain⟨⟨Rl,Pm,data2,DZ⟩,DI,Cn,n2,y6⟩:=id p2;simp only at hc hd Cn y6;subst hc hd Cn y6;exact xb ⟨_,ho,rfl⟩ ⟨_,DI,rfl⟩ pV sj ly k6 (kT _ _) (tuple_addW0 a b [].toArray fi.toArray n n2 dd Pm sl DZ rfl) ⟨ho,DI,⟨.ref b,H,I,rfl,q⟩⟩
theorem Gn:OpR X (Ex .Add) (λx y H Q=>Lk X.K x y H Q\/Hs x y H Q):=Jg.or Et
theorem FN{k:ga}{v:ue}(h:(cU P w).is k v=true):RelV (kV k) v:=by
 rw[GK]at h;rcases fX h with⟨i,t,rfl,rfl⟩|⟨x,t,rfl,rfl⟩
 ·exact⟨t,rfl⟩
 ·exact⟨t,rfl⟩
theorem mQ{α β:Type}{F:α->β->Prop}:∀{Fa:List α} {Fc:List β},Paired F Fa Fc->∀(i:Nat) (h1:i<Fa.length) (h2:i<Fc.length),F Fa[i] Fc[i]
 |_,_,.nil,i,h1,_=>by simp at h1
 |_,_,.cons r t,0,_,_=>r
 |_,_,.cons r t,i+1,h1,h2=>mQ t i (by simpa using h1) (by simpa using h2)
section
variable {X:Cx}
inductive vD (K:PySem.W.Frag) (xs:LV) (H:Hp) (Q:VK):Prop
 |mk (p:ax) (bs:List Bool):xs=[.ref p]->SqL K H p (bs.map V.bl)->Q (.bl (bs.any id)) H->vD K xs H Q
theorem Ma(hc:X.calm=true):iy X (.builtin "any") (vD X.K):=by
 intro ag s σ H xs us Q I r h;obtain⟨p,bs,rfl,hq,q⟩:=h;obtain⟨u,rfl,ru⟩:=vals1 r;cases ru;obtain⟨its,rv,pl,hz⟩:=I.list hq;have hl:=rv.length;rw[aa]at hl;refine call_any_walk (ce pl.isList ?_);have plt:p<s.heap.objs.size:=by obtain⟨o,e,_⟩:=pl.isList;exact cr e
 refine⟨s.heap.objs.size,_,_,_,_,_,λi=>bs.getD i false,rfl,Walks.list (A:=X.A.in1) (I.ok.hd hc) s.heap.objs.size p (d6 plt) its.toArray,⟨⟨_,bn _ rfl,rfl,rfl⟩,pl.isList.push _⟩,λi v s' Q' E' hv hQ=>?_,λh' tk kk=>?_⟩
 ·have hi:i<bs.length:=by
   have:=(Array.getElem?_eq_some_iff.mp hv).1;rw[bz]at this;omega
  obtain⟨u,hu,ru⟩:=rv.get (i:=i) (x:=V.bl bs[i]) (by simp[hi]);have X0:its[i]?=some v:=by simpa using hv
  rw[X0]at hu;cases hu;cases ru;refine gT ?_;simpa[hi]using hQ
 ·have ee:((List.range its.toArray.size).any λi=>bs.getD i false)=bs.any id:=by
   rw[bz,<- hl];apply gN.mpr;rw[jv,jv];constructor
   ·rintro⟨i,hi,h⟩;have ET:=iE.mp hi;exact⟨bs[i],bX ET,by simpa[ET]using h⟩
   ·rintro⟨b,hb,h⟩;obtain⟨i,hi,rfl⟩:=fc hb;exact⟨i,iE.mpr hi,by simpa[hi]using h⟩
  rw[ee];have I1:Inv X ag σ H {s with heap:=s.heap.push {cls:=.type "list_iterator",data:=.fields #[.ref p,.int 0 0]} }:=I.kept (t':=s.toks) fun b o e=>am _ e;refine⟨.bl _,H,I1.turned (t':=tk) (it:=s.heap.objs.size) (fun b o hb e=>kk b o (by simpa using hb) e) (I.hok.fresh (af _)) (fN I.lt) (.inr I.sz) ?_ ?_,rfl,q⟩
  ·exact(I.qI (af _) (I.hok.fresh (af _))).2.2.2.2.1
  ·exact(I.qI (af _) (I.hok.fresh (af _))).2.2.2.2.2
end
def VA(K:PySem.W.Frag)(a:ax):It:=
 ⟨λi H=>∃xs x,SqL K H a xs/\xs[i]?=some x,λi H v H'=>∃p,H p=none/\v=.ref p/\∀xs x,SqL K H a xs->xs[i]?=some x->H'=upd H p (.tup [.int i,x]),λi H=>∃xs,SqL K H a xs/\xs.length<=i⟩
theorem KQ{e l:ax}(wn:e≠it):wf P w K (.Tuple no x1 lf) (VA K l) [e,it] e
  (λi h=>(∃BA,IsEnum h e it i BA)/\h.IsListIter it l i)where
 mem:=by simp
 obj:=λi h st b hb=>by
  obtain⟨⟨BA,he⟩,o,ei,c,d⟩:=st;simp only[aT,dS,iN]at hb;rcases hb with rfl|rfl
  ·exact⟨_,he,λv q=>nomatch q⟩
  ·exact⟨o,ei,λv z=>by rw[d]at z;cases z⟩
 keep:=λi h h' st k=>by
  obtain⟨⟨BA,he⟩,o,ei,r⟩:=st;exact⟨⟨BA,k e (by simp) _ he⟩,o,k it (by simp) _ ei,r⟩
 item:=by
  intro X hP hw hK hc i ag s σ H E I hf st hg;subst hP hw hK;obtain⟨xs,x,hq,hx⟩:=hg;obtain⟨its,rv,p,hz⟩:=I.list hq;obtain⟨u,hu,ru⟩:=rv.get hx;obtain⟨⟨BA,he⟩,sv⟩:=st;refine wpAny_pyNext_enum_item he sv p.isList (x:=u) (by simpa using hu) wn λh' a1 a2 a3 a4 a5=>?_;refine⟨_,rfl,wpAny_letOwnedTupleGo_enum a1 λIJ Yn q'=>?_⟩;have hn:H s.heap.objs.size=none:=I.hok.fresh (af _);have elt:e<s.heap.objs.size:=cr he;have ilt:it<s.heap.objs.size:=by obtain⟨_,e,_⟩:=sv;exact cr e
  have kk:∀b ob,b∉ [e,it]->s.heap.get? b=some ob->IJ.get? b=some ob:=λb ob hb ee=>by
   simp only[aT,dS,iN,sr]at hb;exact q'.extBut _ _ hb.1 (a5 b ob hb.1 hb.2 ee)
  have I1:Inv X ag σ (upd H s.heap.objs.size (.tup [.int i,x])) {s with heap:=IJ,toks:=s.toks+1}:=I.yP (t':=s.toks+1) hf kk (af _)
   ⟨⟨by show 2<=ab;decide,λo ee=>by rw[q'.extBut _ _ (fN elt) a3]at ee;cases ee;rfl⟩,[.int i s.toks,u],.cons ⟨_,rfl⟩ (.cons ru .nil),⟨_,q'.extBut _ _ (fN elt) a3,rfl,_,rfl⟩⟩
  refine⟨.ref s.heap.objs.size,_,I1,rfl,⟨_,hn,rfl,λxs' x' k1 k3=>?_⟩,⟨⟨_,by simpa using Yn⟩,a2.extBut q'.extBut wn.symm⟩,λb hb=>?_⟩
  ·rw[I.zK k1 hq,hx]at k3;cases k3;rfl
  ·have kD:=hb;simp only [aT,dS,iN] at kD
   have lc:b<s.heap.objs.size:=by
    rcases kD with rfl|rfl
    ·exact elt
    ·exact ilt
   rw[aB (d6 lc)];exact(hf b hb).1
 done:=by
  intro X hP hw hK hc i ag s σ H E I hf st hg;subst hP hw hK;obtain⟨xs,hq,hx⟩:=hg;obtain⟨its,rv,p,hz⟩:=I.list hq;obtain⟨⟨BA,he⟩,sv⟩:=st;have hl:=rv.length;refine wpAny_pyNext_enum_end (I.ok.hd hc) he sv p.isList (by simp;omega) λh' eb=>⟨rfl,I.xZ (t':=s.toks) hf λb u hb q=>?_⟩;simp only[aT,dS,iN,sr]at hb;exact eb b u hb.2 q
 self:=λ_ _ _ _ _ st h=>by
  obtain⟨⟨BA,he⟩,_⟩:=st;exact wpAny_pyIter_enum he h
section
variable {X:Cx}
inductive Mu (K:PySem.W.Frag) (R:It->Hp->Prop) (vs:LV) (H1:Hp):Prop
 |mk (a xs:_):vs=[.ref a]->SqL K H1 a xs->R (VA K a) H1->Mu K R vs H1
def Vt(K:PySem.W.Frag)(ta:TA):TI:=λσ H R=>ta σ H λvs H1=>Mu K R vs H1
theorem Dc{a:Expr}{p:mo}(hg:Gl X "enumerate")(hm:X.mg "enumerate" =none)(ha:PA X [a] ta)
  (he:xF [a] X.env=(false,cq a X.env)::xF [] X.env:=by rfl) (Bn:(JP bi (xF [] X.env)).any (·.1)=false:=by rfl):PI X (.Tuple no x1 lf) (.Call (.Name "enumerate" p) [a] [] bi) (Vt X.K ta):=by
 intro ag s σ H R I h;have Fm:yf "enumerate" =some (.type "enumerate"):=by decide +kernel
 refine km (vB I hg hm Fm ?_);refine jI (cb (ha bi ag s σ H _ I h) λus s1 ⟨vs,H1,I1,r1,t1,xs,e,q1,q⟩=>?_) he Bn;subst e;obtain⟨u,rfl,ru⟩:=vals1 r1;cases ru;obtain⟨its,rv,p1,hz1⟩:=I1.list q1;refine call_enumerate_list p1.isList λh' hE hI hsz hk=>?_;refine wpAny_pyIter_enum hE ?_;have I2:Inv X ag σ H1 {s1 with heap:=h'}:=I1.kept (t':=s1.toks) hk;have wn:s1.heap.objs.size+1≠s1.heap.objs.size:=by change @Ne Nat _ _;omega
 refine⟨s1.heap.objs.size+1,[s1.heap.objs.size+1,s1.heap.objs.size],_,VA X.K t1,H1,rfl,I2,KQ wn,⟨⟨_,hE⟩,hI⟩,λb hb=>?_,q⟩
 have Fn:s1.heap.objs.size<=b:=by
  simp only[aT,dS,iN]at hb;rcases hb with h|h <;>rw[h] <;>first|exact af _|exact k9 _ _
 exact I1.qI Fn (I1.hok.fresh Fn)
end
theorem Bc:entryFor table "dict.update.loop" =some xf.«dict.update.loop»:=entryFor_of_fast (by kernel_rfl)
theorem ux:plainId "dict.update.loop" =true:=by decide +kernel
theorem Eo:vT (.type "tuple") "keys" =Hb none:=by rw[typeLookup_type,sB];kernel_rfl
section
variable {prog:vy}{w:xm}{A:ye}{E:ES}{s:ut}
theorem JX{o:Obj}{xs:AV}{k:Nat}{Q:Option ue->ut->Prop}(hx:s.heap.get? a=some o)(hc:o.cls=.type "tuple")(Yp:o.data=.seq xs k)(hd:o.dict=none)(hA:A.handled=none)
  (h:∀h' tk,(∀b o,s.heap.get? b=some o->h'.get? b=some o)->Q none {s with heap:=h',toks:=tk}):wpAny ‹17› A (getAttr? (.ref a) "keys") Q E s:=by
 obtain⟨c,dct,dat,sl⟩:=o;simp only at hc Yp hd;subst hc Yp hd;obtain⟨hp,g,d,tk,os⟩:=s;have hT:∀Nc,(⟨hp,g,d,Nc,os⟩:ut).TypeIs (.ref a) "tuple":= fun _=>⟨_,hx,rfl⟩;have f1:=sub_AttributeError;have f3:=ny.lookup;have f4:=ny.bind (.ref a);have f5:=am_tuple_getattr_none;have hm:=Eo;unfold getAttr? getAttrBy? getAttrBy
 repeat (any_goals (first|assumption|exact hT _|((with_reducible show wpAny _ _ (call (ue.builtin "tuple.__getattribute__") _ _) _ _ _);refine lz ny (hT _) am_entry_tuple_getattribute (F.args_tuple_getattribute_2 _ _) (meets_getattribute_miss_tuple a xs k sl "keys" _ hm ‹1›) ⟨hx,hA,fun h' Nc e L6=>?_⟩)|wp_step))
 have kk:=L6.keeps;obtain⟨t',u',he⟩:=L6.there;show wpAny _ _ (getattributeRaised _ _ _ _ _ _ _) _ _ _;unfold getattributeRaised
 repeat (any_goals (first|assumption|wp_step))
 all_goals exact h _ _ kk
end
section
variable {X:Cx}{ag:LO}{σ:St}{A:ye}
def BX(H:Hp)(xs:LV)(kvs:sg):Prop:=xs.length=kvs.length/\∀(i:Nat) (kv:ga×V),kvs[i]?=some kv->∃p,xs[i]?=some (.ref p)/\H p=some (.tup [kV kv.1,kv.2])
theorem Wr{d:ax}{k:ga}{r:ue}{Q:Unit->ut->Prop}(I:Inv X ag σ H s)(e:H d=some (.dK kvs))(l:kvs.length<ab)(ry:RelV (kV k) u)(rv:RelV v r)
  (h:∀h',Heap.SameBut d s.heap h'->Inv X ag σ (upd H d (.dK (db kvs k v))) {s with heap:=h',toks:=s.toks+1}->Q () {s with heap:=h',toks:=s.toks+1}):wpAny ‹7› A (dictSet d u r) Q E s:=by
 obtain⟨z,hd,vs,so,dd⟩:=O2 I.hok e;have hz:vs.length<=ab:=by rw[<- so.length];exact z
 have hl:(db kvs k v).length<=ab:=by have:=jr kvs k v;omega
 refine vc (hsz:=hz) (tD ry) dd λh' L9 hs=>h _ hs ?_;have he:∃q,h'.get? d=some q:=let⟨q,_,_,hq,_⟩:=L9;⟨q,hq⟩;exact yg (t':=s.toks+1) I (by rw[e];exact True.intro) hs he (GX hl hd (so.put k rv) L9)
theorem Gx(kvs:sg)(kv:ga×V):jU [] (kvs++[kv])=db (jU [] kvs) kv.1 kv.2:=by
 unfold jU;rw[List.foldl_append];rfl
theorem QF{d:ax}(hh:A.handled=none)(ha:H a=some (.tup xs))(hp:BX H xs kvs)(hn:kvs.length<=1000)(hd:H d=none)(Nd:it≠d)(DL:it≠a)
  (hR:∀s',Inv X ag σ (upd H d (.dK (jU [] kvs))) s'->R (.ok (.ret .none)) s'):
  ∀(k i:Nat) (s:ut),kvs.length - i=k->i<=kvs.length->Inv X ag σ (upd H d (.dK (jU [] (kvs.take i)))) s->s.heap.IsTupleIter it a i->(∀H':Hp,H' it=none->qu X ag H' it)->H it=none->
   BV ‹7› A (.builtin "dict.update.loop" ⟨[.ref d,.ref it,sR i,.none],[]⟩) R s:=by
 intro k;have had:a≠d:=aD ha hd;have hz:ab=16777216:=cn
 induction k with
 |zero=>
  intro i s hk hi I sv hf GO;have Ap:i=kvs.length:=by omega
  have Yq:(upd H d (.dK (jU [] (kvs.take i)))) a=some (.tup xs):=by rw[aB had];exact ha
  obtain⟨its,rv,p,_⟩:=I.tuple (XR Yq);have Sf:(upd H d (.dK (jU [] (kvs.take i)))) it=none:=by rw[aB Nd];exact GO
  obtain⟨f0,f1,f2,f3,f4,f5⟩:=hf _ Sf;refine iS Bc ?_;rw[hU ux _];show wpAny _ A.in1 (M3 (.ref it) >>= _) _ _ s;refine ae (o0 hh sv (show s.heap.IsTuple a its.toArray from p) (by have:=rv.length;have:=hp.1;simp;omega) λh' eb=>?_);refine ae (aE (aE ?_));have I1:=I.turned (t':=s.toks) (λb o hb e=>eb b o hb e) f0 f1 f3 f4 f5;rw[Ap,ay (af _)]at I1;exact hR _ I1
 |succ k ih=>
  intro i s hk hi I sv hf GO;have lc:i<kvs.length:=by omega
  have Yq:(upd H d (.dK (jU [] (kvs.take i)))) a=some (.tup xs):=by rw[aB had];exact ha
  obtain⟨its,rv,p,_⟩:=I.tuple (XR Yq);have Sf:(upd H d (.dK (jU [] (kvs.take i)))) it=none:=by rw[aB Nd];exact GO
  obtain⟨f0,f1,f2,f3,f4,f5⟩:=hf _ Sf;obtain⟨pr,ex,VC⟩:=hp.2 i kvs[i] (ac lc);obtain⟨u,hu,ru⟩:=rv.get ex;cases ru;refine iS Bc ?_;rw[hU ux _];show wpAny _ A.in1 (M3 (.ref it) >>= _) _ _ s;refine ae (oS sv (show s.heap.IsTuple a its.toArray from p) (x:=.ref pr) (by simpa using hu) fun h' hit' sb=>?_);have I1:=I.turned (t':=s.toks) (fun b o hb e=>sb.extBut b o hb e) f0 f1 f3 f4 f5;have Si:pr≠d:=aD VC hd;obtain⟨EV,rj,⟨oj,gj,cj,nj,dj⟩,_⟩:=I1.tuple (XR (show(upd H d (.dK (jU [] (kvs.take i)))) pr=some (.tup [kV kvs[i].1,kvs[i].2])by rw[aB Si];exact VC));obtain⟨v1,v2,rfl,r1,r2⟩:=rj.two;have hT:({s with heap:=h'}:ut).TypeIs (.ref pr) "tuple":= ⟨oj,gj,cj⟩;refine ae (ie ?_);refine ae (wpAny_tryCatch ?_);unfold xf.Dict.pairItems;refine ae (ip hT ?_);rw[dL ‹11›];refine ae (gI gj dj (aE ?_));show wpAny _ _ (Q4 [v1,v2] (dictSet d v1 v2)) _ _ _;refine ie (Wr I1 ak ?_ r1 r2 fun h2 sb2 I2=>?_)
  ·have:=uV (kvs.take i) [];rw[bj,lP]at this;omega
  rw[gM]at I2
  have et:kvs.take (i+1)=kvs.take i++[kvs[i]]:=by
   rw[li,ac lc];rfl
  rw[<- Gx,<- et]at I2;refine aE ⟨kA ux _,?_⟩;exact ih (i+1) _ ‹21› lc I2 (hit'.extBut sb2.extBut Nd) hf GO
end
section
variable {X:Cx}
inductive wz (xs:LV) (H:Hp) (Q:VK):Prop
 |mk (a ps kvs:_):xs=[.ref a]->H a=some (.tup ps)->BX H ps kvs->kvs.length<=1000->(∀d,H d=none->Q (.ref d) (upd H d (.dK (jU [] kvs))))->wz xs H Q
theorem Hx(hc:X.calm=true):iy X (.type "dict") wz:=by
 intro ag s σ H xs us Q I r h;obtain⟨a,ps,kvs,rfl,ha,hp,hn,q⟩:=h;obtain⟨u,rfl,ru⟩:=vals1 r;cases ru;have hh:X.A.handled=none:=I.ok.hd hc;refine callType_codes (Q₁:=fun obj bq=>obj=.ref s.heap.objs.size/\bq={s with heap:=s.heap.push {cls:=.type "dict",data:=.dict #[]} }) F.kt_called_dict (F.kt_typeCall_dict_1 _) F.entry_dict_init (kt_code_dict_new _ ⟨rfl,rfl⟩) ?_;rintro obj bq ⟨rfl,rfl⟩;have hd:H s.heap.objs.size=none:=I.hok.fresh (af _)
 have I1:Inv X ag σ (upd H s.heap.objs.size (.dK [])) {s with heap:=s.heap.push {cls:=.type "dict",data:=.dict #[]} }:=
  I.laid (t':=s.toks) (λb o e=>am _ e) (af _) (zH s.heap (eB I.big (af _)))
 have had:a≠s.heap.objs.size:=aD ha hd;have Nl:(upd H s.heap.objs.size (.dK [])) a=some (.tup ps):=by rw[aB had];exact ha
 obtain⟨⟨_,nd⟩,its,rv,o,go,co,n,dto⟩:=I1.hok a _ Nl;have Na:(s.heap.push {cls:=.type "dict",data:=.dict #[]}).DictOf (cU X.prog X.w) s.heap.objs.size []:=Heap.DictOf.new s.heap;refine⟨Na.typeIs,F.args_dict_init_2 _ _,?_⟩;unfold xf.«dict.__init__»;refine ae ?_;unfold xf.Dict.selfAndRest;refine ae (wpAny_notOrdered_dict Na.typeIs ?_);show wpAny _ _ (Hb (s.heap.objs.size,[xn a])) _ _ _;refine aE ?_;show wpAny _ _ (xf.Dict.updateFrom "dict.__init__" s.heap.objs.size (.ref a) [] .none) _ _ _;unfold xf.Dict.updateFrom;have hT:({s with heap:=s.heap.push {cls:=.type "dict",data:=.dict #[]} }:ut).TypeIs (.ref a) "tuple":= ⟨o,go,co⟩;refine ae (ip hT ?_);rw[dL ‹11›];refine ae (JX go co dto (nd o go) hh fun h2 Yr k2=>?_);rw[dL (by rfl)];have I2:=I1.kept (t':=Yr) k2;refine ae (jS ?_);refine ae (ca (show Heap.IsTuple h2 a its.toArray from⟨o,k2 a o go,co,n,dto⟩) ?_);have I3:=I2.kept (t':=Yr) (h':=h2.push {cls:=.type "tuple_iterator",data:=.fields #[.ref a,.int 0 0]}) fun b o e=>am _ e
 have Fn:s.heap.objs.size<h2.objs.size:=by
  obtain⟨o',e'⟩:∃o',(s.heap.push {cls:=.type "dict",data:=.dict #[]}).get? s.heap.objs.size=some o':=⟨_,bn _ rfl⟩;exact cr (k2 _ _ e')
 have zd:(upd H s.heap.objs.size (.dK [])) h2.objs.size=none:=I2.hok.fresh (af _);refine aE ⟨kA ux _,?_⟩;have al:a<h2.objs.size:=cr (k2 a o go);have GO:H h2.objs.size=none:=by rw[aB (fN Fn)]at zd;exact zd
 refine QF (A:=X.A.in1) (H:=H) (a:=a) (d:=s.heap.objs.size) (it:=h2.objs.size) (xs:=ps) (kvs:=kvs) hh ha hp hn hd (fN Fn) (fN al) (λs' I'=>?_) kvs.length 0 _ (by simp) (ck _) I3 ⟨_,bn _ rfl,rfl,rfl⟩ (λH' hH'=>?_) GO
 ·exact⟨rfl,⟨.ref s.heap.objs.size,_,I',rfl,q _ hd⟩⟩
 ·obtain⟨g1,g2⟩:=I2.qI (af _) zd;exact⟨hH',g2⟩
end
section
variable {X:Cx}
inductive vM (xs:LV) (H:Hp) (Q:VK):Prop
 |mk (d kvs:_):xs=[.ref d]->Rd H d (.dK kvs)->(∀l,H l=none->Q (.ref l) (upd H l (.lst (kvs.map λkv=>kV kv.1))))->vM xs H Q
theorem G7(hc:X.calm=true):iy X (.type "list") vM:=by
 intro ag s σ H xs us Q I r h;obtain⟨d,kvs,rfl,hd,q⟩:=h;obtain⟨u,rfl,ru⟩:=vals1 r;cases ru;have hh:X.A.handled=none:=I.ok.hd hc;obtain⟨hz,hs,vs,rv,od,es,ep,ho,r1,r2,r3⟩:=(show fV X.prog X.w H s.heap d (.dK kvs)from hd.ok I.hok);have hl:vs.length=kvs.length:=(cE rv).symm;refine PySem.W.kdl_call (PySem.W.kdl_dict (knd:=cU X.prog X.w) (kvs:=vs) (ep:=ep) hs) hh ⟨_,_,ho,r1,r2,r3⟩ ‹21› λh' tk cv c kp e it=>?_;obtain⟨i1,i2⟩:=it;refine⟨.ref s.heap.objs.size,_,I.laid (o:=.lst (kvs.map λkv=>kV kv.1)) kp (af _) ⟨by rw[aa];exact hz,cv.toList,c,?_,by simpa using e⟩,rfl,q _ (I.hok.fresh (af _))⟩
 have y8:∀(ks:sg) (ws:List (ga×ue)) (us:LU),KV ks ws->us.length=ws.length->(∀(j:Nat) (v:ue),us[j]?=some v->∃k x,ws[j]?=some (k,x)/\(cU X.prog X.w).is k v=true)->Vals (ks.map λkv=>kV kv.1) us:=by
  intro ks ws us rr
  induction rr generalizing us with
  |nil=>
   intro hl _;cases us with
   |nil=>exact .nil
   |cons _ _=>cases hl
  | @cons p w' ks ws r t ih=>
   intro hl hi;cases us with
   |nil=>cases hl
   |cons u us=>
    obtain⟨k,x,e1,e2⟩:=hi 0 u rfl;cases e1;refine .cons (by show RelV (kV p.1) u;rw[r.1];exact FN e2) (ih us (by simpa using hl) λj v e=>?_);exact hi (j+1) v e
 exact y8 kvs vs cv.toList rv (by rw[ir];exact i1) λj v e=>i2 j v (by simpa using e)
end
end L2
end
section
namespace L2
open PySem PySem.Spec PyProof.Rows PySem.W
def Nn{α:Type}(n:Nat)(P:α->Prop):KasT α->Prop
 |.ret a=>P a
 |.ask i j k=>i<n/\j<n/\∀b,Nn n P (k b)
section
variable {n:Nat}(h0:0<n)
include h0
end
end L2
end
section
namespace L2
open PySem PySem.Spec PyProof.Rows
variable {J:It}{i n:Nat}{te tl:TE}{σ:St}{D a it p q:ax}{A:ye}{H H':Hp}{o:HO}{K:PySem.W.Frag}{xs:LV}{tg:Expr}{ag:LO}{R:Xh->ut->Prop}
theorem QS:yf "dict" =some (.type "dict"):=by decide +kernel
section
variable {X:Cx}{K:PySem.W.Frag}
theorem Ig(h:X.K=K)(hc:X.calm=true):iy X (.builtin "any") (vD K):=by subst h;exact Ma hc
end
theorem bN{own:Nat}{fr:List Nat}{g:TG}{tc:TT}{Q:VK}{H0:Hp}(Pv:Nat->LV->Hp->Prop)(h0:Pv 0 [] H0)(stop:∀ys H,Pv n ys H->J.stop n H/\Q (.ref D) H)
  (go:∀ i ys H,i < n->Pv i ys H->J.go i H/\∀ x H',J.yld i H x H'->∀ gi:St,gi.length=own->g x (gi++DJ σ fr) H' fun md H2=>(∃ BI:St,BI.length=own/\md=BI++DJ σ fr)/\
   tc md H2 λb H3=>if b=true then te md H3 λy H4=>ys.length<ab/\H4 D=some (.lst ys)/\∃m',m'<n - i/\(m'=n - (i+1)/\i+1<=n/\Pv (i+1) (ys++[y]) (upd H4 D (.lst (ys++[y]))))else∃m',m'<n - i/\(m'=n - (i+1)/\i+1<=n/\Pv (i+1) ys H3)):
  Ac own fr g tc te σ Q J D H0:=by
 refine⟨λi m ys H=>m=n - i/\i<=n/\Pv i ys H,⟨n,by simp,ck _,h0⟩,?_⟩;rintro i m ys H ⟨rfl,hi,p⟩
 by_cases lc:i<n
 ·exact .inr (go i ys H lc p)
 ·have e:i=n:=by omega
  subst e;exact .inl (stop ys H p)
theorem bG(h:i<n){P:Prop}(p:P):∃m',m'<n - i/\(m'=n - (i+1)/\i+1<=n/\P):=⟨n - (i+1),by omega,rfl,h,p⟩
theorem eP{gi:St}(h:gi.length=1):∃o,gi=[o]:=by
 cases gi with
 |nil=>cases h
 |cons o r=>
  cases r with
  |nil=>exact⟨o,rfl⟩
  |cons _ _=>cases h
theorem Xa{gi:St}(h:gi.length=2):∃o o',gi=[o,o']:=by
 cases gi with
 |nil=>cases h
 |cons o r=>
  cases r with
  |nil=>cases h
  |cons o' r=>
   cases r with
   |nil=>exact⟨o,o',rfl⟩
   |cons _ _=>cases h
theorem wR{α β:Type}{f:α->β}:∀{l:List α},(∀a∈l,∀b∈l,f a=f b->a=b)->l.Nodup->(l.map f).Nodup
 |[],_,_=>j0
 |a::r,hi,hn=>by
  obtain⟨h1,h2⟩:=fg.mp hn;rw[ci];refine fg.mpr ⟨λm=>?_,wR (λx hx y hy=>hi x (cf _ hx) y (cf _ hy)) h2⟩;obtain⟨b,hb,e⟩:=bE.mp m;exact h1 (hi b (cf _ hb) a aS e ▸ hb)
theorem fK{α:Type}[DecidableEq α]:∀{l m:List α},l.Nodup->(∀x∈l,x∈m)->l.length<=m.length
 |[],_,_,_=>ck _
 |a::r,m,hn,hs=>by
  obtain⟨h1,h2⟩:=fg.mp hn;have hm:a∈m:=hs a aS
  have:=fK (l:=r) (m:=m.erase a) h2 λx hx=>by
   have ne:x≠a:=λe=>h1 (e ▸ hx);exact(List.mem_erase_of_ne ne).mpr (hs x (cf _ hx))
  have e:=List.length_erase_of_mem hm;have p:0<m.length:=List.length_pos_of_mem hm;rw[aI];omega
theorem Te{k:Nat}(hr:lR k A):A.units+10<ge:=by
 have:=hr.units;omega
inductive Pu (H:Hp) (p:ax):Prop
 |mk (a b c:Int):H p=some (.lst [.int a,.int b,.int c])->Pu H p
theorem Pu.ne{u:ax}{us:LS}(h:Pu H p)(g:H u=some (.lst (us.map V.str))):u≠p:=by
 obtain⟨a,b,c,e⟩:=h;exact(bV e g Qy).symm
theorem Pu.upd{a b c:Int}:Pu (upd H p (.lst [.int a,.int b,.int c])) p:=⟨a,b,c,ak⟩
abbrev X8:=@Pu.upd
theorem Pu.same(h:Pu H p)(s:Same H H'):Pu H' p:=by
 obtain⟨a,b,c,e⟩:=h;exact⟨a,b,c,s p _ e⟩
theorem Pu.neN(h:Pu H p)(g:H q=none):p≠q:=by
 obtain⟨a,b,c,e⟩:=h;exact aD e g
theorem Pu.aB(h:Pu H p)(g:p≠q):Pu (L2.upd H q o) p:=by
 obtain⟨a,b,c,e⟩:=h;exact⟨a,b,c,by rw[L2.aB g];exact e⟩
theorem bR{c A B:Prop}[Decidable c](h:c)(a:A):if c then A else B:=by
 rw[dL h];exact a
theorem aL{c A B:Prop}[Decidable c](h:¬c)(b:B):if c then A else B:=by
 rw[dC h];exact b
def abc:Str:= "abcdefghijklmnopqrstuvwxyz"
def letters:LS:=abc.cps.toList.map λc=>⟨#[c]⟩
theorem xR:letters.length=26:=by decide +kernel
theorem Dh:abc.cps.size=26:=by decide +kernel
theorem nD:∀x∈letters,x.length=1:=by
 intro x hx;obtain⟨c,_,rfl⟩:=bE.mp hx;rfl
theorem zO:letters.Nodup:=by decide +kernel
theorem FZ{a b z:Str}(ha:a.length=1)(hb:b.length=1)(h:a++z=b++z):a=b:=by
 obtain⟨⟨a⟩⟩:=a;obtain⟨⟨b⟩⟩:=b
 have h':(a++z.cps.toList)=(b++z.cps.toList):=by
  have e:∀y:List Nat,((⟨⟨y⟩⟩:Str)++z).cps.toList=y++z.cps.toList:=λy=>by
   show((⟨y⟩:Array Nat)++z.cps).toList=_;rw[qV]
  rw[<- e,<- e,h]
 have:=List.append_cancel_right h';rw[this]
theorem bD(a b:Str):(a++b).length=a.length+b.length:=by
 show(a.cps++b.cps).size=_;rw[Array.size_append];rfl
theorem Gj{us:LS}(h:us.length<=25)(z:Str):∃c∈letters,¬(c++z)∈us:=by
 apply gx;intro hn;have all:∀c∈letters,(c++z)∈us:=λc hc=>gx λhx=>hn ⟨c,hc,hx⟩
 have nd:(letters.map (·++z)).Nodup:=by
  exact wR (λa ha b hb e=>FZ (nD a ha) (nD b hb) e) zO
 have:=fK nd λx hx=>by
  obtain⟨c,hc,rfl⟩:=bE.mp hx;exact all c hc
 rw[aa,xR]at this;omega
theorem Kh(z:Str)(lo hi:Option Int):(Be z lo hi).length<=z.length:=rL z lo hi
theorem Nk{g:TG}{tb:TS}{D:mT}(Pv:Nat->St->Hp->Prop)(h0:Pv 0 σ H)(hl:∀i σ H,i<=xs.length->Pv i σ H->SqL K H a xs)
  (hs:∀i x σ H p,xs[i]?=some x->Pv i σ H->H p=none->g (.ref p) σ (upd H p (.tup [.int i,x])) λmd H2=>tb {D with nx:=Pv (i+1),ct:=Pv (i+1),bk:=D.nx} md H2) (hd:∀σ H,Pv xs.length σ H->D.nx σ H):
  ∃W:Nat->Nat->St->Hp->Prop,(∃m,W 0 m σ H)/\∀i m σ H,W i m σ H->
   ((VA K a).stop i H/\D.nx σ H)\/((VA K a).go i H/\∃N:St->Hp->Prop,(∀cp H',N cp H'->∃m',m'<m/\W (i+1) m' cp H')/\∀x H',(VA K a).yld i H x H'->g x σ H' λmd H2=>tb {D with nx:=N,ct:=N,bk:=D.nx} md H2):=by
 refine⟨λi m σ H=>m=xs.length - i/\i<=xs.length/\Pv i σ H,⟨xs.length,by simp,ck _,h0⟩,?_⟩;rintro i m σ H ⟨rfl,hi,p⟩;have q:=hl i σ H hi p
 by_cases lc:i<xs.length
 ·refine .inr ⟨⟨xs,xs[i],q,by simp[lc]⟩,Pv (i+1),λcp H' p'=>⟨xs.length - (i+1),by omega,rfl,lc,p'⟩,λx H' y=>?_⟩;obtain⟨r,hr,rfl,y⟩:=y;have e:=y xs xs[i] q (by simp[lc]);subst e;exact hs i xs[i] σ _ r (by simp[lc]) p hr
 ·have e:i=xs.length:=by omega
  subst e;exact .inl ⟨⟨xs,q,af _⟩,hd σ H p⟩
section
variable {X:Cx}{K:PySem.W.Frag}
inductive Ve (K:PySem.W.Frag) (x:V) (y:V) (H:Hp) (Q:VK):Prop
 |mk (a b:ax) (xs:LV):x=.ref a->y=.ref b->SqL K H a xs->SqL K H b []->Q (.bl (!xs.isEmpty)) H->Ve K x y H Q
inductive VN (K:PySem.W.Frag) (x:V) (y:V) (H:Hp) (Q:VK):Prop
 |mk (a b:ax) (xs:LV):x=.ref a->y=.ref b->SqL K H a xs->SqL K H b []->Q (.bl xs.isEmpty) H->VN K x y H Q
theorem Lq(hK:X.K=K)(hu:X.A.units<ge):OpR X (yo .NotEq) (Ve K):=by
 subst hK;intro ag s σ H x y v u Q I rx ry h;obtain⟨a,b,xs,rfl,rfl,ha,hb,q⟩:=h;cases rx;cases ry;obtain⟨its,r,p,_⟩:=I.list ha;obtain⟨fi,r2,p2,_⟩:=I.list hb;have e2:fi=[]:=r2.lG.mpr rfl;subst e2;cases xs with
 |nil=>
  have e1:its=[]:=r.lG.mpr rfl;subst e1;exact SeqAt.RcNeAt.lists (A:=X.A) (s:=s) (e:=λ_=>true) p.isList p2.isList rfl hu (λj h1 _=>by simp at h1) X.prog X.w X.xe _ ⟨.bl false,H,I,rfl,q⟩
 |cons x0 xr=>
  have hl:=r.length;refine SeqAt.RcNeAt.lists_lengths (A:=X.A) (s:=s) p.isList p2.isList ?_ hu X.prog X.w X.xe _ ⟨.bl true,H,I,rfl,q⟩;rw[aI]at hl;have:its.length≠0:=by omega
  simpa using this
theorem SX(hK:X.K=K)(hu:X.A.units<ge):OpR X (yo .Eq) (VN K):=by
 subst hK;intro ag s σ H x y v u Q I rx ry h;obtain⟨a,b,xs,rfl,rfl,ha,hb,q⟩:=h;cases rx;cases ry;obtain⟨its,r,p,_⟩:=I.list ha;obtain⟨fi,r2,p2,_⟩:=I.list hb;have e2:fi=[]:=r2.lG.mpr rfl;subst e2;cases xs with
 |nil=>
  have e1:its=[]:=r.lG.mpr rfl;subst e1;exact SeqAt.RcAt.lists (A:=X.A) (s:=s) (e:=λ_=>true) p.isList p2.isList rfl hu (λj h1 _=>by simp at h1) X.prog X.w X.xe _ ⟨.bl true,H,I,rfl,q⟩
 |cons x0 xr=>
  have hl:=r.length;refine SeqAt.RcAt.lists_lengths (A:=X.A) (s:=s) p.isList p2.isList ?_ hu X.prog X.w X.xe _ ⟨.bl false,H,I,rfl,q⟩;rw[aI]at hl;have:its.length≠0:=by omega
  simpa using this
inductive R5 (K:PySem.W.Frag) (R:It->Hp->Prop) (x:V) (H1:Hp):Prop
 |mk (a:_):x=.ref a->((∃xs,SqT K H1 a xs/\R (MU K a) H1)\/∃xs,SqL K H1 a xs/\R (MS K a) H1)->R5 K R x H1
def W7(K:PySem.W.Frag)(tl:TE):TI:=λσ H R=>tl σ H λx H1=>R5 K R x H1
theorem yK{l:Expr}(hl:PE X l tl)(hK:X.K=K):PI X tg l (W7 K tl):=by
 subst hK;intro ag s σ H R I h;refine cb (hl ag s σ H _ I h) λv s1 ⟨x,H1,I1,r1,a,e,q1⟩=>?_;subst e;cases r1;rcases q1 with⟨xs,hq,q⟩|⟨xs,hq,q⟩
 ·obtain ⟨its,rv,p,hz⟩:=I1.tuple hq;refine ca (show s1.heap.IsTuple a its.toArray from p) ?_;refine⟨s1.heap.objs.size,[s1.heap.objs.size],_,_,H1,rfl,I1.kept (t':=s1.toks) fun b o e=>am _ e,vI a _,⟨_,bn _ rfl,rfl,rfl⟩,fun b hb=>?_,q⟩;have e:b=s1.heap.objs.size:=by simpa using hb
  subst e;exact I1.qI (af _) (I1.hok.fresh (af _))
 ·obtain ⟨its,rv,p,hz⟩:=I1.list hq;refine ce p.isList ?_;refine⟨s1.heap.objs.size,[s1.heap.objs.size],_,_,H1,rfl,I1.kept (t':=s1.toks) fun b o e=>am _ e,wX a _,⟨_,bn _ rfl,rfl,rfl⟩,fun b hb=>?_,q⟩;have e:b=s1.heap.objs.size:=by simpa using hb
  subst e;exact I1.qI (af _) (I1.hok.fresh (af _))
end
section
variable {X:Cx}{K:PySem.W.Frag}
inductive lQ (H:Hp) (v:V) (ys:LV):Prop
 |mk (p:_):v=.ref p->(H p=some (.lst ys)\/H p=some (.tup ys))->lQ H v ys
theorem Jf{bs:List Bool}(tn:Nat->Heap->Prop)(hb:bs.length=xs.length)
  (item:∀(i:Nat) (hi:i<xs.length) (s:ut) (Q:Option ue->ut->Prop) (E:ES),Inv X ag σ H s->tn i s.heap->(∀u h',RelV xs[i] u->Inv X ag σ H {s with heap:=h'}->tn (i+1) h'->Q (some u) {s with heap:=h'})->wpAny ‹7› A.in1 (M3 (.ref it)) Q E s)
  (done:∀(s:ut) (Q:Option ue->ut->Prop) (E:ES),Inv X ag σ H s->tn xs.length s.heap->(∀h',Inv X ag σ H {s with heap:=h'}->Q none {s with heap:=h'})->wpAny ‹7› A.in1 (M3 (.ref it)) Q E s)
  (tru:∀(i:Nat) (hi:i<xs.length) (hj:i<bs.length),∃ys,lQ H xs[i] ys/\bs[i]=!ys.isEmpty)
  (hR:∀s',Inv X ag σ H s'->R (.ok (.ret (.bool (bs.any id)))) s'):
  ∀(k i:Nat) (s:ut),xs.length - i=k->i<=xs.length->(∀(j:Nat) (hj:j<bs.length),j<i->bs[j]=false)->Inv X ag σ H s->tn i s.heap->BV ‹7› A (.builtin "any.loop" ⟨[.ref it],[]⟩) R s:=by
 intro k
 induction k with
 |zero=>
  intro i s hk hi hf I ht;have Ap:i=xs.length:=by omega
  subst Ap;refine iS F.entry_any_loop ?_;rw[hU mM _];show wpAny _ A.in1 (M3 (.ref it) >>= _) _ _ s;refine ae (done s _ _ I ht λh' I'=>?_);refine ae (jS (aE ?_))
  have e:bs.any id=false:=by
   apply Bool.eq_false_iff.mpr;intro h;obtain⟨b,kD,Sj⟩:=jv.mp h;obtain⟨j,hj,rfl⟩:=fc kD;rw[hf j hj ‹21›]at Sj;cases Sj
  have:=hR _ I';rw[e]at this;exact this
 |succ k ih=>
  intro i s hk hi hf I ht;have lc:i<xs.length:=by omega
  have hlb:i<bs.length:=by omega
  refine iS F.entry_any_loop ?_;rw[hU mM _];show wpAny _ A.in1 (M3 (.ref it) >>= _) _ _ s;refine ae (item i lc s _ _ I ht λu h' ru I' ht'=>?_);obtain⟨ys,⟨p,ep,hp⟩,eb⟩:=tru i lc hlb;rw[ep]at ru;cases ru;have hs:ab=16777216:=cn;have hl63:=ug
  have step:∀(s2:ut),Inv X ag σ H s2->s2.heap=h'->wpAny ‹7› A.in1 (do
    letGo [xn p]
    if bs[i]=true then do AH "any.true-item";ret (.bool true)else again (.builtin "any.loop" ⟨[.ref it],[]⟩)) (fun hJ s'=>(match hJ with |.done f=>R (.ok f) s'|.again c=>XJ.quiet c/\BV ‹7› A c R s')) (fun e s'=>R (.error e) s') s2:=fun s2 I2 e2=>by
   refine ae (qk ?_);cases hbi:bs[i]with
   |true=>
    simp only[kM];refine ae (jS (aE ?_));have e:bs.any id=true:=jv.mpr ⟨bs[i],bX hlb,hbi⟩;have:=hR _ I2;rw[e]at this;exact this
   |false=>
    simp only[lI,rS];refine aE ⟨kA mM _,ih (i+1) _ ‹21› lc (λj hj hji=>?_) I2 (by rw[e2];exact ht')⟩
    by_cases hji':j=i
    ·subst hji';exact hbi
    ·exact hf j hj ‹21›
  rcases hp with hp|hp
  ·obtain⟨its,r,pl,hz⟩:=I'.list (XQ hp);have eC:=r.length;refine ae (ie (wpAny_truthy_list pl.isList (by simp only[bz];omega) ?_));rw[sE r,<- eb];exact step _ (I'.tok _) rfl
  ·obtain⟨its,r,pl,hz⟩:=I'.tuple (XR hp);have eC:=r.length;refine ae (ie (truthy_tuple pl (by simp only[bz];omega) ?_));rw[sE r,<- eb];exact step _ (I'.tok _) rfl
end
section
variable {X:Cx}{K:PySem.W.Frag}
inductive xW (vs:LV) (H:Hp) (Q:VK):Prop
 |mk (p:ax) (xs:LV) (bs:List Bool):vs=[.ref p]->(H p=some (.lst xs)\/H p=some (.tup xs))->bs.length=xs.length->(∀(i:Nat) (hi:i<xs.length) (hj:i<bs.length),∃ys,lQ H xs[i] ys/\bs[i]=!ys.isEmpty)->Q (.bl (bs.any id)) H->xW vs H Q
theorem Li(hc:X.calm=true):iy X (.builtin "any") xW:=by
 intro ag s σ H xs us Q I r h;obtain⟨p,xs,bs,rfl,hp,hb,tru,q⟩:=h;obtain⟨u,rfl,ru⟩:=vals1 r;cases ru;have hh:X.A.handled=none:=I.ok.hd hc;refine call_function_tree F.kind_any F.plain_any F.entry_any (F.args_any1 _) ?_;unfold xf.«any»;refine ae (m:=oneArg "any" _) (aE ?_);rcases hp with hp|hp
 ·obtain ⟨its,rv,pl,hz⟩:=I.list (XQ hp);have hl:=rv.length;refine ae (ce pl.isList ?_);have I1:=I.kept (t':=s.toks) (h':=s.heap.push { cls:=.type "list_iterator",data:=.fields #[.ref p,.int 0 0] }) fun b o e=>am _ e;have fp:=I.qI (af _) (I.hok.fresh (af s.heap.objs.size));obtain ⟨f0,f1,f2,f3,f4,f5⟩:=fp;refine aE ⟨kA mM _,Jf (X:=X) (ag:=ag) (σ:=σ) (H:=H) (A:=X.A) (it:=s.heap.objs.size) (xs:=xs) (bs:=bs) (fun i h=>h.IsListIter s.heap.objs.size p i) hb ?_ ?_ tru (fun s' I'=>?_) xs.length 0 _ (by simp) (ck _) (by intro j hj h; omega) I1 ⟨_,bn _ rfl,rfl,rfl⟩⟩
  ·intro i hi s2 Q2 E2 I2 t2 k;obtain⟨fi,No,Nw,_⟩:=I2.list (XQ hp);obtain⟨u,hu,ru⟩:=No.get (i:=i) (x:=xs[i]) (ac hi);exact pc t2 Nw.isList (x:=u) (by simpa using hu) λh' BH sb=>k u h' ru (I2.turned (t':=s2.toks) (λb o hb e=>(sb.2 b hb).trans e) f0 f1 f3 f4 f5) BH
  ·intro s2 Q2 E2 I2 t2 k;obtain⟨fi,No,Nw,_⟩:=I2.list (XQ hp);have cx:=No.length;exact sA hh t2 Nw.isList (by simp;omega) λh' eb=>k h' (I2.turned (t':=s2.toks) (λb o hb e=>eb b o hb e) f0 f1 f3 f4 f5)
  ·exact⟨.bl _,H,I',rfl,q⟩
 ·obtain ⟨its,rv,pl,hz⟩:=I.tuple (XR hp);have hl:=rv.length;refine ae (ca (show s.heap.IsTuple p its.toArray from pl) ?_);have I1:=I.kept (t':=s.toks) (h':=s.heap.push { cls:=.type "tuple_iterator",data:=.fields #[.ref p,.int 0 0] }) fun b o e=>am _ e;have fp:=I.qI (af _) (I.hok.fresh (af s.heap.objs.size));obtain ⟨f0,f1,f2,f3,f4,f5⟩:=fp;refine aE ⟨kA mM _,Jf (X:=X) (ag:=ag) (σ:=σ) (H:=H) (A:=X.A) (it:=s.heap.objs.size) (xs:=xs) (bs:=bs) (fun i h=>h.IsTupleIter s.heap.objs.size p i) hb ?_ ?_ tru (fun s' I'=>?_) xs.length 0 _ (by simp) (ck _) (by intro j hj h; omega) I1 ⟨_,bn _ rfl,rfl,rfl⟩⟩
  ·intro i hi s2 Q2 E2 I2 t2 k;obtain⟨fi,No,Nw,_⟩:=I2.tuple (XR hp);obtain⟨u,hu,ru⟩:=No.get (i:=i) (x:=xs[i]) (ac hi);exact oS t2 (show s2.heap.IsTuple p fi.toArray from Nw) (x:=u) (by simpa using hu) λh' BH sb=>k u h' ru (I2.turned (t':=s2.toks) (λb o hb e=>sb.extBut b o hb e) f0 f1 f3 f4 f5) BH
  ·intro s2 Q2 E2 I2 t2 k;obtain⟨fi,No,Nw,_⟩:=I2.tuple (XR hp);have cx:=No.length;exact o0 hh t2 (show s2.heap.IsTuple p fi.toArray from Nw) (by simp;omega) λh' eb=>k h' (I2.turned (t':=s2.toks) (λb o hb e=>eb b o hb e) f0 f1 f3 f4 f5)
  ·exact⟨.bl _,H,I',rfl,q⟩
theorem Ru(hK:X.K=K):SlR X (λx lo hi H Q=>Rw K x lo hi H Q\/Nq K x lo hi H Q):=by subst hK;exact Nj.or Cq
theorem Je(hK:X.K=K):IxR X (λx y H Q=>Kl K x y H Q\/Qg K x y H Q):=by subst hK;exact Cr.or yu
end
end L2
end
section
namespace L2
open PySem PySem.Spec PyProof.Rows PySem.W
variable {Q:ES}
section
variable {prog:vy}{w:xm}{A:ye}{E:ES}{s:ut}{T:String}{r d:ax}{n:Nat}{P:Nat->ue->Prop}{OK:Heap->Prop}
theorem Gv{Q:LU->ut->Prop}(K:KdlSrc prog w T r d n P OK)(hh:A.handled=none)(hok:OK s.heap)(hn:n<=ab)
  (hQ:∀(h':Heap) (tk:Nat) (cv:AV),(∀b o,s.heap.get? b=some o->h'.get? b=some o)->ItemsOf P cv n->Q cv.toList {s with heap:=h',toks:=tk}):wpAny ‹17› A (collect (.ref r)) Q E s:=by
 obtain⟨l1,l2⟩:=K.there _ hok;unfold collect;refine ae (tw (iS F.entry_proto_collect ?_));rw[hU F.plain_proto_collect _];show wpAny _ A.in1 (newList [] >>= fun l=>again (.builtin "list.__iadd__" ⟨[l,.ref r],[]⟩)) _ _ s;refine ae (gX ?_);refine aE ⟨kA F.plain_list_iadd _,iS F.entry_list_iadd ?_⟩;rw[hU F.plain_list_iadd _];show wpAny _ A.in1 (xf.List.listExtendWith (.ref s.heap.objs.size) (.ref r) (.ref s.heap.objs.size)) _ _ _
 have Ys:∀s':ut,(∃(h':Heap) (tk:Nat) (cv:AV) (c:Nat),s'={s with heap:=h',toks:=tk}/\(∀b o,s.heap.get? b=some o->h'.get? b=some o)/\h'.get? s.heap.objs.size=some {cls:=.type "list",dict:=none,data:=.seq cv c,slots:=#[]}/\ItemsOf P cv n)->
   wpAny ‹17› A (do
    let o <- load s.heap.objs.size
    match o.data with
    |.seq xs _=>Hb xs.toList
    |_=>unsupported "internal:collect") Q E s':=by
  rintro s' ⟨h',tk,cv,c,rfl,kp,hS,Fs⟩;exact ae (wpAny_load hS (aE (hQ h' tk cv kp Fs)))
 refine fF (kdl_extend (s:={s with heap:=s.heap.push {cls:=.type "list",data:=.seq ([]:LU).toArray} }) (A:=A)
  (R:=fun r' s'=>r'=.ok (.ret (.ref s.heap.objs.size))/\∃(h':Heap) (tk:Nat) (cv:AV) (c:Nat),s'={s with heap:=h',toks:=tk}/\(∀b o,s.heap.get? b=some o->h'.get? b=some o)/\h'.get? s.heap.objs.size=some {cls:=.type "list",dict:=none,data:=.seq cv c,slots:=#[]}/\ItemsOf P cv n)
  K hh (K.keep _ _ hok λb _ o e=>am _ e) s.heap.objs.size (fN l1) (fN l2) _ 0 (bn _ rfl)
  (λh' tk cv c kp hS Fs=>⟨rfl,h',tk,cv,c,rfl,λb o e=>kp b o (d6 (cr e)) (am _ e),hS,Fs⟩) hn) (λhJ s' h=>?_) (λe s' h=>?_)
 ·cases hJ with
  |done f=>
   obtain⟨e,h⟩:=h;cases e;exact Ys s' h
  |again c'=>exact⟨h.1,mw h.2 λr MY hr=>by obtain⟨rfl,hr⟩:=hr;exact Ys MY hr⟩
 ·exact absurd h.1 (by simp)
theorem yU(K:KdlSrc prog w "dict" r d n P OK)(hh:A.handled=none)(hok:OK s.heap)(hn:n<=ab)
  (hQ:∀(h':Heap) (tk:Nat) (cv:AV),(∀b o,s.heap.get? b=some o->h'.get? b=some o)->ItemsOf P cv n->Q (.ref h'.objs.size) {s with heap:=h'.push {cls:=.type "tuple",data:=.seq cv},toks:=tk}):
  wpAny ‹17› A (call (.type "tuple") [.ref r]) Q E s:=by
 refine callType_codes (Q₁:=fun obj bq=>bq.TypeIs obj "tuple" /\ Q obj bq) F.called_tuple (F.typeCall_tuple_1 _) F.entry_object_init (tz ‹1› F.entry_tuple_new (yk (F.newCall_tuple_1 _) ?_)) fun obj bq ix=>?_
 ·have hT:∀ Nc,({ s with toks:=Nc }:ut).TypeIs (.ref r) "dict" := fun Nc=>K.type _ hok;obtain ⟨hp,g,dd,tk,os⟩:=s;have Ev:=sub_tuple_self;have hinit:=init_tuple_lookup;have hmh:=madeHere_tuple;have hT0:ut.TypeIs ⟨hp,g,dd,tk,os⟩ (.ref r) "dict" := hT tk
  wp_walk using ip hT0,Gv (A:=A.in1.in1) K hh hok hn
  intro h' Nc cv kp Fs;show wpAny _ _ (zg cv.toList.toArray >>= λv=>ret v) _ _ _;unfold zg;refine ae (gX ?_ (by show cv.toList.toArray.size<=ab;simp;rw[Fs.1];exact hn));have e:cv.toList.toArray=cv:=by simp
  rw[e];refine aE ⟨⟨_,bn _ rfl,rfl⟩,hQ h' Nc cv kp Fs⟩
 ·exact⟨ix.1,F.args_object_init_2 _ _,object_init_meets F.called_tuple.init.lookup F.called_tuple.made ‹11› prog w A.in1 _ bq ⟨ix.1,rfl,ix.2⟩⟩
end
end L2
end
section
namespace L2
open PySem PySem.Spec PyProof.Rows
variable {X:Cx}{H H':Hp}{v:V}{K:PySem.W.Frag}{a:ax}{xs:LV}{td te ty:TE}{ag:LO}{σ:St}{s:ut}{kvs:sg}{bi:mo}{e:Expr}
section
variable {X:Cx}
theorem Ks:∀(ks:sg) (ws:List (ga×ue)) (us:LU),KV ks ws->us.length=ws.length->(∀(j:Nat) (v:ue),us[j]?=some v->∃k x,ws[j]?=some (k,x)/\(cU X.prog X.w).is k v=true)->Vals (ks.map λkv=>kV kv.1) us:=by
 intro ks ws us rr
 induction rr generalizing us with
 |nil=>
  intro hl _;cases us with
  |nil=>exact .nil
  |cons _ _=>cases hl
 | @cons p w' ks ws r t ih=>
  intro hl hi;cases us with
  |nil=>cases hl
  |cons u us=>
   obtain⟨k,x,e1,e2⟩:=hi 0 u rfl;cases e1;exact .cons (by show RelV (kV p.1) u;rw[r.1];exact FN e2) (ih us (by simpa using hl) λj v e=>hi (j+1) v e)
inductive vf (xs:LV) (H:Hp) (Q:VK):Prop
 |mk (d kvs:_):xs=[.ref d]->Rd H d (.dK kvs)->(∀l,H l=none->Q (.ref l) (upd H l (.tup (kvs.map λkv=>kV kv.1))))->vf xs H Q
theorem En(hc:X.calm=true):iy X (.type "tuple") vf:=by
 intro ag s σ H xs us Q I r h;obtain⟨d,kvs,rfl,hd,q⟩:=h;obtain⟨u,rfl,ru⟩:=vals1 r;cases ru;have hh:X.A.handled=none:=I.ok.hd hc;obtain⟨hz,hs,vs,rv,od,es,ep,ho,r1,r2,r3⟩:=(show fV X.prog X.w H s.heap d (.dK kvs)from hd.ok I.hok);have hl:vs.length=kvs.length:=(cE rv).symm;refine yU (PySem.W.kdl_dict (knd:=cU X.prog X.w) (kvs:=vs) (ep:=ep) hs) hh ⟨_,_,ho,r1,r2,r3⟩ ‹21› λh' tk cv kp it=>?_;obtain⟨i1,i2⟩:=it;have rk:=Ks (X:=X) kvs vs cv.toList rv (by rw[ir];exact i1) λj v e=>i2 j v (by simpa using e);have I1:Inv X ag σ H {s with heap:=h',toks:=tk}:=I.kept (t':=tk) kp
 have I2:Inv X ag σ (upd H h'.objs.size (.tup (kvs.map fun kv=>kV kv.1))) {s with heap:=h'.push {cls:=.type "tuple",data:=.seq cv},toks:=tk}:=
  I1.laid (t':=tk) (λb o e=>am _ e) (af _) (show fV X.prog X.w _ _ _ (.tup (kvs.map λkv=>kV kv.1))from⟨⟨by rw[aa];exact hz,qR _ _⟩,cv.toList,rk,by rw[Array.toArray_toList];exact sq _ _⟩)
 exact⟨.ref h'.objs.size,_,I2,rfl,q _ (I1.hok.fresh (af _))⟩
end
abbrev Vr(g:TG)(tb:TS)(D:mT)(σ:L2.St)(J:It)(H1:Hp):Prop:=∃W:Nat->Nat->L2.St->Hp->Prop,(∃m,W 0 m σ H1)/\∀i m σ H,W i m σ H->
 (J.stop i H/\D.nx σ H)\/(J.go i H/\∃N:L2.St->Hp->Prop,(∀cp H',N cp H'->∃m',m'<m/\W (i+1) m' cp H')/\∀x H',J.yld i H x H'->g x σ H' λmd H2=>tb {D with nx:=N,ct:=N,bk:=D.nx} md H2)
theorem lQ.same{ys:LV}(h:lQ H v ys)(s:Same H H'):lQ H' v ys:=by
 obtain⟨p,e,h⟩:=h;exact⟨p,e,h.elim (λz=>.inl (s p _ z)) λz=>.inr (s p _ z)⟩
theorem BZ{g:TG}{tb:TS}{D:mT}{σ:L2.St}(hq:lQ H (.ref a) xs)(Pv:Nat->L2.St->Hp->Prop)(h0:Pv 0 σ H)
  (keep:∀i σ H',i<=xs.length->Pv i σ H'->∀o,H a=some o->H' a=some o)
  (hs:∀i x σ H,xs[i]?=some x->Pv i σ H->g x σ H λmd H2=>tb {D with nx:=Pv (i+1),ct:=Pv (i+1),bk:=D.nx} md H2) (hd:∀σ H,Pv xs.length σ H->D.nx σ H):
  (∃xs,SqT K H a xs/\Vr g tb D σ (MU K a) H)\/∃xs,SqL K H a xs/\Vr g tb D σ (MS K a) H:=by
 obtain⟨p,e,h⟩:=hq;cases e;rcases h with h|h
 ·exact .inr ⟨xs,XQ h,vW (K:=K) (a:=a) (xs:=xs) Pv h0 (λi σ H' hi p=>XQ (keep i σ H' hi p _ h)) hs hd⟩
 ·exact .inl ⟨xs,XR h,nq (K:=K) (a:=a) (xs:=xs) Pv h0 (λi σ H' hi p=>XR (keep i σ H' hi p _ h)) hs hd⟩
theorem Ep{own:Nat}{fr:List Nat}{g:TG}{tc:TT}{σ:L2.St}{Q:VK}(hq:lQ H (.ref a) xs)(Pv:ax->Nat->LV->Hp->Prop)
  (h0:∀D,H D=none->Pv D 0 [] (upd H D (.lst []))) (keep:∀D i ys H',H D=none->Pv D i ys H'->∀o,H a=some o->H' a=some o) (stop:∀D ys H',H D=none->Pv D xs.length ys H'->Q (.ref D) H')
  (go:∀ D i x ys H',H D=none->i < xs.length->xs[i]?=some x->Pv D i ys H'->∀ gi:L2.St,gi.length=own->g x (gi++DJ σ fr) H' fun md H2=>(∃ BI:L2.St,BI.length=own/\md=BI++DJ σ fr)/\
   tc md H2 λb H3=>if b=true then te md H3 λy H4=>ys.length<ab/\H4 D=some (.lst ys)/\∃m',m'<xs.length - i/\(m'=xs.length - (i+1)/\i+1<=xs.length/\Pv D (i+1) (ys++[y]) (upd H4 D (.lst (ys++[y]))))else∃m',m'<xs.length - i/\(m'=xs.length - (i+1)/\i+1<=xs.length/\Pv D (i+1) ys H3)):
  (∃xs,SqT K H a xs/\∀D,H D=none->Ac own fr g tc te σ Q (MU K a) D (upd H D (.lst [])))\/∃xs,SqL K H a xs/\∀D,H D=none->Ac own fr g tc te σ Q (MS K a) D (upd H D (.lst [])):=by
 obtain⟨p,e,h⟩:=hq;cases e;rcases h with h|h
 ·refine .inr ⟨xs,XQ h,λD hD=>bN (n:=xs.length) (Pv D) (h0 D hD) (λys H' p=>⟨⟨xs,XQ (keep D _ ys H' hD p _ h),af _⟩,stop D ys H' hD p⟩) λi ys H' hi p=>?_⟩;have ex:xs[i]?=some xs[i]:=ac hi;have hl:=XQ (K:=K) (keep D i ys H' hD p _ h);refine⟨⟨xs,xs[i],hl,ex⟩,?_⟩;rintro x H2 ⟨rfl,yy⟩ gi ho;exact go D i x ys H2 hD hi (yy xs hl) p gi ho
 ·refine .inl ⟨xs,XR h,λD hD=>bN (n:=xs.length) (Pv D) (h0 D hD) (λys H' p=>⟨⟨xs,XR (keep D _ ys H' hD p _ h),af _⟩,stop D ys H' hD p⟩) λi ys H' hi p=>?_⟩;have ex:xs[i]?=some xs[i]:=ac hi;have hl:=XR (K:=K) (keep D i ys H' hD p _ h);refine⟨⟨xs,xs[i],hl,ex⟩,?_⟩;rintro x H2 ⟨rfl,yy⟩ gi ho;exact go D i x ys H2 hD hi (yy xs hl) p gi ho
def xX(P:vy)(w:xm)(K:PySem.W.Frag)(a:ax)(kvs:sg):Prop:=(a== An)=false/\∃(o:Obj) (es:Array NB) (ep:Nat) (vs:List (ga×ue)),K.lookup a=some o/\o.ExactDict/\o.data=.dict es ep/\KeysOf (cU P w) es/\Pairs (cU P w) es.toList vs/\(vs.map (·.1)).Nodup/\KV kvs vs
section
variable {X:Cx}
theorem xX.at(I:Inv X ag σ H s)(h:xX X.prog X.w X.K a kvs):(a== An)=false/\(∃vs,KV kvs vs/\s.heap.DictOf (cU X.prog X.w) a vs)/\∀b,xn a=.ref b->∃ob,s.heap.get? b=some ob/\ob.dict=none:=by
 obtain⟨h1,o,es,ep,vs,hk,hx,hd,ko,pr,nd,kv⟩:=h;refine⟨h1,⟨vs,kv,o,es,ep,I.kIn a o hk,hx,hd,ko,pr,nd⟩,λb q=>?_⟩;cases q;exact⟨o,I.kIn a o hk,hx.2.1⟩
inductive Ot (P:vy) (w:xm) (K:PySem.W.Frag) (Q:VK) (x:V) (y:V) (H2:Hp):Prop
 |mk (a kvs k v:_):x=.ref a->xX P w K a kvs->y=kV k->eU kvs k=some v->Q v H2->Ot P w K Q x y H2
def V9(P:vy)(w:xm)(K:PySem.W.Frag)(td ty:TE):TE:=λσ H Q=>td σ H λx H1=>ty σ H1 λy H2=>Ot P w K Q x y H2
theorem yd{o i:Expr}(ho:PE X o td)(hi:PE X i ty)(hs:Ug i):PE X (.Subscript o i bi) (V9 X.prog X.w X.K td ty):=by
 intro ag s σ H Q I h;refine IV PySem.F.slot_dict_getitem.lookup hs (cb (ho ag s σ H _ I h) λu s1 ⟨x,H1,I1,rx,q1⟩=>cb (hi ag s1 σ H1 _ I1 q1) λiv s2 ⟨y,H2,I2,ry,a,kvs,k,v,ex,kd,ey,hv,q2⟩=>?_);subst ex ey;obtain rfl:u=xn a:=rx;obtain⟨_,⟨vs,so,dd⟩,_⟩:=xX.at I2 kd;obtain⟨w',hw,tF⟩:=su.some_of (v:=v) (o:=Xv vs k) (by rw[<- hv];exact so.val k);exact⟨dd.typeIs,wpAny_getItem_of (tD ry) dd.mapOf hw ⟨v,H2,I2.tok _,tF,q2⟩⟩
inductive JN (P:vy) (w:xm) (K:PySem.W.Frag) (ty:TE) (tx:TE) (σ:St) (Q:VK) (x:V) (H1:Hp):Prop
 |mk (a kvs:_):x=.ref a->xX P w K a kvs->(ty σ H1 λy H2=>tx σ H2 λz H3=>∃k,y=kV k/\Q ((eU kvs k).getD z) H3)->JN P w K ty tx σ Q x H1
def Us(P:vy)(w:xm)(K:PySem.W.Frag)(td ty tx:TE):TE:=λσ H Q=>td σ H λx H1=>JN P w K ty tx σ Q x H1
theorem Gs{o f:Expr}{sK ng:mo}{tx:TE}(ho:PE X o td)(he:PE X e ty)(hf:PE X f tx)(m:M2 X o "get" sK e f ng):PE X (.Call (.Attribute o "get" sK) [e,f] [] ng) (Us X.prog X.w X.K td ty tx):=by
 intro ag s σ H Q I h;refine wpAny_Call_method m.base m.few m.line PySem.F.plainAttrs_dict PySem.F.slot_dict_get PySem.F.type_dict_get (cb (ho ag s σ H _ I h) λu s1 ⟨x,H1,I1,rx,a,kvs,ex,kd,q1⟩=>?_);subst ex;obtain rfl:u=xn a:=rx;obtain⟨_,⟨vs,so,dd⟩,t2⟩:=xX.at I1 kd;refine⟨dd.typeIs,t2,?_⟩;rw[m.trees]
 refine Calls.callWith_builtin rfl (Calls.evalArgs_plain (VM (cb (he ag s1 σ H1 _ I1 q1) λiv s2 ⟨y,H2,I2,ry,q2⟩=>
  VM (cb (hf ag s2 σ H2 _ I2 q2) λfv s3 ⟨z,H3,I3,rz,k,ey,q3⟩=>Calls.spliced_nil ?_))))
 subst ey;obtain⟨hd,⟨vs,so,dd⟩,_⟩:=xX.at I3 kd;exact call_meetsIn PySem.F.slot_dict_get dd.typeIs PySem.F.entry_dict_get (PySem.F.args_dict_get_3 _ _ _) (meets_dict_get_default (cU X.prog X.w) a (tD ry) hd fv) ⟨_,dd.mapOf,⟨_,H3,I3.tok _,(so.val k).getD rz,q3⟩⟩
theorem rT:∀{ys:LS} {us:LU},Vals (ys.map V.str) us->StrsAre us ys
 |[],_,.nil=>.nil
 |y::ys,_,.cons ⟨t,e⟩ r=>by
  subst e;exact .cons y t (rT r)
inductive IL (K:PySem.W.Frag) (x:V) (vs:LV) (H:Hp) (Q:VK):Prop
 |mk (Pt:Str) (b:ax) (ys:LS):x=.str Pt->vs=[.ref b]->(SqL K H b (ys.map V.str)\/SqT K H b (ys.map V.str))->(ys.map (·.length)).sum+ys.length*Pt.length<=16777216->Q (.str (We Pt ys)) H->IL K x vs H Q
theorem oN:US X "str.join" (IL X.K):=by
 intro ag s σ H x vs v us Q I rx rv h;obtain⟨Pt,b,ys,rfl,rfl,hb,hok,q⟩:=h;obtain⟨t,rfl⟩:=rx;obtain⟨u,rfl,ru⟩:=rv.one;cases ru;rcases hb with hb|hb
 ·obtain⟨its,r,p1,hz⟩:=I.list hb;exact join_list p1.isList (by simpa using rT r) hok λt' k=>⟨.str _,H,I.tok _,⟨_,rfl⟩,q⟩
 ·obtain⟨its,r,p1,hz⟩:=I.tuple hb;exact join_tuple p1 (by simpa using rT r) hok λt' k=>⟨.str _,H,I.tok _,⟨_,rfl⟩,q⟩
theorem Ae(hK:X.K=K):US X "str.join" (IL K):=by subst hK;exact oN
end
end L2
end
section
namespace K26
open PySem L2
def top(i:Nat):gz:=PySem.Challenge.pw_warmrows_k26_programs_read_back.main.body.getD i (.Pass ⟨0,0,0,0⟩)
structure tT where
 iD:ax×uB
 oM:ax×uB
 pU:ax×uB
 lB:ax×uB
 kinds_of:ax×uB
 mC:ax×uB
 ig:ax×uB
 jx:ax×uB
 jA:ax×uB
 dH:ax×uB
 qZ:ax×uB
 j7:ax×uB
 kE:ax×uB
 mD:ax×uB
 Bt:ax×uB
 mH:ax×uB
 fW:ax×uB
 eV:ax×uB
 dJ:ax×uB
 gZ:ax×uB
 mJ:ax×uB
 lE:ax×uB
 fD:ax×uB
 dY:ax×uB
 dD:ax×uB
 cT:ax×uB
 bY:ax×uB
 gD:ax×uB
 gW:ax×uB
 j9:ax×uB
 jH:ax×uB
 j6:ax×uB
 jM:ax×uB
 kO:ax×uB
 cY:ax×uB
 dX:ax×uB
 eN:ax×uB
 jO:ax×uB
 vp:ax×uB
 bO:ax×uB
 mF:ax×uB
 kI:ax×uB
 bI:ax×uB
 mL:ax×uB
 jC:ax×uB
 ju:ax×uB
 iW:ax×uB
 kh:ax×uB
 gA:ax×uB
 rZ:ax×uB
 lN:ax×uB
 vq:ax×uB
 bT:ax×uB
 gV:ax×uB
 cM:ax×uB
 mG:ax×uB
 fu:ax×uB
 law:ax×uB
 cQ:ax
 cV:ax
 jY:ax
 ad:Str->Str->ax
structure Defs (K:PySem.W.Frag) (mg:MG) (t:tT):Prop where
 iD:hZ K mg "is_tuple_of" (top 7) ["thing","many"] t.iD.1 t.iD.2
 oM:hZ K mg "is_name" (top 8) ["thing"] t.oM.1 t.oM.2
 pU:hZ K mg "is_kind" (top 9) ["thing","kinds"] t.pU.1 t.pU.2
 lB:hZ K mg "are_kinds" (top 10) ["thing","kinds"] t.lB.1 t.lB.2
 kinds_of:hZ K mg "kinds_of" (top 11) ["rows"] t.kinds_of.1 t.kinds_of.2
 mC:hZ K mg "is_family" (top 12) ["thing"] t.mC.1 t.mC.2
 ig:hZ K mg "elders_first" (top 13) ["family"] t.ig.1 t.ig.2
 jx:hZ K mg "tell_orders" (top 23) ["family"] t.jx.1 t.jx.2
 jA:hZ K mg "has_quarrel" (top 24) ["told"] t.jA.1 t.jA.2
 dH:hZ K mg "quarrel_among" (top 25) ["kinds","told"] t.dH.1 t.dH.2
 qZ:hZ K mg "rows_by" (top 26) ["elders","told"] t.qZ.1 t.qZ.2
 j7:hZ K mg "merge_rows" (top 27) ["kind","rows"] t.j7.1 t.j7.2
 kE:hZ K mg "first_free" (top 28) ["left"] t.kE.1 t.kE.2
 mD:hZ K mg "ring_among" (top 29) ["left"] t.mD.1 t.mD.2
 Bt:hZ K mg "hold_of" (top 30) ["name","left"] t.Bt.1 t.Bt.2
 mH:hZ K mg "family_of" (top 33) ["table"] t.mH.1 t.mH.2
 fW:hZ K mg "are_few_names" (top 34) ["thing"] t.fW.1 t.fW.2
 eV:hZ K mg "are_kind_rows" (top 37) ["thing"] t.eV.1 t.eV.2
 dJ:hZ K mg "stand_elders_ahead" (top 38) ["family"] t.dJ.1 t.dJ.2
 gZ:hZ K mg "show_program" (top 42) ["program"] t.gZ.1 t.gZ.2
 mJ:hZ K mg "show_kind" (top 43) ["row"] t.mJ.1 t.mJ.2
 lE:hZ K mg "show_body" (top 44) ["first","block"] t.lE.1 t.lE.2
 fD:hZ K mg "show_block" (top 45) ["block"] t.fD.1 t.fD.2
 dY:hZ K mg "show_statement" (top 46) ["statement"] t.dY.1 t.dY.2
 dD:hZ K mg "show_part" (top 47) ["form","part"] t.dD.1 t.dD.2
 cT:hZ K mg "show_parts" (top 48) ["forms","parts"] t.cT.1 t.cT.2
 bY:hZ K mg "show_expression" (top 49) ["expression"] t.bY.1 t.bY.2
 gD:hZ K mg "is_number_word" (top 51) ["word"] t.gD.1 t.gD.2
 gW:hZ K mg "read_program" (top 52) ["text"] t.gW.1 t.gW.2
 j9:hZ K mg "read_kinds" (top 53) ["reader"] t.j9.1 t.j9.2
 jH:hZ K mg "read_kind" (top 54) ["reader"] t.jH.1 t.jH.2
 j6:hZ K mg "read_deeds" (top 55) ["reader"] t.j6.1 t.j6.2
 jM:hZ K mg "read_deed" (top 56) ["reader"] t.jM.1 t.jM.2
 kO:hZ K mg "read_body" (top 57) ["reader","params"] t.kO.1 t.kO.2
 cY:hZ K mg "read_block" (top 58) ["reader","blocks"] t.cY.1 t.cY.2
 dX:hZ K mg "read_statement" (top 59) ["reader","blocks"] t.dX.1 t.dX.2
 eN:hZ K mg "read_part" (top 60) ["reader","form","within"] t.eN.1 t.eN.2
 jO:hZ K mg "read_args" (top 61) ["reader","within"] t.jO.1 t.jO.2
 vp:hZ K mg "read_x" (top 62) ["reader"] t.vp.1 t.vp.2
 bO:hZ K mg "read_expression" (top 63) ["reader","within"] t.bO.1 t.bO.2
 mF:hZ K mg "_law_cell" (top 65) ["_law_script","_law_k"] t.mF.1 t.mF.2
 kI:hZ K mg "_law_purse" (top 66) ["_law_cell_here"] t.kI.1 t.kI.2
 bI:hZ K mg "_law_take" (top 67) ["_law_purse_here","_law_many"] t.bI.1 t.bI.2
 mL:hZ K mg "_law_word" (top 68) ["_law_purse_here","_law_used"] t.mL.1 t.mL.2
 jC:hZ K mg "_law_words" (top 69) ["_law_purse_here","_law_many","_law_used"] t.jC.1 t.jC.2
 ju:hZ K mg "_law_merge" (top 70) ["_law_kind","_law_rows"] t.ju.1 t.ju.2
 iW:hZ K mg "_law_some" (top 71) ["_law_purse_here","_law_menu","_law_most"] t.iW.1 t.iW.2
 kh:hZ K mg "_law_kinds" (top 72) ["_law_purse_here","_law_many","_law_used","_law_fields"] t.kh.1 t.kh.2
 gA:hZ K mg "_law_e" (top 73) ["_law_purse_here","_law_deep","_law_tools"] t.gA.1 t.gA.2
 rZ:hZ K mg "_law_s" (top 74) ["_law_purse_here","_law_deep","_law_room","_law_tools"] t.rZ.1 t.rZ.2
 lN:hZ K mg "_law_b" (top 75) ["_law_purse_here","_law_deep","_law_room","_law_tools"] t.lN.1 t.lN.2
 vq:hZ K mg "_law_p" (top 76) ["_law_purse_here"] t.vq.1 t.vq.2
 bT:hZ K mg "_law_e_text" (top 77) ["_law_part"] t.bT.1 t.bT.2
 gV:hZ K mg "_law_s_rows" (top 78) ["_law_part"] t.gV.1 t.gV.2
 cM:hZ K mg "_law_b_rows" (top 79) ["_law_block"] t.cM.1 t.cM.2
 mG:hZ K mg "_law_text" (top 80) ["_law_program"] t.mG.1 t.mG.2
 fu:hZ K mg "_law_same" (top 81) ["_law_told","_law_due"] t.fu.1 t.fu.2
 law:hZ K mg "law" (top 82) ["_law_script"] t.law.1 t.law.2
 Wd:mg "abs" =none
 sY:mg "all" =none
 R9:mg "any" =none
 S7:mg "bool" =none
 Uj:mg "dict" =none
 Ey:mg "enumerate" =none
 zV:mg "int" =none
 cH:mg "isinstance" =none
 cW:mg "len" =none
 lO:mg "list" =none
 VF:mg "max" =none
 Vq:mg "min" =none
 ni:mg "range" =none
 M5:mg "set" =none
 pQ:mg "str" =none
 dB:mg "tuple" =none
 Oa:mg "zip" =none
noncomputable def exprs:List (Str×LS):=[("me",[]),("name",["x"]),("new",["kind"]),("get",["e","name"]),("ask",["e","name","args"]),("up",["name","args"]),("plus",["e","e"]),("minus",["e","e"]),("less",["e","e"]),("alike",["e","e"]),("or",["e","e"])]
noncomputable def stats:List (Str×LS):=[("let",["x","e"]),("put",["e","name","e"]),("drop",["e","name"]),("tell",["e"]),("do",["e"]),("give",["e"]),("throw",["e"]),("become",["e","kind"]),("if",["e","block","block"]),("while",["e","block"]),("repeat",["e","block"]),("try",["block","x","block"]),("turn",["kind","name","kind","name"]),("strip",["kind","name"]),("elders",["kind","elders"])]
noncomputable def mj:List (Str×LS):=[("if",["else","end"]),("while",["end"]),("repeat",["end"]),("try",["catch","end"])]
structure Yt (P:vy) (w:xm) (K:PySem.W.Frag) (c:ax) (ad:Str->ax) (tb:List (Str×LS)):Prop where
 d:xX P w K c (tb.map λp=>(.inr p.1,V.ref (ad p.1)))
 s:∀p∈tb,∀H:Hp,SqT K H (ad p.1) (p.2.map V.str)
structure BN (P:vy) (w:xm) (K:PySem.W.Frag) (mg:MG) (t:tT):Prop where
 qg:mg "EXPRESSIONS" =some (.ref t.cQ)
 cZ:Yt P w K t.cQ (t.ad "e") exprs
 rE:mg "STATEMENTS" =some (.ref t.cV)
 dR:Yt P w K t.cV (t.ad "s") stats
 Gr:mg "JOINTS" =some (.ref t.jY)
 qK:Yt P w K t.jY (t.ad "j") mj
theorem zf:aZ ["thing","many"] ["thing","many"] (aJ (top 7)):=‹0›
theorem Hg:aZ ["thing"] ["thing"] (aJ (top 8)):=‹0›
theorem Ii:aZ ["thing","kinds"] ["thing","kinds"] (aJ (top 9)):=‹0›
theorem Dy:aZ ["thing","kinds"] ["thing","kinds"] (aJ (top 10)):=‹0›
theorem Gf:aZ ["rows"] ["rows"] (aJ (top 11)):=‹0›
theorem vL:aZ ["thing","kinds"] ["thing"] (aJ (top 12)):=‹0›
theorem fJ:aZ ["family","placed","waiting","ready","kind"] ["family"] (aJ (top 13)):=‹0›
theorem jB:aZ ["family","elders_of","told","kind","quarrel"] ["family"] (aJ (top 23)):=‹0›
theorem za:aZ ["told"] ["told"] (aJ (top 24)):=‹0›
theorem jL:aZ ["kinds","told","kind"] ["kinds","told"] (aJ (top 25)):=‹0›
theorem HJ:aZ ["elders","told"] ["elders","told"] (aJ (top 26)):=‹0›
theorem jW:aZ ["kind","rows","order","left","first"] ["kind","rows"] (aJ (top 27)):=‹0›
theorem jV:aZ ["left","held","row","name"] ["left"] (aJ (top 28)):=‹0›
theorem CV:aZ ["table"] ["table"] (aJ (top 33)):=‹0›
theorem wN:aZ ["thing"] ["thing"] (aJ (top 34)):=‹0›
theorem qY:aZ ["thing","family"] ["thing"] (aJ (top 37)):=‹0›
theorem gO:aZ ["family","ahead","kind","elders"] ["family"] (aJ (top 38)):=‹0›
theorem dI:aZ ["program","kinds","deeds","run","rows","kind","deed","params","block"] ["program"] (aJ (top 42)):=‹0›
theorem oR:aZ ["row","kind","elders","fields"] ["row"] (aJ (top 43)):=‹0›
theorem Bu:aZ ["first","block"] ["first","block"] (aJ (top 44)):=‹0›
theorem qe:aZ ["block","rows","statement"] ["block"] (aJ (top 45)):=‹0›
theorem fj:aZ ["statement","word","rows","joints","form","part"] ["statement"] (aJ (top 46)):=‹0›
theorem wj:aZ ["form","part"] ["form","part"] (aJ (top 47)):=‹0›
theorem fU:aZ ["forms","parts","words","form","part"] ["forms","parts"] (aJ (top 48)):=‹0›
theorem vA:aZ ["expression"] ["expression"] (aJ (top 49)):=‹0›
theorem vX:aZ ["word"] ["word"] (aJ (top 51)):=‹0›
theorem iT:aZ ["text","reader","kinds","deeds","run"] ["text"] (aJ (top 52)):=‹0›
theorem qj:aZ ["reader","rows"] ["reader"] (aJ (top 53)):=‹0›
theorem nY:aZ ["reader","kind","many","words"] ["reader"] (aJ (top 54)):=‹0›
theorem iZ:aZ ["reader","deeds","kind","deed","params"] ["reader"] (aJ (top 55)):=‹0›
theorem oG:aZ ["reader","kind","deed","params"] ["reader"] (aJ (top 56)):=‹0›
theorem vY:aZ ["reader","params","block"] ["reader","params"] (aJ (top 57)):=‹0›
theorem qy:aZ ["reader","blocks","statements"] ["reader","blocks"] (aJ (top 58)):=‹0›
theorem gY:aZ ["reader","blocks","word","joints","parts","form"] ["reader","blocks"] (aJ (top 59)):=‹0›
theorem rG:aZ ["reader","form","within","kind","elders"] ["reader","form","within"] (aJ (top 60)):=‹0›
theorem wu:aZ ["reader","within","many"] ["reader","within"] (aJ (top 61)):=‹0›
theorem Az:aZ ["reader","name"] ["reader"] (aJ (top 62)):=‹0›
theorem jZ:aZ ["reader","within","word"] ["reader","within"] (aJ (top 63)):=‹0›
theorem oO:aZ ["_law_script","_law_k","_law_state","_law_cell_here"] ["_law_script","_law_k"] (aJ (top 65)):=‹0›
theorem qF:aZ ["_law_cell_here","_law_digits"] ["_law_cell_here"] (aJ (top 66)):=‹0›
theorem rM:aZ ["_law_purse_here","_law_many","_law_state","_law_taken"] ["_law_purse_here","_law_many"] (aJ (top 67)):=‹0›
theorem iQ:aZ ["_law_purse_here","_law_used","_law_menu","_law_word_here","_law_k","_law_first"] ["_law_purse_here","_law_used"] (aJ (top 68)):=‹0›
theorem qC:aZ ["_law_purse_here","_law_many","_law_used","_law_words_here","_law_k"] ["_law_purse_here","_law_many","_law_used"] (aJ (top 69)):=‹0›
theorem jd:aZ ["_law_kind","_law_rows","_law_order","_law_good"] ["_law_kind","_law_rows"] (aJ (top 70)):=‹0›
theorem ou:aZ ["_law_purse_here","_law_menu","_law_most","_law_some_here","_law_k","_law_one"] ["_law_purse_here","_law_menu","_law_most"] (aJ (top 71)):=‹0›
theorem dG:aZ ["_law_purse_here","_law_many","_law_used","_law_fields","_law_names","_law_kinds_here","_law_orders","_law_k","_law_kind","_law_elders","_law_order","_law_turn"] ["_law_purse_here","_law_many","_law_used","_law_fields"] (aJ (top 72)):=‹0›
theorem jc:aZ ["_law_purse_here","_law_deep","_law_tools","_law_kinds_here","_law_words_here","_law_pick","_law_word_here","_law_number","_law_kind","_law_args","_law_one"] ["_law_purse_here","_law_deep","_law_tools"] (aJ (top 73)):=‹0›
theorem gU:aZ ["_law_purse_here","_law_deep","_law_room","_law_tools","_law_kinds_here","_law_words_here","_law_pick","_law_value","_law_word_here","_law_one","_law_two","_law_kind","_law_other","_law_more","_law_second"] ["_law_purse_here","_law_deep","_law_room","_law_tools"] (aJ (top 74)):=‹0›
theorem wK:aZ ["_law_purse_here","_law_deep","_law_room","_law_tools","_law_block","_law_k"] ["_law_purse_here","_law_deep","_law_room","_law_tools"] (aJ (top 75)):=‹0›
theorem jK:aZ ["_law_purse_here","_law_great","_law_words_here","_law_kinds_here","_law_tools","_law_deeds","_law_keys","_law_k","_law_key","_law_block"] ["_law_purse_here"] (aJ (top 76)):=‹0›
theorem tG:aZ ["_law_part","_law_args"] ["_law_part"] (aJ (top 77)):=‹0›
theorem pI:aZ ["_law_part","_law_word_here","_law_first"] ["_law_part"] (aJ (top 78)):=‹0›
theorem lH:aZ ["_law_block","_law_rows","_law_part"] ["_law_block"] (aJ (top 79)):=‹0›
theorem oE:aZ ["_law_program","_law_rows","_law_row"] ["_law_program"] (aJ (top 80)):=‹0›
theorem vV:aZ ["_law_told","_law_due"] ["_law_told","_law_due"] (aJ (top 81)):=‹0›
theorem zJ:aZ ["_law_script","_law_k","_law_program","_law_text_here","_law_told"] ["_law_script"] (aJ (top 82)):=‹0›
end K26
end
section
namespace L2
open PySem PyProof.Rows
variable {ah:LL}{H H':Hp}{vs:LV}{D:ax}{o:HO}{i:Nat}
noncomputable def eY(ah:LL)(x:Str):Bool:=ah.any λo=>decide (x∈o.drop 1)
noncomputable def freeOf(ah:LL):LS->LS
 |[]=>[]
 |x::_=>if eY ah x=true then[]else[x]
noncomputable def frees(ah:LL):LS:=ah.flatMap (freeOf ah)
noncomputable def c7(x:Str)(r:LS):LS:=r.filter λy=>decide (y≠x)
noncomputable def bP(ah:LL):LL:=ah.filter λr=>!r.isEmpty
inductive Mg:LL->Option LS->Prop where
 |nil:Mg [] (some [])
 |stuck {ah:LL}:ah≠[]->frees ah=[]->Mg ah none
 |step {ah:LL} {x:Str} {ba:LS} {r:Option LS}:frees ah=x::ba->Mg (bP (ah.map (c7 x))) r->Mg ah (r.map (x::·))
theorem Mg.det{r:Option LS}(h:Mg ah r):∀{r':Option LS},Mg ah r'->r=r':=by
 induction h with
 |nil=>
  intro r' h';cases h' with
  |nil=>rfl
  |stuck h _=>exact absurd rfl h
  |step h _=>cases h
 |stuck h1 h2=>
  intro r' h';cases h' with
  |nil=>exact absurd rfl h1
  |stuck _ _=>rfl
  |step h _=>rw[h2]at h;cases h
 |step h1 _ ih=>
  intro r' h';cases h' with
  |nil=>cases h1
  |stuck _ h=>rw[h1]at h;cases h
  |step h hr=>
   rw[h1]at h;cases h;rw[ih hr]
noncomputable def lm(ah:LL):Nat:=(ah.map List.length).sum
theorem jE(r:LS)(ah:LL):lm (r::ah)=r.length+lm ah:=by
 unfold lm;rw[ci,sk]
theorem wA:∀(ah:LL),lm (bP ah)=lm ah
 |[]=>rfl
 |r::ah=>by
  unfold bP;rw[fm];have ih:=wA ah;unfold bP at ih;cases r with
  |nil=>
   rw[jE,<- ih];simp
  |cons y r=>simp only[pE,rX,kM];rw[jE,jE,ih]
theorem CT(x:Str)(r:LS):(c7 x r).length<=r.length:=eS _ _
theorem zj(x:Str):∀(ah:LL),lm (ah.map (c7 x))<=lm ah
 |[]=>af _
 |r::ah=>by
  rw[ci,jE,jE];have:=zj x ah;have:=CT x r;omega
theorem vh{x:Str}:∀{ah:LL},(∃r∈ah,x∈r)->lm (ah.map (c7 x))<lm ah
 |[],⟨_,h,_⟩=>nomatch h
 |r::ah,⟨q,hq,hx⟩=>by
  rw[ci,jE,jE];have h1:=zj x ah;have h2:=CT x r;rcases aT.mp hq with rfl|h
  ·have:(c7 x q).length<q.length:=by
    unfold c7;refine Nat.lt_of_le_of_ne (eS _ _) λe=>?_;have:=List.length_filter_eq_length_iff.mp e x hx;simp at this
   omega
  ·have:=vh ⟨q,h,hx⟩;omega
theorem uy{x:Str}(h:x∈frees ah):∃r∈ah,r.head?=some x:=by
 obtain⟨r,hr,hx⟩:=List.mem_flatMap.mp h;refine⟨r,hr,?_⟩;cases r with
 |nil=>cases hx
 |cons y r=>
  have hx:x∈(if eY ah y=true then[]else[y]):=hx
  by_cases hh:eY ah y=true
  ·rw[dL hh]at hx;cases hx
  ·rw[dC hh]at hx;rw[bg.mp hx];rfl
theorem yZ{r:LS}(h:r∈ah):r.length<=lm ah:=by
 induction ah with
 |nil=>cases h
 |cons q ah ih=>
  rw[jE];rcases aT.mp h with rfl|h
  ·omega
  ·have:=ih h;omega
theorem tE:∀(ah:LL),(bP ah).length<=lm ah
 |[]=>af _
 |r::ah=>by
  have ih:=tE ah;unfold bP at ih⊢;rw[fm,jE];cases r with
  |nil=>simpa using ih
  |cons y r=>simp only[pE,rX,kM,aI];omega
def oU(H:Hp)(vs:LV)(ah:LL):Prop:=Paired (λ(v:V) (r:LS)=>∃a,v=.ref a/\H a=some (.tup (r.map V.str))) vs ah
def VH(H:Hp)(vs:LV)(ah:LL):Prop:=Paired (λ(v:V) (r:LS)=>∃a,v=.ref a/\H a=some (.lst (r.map V.str))) vs ah
theorem oU.mono(h:oU H vs ah)(s:fH H H'):oU H' vs ah:=XM h λv r ⟨a,e,q⟩=>⟨a,e,s a _ q⟩
def nT(H:Hp)(D:ax)(vs:LV)(ah:LL):Prop:=Paired (λ(v:V) (r:LS)=>∃a,v=.ref a/\a≠D/\H a=some (.lst (r.map V.str))) vs ah
theorem nT.l(h:nT H D vs ah):VH H vs ah:=XM h λv r ⟨a,e,_,q⟩=>⟨a,e,q⟩
theorem nT.grow(h:nT H D vs ah)(s:Same H H'):nT (upd H' D o) D vs ah:=XM h λv r ⟨a,e,n,q⟩=>⟨a,e,n,by rw[aB n];exact s a _ q⟩
theorem nT.mono(h:nT H D vs ah)(s:Same H H'):nT H' D vs ah:=XM h λv r ⟨a,e,n,q⟩=>⟨a,e,n,s a _ q⟩
def sG(H:Hp)(D E:ax)(vs:LV)(ah:LL):Prop:=Paired (λ(v:V) (r:LS)=>∃a,v=.ref a/\a≠D/\a≠E/\H a=some (.lst (r.map V.str))) vs ah
theorem sG.x{E:ax}(h:sG H D E vs ah):nT H E vs ah:=XM h λv r ⟨a,e,_,n,q⟩=>⟨a,e,n,q⟩
theorem sG.grow{E:ax}(h:sG H D E vs ah)(s:Same H H'):sG (upd H' D o) D E vs ah:=XM h λv r ⟨a,e,n,n',q⟩=>⟨a,e,n,n',by rw[aB n];exact s a _ q⟩
theorem sG.mono{E:ax}(h:sG H D E vs ah)(s:Same H H'):sG H' D E vs ah:=XM h λv r ⟨a,e,n,n',q⟩=>⟨a,e,n,n',s a _ q⟩
theorem nT.get{H:Hp}{D:ax}{vs:LV}{ah:LL}(h:nT H D vs ah){i:Nat}(hi:i<vs.length):∃(a:ax) (hr:i<ah.length),vs[i]?=some (.ref a)/\a≠D/\H a=some (.lst (ah[i].map V.str)):=by
 have hr:i<ah.length:=by rw[<- cE h];exact hi
 obtain⟨a,e,n,q⟩:=mQ h i hi hr;exact⟨a,hr,by rw[ac hi,e],n,q⟩
theorem at0(y:Str)(r:LS):tS ((y::r).map V.str) 0=some (.str y):=aK (j:=0) rfl
theorem Fv(R:LL):∀(ah:LL),(ah.flatMap (freeOf R)).length<=ah.length
 |[]=>af _
 |r::ah=>by
  rw[pM,ai,aI];have:=Fv R ah
  have:(freeOf R r).length<=1:=by
   cases r with
   |nil=>exact ck _
   |cons y r=>
    show(if eY R y=true then[]else[y]).length<=1;split <;>simp
  omega
theorem iw{α β:Type}{F:α->β->Prop}{as:List α}{bs:List β}{a:α}{b:β}(h:Paired F as bs)(hy:F a b):Paired F (as++[a]) (bs++[b]):=by
 induction h with
 |nil=>exact .cons hy .nil
 |cons a _ ih=>exact .cons a ih
theorem oU.get{H:Hp}{vs:LV}{ah:LL}(h:oU H vs ah){i:Nat}(hi:i<vs.length):∃(a:ax) (hr:i<ah.length),vs[i]?=some (.ref a)/\H a=some (.tup (ah[i].map V.str)):=by
 have hr:i<ah.length:=by rw[<- cE h];exact hi
 obtain⟨a,e,q⟩:=mQ h i hi hr;exact⟨a,hr,by rw[ac hi,e],q⟩
theorem take_snoc{α:Type}{l:List α}(h:i<l.length):l.take (i+1)=l.take i++[l[i]]:=by
 rw[li,ac h];rfl
theorem uL(ah:LL)(r:LS):bP (ah++[r])=bP ah++(if r.isEmpty=true then[]else[r]):=by
 unfold bP;rw[iX];congr 1;cases r <;>rfl
theorem dh{σ:L2.St}{A B:Hp->Prop}(h:A H):TQ σ H (λb H3=>if b=true then A H3 else B H3):=by
 show(if true=true then A H else B H);rw[dL rfl];exact h
def Wb(H:Hp)(x:Str)(r:Option LS)(v:V):Prop:=match r with
 |none=>v=.non
 |some os=>∃q,v=.ref q/\H q=some (.tup ((x::os).map V.str))
theorem Rb(r:LS):mO (r.map V.str) (some 1) none=(r.drop 1).map V.str:=by
 unfold mO;rw[aa];have e1:HT.sIx r.length 0 (some 1)=min 1 r.length:=HT.yp r.length 0 1;have e2:HT.sIx r.length r.length none=r.length:=rfl;rw[e1,e2,<- List.map_drop,<- qi];congr 1;cases r with
 |nil=>rfl
 |cons y r=>
  have:min 1 (y::r).length=1:=by simp
  rw[this];exact ay (by simp)
end L2
end
section
namespace HT
open PySem PySem.Spec PyProof.Rows
variable {sl:ax}{items:Array ue}{vl vu:ue}{hi lo:Option Int}{Q:ue->ut->Prop}
section
variable {prog:vy}{w:xm}{A:ye}{E:ue->ut->Prop}{s:ut}
theorem uP{t:ax}(ht:IsTup s.heap t items)(hs:s.heap.IsSliceOf sl vl vu .none)(pl:Xr vl lo)(pu:Xr vu hi)
  (hw:sIx items.size 0 lo=0/\sIx items.size items.size hi=items.size) (h:Q (.ref t) s):wpAny ‹17› A (Th (.ref t) (.ref sl)) Q E s:=by
 obtain⟨os,GI,X9,Ya⟩:=id hs;have Yb:s.TypeIs (.ref sl) "slice":= ⟨os,GI,X9⟩;unfold Th
 try with_reducible refine ie ?_
 first|refine ae (aE ?_)|skip
 refine ae (wpAny_sequenceKey ht.typeIs ‹11› ?_)
 refine ae (gm (name:=Str.ofString "__getitem__") ht.typeIs gL
  (jb gL ht.typeIs entry_tuple_getitem ?_ (args_tuple_getitem _ _)))
 show wpAny _ _ (xf.Tuple.tupleItemsOf (.ref t) >>= _) _ _ s;refine ae (tupleItemsOf_ ht ?_);refine ae (ip Yb ?_);rw[dL ‹11›];refine ae (qT hs pl pu ?_)
 have hyes:(((sIx items.size 0 lo:Nat):Int)== 0 && (1:Int)== 1 && (sIx items.size items.size hi - sIx items.size 0 lo)== items.size)=true:=by
  rw[hw.1,hw.2];simp
 show wpAny _ _ (if(((sIx items.size 0 lo:Nat):Int)== 0 && (1:Int)== 1 && (sIx items.size items.size hi - sIx items.size 0 lo)== items.size)=true then _ else _) _ _ s;rw[dL hyes];unfold xf.Tuple.tupleIsExact;refine ae (ae (ip ht.typeIs (aE ?_)));rw[dL ‹11›];refine ae (jS ?_);exact aE ⟨_,rfl,aE h⟩
end
end HT
namespace L2
open PySem PySem.Spec PyProof.Rows
variable {a i1 i2 it t1 t2 z:ax}{ys:AV}{b:ue}{P prog:vy}{w:xm}{K:PySem.W.Frag}{no:List Expr}{n x1:Nat}{bi lf:mo}{ta:TA}{xs:LV}{σ:St}{H:Hp}{h h':Heap}{A:ye}{E Q:ES}{s:ut}{its:LU}{ns:LS}{tg:Expr}{J:It}{fp:LA}{tn:Nat->Heap->Prop}{tl:TE}
section
variable {X:Cx}
inductive Ux (K:PySem.W.Frag) (x:V) (lo:Option Int) (hi:Option Int) (H:Hp) (Q:VK):Prop
 |mk (a xs:_):x=.ref a->H a=some (.tup xs)->(∀p H',H' p=some (.tup (mO xs lo hi))->Same H H'->Q (.ref p) H')->Ux K x lo hi H Q
theorem yh:SlR X (Ux X.K):=by
 intro ag s σ H x v vl vu lo hi sl Q I rx hs pl pu h;obtain⟨a,xs,rfl,hx,q⟩:=h
 by_cases hw:HT.sIx xs.length 0 lo=0/\HT.sIx xs.length xs.length hi=xs.length
 ·cases rx;obtain ⟨its,r,ht,hz⟩:=I.tuple (XR (K:=X.K) hx);have eC:its.toArray.size=xs.length:=by rw [bz]; exact r.length.symm
  refine⟨"tuple",_,gL.lookup,ht.typeIs,?_⟩;refine HT.uP ht hs pl pu (by rw[eC];exact hw) ?_
  have e:mO xs lo hi=xs:=by
   unfold mO;rw[hw.1,hw.2];simp
  exact⟨.ref a,H,I,rfl,q a H (by rw[e];exact hx) (XS H)⟩
 ·exact Nj ag s σ H (.ref a) v vl vu lo hi sl Q I rx hs pl pu ⟨a,xs,rfl,XR hx,hw,λp hp=>q p _ ak (X6 hp)⟩
inductive RM (x:V) (y:V) (H:Hp) (Q:VK):Prop
 |mk (a b xs ys:_):x=.ref a->y=.ref b->H a=some (.tup xs)->H b=some (.tup ys)->xs≠[]->xs.length+ys.length<=ab->(∀p H',H' p=some (.tup (xs++ys))->Same H H'->Q (.ref p) H')->RM x y H Q
theorem Qo:OpR X (Ex .Add) RM:=by
 intro ag s σ H x y v u Q I rx ry h;obtain⟨a,b,xs,ys,rfl,rfl,ha,hb,wn,hz,q⟩:=h;exact Jg ag s σ H (.ref a) (.ref b) v u Q I rx ry ⟨a,b,xs,ys,rfl,rfl,XR ha,XR hb,wn,hz,λe=>q a H (by rw[e,dm];exact ha) (XS H),λ_ p hp=>q p _ ak (X6 hp)⟩
end
section
variable {prog:vy}{w:xm}{A:ye}{E:ES}{s:ut}
theorem Lf{TI TO:ax}{k:Nat}{xs:AV}{x a:ue}{Q:Fin->ut->Prop}(hh:A.handled=none)(D:ZA z TI TO i1 i2 t1 t2)
  (hz:Hn s.heap z TI TO .none) (vE:De s.heap TI (.ref i1) (.ref i2)) (xp:De s.heap TO a b) (h1:s.heap.IsTupleIter i1 t1 k) (h2:s.heap.IsTupleIter i2 t2 k) (fq:s.heap.IsTuple t1 xs) (cx:s.heap.IsTuple t2 ys) (hx:xs[k]?=some x) (hy:ys[k]?=none)
  (hE:∀h' e,(∀c o,c≠z->c≠TO->c≠i1->c≠i2->s.heap.get? c=some o->h'.get? c=some o)->(∃o,h'.get? e=some o/\o.cls=.type "StopIteration")->E (.ref e) {s with heap:=h'}):
  wpAny ‹17› A (xf.«zip.__next__» ⟨[.ref z],[]⟩) Q E s:=by
 show wpAny _ _ (Xl (.ref z) 2 >>= _) _ _ _;refine ae (eT hz rfl (x:=.bool false) rfl ?_);show wpAny _ _ (Xl (.ref z) 3 >>= _) _ _ _;refine ae (eT hz rfl (x:=.ref TI) rfl (ae (gI vE rfl ?_)));show wpAny _ _ (xj (.ref z) >>= _) _ _ _;unfold xj;refine ae (ae (eT hz rfl (x:=.none) rfl (aE ?_)));simp only[kM];refine ae (jS (ae (eT hz rfl (x:=.ref TO) rfl (ae (fS hz (by simp) λg1 z1 q1=>?_)))))
 replace z1:Hn g1 z TI TO .ellipsis:=z1
 simp only[mE,n4,lS,mn];refine ae (ae (ae (kU ?_)));show wpAny _ _ (xx (.ref i1) >>= _) _ _ _;refine ae (sy (h1.extBut q1.extBut D.a3) (fq.extBut q1.extBut D.b2) hx λg2 j2 q2=>aE ?_);have p2:De g2 TO a b:=q2.extBut _ _ D.a8 (q1.extBut _ _ D.a2 xp);refine ae (gI p2 rfl (ae (kP p2 λg3 p3 q3=>ae (qk (aE ?_)))));refine ae (ae (kU ?_));show wpAny _ _ (xx (.ref i2) >>= _) _ _ _;refine ae (Ad hh (((h2.extBut q1.extBut D.a4).extBut q2.extBut D.b1.symm).extBut q3.extBut D.a9.symm) (((cx.extBut q1.extBut D.b6).extBut q2.extBut D.b8).extBut q3.extBut D.b7) hy λg4 e q4 ⟨oe,e1,e2⟩=>?_);have z4:Hn g4 z TI TO .ellipsis:=q4 _ _ D.a4.symm (q3.extBut _ _ D.a2.symm (q2.extBut _ _ D.a3.symm z1));have Yl:e≠z:=λx=>by subst x;rw[z4]at e1;cases e1;simp at e2
 exact fS z4 (by simp) λg5 _ q5=>hE g5 e (λc o c1 c2 c3 c4 x=>q5.extBut _ _ c1 (q4 _ _ c4 (q3.extBut _ _ c2 (q2.extBut _ _ c3 (q1.extBut _ _ c1 x))))) ⟨oe,q5.extBut _ _ Yl e1,e2⟩
end
def J9(K:PySem.W.Frag)(t1 t2:ax):It:=
 ⟨λi H=>∃xs ys x y,SqT K H t1 xs/\SqT K H t2 ys/\xs[i]?=some x/\ys[i]?=some y,λi H v H'=>∃p,H p=none/\v=.ref p/\∀xs ys x y,SqT K H t1 xs->SqT K H t2 ys->xs[i]?=some x->ys[i]?=some y->H'=upd H p (.tup [x,y]),
  λi H=>∃xs ys,SqT K H t1 xs/\SqT K H t2 ys/\(xs.length<=i\/ys.length<=i)⟩
theorem Lg{TI TO:ax}(D:ZA z TI TO i1 i2 t1 t2):wf P w K (.Tuple no x1 lf) (J9 K t1 t2) [z,TI,TO,i1,i2] z
  (λi h=>Hn h z TI TO .none/\De h TI (.ref i1) (.ref i2)/\(∃a b,De h TO a b)/\h.IsTupleIter i1 t1 i/\h.IsTupleIter i2 t2 i)where
 mem:=(qM (P:=P) (w:=w) (K:=K) (no:=no) (x1:=x1) (lf:=lf) D).mem
 obj:=(qM (P:=P) (w:=w) (K:=K) (no:=no) (x1:=x1) (lf:=lf) D).obj
 keep:=(qM (P:=P) (w:=w) (K:=K) (no:=no) (x1:=x1) (lf:=lf) D).keep
 item:=(qM (P:=P) (w:=w) (K:=K) (no:=no) (x1:=x1) (lf:=lf) D).item
 done:=by
  intro X hP hw hK hc i ag s σ H E I hf st hg;subst hP hw hK;obtain⟨xs,ys,q1,q2,e1⟩:=hg
  by_cases hx:xs.length<=i
  ·exact(qM (P:=X.prog) (w:=X.w) (K:=X.K) (no:=no) (x1:=x1) (lf:=lf) D).done X rfl rfl rfl hc i ag s σ H E I hf st ⟨xs,q1,hx⟩
  ·have hy:=e1.resolve_left hx;obtain ⟨its,rv,p,pi⟩:=I.tuple q1;obtain ⟨EV,tF,p',Ym⟩:=I.tuple q2;have hl:=rv.length;have cx:=tF.length;have hxi:i < xs.length:=by omega
   obtain⟨u,hu,ru⟩:=rv.get (ac hxi);obtain⟨hz,vE,⟨a,c,xp⟩,h1,h2⟩:=st;have hT:s.TypeIs (.ref z) "zip":= ⟨_,hz,rfl⟩;unfold M3
   refine ae (qh (gm (name:=Str.ofString "__next__") hT iP (jb iP hT mI
    (Lf (I.ok.hd hc) D hz vE xp h1 h2 (show s.heap.IsTuple t1 its.toArray from p) (show s.heap.IsTuple t2 EV.toArray from p') (x:=u) (by simpa using hu) (by simp;omega) λh' e kk ⟨o,ho,GN⟩=>?_) (mf _))))
   refine ae (Xm (T:= "StopIteration") (b:=true) ⟨o,ho,GN⟩ tp (aE ⟨rfl,I.xZ (t':=s.toks) hf fun b u hb q=>?_⟩));simp only[aT,dS,iN,sr]at hb;exact kk b u hb.1 hb.2.2.1 hb.2.2.2.1 hb.2.2.2.2 q
 self:=(qM (P:=P) (w:=w) (K:=K) (no:=no) (x1:=x1) (lf:=lf) D).self
section
variable {X:Cx}
inductive NZ (K:PySem.W.Frag) (R:It->Hp->Prop) (vs:LV) (H1:Hp):Prop
 |mk (a b xs ys:_):vs=[.ref a,.ref b]->SqT K H1 a xs->SqT K H1 b ys->R (J9 K a b) H1->NZ K R vs H1
def Wc(K:PySem.W.Frag)(ta:TA):TI:=λσ H R=>ta σ H λvs H1=>NZ K R vs H1
theorem Jp{a b:Expr}{p:mo}(hg:Gl X "zip")(hm:X.mg "zip" =none)(ha:PA X [a,b] ta)
  (he:xF [a,b] X.env=(false,cq a X.env)::xF [b] X.env:=by rfl) (Bn:(JP bi (xF [b] X.env)).any (·.1)=false:=by rfl):PI X (.Tuple no x1 lf) (.Call (.Name "zip" p) [a,b] [] bi) (Wc X.K ta):=by
 intro ag s σ H R I h;refine km (vB I hg hm boot_zip ?_);refine jI (cb (ha bi ag s σ H _ I h) λus s1 ⟨vs,H1,I1,r1,t1,t2,xs,ys,e,q1,q2,q⟩=>?_) he Bn;subst e;obtain⟨u,w',rfl,ru,tF⟩:=vals2 r1;cases ru;cases tF;obtain⟨its,rv,p1,hz1⟩:=I1.tuple q1;obtain⟨EV,No,p2,hz2⟩:=I1.tuple q2;refine Rn (show s1.heap.IsTuple t1 its.toArray from p1) (show s1.heap.IsTuple t2 EV.toArray from p2) ?_;have b1:(Yo s1.heap t1).objs.size=s1.heap.objs.size+1:=fk ..;have b2:(U1 s1.heap t1 t2).objs.size=s1.heap.objs.size+2:=by rw[fk,b1]
 have b3:(U2 s1.heap t1 t2).objs.size=s1.heap.objs.size+3:=by rw[fk,b2]
 have b4:(Ps s1.heap t1 t2).objs.size=s1.heap.objs.size+4:=by rw[fk,b3]
 have c1:t1<s1.heap.objs.size:=p1.lt;have c2:t2<s1.heap.objs.size:=p2.lt;have hz:Hn (zq5 s1.heap t1 t2) (Ps s1.heap t1 t2).objs.size (U1 s1.heap t1 t2).objs.size (U2 s1.heap t1 t2).objs.size .none:=bn _ rfl
 have DD:ZA (Ps s1.heap t1 t2).objs.size (U1 s1.heap t1 t2).objs.size (U2 s1.heap t1 t2).objs.size s1.heap.objs.size (Yo s1.heap t1).objs.size t1 t2:=by
  rw[b4,b2,b3,b1];exact R4 c1 c2
 refine qc hz ?_;have I2:Inv X ag σ H1 {s1 with heap:=zq5 s1.heap t1 t2}:=I1.kept (t':=s1.toks) λb o e=>am _ (am _ (am _ (am _ (am _ e))))
 refine⟨(Ps s1.heap t1 t2).objs.size,[(Ps s1.heap t1 t2).objs.size,(U1 s1.heap t1 t2).objs.size,(U2 s1.heap t1 t2).objs.size,s1.heap.objs.size,(Yo s1.heap t1).objs.size],_,J9 X.K t1 t2,H1,rfl,I2,
  Lg DD,⟨hz,?_,⟨.none,.none,?_⟩,?_,?_⟩,λb hb=>?_,q⟩
 ·exact am _ (am _ (bn _ rfl))
 ·exact am _ (bn _ rfl)
 ·exact⟨_,am _ (am _ (am _ (am _ (bn _ rfl)))),rfl,rfl⟩
 ·exact⟨_,am _ (am _ (am _ (bn _ rfl))),rfl,rfl⟩
 ·have Fn:s1.heap.objs.size<=b:=by
   rw[b4,b2,b3,b1]at hb;simp only[aT,dS,iN]at hb;rcases hb with h|h|h|h|h <;>rw[h] <;>first|exact af _|exact k9 _ _
  exact I1.qI Fn (I1.hok.fresh Fn)
end
theorem Gw{b:ax}{ys:LV}{g:TG}{tb:TS}{D:mT}(hn:n=min xs.length ys.length)(Pv:Nat->St->Hp->Prop)(h0:Pv 0 σ H)(hl:∀i σ H,i<=n->Pv i σ H->SqT K H a xs/\SqT K H b ys)
  (hs:∀i x y σ H p,xs[i]?=some x->ys[i]?=some y->Pv i σ H->H p=none->g (.ref p) σ (upd H p (.tup [x,y])) λmd H2=>tb {D with nx:=Pv (i+1),ct:=Pv (i+1),bk:=D.nx} md H2) (hd:∀σ H,Pv n σ H->D.nx σ H):
  ∃W:Nat->Nat->St->Hp->Prop,(∃m,W 0 m σ H)/\∀i m σ H,W i m σ H->
   ((J9 K a b).stop i H/\D.nx σ H)\/((J9 K a b).go i H/\∃N:St->Hp->Prop,(∀cp H',N cp H'->∃m',m'<m/\W (i+1) m' cp H')/\∀x H',(J9 K a b).yld i H x H'->g x σ H' λmd H2=>tb {D with nx:=N,ct:=N,bk:=D.nx} md H2):=by
 refine⟨λi m σ H=>m=n - i/\i<=n/\Pv i σ H,⟨n,by simp,ck _,h0⟩,?_⟩;rintro i m σ H ⟨rfl,hi,p⟩;obtain⟨q1,q2⟩:=hl i σ H hi p
 by_cases lc:i<n
 ·have hx:i < xs.length:=by omega
  have hy:i<ys.length:=by omega
  refine .inr ⟨⟨xs,ys,xs[i],ys[i],q1,q2,ac hx,ac hy⟩,Pv (i+1),λcp H' p'=>⟨n - (i+1),by omega,rfl,lc,p'⟩,λx H' y=>?_⟩;obtain⟨r,hr,rfl,y⟩:=y;have e:=y xs ys xs[i] ys[i] q1 q2 (ac hx) (ac hy);subst e;exact hs i xs[i] ys[i] σ _ r (ac hx) (ac hy) p hr
 ·have e:i=n:=by omega
  subst e;exact .inl ⟨⟨xs,ys,q1,q2,by omega⟩,hd σ H p⟩
section
variable {X:Cx}
inductive Sd (x:V) (y:V) (H:Hp) (Q:VK):Prop
 |mk (a b xs ys:_):x=.ref a->y=.ref b->H a=some (.tup xs)->H b=some (.tup ys)->xs.length+ys.length<=ab->(∀p H',H' p=some (.tup (xs++ys))->Same H H'->Q (.ref p) H')->Sd x y H Q
theorem QK:OpR X (Ex .Add) Sd:=by
 intro ag s σ H x y v u Q I rx ry h;obtain⟨a,b,xs,ys,rfl,rfl,ha,hb,hz,q⟩:=h;cases xs with
 |nil=>exact Et ag s σ H (.ref a) (.ref b) v u Q I rx ry ⟨a,b,ys,rfl,rfl,ha,hb,q b H hb (XS H)⟩
 |cons x0 xr=>exact Qo ag s σ H (.ref a) (.ref b) v u Q I rx ry ⟨a,b,x0::xr,ys,rfl,rfl,ha,hb,bc _ _,hz,q⟩
end
section
variable {X:Cx}
inductive Wo (x:V) (y:V) (H:Hp) (Q:VK):Prop
 |mk (a b:ax) (xs ys:LV) (ts us:List T):x=.ref a->y=.ref b->H a=some (.tup xs)->H b=some (.tup ys)->DpL H ts xs->DpL H us ys->(∀t∈ts,Lv 5 t)->Q (.bl (wo (ts=us))) H->Wo x y H Q
theorem Td(hu:X.A.units+10<ge):OpR X (yo .Eq) Wo:=by
 intro ag s σ H x y v u Q I rx ry h;obtain⟨a,b,xs,ys,ts,us,rfl,rfl,ha,hb,d1,d2,lv,q⟩:=h;cases rx;cases ry;obtain⟨its,r,p⟩:=rW I ha;obtain⟨fi,r2,p2⟩:=rW I hb;have l1:=r.length;have l2:=r2.length;have n1:=d1.length;have n2:=d2.length
 have y8:=SeqAt.RcAt.tuples (A:=X.A) (s:=s) (e:=λj=>wo (ts[j]?=us[j]?)) p p2 ‹21› (λj h1 h2=>by
  have h1':j<its.length:=by simpa using h1
  have IJ:j<fi.length:=by simpa using h2
  have j1:j<ts.length:=by omega
  have j2:j<us.length:=by omega
  obtain⟨v1,e1,dv1⟩:=d1.get (ac j1);obtain⟨v2,e2,Pw⟩:=d2.get (ac j2);obtain⟨w1,k1,m1⟩:=r.get e1;obtain⟨w2,k2,m2⟩:=r2.get e2
  have e3:its.toArray[j]=w1:=by
   have:its.toArray[j]?=some w1:=by simpa using k1
   rw[kH h1]at this;exact cS this
  have e4:fi.toArray[j]=w2:=by
   have:fi.toArray[j]?=some w2:=by simpa using k2
   rw[kH h2]at this;exact cS this
  rw[e3,e4];have:=Pr I 5 X.A.in1 ts[j] us[j] v1 v2 w1 w2 (lv _ (bX j1)) (by show X.A.units+1+5<ge;omega) dv1 Pw m1 m2;rw[ac j1,ac j2];have e5:wo (some ts[j]=some us[j])=wo (ts[j]=us[j]):=GC ⟨λh=>cS h,λh=>by rw[h]⟩;rw[e5];exact this)
 have ee:((List.range (min its.toArray.size fi.toArray.size)).all (λj=>wo (ts[j]?=us[j]?)) && its.toArray.size== fi.toArray.size)=wo (ts=us):=by
  apply wJ;rw[jp,fb,ky];constructor
  ·rintro ⟨h1,h2⟩;have h2:its.length=fi.length:=by simpa using h2
   apply List.ext_getElem?;intro j
   by_cases hj:j<ts.length
   ·exact yc.mp (h1 j (iE.mpr (by simp;omega)))
   ·rw[lT ‹21›,lT ‹21›]
  ·intro h;refine⟨fun j _=>wB (by rw [h]),?_⟩;have:its.length=fi.length:=by rw [<- l1,<- l2,n1,n2,h]
   simpa using this
 rw[ee]at y8;exact y8 X.prog X.w X.xe _ ⟨.bl _,H,I,rfl,q⟩
end
section
variable {prog:vy}{w:xm}{A:ye}{R:Xh->ut->Prop}{I:ax}{fp wr:LA}{G:Array Xx->Array Xx->Prop}{n:Nat}{P:Nat->ue->Prop}{St:Nat->ut->Prop}
theorem Mh{knd:KeyKind prog w Str}{S:Str->Bool}(x:h.SetOf knd a S n)(k:∀o,h.get? a=some o->h'.get? a=some o):h'.SetOf knd a S n:=by
 obtain⟨o,es,ep,t,ho,rest⟩:=x;exact⟨o,es,ep,t,k _ ho,rest⟩
end
section
variable {X:Cx}
def Uc(P:vy)(w:xm)(a:ax)(n:Nat):HO:=.ext λh=>∃S:Str->Bool,h.SetOf (strKind P w) a S n
inductive sO (P:vy) (w:xm) (xs:LV) (H:Hp) (Q:VK):Prop
 |mk (a n:_):xs=[.ref a]->H a=some (Uc P w a n)->Q (.int n) H->sO P w xs H Q
theorem qx:iy X (.builtin "len") (sO X.prog X.w):=by
 intro ag s σ H xs us Q I r h;obtain⟨a,n,rfl,ha,q⟩:=h;obtain⟨u,rfl,ru⟩:=vals1 r;cases ru;obtain⟨⟨S,o,es,ep,t,ho,NA,hd,_,_,hb,hf,rfl⟩,_⟩:=I.hok a _ ha;refine call_len_set ho NA hd hf (by unfold Q3 at hb;omega) ⟨.int es.size,H,I.tok _,⟨_,rfl⟩,q⟩
end
def tx:ue->Str
 |.str x _=>x
 |_=> ""
def uQ(P:vy)(w:xm)(h:Heap)(a:ax)(ks:LS):Prop:=
 ∃o es ep t,h.get? a=some o/\o.ExactSet/\o.data=.set es ep t/\ElemsOf (strKind P w) es.toList/\ks=es.toList.map (λe=>tx e.2)/\ks.Nodup
  /\ es.size<Q3/\t.fits es.size=true/\t.led=!w.params.followText "set-order" /\ (t.plain=true->es.size=0)
theorem uQ.at{ks:LS}(x:uQ P w h a ks)(k:∀o,h.get? a=some o->h'.get? a=some o):uQ P w h' a ks:=by
 obtain⟨o,es,ep,t,ho,r⟩:=x;exact⟨o,es,ep,t,k _ ho,r⟩
theorem Em{e:Int×ue}{k:Str}(h:(strKind P w).is k e.2=true):∃t,e.2=.str k t:=by
 obtain⟨i,v⟩:=e;cases v <;>simp[PySem.strKind,Mm]at h;exact⟨_,by rw[h]⟩
theorem uQ.setOf{ks:LS}(x:uQ P w h a ks):h.SetOf (strKind P w) a (λk=>decide (k∈ks)) ks.length:=by
 obtain⟨o,es,ep,t,ho,hx,hd,el,rfl,nd,hb,hf,_⟩:=x;refine⟨o,es,ep,t,ho,hx,hd,el,λk=>?_,hb,hf,by simp⟩;rw[decide_eq_true_eq,bE];refine⟨λ⟨e,he,q⟩=>⟨e,he,?_⟩,λ⟨e,he,q⟩=>⟨e,he,?_⟩⟩
 ·obtain⟨⟨k',hk,_⟩,_⟩:=el e he;obtain⟨t',e'⟩:=Em hk;rw[e']at q hk;rw[e',show k=k' from q.symm];exact hk
 ·obtain⟨t',e'⟩:=Em q;rw[e'];rfl
theorem K6(t:Do)(n:Nat):(t.orStandIn n).led=t.led:=by
 unfold Do.orStandIn;split <;>rfl
theorem QL(t:Do)(es:Array (Int×ue))(h:Int)(x:ue):(layNew t es h x).2.1.led=t.led:=by
 unfold layNew;split
 ·exact K6 _ _
 ·rfl
theorem JV(t:Do)(es:Array (Int×ue))(n:Nat):(Xn t es n).2.1.led=t.led/\(t.plain=false->(Xn t es n).2.1.plain=false):=by
 unfold Xn;split
 ·rename_i t' order e
  have e2:t'.led=t.led/\t'.plain=t.plain:=by
   unfold Do.relaid Do.laid at e;cases q:Do.layClean (Do.sizeAbove n - 1) (es.map (·.1))with
   |none=>rw[q]at e;cases e
   |some ow=>
    rw[q]at e;injection e with e;injection e with e1 e2;rw[<- e1];exact⟨rfl,rfl⟩
  dsimp only;split
  ·exact⟨e2.1,λz=>e2.2.trans z⟩
  ·exact⟨rfl,λ_=>rfl⟩
 ·exact⟨rfl,λ_=>rfl⟩
section
variable {prog:vy}{w:xm}{A:ye}{E:ES}{s:ut}
theorem Jo{o:Obj}{es:Array (Int×ue)}{ep:Nat}{t:Do}(ho:h.get? a=some o)(hx:o.ExactSet)(hd:o.data=.set es ep t)(Fh:Array (Int×ue))(t':Do):
  ∃o' XO,(h.update a (Obj.putSet Fh t')).get? a=some o'/\o'.ExactSet/\o'.data=.set Fh XO t':=by
 have e:=putSet_of Fh t' hd;have g:=pT (Obj.putSet Fh t') ho (by rw[e];rfl);rw[e]at g;exact⟨_,_,g,hx,rfl⟩
theorem add_str{ks:LS}{x:Str}{tk:Tok}{Q:Bool->ut->Prop}(hM:uQ prog w s.heap a ks)(hb:ks.length+1<Q3)(h0:x∈ks->Q false s)
  (h1:x∉ks->∀h' xD,Heap.SameBut a s.heap h'->uQ prog w h' a xD->xD.Perm (ks++[x])->Q true {s with heap:=h'}):
  wpAny ‹17› A (setAddHashed a (.str x tk) ((strKind prog w).hash x)) Q E s:=by
 have hk:(strKind prog w).is x (.str x tk)=true:=strKind_is _ _ _ _;have mem:=hM.setOf;obtain⟨o,es,ep,t,ho,hx,hd,el,ek,nd,hs,hf,ld,pl⟩:=hM;obtain⟨o9,es9,ep9,t9,g1,g3,g2,g4,mem,g5⟩:=mem;rw[ho]at g1;cases g1;rw[hd]at g2;cases g2;have eC:ks.length=es.size:=by rw[ek];simp
 unfold setAddHashed setAddHashedIn;refine ie (ae (wpAny_setState_of ho hd hf ?_));dsimp only;rw[dL (byScan_of rfl hs el)];unfold setAddByScan;refine ae (ae (jS (ae (wpAny_setScan_of hk ho hd hf el ?_))));cases hr:List.findIdx? (λe=>(strKind prog w).is x e.2) es.toList with
 |some j=>
  obtain⟨hj,hp,_⟩:=List.findIdx?_eq_some_iff_getElem.mp hr;exact aE (aE (h0 (eI ((mem x).mpr ⟨_,bX hj,hp⟩))))
 |none=>
  have AR:x∉ks:=λhm=>by
   obtain⟨e,he,hp⟩:=(mem x).mp (aw hm);have:=List.findIdx?_eq_none_iff.mp hr e he;rw[hp]at this;cases this
  dsimp only;have p1:=layNew_perm t es ((strKind prog w).hash x) (.str x tk);have f1:=layNew_fits t es ((strKind prog w).hash x) (.str x tk);have l1:=QL t es ((strKind prog w).hash x) (.str x tk);rw[Array.toList_push]at p1;generalize layNew t es ((strKind prog w).hash x) (.str x tk)=L at p1 f1 l1⊢;obtain⟨As,t1,du,gave⟩:=L;dsimp only at p1 f1 l1⊢;have el1:ElemsOf (strKind prog w) As.toList:=(el.push hk rfl).perm p1
  have pk:(As.toList.map λe=>tx e.2).Perm (ks++[x]):=by
   have:=p1.map (λe:Int×ue=>tx e.2);rw[av,<- ek]at this;exact this
  have wb:(ks++[x]).Nodup:=by
   rw[iA];exact⟨nd,by simp,λp hp q hq e=>AR (by rw[<- bg.mp hq,<- e];exact hp)⟩
  have z1:As.size=ks.length+1:=by
   have:=pk.length_eq;simpa using this
  have gw:∀(b:Bool) {bq:ut} {Q':Unit->ut->Prop},Q' () bq->wpAny ‹17› A (match b with |true=>AH "set.scan.the-table-gave-way" |false=>Hb ()) Q' E bq:=
   λb bq Q' q=>by cases b <;>first|exact aE q|exact jS q
  refine ae (gw _ ?_)
  have oa:∀t2:Do,t2.fits As.size=true->t2.led=t.led->t2.plain=false->wpAny ‹17› A (do
    storeSet a As t2
    if(!du && t2.tooFull)=true then do
      (match(Xn t2 As (HH As.size)).2.2 with |true=>AH "set.scan.the-table-gave-way" |false=>Hb ())
      storeSet a (Xn t2 As (HH As.size)).1 (Xn t2 As (HH As.size)).2.1
      Hb (some true)
     else Hb (some true)) (λr s'=>r=some true/\Q true s') E s:=λt2 f2 l2 q2=>by
   refine ae (wpAny_storeSet_of ho hd ?_ (fits_of_scanBound ‹21›));obtain⟨o2,ep2,DI,hx2,y6⟩:=Jo ho hx hd As t2;have sb:=nz s.heap a (Obj.putSet As t2);split
   ·have p3:=relayAll_perm t2 As (HH As.size);have f3:=relayAll_fits t2 As (HH As.size);obtain ⟨l3,q3⟩:=JV t2 As (HH As.size);generalize Xn t2 As (HH As.size)=L3 at p3 f3 l3 q3 ⊢;obtain ⟨es3,t3,g3⟩:=L3;dsimp only at p3 f3 l3 q3 ⊢;have z3:es3.size=As.size:=by simpa using p3.length_eq
    refine ae (gw _ ?_);refine ae (wpAny_storeSet_of DI y6 ?_ (fits_of_scanBound ‹21›));obtain⟨o4,ep4,ho4,hx4,Sk⟩:=Jo DI hx2 y6 es3 t3;have pk3:=(p3.map (λe:Int×ue=>tx e.2)).trans pk;refine aE ⟨rfl,h1 AR _ _ (sb.trans (nz _ a _)) ⟨o4,es3,ep4,t3,ho4,hx4,Sk,el1.perm p3,rfl,pk3.nodup_iff.mpr wb,by omega,f3,l3.trans (l2.trans ld),λe=>?_⟩ pk3⟩;rw[q3 q2]at e;cases e
   ·refine aE ⟨rfl,h1 AR _ _ sb ⟨o2,As,ep2,t2,DI,hx2,y6,el1,rfl,pk.nodup_iff.mpr wb,by omega,f2,l2.trans ld,λe=>?_⟩ pk⟩;rw[q2]at e;cases e
  split
  ·refine ae ?_;rw[hashByValue_scannable 8 (x:=.str x tk) rfl];refine aE ?_;refine fF (oa {t1 with plain:=false} (Do.fits_plain_off f1) l1 rfl) (λr s' ⟨e,q⟩=>?_) (λ_ _ h=>h);rw[e];exact aE q
  ·rename_i hp
   refine ae (aE ?_);refine fF (oa t1 f1 l1 (by simpa using hp)) (λr s' ⟨e,q⟩=>?_) (λ_ _ h=>h);rw[e];exact aE q
end
noncomputable def un(ns:LS):Nat->Nat
 |0=>0
 |i+1=>if decide (ns.getD i "" ∈ns.take i)=true then un ns i else un ns i+1
theorem Ms(ns:LS):∀i,un ns i<=i
 |0=>af _
 |i+1=>by
  have:=Ms ns i;rw[un];split <;>omega
theorem SQ(ns:LS):∀i,i<=ns.length->(un ns i=i↔(ns.take i).Nodup)
 |0,_=>by simp[un]
 |i+1,h=>by
  have ih:=SQ ns i ‹21›;have hl:=Ms ns i;have lb:i<ns.length:=h;have ex:ns.getD i "" =ns[i]:=by simp[lb]
  have et:ns.take (i+1)=ns.take i++[ns[i]]:=by rw[li,ac lb];rfl
  rw[un,ex,et,iA]
  by_cases hm:ns[i]∈ns.take i
  ·rw[dL (aw hm)];refine⟨λe=>by omega,λq=>absurd rfl (q.2.2 _ hm _ aS)⟩
  ·rw[dC (by rw[cw hm];exact az)];refine⟨λe=>⟨ih.mp ‹21›,by simp,λa ha b hb e'=>?_⟩,λq=>by rw[ih.mpr q.1]⟩;rw[bg.mp hb]at e';exact hm (e' ▸ ha)
theorem HW(ns:LS):un ns ns.length=ns.length↔ns.Nodup:=by
 rw[SQ ns ns.length (af _),ay (af _)]
section
variable {prog:vy}{w:xm}{A:ye}{R:Xh->ut->Prop}{I:ax}{fp wr:LA}{G:Array Xx->Array Xx->Prop}{n:Nat}{P:Nat->ue->Prop}{St:Nat->ut->Prop}
def NC(ns:LS)(i:Nat)(ks:LS):Prop:=(∀x,x∈ks↔x∈ns.take i)/\ks.length=un ns i
theorem Qa(W:WalksS prog w A.in1 I fp wr G n P St)(S:ax)(hSf:S∉fp)(ns:LS)(hn:ns.length=n)
  (hval:∀i v,P i v->∃t,v=.str (ns.getD i "") t) (hb:n+1<Q3):
  ∀(k i:Nat) (s:ut) (ks:LS),n - i=k->i<=n->St i s->uQ prog w s.heap S ks->NC ns i ks->
   (∀s' xD,Moved (S::wr) G s s'->uQ prog w s'.heap S xD->NC ns n xD->R (.ok (.ret .none)) s')->
   BV ‹17› A (.builtin "set.update.loop" ⟨[.ref S,.ref I],[]⟩) R s:=by
 have hSw:S∉wr:=λh=>hSf (W.sub _ h);have Ev:∀b∈wr,b∈S::wr:=λb hb=>cf _ hb;intro k
 induction k with
 |zero=>
  intro i s ks hk hi mN hS hO hR;have Ap:i=n:=by omega
  subst Ap;refine iS F.entry_set_update_loop ?_;rw[hU lj _];show wpAny _ A.in1 (M3 (.ref I) >>= _) _ _ s;refine ae (W.done s _ _ mN λs' hm=>?_);show wpAny _ A.in1 (ret HR) _ _ s';exact aE (hR s' ks (hm.mono Ev) (hS.at λo e=>hm.heap S _ hSw e) hO)
 |succ k ih=>
  intro i s ks hk hi mN hS hO hR;have lc:i<n:=by omega
  refine iS F.entry_set_update_loop ?_;rw[hU lj _];show wpAny _ A.in1 (M3 (.ref I) >>= _) _ _ s;refine ae (W.item i s _ _ lc mN λv s' hP hst' hm=>?_);obtain⟨t,rfl⟩:=hval i v hP;have Mc:=hS.at λo e=>hm.heap S o hSw e;have lb:i<ns.length:=by omega
  have ex:ns.getD i "" =ns[i]:=by simp[lb]
  have et:ns.take (i+1)=ns.take i++[ns[i]]:=by rw[li,ac lb];rfl
  rw[ex];show wpAny _ A.in1 (Q4 [Xj ns[i] t] (setAdd S (.str ns[i] t)) >>= _) _ _ s';refine ae (ie ?_);unfold setAdd;refine ie ?_;refine ae ((strKind prog w).pyHash (k:=ns[i]) (strKind_is _ _ _ _) ?_);have ul:=Ms ns i
  have go:∀(h':Heap) (xD:LS),Heap.SameBut S s'.heap h'->uQ prog w h' S xD->NC ns (i+1) xD->BV ‹17› A (.builtin "set.update.loop" ⟨[.ref S,.ref I],[]⟩) R {s' with heap:=h',toks:=s'.toks+1}:=fun h' xD EU Sl hO2=>by
   refine ih (i+1) _ xD ‹21› lc (W.frame _ s' _ _ hst' (sf _) λb hb o e=>?_) Sl hO2 λMY ks'' hm'' hS'' hO''=>?_
   ·rw[EU.2 b (λh:b=S=>hSf (by rw[<- h];exact hb))];exact e
   ·refine hR MY ks'' (Moved.trans W.gtrans ((hm.mono Ev).then_heap (sf _) λb o hb e=>?_) hm'') hS'' hO'';rw[EU.2 b (λh:b=S=>hb (by rw[h];exact aS))];exact e
  refine add_str (s:={s' with toks:=s'.toks+1}) Mc (by rw[hO.2];omega) (λAp=>?_) (λAR h' xD EU Sl hp=>?_)
  ·refine aE ⟨kA lj _,go _ ks (Heap.SameBut.refl S s'.heap) Mc ⟨fun x=>?_,?_⟩⟩
   ·rw[et,bu,bg,hO.1 x];exact⟨.inl,λh=>h.elim id λe=>e ▸ (hO.1 _).mp Ap⟩
   ·rw[un,ex,dL (aw ((hO.1 _).mp Ap))];exact hO.2
  ·refine aE ⟨kA lj _,go h' xD EU Sl ⟨fun x=>?_,?_⟩⟩
   ·rw[et,hp.mem_iff,bu,bu,hO.1 x]
   ·rw[un,ex,dC (by rw[cw λh=>AR ((hO.1 _).mpr h)];exact az),hp.length_eq,ai,hO.2];rfl
end
theorem Qn(a:ue)(h:Q (.ref s.heap.objs.size) {s with heap:=s.heap.push {cls:=.type "set",dict:=none,data:=.set #[] 0 (.fresh 0 0 (!w.params.followText "set-order"))} }):
  BV ‹17› A (.call (.builtin "set.__new__") ⟨[.type "set",a],[]⟩) (wants Q E) s:=by
 refine rq ?_;show wpAny _ A.in1 (checkBuiltinCall "set.__new__" ⟨[.type "set",a],[]⟩ >>= fun _=>again (.builtin "set.__new__" ⟨[.type "set",a],[]⟩)) _ _ s;refine ae (yk (F.newCall_set_1 a) (aE ⟨kA F.plain_set_new _,iS F.entry_set_new ?_⟩));rw[hU F.plain_set_new _];unfold xf.«set.__new__» xf.Frozenset.newClass;have Ev:=sub_set_self;obtain⟨hp,g,d,tk,os⟩:=s;dsimp only
 wp_walk
 refine wpAny_askSetting (aE ?_);dsimp only;simp only[newObj];exact ae (wpAny_alloc (aE (aE h)))
theorem Af{l:ax}{T:String}(hT:T="list" \/ T="tuple")(hh:A.handled=none)(hl:∃o,s.heap.get? l=some o/\o.cls=.type T/\∃m,o.data=.seq its.toArray m)
  (hi:∀(i:Nat) v,its[i]?=some v->∃t,v=.str (ns.getD i "") t) (hn:ns.length=its.length) (hb:ns.length+1<Q3)
  (h:∀(h':Heap) (tk:Nat) (ks:LS),uQ prog w h' s.heap.objs.size ks->NC ns ns.length ks->(∀b o,b<s.heap.objs.size->s.heap.get? b=some o->h'.get? b=some o)->Q (.ref s.heap.objs.size) {s with heap:=h',toks:=tk}):
  wpAny ‹17› A (call (.type "set") [.ref l]) Q E s:=by
 obtain⟨c,tl,hmro⟩:=lL.mro;have hmade:=lL.made;have Ev:=lL.sub;refine wpAny_call (rq ?_);show wpAny _ _ (callAny (.type "set") _) _ _ _;refine aE ⟨XJ.quiet_builtin _ ‹1›,iS F.entry_type_call ?_⟩;rw[ye.under_plain (weight_type_call_type "set" [.ref l] []) rfl];have h1:=lL.notType;have h2:=lL.canCreate;have hct:=F.typeCall_set_1 (.ref l)
 repeat (any_goals (first|assumption|wp_step))
 generalize hO0:({cls:=.type "set",dict:=none,data:=.set #[] 0 (.fresh 0 0 (!w.params.followText "set-order"))}:Obj)=O0;refine mw (Qn (.ref l) (E:=E) (Q:=fun obj bq=>obj=.ref s.heap.objs.size/\bq={s with heap:=s.heap.push O0}) (by rw[hO0];exact⟨rfl,rfl⟩)) fun r bq hr=>?_;cases r with
 |error e=>exact hr
 |ok fl=>
  cases fl with
  |ret obj=>
   obtain⟨rfl,rfl⟩:=hr;have e0:(s.heap.push O0).objs.size=s.heap.objs.size+1:=fk ..;have BA:∀b o,s.heap.get? b=some o->(s.heap.push O0).get? b=some o:=fun b o e=>am _ e;have hS:(s.heap.push O0).get? s.heap.objs.size=some O0:=bn _ (by rw[<- hO0];rfl);have Md:l<s.heap.objs.size:=let⟨_,ho,_⟩:=hl;cr ho;have fq:∃o,(s.heap.push O0).get? l=some o/\o.cls=.type T/\∃m,o.data=.seq its.toArray m:=let⟨o,ho,q⟩:=hl;⟨o,BA _ _ ho,q⟩;generalize s.heap.push O0=h0 at e0 BA hS fq;subst hO0;have Yb:ut.TypeIs {s with heap:=h0} (.ref s.heap.objs.size) "set":= ⟨_,hS,rfl⟩;have hli:=lL.init.lookup;have hbi:=lL.init.bind (.ref s.heap.objs.size)
   repeat (any_goals (first|assumption|wp_step))
   refine mw (tz (R:=wants (λr na=>r=.none/\∃h' tk ks,na={s with heap:=h',toks:=tk}/\
     uQ prog w h' s.heap.objs.size ks/\NC ns ns.length ks/\(∀b o,b<s.heap.objs.size->s.heap.get? b=some o->h'.get? b=some o)) E) lL.init.plain F.entry_set_init (check_set_init_1 Yb ?_)) λr₂ na IM=>?_
   ·have hh3:A.in1.in1.in1.handled=none:=by simp [hh]
    have Yu:l≠h0.objs.size:=by rw[e0];exact d6 (Nat.lt_succ_of_lt Md)
    have hsz:its.toArray.size=ns.length:=by rw[bz,hn]
    have hSf:s.heap.objs.size∉ [h0.objs.size,l]:=by
     simp only[aT,bg,dS,iN,sr];exact⟨by rw[e0];exact d6 (mv _),fN Md⟩
    have y8:∀(oI:Obj) (St:Nat->ut->Prop) (R:Xh->ut->Prop),WalksS prog w A.in1.in1.in1 h0.objs.size [h0.objs.size,l] [h0.objs.size] (λa b=>b=a) its.toArray.size (λi v=>its.toArray[i]?=some v) St->St 0 {s with heap:=h0.push oI}->
      (∀s' xD,Moved [s.heap.objs.size,h0.objs.size] (λa b=>b=a) {s with heap:=h0.push oI} s'->uQ prog w s'.heap s.heap.objs.size xD->NC ns its.toArray.size xD->R (.ok (.ret .none)) s')->
      BV ‹17› A.in1.in1 (.builtin "set.update.loop" ⟨[.ref s.heap.objs.size,.ref h0.objs.size],[]⟩) R {s with heap:=h0.push oI}:=fun oI St R W st hR=>by
     refine Qa W s.heap.objs.size hSf ns hsz.symm (λi v hv=>hi i v (by simpa using hv)) ‹21› (its.toArray.size - 0) 0 _ [] ‹21› (ck _) st ?_ ⟨λx=>by simp,rfl⟩ hR;exact⟨_,#[],0,_,am _ hS,⟨rfl,rfl,rfl⟩,rfl,(λe he=>nomatch he),rfl,.nil,by unfold Q3;decide,rfl,rfl,λ_=>rfl⟩
    have hJ:∀(oI:Obj) (s':ut) (xD:LS),Moved [s.heap.objs.size,h0.objs.size] (λa b=>b=a) {s with heap:=h0.push oI} s'->uQ prog w s'.heap s.heap.objs.size xD->NC ns its.toArray.size xD->(∃h' tk ks,s'={s with heap:=h',toks:=tk}/\
      uQ prog w h' s.heap.objs.size ks/\NC ns ns.length ks/\(∀b o,b<s.heap.objs.size->s.heap.get? b=some o->h'.get? b=some o)):=λoI s' xD hm Mc PD=>by
     obtain⟨h',g',d',Nc,GH⟩:=s';have eg:g'=s.gens:=hm.gens;have ed:d'=s.drawn:=hm.drawn;have eo:GH=s.os:=hm.os;subst eg;subst ed;subst eo;rw[hsz]at PD;refine⟨h',Nc,xD,rfl,Mc,PD,λb o hb e=>?_⟩;exact hm.heap b o (by simp only[aT,bg,dS,iN,sr];exact⟨d6 hb,by rw[e0];exact d6 (Nat.lt_succ_of_lt hb)⟩) (am _ (BA b o e))
    have cx:=fq;obtain⟨⟨ocls,odict,odata,oslots⟩,Me,GN,nl,hdl⟩:=fq;simp only at GN hdl;subst GN;subst hdl;unfold xf.«set.__init__» noKeywords xf.Frozenset.updateFrom;generalize hPI:pyIter=PI;rcases hT with rfl|rfl
    ·have hsls:=F.sub_list_set;have hslf:=F.sub_list_frozenset;have wn:(UT "list" == UT "dict")=false:=by decide
     wp_walk
     subst hPI;refine ce cx (ae (tw ?_));refine y8 _ _ _ (Walks.list hh3 _ l Yu its.toArray).toS ⟨⟨_,bn _ rfl,rfl,rfl⟩,Heap.IsList.push cx _⟩ λs' xD hm Mc PD=>?_;exact aE (aE ⟨rfl,hJ _ s' xD hm Mc PD⟩)
    ·have hsls:=F.sub_tuple_set;have hslf:=F.sub_tuple_frozenset;have wn:(UT "tuple" == UT "dict")=false:=by decide
     wp_walk
     subst hPI;refine ca cx (ae (tw ?_));refine y8 _ _ _ (Walks.tuple hh3 _ l Yu its.toArray).toS ⟨⟨_,bn _ rfl,rfl,rfl⟩,Heap.IsTuple.push cx _⟩ λs' xD hm Mc PD=>?_;exact aE (aE ⟨rfl,hJ _ s' xD hm Mc PD⟩)
   ·cases r₂ with
    |error e=>exact IM
    |ok Yv=>
     cases Yv with
     |ret r=>
      obtain⟨rfl,h',tk,ks,rfl,Mc,PD,hk'⟩:=IM
      repeat (any_goals (first|assumption|wp_step))
      exact h _ _ _ Mc PD hk'
     |_=>exact IM.elim
  |_=>exact hr.elim
section
variable {X:Cx}
inductive xu (K:PySem.W.Frag) (P:vy) (w:xm) (xs:LV) (H:Hp) (Q:VK):Prop
 |mk (l:ax) (ns:LS):xs=[.ref l]->(SqL K H l (ns.map V.str)\/SqT K H l (ns.map V.str))->ns.length<=3000->(∀d,H d=none->Q (.ref d) (upd H d (Uc P w d (un ns ns.length))))->xu K P w xs H Q
theorem wV(hc:X.calm=true):iy X (.type "set") (xu X.K X.prog X.w):=by
 intro ag s σ H xs us Q I r h;obtain⟨l,ns,rfl,hl,hn,q⟩:=h;obtain⟨u,rfl,ru⟩:=vals1 r;cases ru;have hh:X.A.handled=none:=I.ok.hd hc
 have hJ:∀(h':Heap) (tk:Nat) (ks:LS),uQ X.prog X.w h' s.heap.objs.size ks->NC ns ns.length ks->(∀b o,b<s.heap.objs.size->s.heap.get? b=some o->h'.get? b=some o)->EP X ag σ Q (.ref s.heap.objs.size) {s with heap:=h',toks:=tk}:=λh' tk ks hS hO hk=>by
  have hS:=hS.setOf;rw[hO.2]at hS;refine⟨.ref s.heap.objs.size,_,I.laid (o:=Uc X.prog X.w s.heap.objs.size (un ns ns.length)) (λb u e=>hk b u (cr e) e) (af _) ⟨⟨_,hS⟩,?_,λh1 h2 ⟨S',x⟩ k=>⟨S',Mh x k⟩⟩,rfl,q _ (I.hok.fresh (af _))⟩;obtain⟨o,_,_,_,ho,_⟩:=hS;exact⟨o,ho⟩
 have val:∀{its:LU},Vals (ns.map V.str) its->∀(i:Nat) v,its[i]?=some v->∃t,v=.str (ns.getD i "") t:=fun{its} rv i v hv=>by
  have eC:=rv.length;rw[aa]at eC
  have lb:i<ns.length:=by
   have:=(bo.mp hv).1;omega
  obtain⟨w',hw,tF⟩:=rv.get (i:=i) (x:=.str ns[i]) (by rw[bS,ac lb];rfl);rw[hv]at hw;cases hw;obtain⟨t,rfl⟩:=tF;exact⟨t,by simp[lb]⟩
 rcases hl with hl|hl
 ·obtain⟨its,rv,pl,hz⟩:=I.list hl;have eC:=rv.length;rw[aa]at eC;exact Af (.inl rfl) hh pl.isList (ns:=ns) (val rv) ‹21› (by unfold Q3;omega) hJ
 ·obtain⟨its,rv,pl,hz⟩:=I.tuple hl;have eC:=rv.length;rw[aa]at eC;exact Af (.inr rfl) hh pl (ns:=ns) (val rv) ‹21› (by unfold Q3;omega) hJ
end
theorem Hi:yf "set" =some (.type "set"):=by decide +kernel
abbrev N0:PySem.W.Frag:=[]
section
variable {X:Cx}
theorem SqT.up(h:SqT N0 H a xs):SqT K H a xs:=by
 rcases h with h|⟨o,its,n,h,_⟩
 ·exact .inl h
 ·cases h
theorem SqL.up(h:SqL N0 H a xs):SqL K H a xs:=by
 rcases h with h|⟨o,its,n,h,_⟩
 ·exact .inl h
 ·cases h
theorem Sq.up(h:SqL N0 H a xs\/SqT N0 H a xs):SqL K H a xs\/SqT K H a xs:=h.elim (λh=>.inl h.up) λh=>.inr h.up
theorem bB:IxR X (Kl N0):=λfo slice ag s σ H x y v u Q I rx ry ⟨p,xs,i,z,e1,e2,h,e3,q⟩ hs=>Cr fo slice ag s σ H x y v u Q I rx ry ⟨p,xs,i,z,e1,e2,h.up,e3,q⟩ hs
theorem bF:IxR X (Qg N0):=λfo slice ag s σ H x y v u Q I rx ry ⟨p,xs,i,z,e1,e2,h,e3,q⟩ hs=>yu fo slice ag s σ H x y v u Q I rx ry ⟨p,xs,i,z,e1,e2,h.up,e3,q⟩ hs
theorem vN:SlR X (Nq N0):=λag s σ H x v vl vu lo hi sl Q I rx hs pl pu ⟨a,xs,e,h,q⟩=>Cq ag s σ H x v vl vu lo hi sl Q I rx hs pl pu ⟨a,xs,e,h.up,q⟩
theorem wC:SlR X (Ux N0):=λag s σ H x v vl vu lo hi sl Q I rx hs pl pu ⟨a,xs,e,h,q⟩=>yh ag s σ H x v vl vu lo hi sl Q I rx hs pl pu ⟨a,xs,e,h,q⟩
theorem bJ:iy X (.builtin "len") (pJ N0):=fun ag s σ H xs us Q I r ⟨p,ys,e,h,q⟩=>iK ag s σ H xs us Q I r ⟨p,ys,e,Sq.up h,q⟩
theorem gB:iy X (.type "list") (oZ N0):=fun ag s σ H xs us Q I r ⟨p,ys,e,h,q⟩=>rA ag s σ H xs us Q I r ⟨p,ys,e,Sq.up h,q⟩
theorem dM:iy X (.type "tuple") (nM N0):=fun ag s σ H xs us Q I r ⟨p,ys,e,h⟩=>mZ ag s σ H xs us Q I r ⟨p,ys,e,h.elim (fun h=>.inl ⟨h.1.up,h.2⟩) fun h=>.inr ⟨h.1.up,h.2⟩⟩
theorem iV(hc:X.calm=true):iy X (.builtin "all") (vG N0):=fun ag s σ H xs us Q I r ⟨p,ys,e,h,q⟩=>Ea hc ag s σ H xs us Q I r ⟨p,ys,e,h.up,q⟩
theorem Cm:OpR X (yo .In) (Yc N0 false):=λag s σ H x y v u Q I rx ry ⟨p,xs,e,h,f,g,q⟩=>Lj ag s σ H x y v u Q I rx ry ⟨p,xs,e,Sq.up h,f,g,q⟩
theorem wI:OpR X (yo .NotIn) (Yc N0 true):=λag s σ H x y v u Q I rx ry ⟨p,xs,e,h,f,g,q⟩=>Cd ag s σ H x y v u Q I rx ry ⟨p,xs,e,Sq.up h,f,g,q⟩
theorem Uw{m n:String}{b:Bool}(h:PySem.W.kitOne N0 (.type m) (.type n)=some b):PySem.W.kitOne K (.type m) (.type n)=some b:=h
theorem eX:iy X (.builtin "isinstance") (qp N0):=fun ag s σ H xs us Q I r ⟨x,n,t,b,e,ty,kt,q⟩=>by
 have go:∀{m:String},t=.type m->vU X.K H x t->wpAny ‹7› X.A (call (.builtin "isinstance") us) (EP X ag σ Q) X.xe s:=fun{m} e' ty'=>jG ag s σ H xs us Q I r ⟨x,n,t,b,e,ty',by subst e';exact Uw kt,q⟩;cases ty with
 |non=>exact go rfl .non
 |bl b=>exact go rfl (.bl b)
 |int i=>exact go rfl (.int i)
 |str x=>exact go rfl (.str x)
 |flt x=>exact go rfl (.flt x)
 |lst h=>exact go rfl (.lst h)
 |frz h=>exact go rfl (.frz h)
 |tup h=>exact go rfl (.tup h)
 |dK h=>exact go rfl (.dK h)
 |dT h=>exact go rfl (.dT h)
 |ins h cl ha hn ht hm=>exact absurd hm (by simp[PySem.W.mroIn,PySem.W.clsIn])
theorem It.weak{J':It}(t:wf P w K tg J fp it tn)(g:∀i H,J'.go i H->J.go i H)(y:∀i H x H',J.yld i H x H'->J'.yld i H x H')(d:∀i H,J'.stop i H->J.stop i H):wf P w K tg J' fp it tn:=
 ⟨t.mem,t.obj,t.keep,λX hP hw hK hc i ag s σ H E I hf st hg=>fF (t.item X hP hw hK hc i ag s σ H E I hf st (g i H hg)) (λr s1 ⟨u,e,q⟩=>⟨u,e,fF q (λ_ s2 ⟨x,H',I',rx,yy,z⟩=>⟨x,H',I',rx,y i H x H' yy,z⟩) λ_ _ h=>h⟩) λ_ _ h=>h,
  λX hP hw hK hc i ag s σ H E I hf st hg=>t.done X hP hw hK hc i ag s σ H E I hf st (d i H hg),t.self⟩
theorem dg{l:Expr}(hl:PE X l tl):PI X tg l (Vm N0 tl):=by
 intro ag s σ H R I h;refine cb (hl ag s σ H _ I h) λv s1 ⟨x,H1,I1,r1,a,e,⟨xs,hq⟩,q⟩=>?_;subst e;cases r1;obtain⟨its,rv,p,hz⟩:=I1.tuple hq.up;refine ca (show s1.heap.IsTuple a its.toArray from p) ?_;refine⟨s1.heap.objs.size,[s1.heap.objs.size],_,_,H1,rfl,I1.kept (t':=s1.toks) λb o e=>am _ e,It.weak (J':=MU N0 a) (vI a _) (λi H ⟨xs,x,h,e⟩=>⟨xs,x,h.up,e⟩) (λi H x H' ⟨e,h⟩=>⟨e,λxs h'=>h xs h'.up⟩) (λi H ⟨xs,h,l⟩=>⟨xs,h.up,l⟩),⟨_,bn _ rfl,rfl,rfl⟩,λb hb=>?_,q⟩;have e:b=s1.heap.objs.size:=by simpa using hb
 subst e;exact I1.qI (af _) (I1.hok.fresh (af _))
theorem iB{l:Expr}(hl:PE X l tl):PI X tg l (R3 N0 tl):=by
 intro ag s σ H R I h;refine cb (hl ag s σ H _ I h) λv s1 ⟨x,H1,I1,r1,a,e,⟨xs,hq⟩,q⟩=>?_;subst e;cases r1;obtain⟨its,rv,p,hz⟩:=I1.list hq.up;refine ce p.isList ?_;refine⟨s1.heap.objs.size,[s1.heap.objs.size],_,_,H1,rfl,I1.kept (t':=s1.toks) λb o e=>am _ e,It.weak (J':=MS N0 a) (wX a _) (λi H ⟨xs,x,h,e⟩=>⟨xs,x,h.up,e⟩) (λi H x H' ⟨e,h⟩=>⟨e,λxs h'=>h xs h'.up⟩) (λi H ⟨xs,h,l⟩=>⟨xs,h.up,l⟩),⟨_,bn _ rfl,rfl,rfl⟩,λb hb=>?_,q⟩;have e:b=s1.heap.objs.size:=by simpa using hb
 subst e;exact I1.qI (af _) (I1.hok.fresh (af _))
theorem jX{es:List Expr}{k:Nat}{t:QY}(hc:X.calm=true)(h:XU X es t)
  (hn:(PQ es X.env).length=n:=by rfl) (mN:(PQ es X.env).findIdx? (·.1)=none:=by rfl):PG X (.Tuple es k bi) (Ul N0 n t):=
 λag s σ H v u Q I r ⟨a,xs,e1,hq,l,q⟩=>PX hc h hn mN ag s σ H v u Q I r ⟨a,xs,e1,hq.up,l,q⟩
end
end L2
end
section
namespace K26
open PySem PyProof.Rows L2
section
variable {P:vy}{w:xm}{K:PySem.W.Frag}{mg:MG}{base:Heap}{t:tT}
inductive Jh (vs:LV) (H:Hp) (Q:VK) (E_:XK):Prop
 |mk (x:Str) (rl:ax) (us:LV) (ah:LL):vs=[.str x,.ref rl]->H rl=some (.lst us)->oU H us ah->lm ah<=1000->ah.length<=1000->(∀(v:V) (r:Option LS) H',Mg (bP ah) r->Wb H' x r v->Same H H'->Q v H')->Jh vs H Q E_
theorem O6(D:Defs K mg t):aW P w K mg base bm 1 t.ju.1 t.ju.2 ["_law_kind","_law_rows"] Jh:=by
 have hz:ab=16777216:=cn;refine D.ju.fn.ok jd ‹4› ‹3›
 ·obtain⟨x,rl,us,ah,rfl,_⟩:=h;rfl
 ·obtain ⟨x,rl,us,ah,rfl,AN,rt,Yw,eC,k⟩:=h;have hul:us.length=ah.length:=cE rt
  refine⟨_,(au (aU (i:=2) jd.nd rfl (uv rfl) (bw ‹15›))
   (au (aU (i:=1) jd.nd rfl (MT rfl) (cI rfl (X7 ["_law_row"] [] ["_law_row"] (aJ (top 70)) ["_law_kind","_law_rows","_law_order","_law_good"] rfl rfl ‹1›) ⟨fun _ _ _ _ _=>(aO (i:=0) (show List.Nodup [("_law_row":Str)]by decide +kernel) rfl ‹16› ‹13›),fun _ _ _ _ _=>(oJ (aV qO (aN bJ (by rfl) D.cW cg ‹15›) aG (aR _))),fun _ _ _ _ _=>(aY gB (by rfl) D.lO ji ‹15›)⟩ (iB (pv 1))))
   (au (qJ di (aV (Lq rfl hr.GP) (pv 1) (bw aq) (aR _))
   (au (aU (i:=3) jd.nd rfl (MT rfl) (cI rfl (X7 ["_law_row"] [1] ["_law_row","_law_rows"] (aJ (top 70)) ["_law_kind","_law_rows","_law_order","_law_good"] rfl rfl ‹1›) ⟨fun _ _ _ _ _=>(aO (i:=0) (show List.Nodup [("_law_row":Str),("_law_rows":Str)]by decide +kernel) rfl (MT (nQ rfl)) (.inl rfl)),fun _ _ _ _ _=>(oJ (gH (fB (aN (Ig (K:=K) rfl rfl) (by rfl) D.R9 Ob (aj (cI rfl (aQ.of2 ["_law_other"] [0] ["_law_other","_law_row"] ["_law_row","_law_rows"] rfl rfl ‹1›) ⟨fun _ _ _ _ _=>(aO (i:=0) (show List.Nodup [("_law_other":Str),("_law_row":Str)]by decide +kernel) rfl ‹16› ‹13›),fun _ _ _ _ _=>cJ,fun _ _ _ _ _=>(cL Cm (bf bF (pv 1) aG ‹20›) (gn vN (pv 0) (iM aG) iH) (by with_unfolding_all rfl))⟩ (iB (pv 1))) aq))))),fun _ _ _ _ _=>(bf bF (pv 0) aG ‹20›)⟩ (iB (pv 1))))
   (au (bL (aV (SX rfl hr.GP) (pv 3) (bw aq) (aR _))
   (aF (aM jz))
   aX)
   (au (bH (gb cz eQ eR fY (pv 2) (aj (bf bF (pv 3) aG ‹20›) aq)))
   (au (aU (i:=1) jd.nd rfl (MT rfl) (cI rfl (X7 ["_law_row"] [3] ["_law_row","_law_good"] (aJ (top 70)) ["_law_kind","_law_rows","_law_order","_law_good"] rfl rfl ‹1›) ⟨fun _ _ _ _ _=>(aO (i:=0) (show List.Nodup [("_law_row":Str),("_law_good":Str)]by decide +kernel) rfl ‹16› ‹13›),fun _ _ _ _ _=>cJ,fun _ _ _ _ _=>(cI rfl (aQ.of2 ["_law_one"] [1] ["_law_one","_law_good"] ["_law_row","_law_good"] rfl rfl ‹1›) ⟨fun _ _ _ _ _=>(aO (i:=0) (show List.Nodup [("_law_one":Str),("_law_good":Str)]by decide +kernel) rfl ‹16› ‹13›),fun _ _ _ _ _=>(oJ (aV Fo (pv 0) (bf bF (pv 1) aG ‹20›) (aR _))),fun _ _ _ _ _=>(pv 0)⟩ (iB (pv 0)))⟩ (iB (pv 1))))
   (aF (aU (i:=1) jd.nd rfl (MT rfl) (cI rfl (X7 ["_law_row"] [] ["_law_row"] (aJ (top 70)) ["_law_kind","_law_rows","_law_order","_law_good"] rfl rfl ‹1›) ⟨fun _ _ _ _ _=>(aO (i:=0) (show List.Nodup [("_law_row":Str)]by decide +kernel) rfl ‹16› ‹13›),fun _ _ _ _ _=>(oJ (aV (Lq (K:=K) rfl hr.GP) (pv 0) (bw aq) (aR _))),fun _ _ _ _ _=>(pv 0)⟩ (iB (pv 1))))))))))
   (aF (aM (aY dM (by rfl) D.dB cP (aj (pv 2) aq))))))),?_⟩
  simp only[jm,Cx.nox];refine⟨_,rfl,by show 1<=ab;decide,λol Me=>?_⟩;have s0:Same H (upd H ol (.lst [.str x])):=X6 Me;refine⟨_,rfl,rl,rfl,⟨_,XQ (s0 rl _ AN)⟩,λD1 hC=>?_⟩;have ND:ol≠D1:=aD ak hC;have hD1H:H D1=none:=by rw[aB ND.symm]at hC;exact hC
  refine bN (n:=us.length) (λi ys H2=>H2 D1=some (.lst ys)/\sG H2 D1 ol ys (bP (ah.take i))/\H2 ol=some (.lst [.str x])/\Same H H2)
   ⟨ak,.nil,by rw[aB ND,ak],s0.trans (X6 hC)⟩ ?_ ?_
  ·rintro ys H2 ⟨nv,VE,CF,AO⟩;rw [ay ‹21›] at VE;refine⟨⟨_,XQ (AO rl _ AN),af _⟩,?_⟩
   refine⟨λm σ H3=>∃(zs:LV) (bd:LL) (os:LS) (r3:ax) (v3:OV),σ=[some (.str x),some (.ref r3),some (.ref ol),v3]/\H3 r3=some (.lst zs)/\nT H3 ol zs bd/\r3≠ol/\bP bd=bd/\H3 ol=some (.lst ((x::os).map V.str))/\m=lm bd/\os.length+lm bd<=1000/\
    (∀r,Mg bd r->Mg (bP ah) (r.map (os++·)))/\Same H H3,⟨_,ys,bP ah,[],D1,_,rfl,nv,VE.x,ND.symm,?_,CF,rfl,by rw[wA];show 0+_<=_;omega,λr h=>?_,AO⟩,?_⟩
   ·unfold bP;rw[List.filter_filter];simp
   ·have:r.map (([]:LS)++·)=r:=by cases r <;> rfl
    rw[this];exact h
   rintro m σ H3 ⟨zs,bd,os,r3,v3,rfl,PF,rl3,r3o,hf3,Fu,rfl,hb3,mg3,xE⟩;have hzl:zs.length=bd.length:=cE rl3;have Sm:bd.length<=lm bd:=by have:=tE bd;rwa[hf3]at this
   refine⟨_,rfl,ck _,λe0 VI=>⟨r3,e0,zs,rfl,rfl,XQ (by rw[aB (aD PF VI)];exact PF),XQ ak,_,rfl,?_⟩⟩;have s4:Same H3 (upd H3 e0 (.lst [])):=X6 VI;cases Yx:zs with
   |nil=>
    subst Yx
    have e3:bd=[]:=by
     cases bd with
     |nil=>rfl
     |cons _ _=>rw[lP,aI]at hzl;omega
    subst e3;refine iu ⟨_,rfl,ol,_,rfl,.inl ⟨XQ (s4 ol _ Fu),λq hq=>?_⟩⟩;refine k (.ref q) (some os) _ ?_ ⟨q,rfl,ak⟩ ((xE.trans s4).trans (X6 hq));have:=mg3 _ .nil;simpa using this
   |cons z0 zr=>
    have wn:bd≠[]:=λe=>by rw[e,Yx]at hzl;simp at hzl
    rw[<- Yx];have hb:(!zs.isEmpty)=true:=by rw[Yx];rfl
    rw[hb];clear Yx hb z0 zr
    refine jq ⟨λcp H'=>∃m',m'<lm bd/\∃(zs:LV) (bd:LL) (os:LS) (r3:ax) (v3:OV),cp=[some (.str x),some (.ref r3),some (.ref ol),v3]/\H' r3=some (.lst zs)/\nT H' ol zs bd/\r3≠ol/\bP bd=bd/\H' ol=some (.lst ((x::os).map V.str))/\m'=lm bd/\os.length+lm bd<=1000/\
     (∀r,Mg bd r->Mg (bP ah) (r.map (os++·)))/\Same H H',λcp H' h=>h,?_⟩
    have hnz:∀r∈bd,∃y r',r=y::r':=λr hr=>by
     rw[<- hf3]at hr;have:=(dP.mp hr).2;cases r with
     |nil=>cases this
     |cons y r'=>exact⟨y,r',rfl⟩
    generalize upd H3 e0 (.lst [])=H4 at s4;have rl4:=rl3.mono s4;have IN:=s4 r3 _ PF;refine⟨_,rfl,r3,rfl,⟨_,XQ IN⟩,λD2 nv=>?_⟩;refine bN (n:=zs.length) (λi ys H5=>ys=((bd.take i).flatMap (freeOf bd)).map V.str/\H5 D2=some (.lst ys)/\Same H4 H5) ⟨rfl,ak,X6 nv⟩ ?_ ?_
    ·rintro ys' H5 ⟨rfl,i0,pz⟩;rw [ay ‹21›] at i0;refine⟨⟨_,XQ (pz r3 _ IN),af _⟩,?_⟩;have i0:H5 D2=some (.lst ((frees bd).map V.str)):=i0;refine⟨_,rfl,ck _,fun e1 CH=>⟨D2,e1,_,rfl,rfl,XQ (by rw [aB (aD i0 CH)]; exact i0),XQ ak,_,rfl,?_⟩⟩;have s6:Same H5 (upd H5 e1 (.lst [])):=X6 CH;generalize upd H5 e1 (.lst [])=H6 at s6;have FA:Same H4 H6:=pz.trans s6;have CI:=s6 D2 _ i0;cases PH:frees bd with
     |nil=>
      refine jq ?_;have:=mg3 none (.stuck wn PH);exact k .non none H6 this rfl ((xE.trans s4).trans FA)
     |cons x1 ba=>
      rw[PH]at CI;refine iu ?_;have hx1:x1∈frees bd:=by rw[PH];exact aS
      obtain⟨r1,NE,Yy⟩:=uy hx1
      have Sn:x1∈r1:=by
       cases r1 with
       |nil=>cases Yy
       |cons y r'=>
        cases Yy;exact aS
      have Yz:=FA ol _ (s4 ol _ Fu);have So:=FA r3 _ IN;refine⟨_,rfl,.inl ⟨rfl,_,XQ Yz⟩,_,rfl,D2,_,_,_,rfl,rfl,XQ CI,at0 x1 ba,ol,_,.str x1,rfl,rfl,Yz,by rw[aa,aI];omega,?_⟩;have eol:(x::os).map V.str++[V.str x1]=(x::(os++[x1])).map V.str:=by rw[ci,ci,av];rfl
      rw[eol]
      have oD:ol≠D2:=λe=>by
       have h1:=nv;rw[<- e,s4 ol _ Fu]at h1;cases h1
      have YA:∀b u,b≠ol->H6 b=some u->(upd H6 ol (.lst ((x::(os++[x1])).map V.str))) b=some u:=λb u hb e=>by rw[aB hb];exact e
      have DM:Same H (upd H6 ol (.lst ((x::(os++[x1])).map V.str))):=λb u e=>YA b u (aD e Me) (FA b u (s4 b u (xE b u e)))
      have rl7:∀i (hi:i<zs.length),∃(a:ax) (hr:i<bd.length),zs[i]?=some (.ref a)/\(upd H6 ol (.lst ((x::(os++[x1])).map V.str))) a=some (.lst (bd[i].map V.str)):=λi hi=>by
       obtain⟨a,fA,e,n,q⟩:=(rl4.mono FA).get hi;exact⟨a,fA,e,YA a _ n q⟩
      have NF:(upd H6 ol (.lst ((x::(os++[x1])).map V.str))) ol=some (.lst ((x::(os++[x1])).map V.str)):=ak;have PM:=YA r3 _ r3o So;have EW:=YA D2 _ oD.symm CI;generalize upd H6 ol (.lst ((x::(os++[x1])).map V.str))=H7 at YA DM rl7 NF PM EW;have lc:=vh (x:=x1) ⟨r1,NE,Sn⟩;refine⟨_,rfl,r3,rfl,⟨_,XQ PM⟩,λD4 VO=>?_⟩;refine bN (n:=zs.length) (λi ys H8=>H8 D4=some (.lst ys)/\sG H8 D4 ol ys ((bd.take i).map (c7 x1))/\Same H7 H8) ⟨ak,.nil,X6 VO⟩ ?_ ?_
      ·rintro ys8 H8 ⟨IP,VQ,NG⟩;rw [ay ‹21›] at VQ;refine⟨⟨_,XQ (NG r3 _ PM),af _⟩,?_⟩;have hy8:ys8.length=bd.length:=by rw [cE VQ,aa]
       refine⟨_,rfl,D4,rfl,⟨_,XQ IP⟩,λD6 Sr=>?_⟩;have rx8:=VQ.x;refine bN (n:=ys8.length) (λi ys H9=>H9 D6=some (.lst ys)/\sG H9 D6 ol ys (bP ((bd.map (c7 x1)).take i))/\Same H8 H9) ⟨ak,.nil,X6 Sr⟩ ?_ ?_
       ·rintro ys9 H9 ⟨GS,Sz,DO⟩;rw [ay (by rw [aa]; omega)] at Sz;refine⟨⟨_,XQ (DO D4 _ IP),af _⟩,?_⟩;have SA:=NG.trans DO;refine⟨lm (bP (bd.map (c7 x1))),by rw [wA]; exact lc,ys9,bP (bd.map (c7 x1)),os++[x1],D6,_,rfl,GS,Sz.x,?_,?_,SA ol _ NF,rfl,?_,fun r h=>?_,DM.trans SA⟩
        ·intro e;rw [e] at GS;rw [SA ol _ NF] at GS;injection GS with GS;injection GS with GS;cases ys9 with
         |nil=>cases GS
         |cons y9 _=>
          obtain⟨a9,_,e9,_⟩:=Sz.x.get (i:=0) (by simp);injection GS with h9 _;rw[<- h9]at e9;cases e9
        ·unfold bP;rw[List.filter_filter];simp
        ·rw[wA,ai,cy];omega
        ·have h1:=mg3 _ (.step PH h);rw [Option.map_map] at h1
         have:((λx=>os++x) ∘ λx=>x1::x)=λx=>os++[x1]++x:=by
          funext z;simp
         rw[this]at h1;exact h1
       ·rintro i ys9 H9 hi ⟨GS,Sz,DO⟩;obtain ⟨a,sL,ea,_,ha⟩:=(rx8.mono DO).get hi;refine⟨⟨_,_,XQ (DO D4 _ IP),ea⟩,?_⟩;rintro yv AU ⟨rfl,yy⟩ gi ho;obtain ⟨oo,rfl⟩:=eP ho;have ey:=yy _ (XQ (DO D4 _ IP));rw [ea] at ey;cases ey
        have hys:ys9.length<=1000:=by
         rw[cE Sz];refine dq (eS _ _) ?_;rw[bj,aa];omega
        refine⟨‹9›,_,rfl,ck _,λe2 xi=>⟨a,e2,_,rfl,rfl,XQ (by rw[aB (aD ha xi)];exact ha),XQ ak,_,rfl,?_⟩⟩;have AM:Same AU (upd AU e2 (.lst [])):=X6 xi
        have hb:(!(((bd.map (c7 x1))[i]).map V.str).isEmpty)=!((bd.map (c7 x1))[i]).isEmpty:=by
         cases(bd.map (c7 x1))[i] <;>rfl
        rw[hb];cases he:((bd.map (c7 x1))[i]).isEmpty with
        |true=>
         refine iu (bG hi ⟨AM D6 _ GS,?_,DO.trans AM⟩);rw[take_snoc sL,uL,dL he,dm];exact Sz.mono AM
        |false=>
         have aD6:a≠D6:=λe=>by
          have:=Sr;obtain⟨a',_,Re,_,Yq⟩:=rx8.get hi;rw[ea]at Re;cases Re;rw[<- e,Yq]at this;cases this
         have ao:a≠ol:=by
          obtain⟨a',_,Re,n',_⟩:=rx8.get hi;rw[ea]at Re;cases Re;exact n'
         refine jq ⟨_,rfl,by omega,AM D6 _ GS,bG hi ⟨ak,?_,λb u e=>?_⟩⟩
         ·rw[take_snoc sL,uL,dC (by rw[he];exact az)];exact iw (Sz.grow AM) ⟨a,rfl,aD6,ao,by rw[aB aD6];exact AM a _ ha⟩
         ·rw[aB (aD e Sr)];exact AM b _ (DO b _ e)
      ·rintro i ys8 H8 hi ⟨IP,VQ,NG⟩;obtain ⟨a,sL,ea,ha⟩:=rl7 i hi;have VS:=NG a _ ha;refine⟨⟨_,_,XQ (NG r3 _ PM),ea⟩,?_⟩;rintro yv H9 ⟨rfl,yy⟩ gi ho;obtain ⟨oo,rfl⟩:=eP ho;have ey:=yy _ (XQ (NG r3 _ PM));rw [ea] at ey;cases ey
       have hys:ys8.length<=1000:=by
        rw[cE VQ,aa,bj];omega
       refine⟨‹9›,dh ⟨_,rfl,a,rfl,⟨_,XQ VS⟩,λD5 yA=>?_⟩⟩;have s9:∀o,Same H9 (upd H9 D5 o):=λo=>X6 yA;have D54:D5≠D4:=λe=>by rw[e,IP]at yA;cases yA
       have D5o:D5≠ol:=λe=>by rw[e,NG ol _ NF]at yA;cases yA
       have hrl1:(bd[i]).length<=1000:=by
        have:=yZ (bX sL);omega
       refine bN (n:=((bd[i]).map V.str).length) (λj Mn AU=>Mn=(c7 x1 ((bd[i]).take j)).map V.str/\AU=upd H9 D5 (.lst Mn)) ⟨rfl,rfl⟩ ?_ ?_
       ·rintro Mn AU ⟨rfl,rfl⟩;rw [ay (by rw [aa]; exact af _)];refine⟨⟨_,XQ (s9 _ a _ VS),af _⟩,by omega,s9 _ D4 _ IP,bG hi ⟨ak,?_,fun b u e=>?_⟩⟩
        ·rw[take_snoc sL,av];exact iw (VQ.grow (s9 _)) ⟨D5,rfl,D54,D5o,by rw[aB D54,ak]⟩
        ·rw[aB (aD e VO)];exact s9 _ b _ (NG b _ e)
       ·rintro j Mn AU hj ⟨rfl,rfl⟩;have Co:j < (bd[i]).length:=by rw [aa] at hj; exact hj
        have ej:((bd[i]).map V.str)[j]?=some (.str (bd[i])[j]):=by rw[bS,ac Co];rfl
        refine⟨⟨_,_,XQ (s9 _ a _ VS),ej⟩,?_⟩;rintro y5 UZ ⟨rfl,yy⟩ YB YC;obtain⟨o5,rfl⟩:=eP YC;have ey:=yy _ (XQ (s9 _ a _ VS));rw[ej]at ey;cases ey
        have IQ:c7 x1 ((bd[i]).take (j+1))=c7 x1 ((bd[i]).take j)++(if decide ((bd[i])[j]≠x1)=true then[(bd[i])[j]]else[]):=by
         unfold c7;rw[take_snoc Co,iX];congr 1;rw[fm];rfl
        have xI:((c7 x1 ((bd[i]).take j)).map V.str).length<=1000:=by
         rw[aa];have h1:=CT x1 ((bd[i]).take j);rw[bj]at h1;omega
        refine⟨‹9›,_,rfl,_,rfl,D2,_,_,_,rfl,rfl,XQ (s9 _ D2 _ (NG D2 _ EW)),at0 x1 ba,rfl,_,rfl,rJ (λhb=>?_) (λhb=>?_)⟩
        ·have hb:(bd[i])[j]≠x1:=by
          intro e;rw[e]at hb;simp at hb
         refine⟨_,rfl,by omega,ak,bG hj ⟨?_,by rw[gM]⟩⟩;rw[IQ,dL (aw hb),av];rfl
        ·have hb:(bd[i])[j]=x1:=gx λe=>hb (by
          show(!decide (V.str (bd[i])[j]=V.str x1))=true;rw[cw (by intro z;injection z with z;exact e z)];rfl)
         refine bG hj ⟨?_,rfl⟩;rw[IQ,dC (by simpa using hb),dm]
    ·rintro i ys' H5 hi ⟨rfl,i0,pz⟩;obtain ⟨a,sL,ea,_,ha⟩:=(rl4.mono pz).get hi;obtain ⟨y0,r0,er0⟩:=hnz bd[i] (bX sL);rw [er0] at ha;refine⟨⟨_,_,XQ (pz r3 _ IN),ea⟩,?_⟩;rintro yv H6 ⟨rfl,yy⟩ gi ho;obtain ⟨oo,rfl⟩:=eP ho;have ey:=yy _ (XQ (pz r3 _ IN));rw [ea] at ey;cases ey;refine⟨‹9›,_,rfl,r3,rfl,⟨_,XQ (pz r3 _ IN)⟩,fun D3 DS=>?_⟩;refine bN (n:=zs.length) (fun i3 bs H7=>bs=((bd.take i3).map fun o=>decide (y0∈o.drop 1)).map V.bl/\H7 D3=some (.lst bs)/\Same H6 H7) ⟨rfl,ak,X6 DS⟩ ?_ ?_
     ·rintro bs H7 ⟨rfl,EW,DM⟩;rw [ay ‹21›] at EW;refine⟨⟨_,XQ (DM r3 _ (pz r3 _ IN)),af _⟩,D3,_,rfl,XQ EW,_,rfl,?_⟩
      have SD:(bd.map λo=>decide (y0∈o.drop 1)).any id=eY bd y0:=by
       unfold eY;rw[List.any_map];rfl
      rw[SD]
      have efr:((bd.take (i+1)).flatMap (freeOf bd))=((bd.take i).flatMap (freeOf bd))++(if eY bd y0=true then[]else[y0]):=by
       rw[take_snoc sL,nB,List.flatMap_singleton,er0];rfl
      have eC:(((bd.take i).flatMap (freeOf bd)).map V.str).length<=1000:=by
       rw[aa];have h1:=Fv bd (bd.take i);rw[bj]at h1;omega
      cases hh:eY bd y0 with
      |true=>
       refine iu (bG hi ⟨?_,DM D2 _ i0,pz.trans DM⟩);rw[efr,hh,dL rfl,dm]
      |false=>
       refine jq ⟨_,rfl,a,_,_,_,rfl,rfl,XQ (DM a _ ha),at0 y0 r0,by omega,DM D2 _ i0,bG hi ⟨?_,ak,λb u e=>?_⟩⟩
       ·rw[efr,hh,dC az,av];rfl
       ·rw[aB (aD e nv)];exact DM b _ (pz b _ e)
     ·rintro i3 bs H7 hi3 ⟨rfl,EW,DM⟩;obtain ⟨a3,hir3,ea3,_,YD⟩:=((rl4.mono pz).mono DM).get hi3;refine⟨⟨_,_,XQ (DM r3 _ (pz r3 _ IN)),ea3⟩,?_⟩;rintro y3 H8 ⟨rfl,yy⟩ σo3 ho3;obtain ⟨o3,rfl⟩:=eP ho3;have ey:=yy _ (XQ (DM r3 _ (pz r3 _ IN)));rw [ea3] at ey;cases ey;refine⟨‹9›,dh ⟨_,rfl,a,_,_,_,rfl,rfl,XQ (DM a _ ha),at0 y0 r0,_,rfl,_,rfl,a3,_,rfl,XQ YD,fun q hq=>⟨q,_,rfl,.inl (XQ ak),rfl,by rw [Rb]; exact lY _,by rw [aa,aa,bj]; omega,by rw [aB (aD EW hq)]; exact EW,bG hi3 ⟨?_,ak,fun b u e=>?_⟩⟩⟩⟩
      ·show _++[V.bl (Iy (.str y0) (mO ((bd[i3]).map V.str) (some 1) none))]=_;rw[Rb,pH,take_snoc hir3,av,av];rfl
      ·rw[aB (aD e DS),aB (aD (DM b _ e) hq)];exact DM b _ e
  ·rintro i ys H2 hi ⟨nv,VE,CF,AO⟩;obtain ⟨a,sL,ea,ha⟩:=(rt.mono (XX AO)).get hi;refine⟨⟨_,_,XQ (AO rl _ AN),ea⟩,?_⟩;rintro y H3 ⟨rfl,yy⟩ gi ho;obtain ⟨o,rfl⟩:=eP ho;have ey:=yy _ (XQ (AO rl _ AN));rw [ea] at ey;cases ey
   have hys:ys.length<=1000:=by
    rw[cE VE];have:=tE (ah.take i);refine dq (eS _ _) ?_;rw[bj];omega
   refine⟨‹9›,_,rfl,a,_,rfl,.inr (XR ha),_,_,rfl,rfl,_,rfl,rJ (λhb=>?_) (λhb=>?_)⟩
   ·refine⟨_,rfl,a,_,rfl,.inr (XR ha),fun l hl=>?_⟩;have sl:∀ o,Same H3 (upd H3 l o):=fun o=>X6 hl;have lD:l≠D1:=fun e=>by rw [e,nv] at hl; cases hl
    have lo:l≠ol:=λe=>by rw[e,CF]at hl;cases hl
    refine⟨by omega,sl _ D1 _ nv,bG hi ⟨ak,?_,?_,?_⟩⟩
    ·have wn:¬(ah[i]).isEmpty=true:=λe=>by
      have hb:decide ((0:Int)<(((ah[i]).map V.str).length:Int))=true:=hb;have:=eI hb;rw[List.isEmpty_iff.mp e]at this;simp at this
     rw[take_snoc sL,uL,dC wn];exact iw (VE.grow (sl _)) ⟨l,rfl,lD,lo,by rw[aB lD,ak]⟩
    ·rw[aB ND];exact sl _ ol _ CF
    ·intro b o' e;rw[aB (aD e hD1H)];exact sl _ b _ (AO b _ e)
   ·have he:(ah[i]).isEmpty=true:=by
     have hb:¬decide ((0:Int)<(((ah[i]).map V.str).length:Int))=true:=hb;rw[oP,aa]at hb;exact List.isEmpty_iff_length_eq_zero.mpr ‹21›
    refine bG hi ⟨nv,?_,CF,AO⟩;rw[take_snoc sL,uL,dL he,dm];exact VE
end
section
variable {P:vy}{w:xm}{K:PySem.W.Frag}{mg:MG}{base:Heap}{t:tT}
inductive Nv (vs:LV) (H:Hp) (Q:VK) (E_:XK):Prop
 |mk (p:ax) (n:Int):vs=[.ref p,.int n]->Pu H p->0<n->n<1606938044258990275541962092341162602522202993782792835301376->(∀(r a b c:Int),0<=r->r<n->Q (.int r) (upd H p (.lst [.int a,.int b,.int c])))->Nv vs H Q E_
theorem rP(D:Defs K mg t):aW P w K mg base bm 1 t.bI.1 t.bI.2 ["_law_purse_here","_law_many"] Nv:=by
 refine D.bI.fn.ok rM ‹4› ‹3›
 ·obtain⟨p,n,rfl,_⟩:=h;rfl
 ·obtain ⟨p,n,rfl,⟨a,b,c,hp⟩,h0,h1,k⟩:=h
  refine⟨_,(au (qw (bh nJ (bf bF (pv 0) aG ‹20›) aG) (Dn (pv 0) aG wm))
   (au (aU (i:=2) rM.nd rfl (uv rfl) (bf bF (pv 0) aG ‹20›))
   (au (qw (bh lV (bh nJ (bh yW (pv 2) (bh nJ (bh lV (pv 2) aG) aG)) (bh yW aG (bf bF (pv 0) aG ‹20›))) aG) (Dn (pv 0) aG wm))
   (au (bL (aV qO (bf bF (pv 0) aG ‹20›) aG (aR _))
   (au (aU (i:=3) rM.nd rfl (uv rfl) (bh lV (bf bF (pv 0) aG ‹20›) (pv 1)))
   (au (qw (bh Py (bf bF (pv 0) aG ‹20›) (pv 1)) (Dn (pv 0) aG wm))
   (aF (aM (pv 3)))))
   aX)
   (aF (aM (bh lV (bh Q0 (bf bF (pv 0) aG ‹20›) aG) (pv 1)))))))),?_⟩
  refine⟨_,rfl,p,_,_,_,rfl,rfl,XQ hp,rfl,_,_,rfl,rfl,_,rfl,p,_,_,2,rfl,rfl,hp,rfl,?_⟩;refine⟨_,rfl,p,_,_,_,rfl,rfl,XQ ak,rfl,?_⟩
  refine⟨_,rfl,_,rfl,_,_,rfl,rfl,(by show(0:Int)<46337;decide),_,_,rfl,rfl,_,_,rfl,rfl,.inr ⟨?_,?_⟩,_,rfl,p,_,_,_,rfl,rfl,XQ ak,rfl,_,_,rfl,rfl,.inl ⟨by decide,by decide⟩,_,_,rfl,rfl,_,_,rfl,rfl,
   (by show(0:Int)<2147483587;decide),_,rfl,p,_,_,0,rfl,rfl,ak,rfl,?_⟩
  ·have:=qB a (show(46337:Int)≠0 by decide);omega
  ·have:=oQ a (show(0:Int)<46337 by decide);omega
  rw[gM];refine⟨_,rfl,p,_,_,_,rfl,rfl,XQ ak,rfl,_,_,rfl,rfl,_,rfl,rJ (λhb=>?_) (λhb=>?_)⟩
  ·refine⟨_,rfl,p,_,_,_,rfl,rfl,XQ ak,rfl,_,rfl,_,_,rfl,rfl,h0,_,rfl,p,_,_,_,rfl,rfl,XQ ak,rfl,_,rfl,_,_,rfl,rfl,⟨h0,h1⟩,_,rfl,p,_,_,1,rfl,rfl,ak,rfl,_,rfl,?_⟩;rw[gM];exact k _ _ _ _ (qB _ ‹21›) (oQ _ h0)
  ·refine⟨_,rfl,p,_,_,_,rfl,rfl,XQ ak,rfl,_,_,rfl,rfl,⟨by decide,by decide⟩,_,rfl,_,_,rfl,rfl,h0,?_⟩;exact k _ _ _ _ (qB _ ‹21›) (oQ _ h0)
inductive Jt (vs:LV) (H:Hp) (Q:VK) (E_:XK):Prop
 |mk (n:Int):vs=[.int n]->(∀(p:ax) (a b c:Int),H p=none->Q (.ref p) (upd H p (.lst [.int a,.int b,.int c])))->Jt vs H Q E_
theorem Nb(D:Defs K mg t):aW P w K mg base bm 1 t.kI.1 t.kI.2 ["_law_cell_here"] Jt:=by
 refine D.kI.fn.ok qF ‹4› ‹3›
 ·obtain⟨n,rfl,_⟩:=h;rfl
 ·obtain ⟨n,rfl,k⟩:=h
  refine⟨_,(au (aU (i:=1) qF.nd rfl (uv rfl) aG)
   (Ef (bL (XN (kZ (aV vd (pv 0) aG (aR _)) (je (aV Vg (pv 0) (bh Tt aG aG) (aR _)))))
   (aF (aU (i:=1) qF.nd rfl (uv rfl) (aN Qm (by rfl) D.Wd Ur ‹15›)))
   aX)
   (aF (aM (bw (aj (bh lV (pv 0) aG) (aj (pv 1) (aj aG aq)))))))),?_⟩
  refine⟨λcp H'=>∃d:Int,cp=[some (.int n),some (.int d)]/\H'=H,?_,?_⟩
  ·refine⟨_,rfl,_,_,rfl,rfl,_,rfl,rJ (fun hb=>?_) (fun hb=>?_)⟩
   ·exact jq ⟨_,rfl,_,rfl,_,rfl,rfl⟩
   ·refine⟨_,rfl,_,_,rfl,rfl,⟨by decide,by decide,by decide⟩,_,_,rfl,rfl,_,rfl,rJ (fun hc=>?_) (fun hc=>?_)⟩
    ·exact⟨_,rfl,_,rfl,_,rfl,rfl⟩
    ·exact⟨_,rfl,rfl⟩
  ·rintro cp H' ⟨d,rfl,rfl⟩;exact⟨_,rfl,_,_,rfl,rfl,(by show(0:Int)<2147483587;decide),_,rfl,(by show 3<=ab;decide),λp hp=>k p _ _ _ hp⟩
inductive Lp (K:PySem.W.Frag) (vs:LV) (H:Hp) (Q:VK) (E_:XK):Prop
 |mk (a:ax) (ns:List Int) (k:Int):vs=[.ref a,.int k]->SqL K H a (ns.map V.int)->ns.length<=63->0<=k->k<=1000->(∀(n:Int) H',Same H H'->Q (.int n) H')->Lp K vs H Q E_
theorem Qz(D:Defs K mg t):aW P w K mg base bm 1 t.mF.1 t.mF.2 ["_law_script","_law_k"] (Lp K):=by
 refine D.mF.fn.ok oO ‹4› ‹3›
 ·obtain⟨a,ns,k,rfl,_⟩:=h;rfl
 ·obtain ⟨a,ns,k,rfl,hS,hl,h0,h1,q⟩:=h
  refine⟨_,(au (bL (aV vd (pv 1) (aN iK (by rfl) D.cW cg ‹15›) (aR _))
   (aF (aM (bf yu (pv 0) (pv 1) ‹20›)))
   aX)
   (au (aU (i:=2) oO.nd rfl (uv rfl) (bh yW (bh yW aG (bh nJ (pv 1) aG)) (bh nJ (pv 1) aG)))
   (au (fG di rfl (Qq (gn Cq (pv 0) iH (iM aG))) (aO (i:=3) oO.nd rfl (uv rfl))
   (aF (aU (i:=2) oO.nd rfl (uv rfl) (bh lV (bh nJ (bh yW (pv 2) aG) (pv 3)) aG))))
   (aF (aM (pv 2)))))),?_⟩
  refine⟨_,rfl,_,rfl,a,_,rfl,.inl hS,_,_,rfl,rfl,_,rfl,rJ (λhb=>?_) (λhb=>?_)⟩
  ·have hk:k<(ns.map V.int).length:=eI hb;obtain⟨v,e,m,_⟩:=GD h0 hk;obtain⟨z,_,rfl⟩:=bE.mp m;exact⟨_,rfl,_,rfl,a,_,_,_,rfl,rfl,hS,e,q z H (XS H)⟩
  ·refine⟨_,rfl,_,_,rfl,rfl,_,_,rfl,rfl,.inl ⟨by decide,by decide⟩,_,rfl,_,_,rfl,rfl,_,_,rfl,rfl,.inr ⟨by omega,by omega⟩,?_⟩
   refine⟨_,rfl,_,rfl,a,_,rfl,hS,λp hp=>⟨p,rfl,⟨_,XQ ak⟩,vW (K:=K) (a:=p) (xs:=mO (ns.map V.int) none (some 4)) (λi σ H2=>∃(st:Int) (v:OV),σ=[some (.ref a),some (.int k),some (.int st),v]/\H2=upd H p (.lst (mO (ns.map V.int) none (some 4))))
    ⟨_,_,rfl,rfl⟩ (λi σ H2 _ ⟨_,_,_,e⟩=>by rw[e];exact XQ ak) ?_ ?_⟩⟩
   ·rintro i x σ H2 hi ⟨st,v,rfl,rfl⟩;have m:x∈ns.map V.int:=List.mem_of_mem_drop (ib (gE hi));obtain⟨z,_,rfl⟩:=bE.mp m;exact⟨_,rfl,_,_,rfl,rfl,.inr ⟨by decide,by decide⟩,_,rfl,_,_,rfl,rfl,_,_,rfl,rfl,(by show(0:Int)<2147483587;decide),_,_,rfl,rfl⟩
   ·rintro σ H2 ⟨st,v,rfl,rfl⟩;exact⟨_,rfl,q st _ (X6 hp)⟩
end
end K26
end
section
namespace L2
open PySem PySem.Spec PyProof.Rows
variable {c:Nat}
def Lw(x:Str):Prop:=∀c∈x.cps.toList,c∈abc.cps.toList
theorem Lw.nil:Lw "":= by
 unfold Lw;decide +kernel
theorem Lw.app{x y:Str}(h:Lw x)(g:Lw y):Lw (x++y):=λc hc=>by
 have hc:c∈(x.cps++y.cps).toList:=hc;rw[qV]at hc;rcases bu.mp hc with q|q
 ·exact h c q
 ·exact g c q
theorem Lw.one(h:c∈abc.cps.toList):Lw ⟨#[c]⟩:=λd hd=>by
 rw[bg.mp (show d∈[c]from hd)];exact h
theorem Lw.letter{x:Str}(h:x∈letters):Lw x:=by
 obtain⟨c,hc,rfl⟩:=bE.mp h;exact Lw.one hc
theorem Lw.slice{x:Str}(h:Lw x)(lo hi:Option Int):Lw (Be x lo hi):=by
 unfold Be;split
 ·exact h
 ·intro c hc;obtain⟨i,_,e⟩:=List.mem_filterMap.mp (show c∈(List.filterMap (x.cps[·]?) _)from hc);exact h c (mi.mpr (Array.mem_of_getElem? e))
theorem Tr:∀c∈abc.cps.toList,97<=c/\c<=122:=by decide +kernel
theorem Ik{xs:List Nat}{i:Int}(h:tS xs i=some c):c∈xs:=by
 unfold tS at h;obtain⟨j,_,e⟩:=Option.bind_eq_some_iff.mp h;exact gE e
def Nm(x:Str):Prop:=1<=x.length/\x.length<=6/\Lw x
theorem Df{x:Str}{j:Int}(h0:0<=j)(h:j<=x.length):(Be x none (some j)).length=j.toNat:=by
 have e:x.cps.toList.length=x.length:=ir;show(StrLaws.sliceText x none (some j)).length=_;rw[StrLaws.sliceText_to ⟨h0,by rw[e];exact h⟩];show(List.toArray _).size=_;rw[bz,bj,ja,e];omega
theorem UW(x:Str):(Be x none (some 5)).length<=5:=by
 by_cases h:5<=x.length
 ·rw[Df ‹11› ‹21›];decide
 ·exact dq (Kh x _ _) ‹21›
end L2
end
section
namespace K26
open PySem PyProof.Rows L2
variable {H H':Hp}{kvs:sg}{g:Str->LS}{S es ns os:LS}{ah:LL}{q:ax}{n:Nat}{t:T}{as:List T}
section
variable {P:vy}{w:xm}{K:PySem.W.Frag}{mg:MG}{base:Heap}{t:tT}
theorem uH{G:Prop}(S:Hp->Prop){NX:Hp->Prop}(use:(∀H3,S H3->NX H3)->G)(rest:∀H3,S H3->NX H3):G:=use rest
inductive Ng (vs:LV) (H:Hp) (Q:VK) (E_:XK):Prop
 |mk (p u:ax) (us:LS):vs=[.ref p,.ref u]->Pu H p->H u=some (.lst (us.map V.str))->us.length<=25->(∀(x:Str) H',Nm x->¬x∈us->Off p H H'->Pu H' p->Q (.str x) H')->Ng vs H Q E_
noncomputable def menu:LS:=["end","else","catch","none","me","kind","deed","run","name","tell","if","plus"]
theorem Rj:∀x∈menu,Nm x:=by
 have:∀x∈menu,1<=x.length/\x.length<=6/\∀c∈x.cps.toList,c∈abc.cps.toList:=by decide +kernel
 exact this
theorem QB(D:Defs K mg t):aW P w K mg base bm 2 t.mL.1 t.mL.2 ["_law_purse_here","_law_used"] Ng:=by
 have tI:=@rP P w K mg base t D;have hz:ab=16777216:=cn;refine D.mL.fn.ok iQ ‹4› ‹3›
 ·obtain⟨p,u,us,rfl,_⟩:=h;rfl
 ·obtain ⟨p,u,us,rfl,hp,hu,hl,k⟩:=h;have up:u≠p:=hp.ne hu
  refine⟨_,(@au _ _ _ _ _ (@aU _ _ 2 _ _ _ _ iQ.nd rfl (uv rfl) (@bw _ _ _ _ (@yC _ _ ["end","else","catch","none","me","kind","deed","run","name","tell","if","plus"] (by rfl))) (by rfl) (by first|exact .inl rfl|exact .inr rfl))
   (au (aU (i:=3) iQ.nd rfl (MT rfl) (bf bF (pv 2) (aH D.bI tI ‹2› (by rfl) (aj (pv 0) (aj aG aq))) ‹20›))
   (Ef (bL (XN (kZ (aV qO (aH D.bI tI ‹2› (by rfl) (aj (pv 0) (aj aG aq))) aG (aR _)) (je (aV Cm (pv 3) (pv 1) (by with_unfolding_all rfl)))))
   (au (aU (i:=3) iQ.nd rfl (MT rfl) aP)
   (aF (fG di rfl (iY rfl D.ni (aj (bh nJ aG (aH D.bI tI ‹2› (by rfl) (aj (pv 0) (aj aG aq)))) aq)) (aO (i:=4) iQ.nd rfl (uv rfl))
   (aF (aU (i:=3) iQ.nd rfl (MT rfl) (bh bZ (pv 3) (bf Qh aP (aH D.bI tI ‹2› (by rfl) (aj (pv 0) (aj aG aq))) ‹20›)))))))
   aX)
   (au (bL (aV wI (pv 3) (pv 1) (by with_unfolding_all rfl))
   (aF (aM (pv 3)))
   aX)
   (au (rD (i:=5) rfl iQ.nd rfl (uv rfl) (X7 ["_law_a"] [1,3] ["_law_a","_law_used","_law_word_here"] (aJ (top 68)) ["_law_purse_here","_law_used","_law_menu","_law_word_here","_law_k","_law_first"] rfl rfl ‹1›) ⟨fun _ _ _ _ _=>(aO (i:=0) (show List.Nodup [("_law_a":Str),("_law_used":Str),("_law_word_here":Str)]by decide +kernel) rfl ‹16› ‹13›),fun _ _ _ _ _=>(oJ (aV wI (bh bZ (pv 0) (gn O5 (pv 2) iH (iM aG))) (pv 1) (by with_unfolding_all rfl))),fun _ _ _ _ _=>(pv 0)⟩ (G4 aP))
   (aF (aM (bh bZ (bf bF (pv 5) aG ‹20›) (gn O5 (pv 3) iH (iM aG)))))))))),?_⟩
  refine⟨by show 12<=ab;decide,λq hq=>?_⟩
  have pq:p≠q:=by
   obtain⟨a,b,c,e⟩:=hp;exact aD e hq
  have o1:Off p H (upd H q (.lst (menu.map V.str))):=X5 hq
  have hp1:Pu (upd H q (.lst (menu.map V.str))) p:=by
   obtain⟨a,b,c,e⟩:=hp;exact⟨a,b,c,by rw[aB pq];exact e⟩
  have sw:(upd H q (.lst (menu.map V.str))) q=some (.lst (menu.map V.str)):=ak;have em:menu=(["end","else","catch","none","me","kind","deed","run","name","tell","if","plus"]:LS):=rfl;rw[em]at o1 hp1 sw;generalize upd H q (.lst ((["end","else","catch","none","me","kind","deed","run","name","tell","if","plus"]:LS).map V.str))=H1 at o1 hp1 sw;rw[<- em]at sw;refine⟨_,rfl,_,rfl,p,12,rfl,hp1,by decide,by decide,fun r a0 b0 c0 h0 h1=>?_⟩;obtain⟨x0,e0,m0,_⟩:=jw (ns:=menu) h0 h1;refine⟨q,menu.map V.str,_,_,rfl,rfl,XQ (by rw[aB pq.symm];exact sw),e0,?_⟩;refine⟨fun cp H'=>∃(x:Str) (v:OV),cp=[some (.ref p),some (.ref u),some (.ref q),some (.str x),v,none]/\Nm x/\Off p H H'/\Pu H' p,?_,?_⟩
  ·refine⟨_,rfl,p,5,rfl,X8,by decide,by decide,fun r a b c h0 h1=>?_⟩;have oC:Off p H (upd (upd H1 p (.lst [.int a0,.int b0,.int c0])) p (.lst [.int a,.int b,.int c])):=(o1.trans X4).trans X4;have pC:Pu (upd (upd H1 p (.lst [.int a0,.int b0,.int c0])) p (.lst [.int a,.int b,.int c])) p:=X8;generalize (upd (upd H1 p (.lst [.int a0,.int b0,.int c0])) p (.lst [.int a,.int b,.int c]))=HC at oC pC;apply uH (fun H'=>HC=H')
   case use=>
    intro rest;refine⟨_,_,rfl,rfl,_,rfl,rJ (λhb=>?_) (λhb=>?_)⟩
    ·refine jq ?_;exact rest HC rfl
    ·refine⟨_,rfl,_,rfl,u,_,rfl,.inl (XQ (oC u _ up hu)),rfl,lY us,_,rfl,rJ (λPR=>?_) (λPR=>⟨x0,none,rfl,Rj x0 m0,oC,pC⟩)⟩;exact rest HC rfl
   case rest=>
    rintro _ rfl;refine⟨_,rfl,p,6,rfl,pC,by decide,by decide,λr2 a2 b2 c2 g0 g1=>⟨_,_,rfl,rfl,_,rfl,by omega,by omega,?_⟩⟩
    refine mq (lo:=0) (n:=(1+r2).toNat) (λi σ H2=>∃(x:Str) (v:OV),σ=[some (.ref p),some (.ref u),some (.ref q),some (.str x),v,none]/\x.length=i/\Lw x/\Off p H H2/\Pu H2 p)
     ⟨_,_,rfl,by decide,Lw.nil,oC.trans X4,X8⟩ ?_ ?_
    ·rintro i σ H2 hi ⟨x,v,rfl,hx,xl,o2,p2⟩;refine⟨_,rfl,_,rfl,p,26,rfl,p2,by decide,by decide,fun r3 a3 b3 c3 f0 f1=>?_⟩;obtain ⟨cc,ec,_,_⟩:=GD (xs:=abc.cps.toList) f0 (by rw [ir,Dh]; exact f1);refine⟨abc,_,cc,rfl,rfl,by decide +kernel,ec,_,_,rfl,rfl,?_,_,_,rfl,?_,xl.app (Lw.one (Ik ec)),o2.trans X4,X8⟩
     ·show x.length+1<=ab;omega
     ·rw[bD];show x.length+1=i+1;omega
    ·rintro σ H2 ⟨x,v,rfl,hx,xl,o2,p2⟩;exact⟨x,v,rfl,⟨by omega,by omega,xl⟩,o2,p2⟩
  ·rintro cp H' ⟨x,v,rfl,hx,oh,ph⟩;have RY:H' u=some (.lst (us.map V.str)):=oh u _ up hu;refine⟨_,rfl,_,rfl,u,_,rfl,.inl (XQ RY),rfl,lY us,_,rfl,rJ (fun hb=>?_) (fun hb=>?_)⟩
   ·refine⟨_,rfl,k x H' hx ?_ oh ph⟩;intro hm;have hb:(!Iy (.str x) (us.map V.str))=true:=hb;rw[pH,aw hm]at hb;cases hb
   ·have s5:(Be x none (some 5)).length<=5:=UW x;have PV:=hx.2.1;refine⟨_,rfl,by decide +kernel,fun Dd hD=>?_⟩;have uD:u≠Dd:=aD RY hD
    have pD:p≠Dd:=by
     obtain⟨a,b,c,e⟩:=ph;exact aD e hD
    refine bN (n:=26) (λi ys H2=>ys=((letters.take i).filter λc=>decide (¬(c++Be x none (some 5))∈us)).map V.str/\H2=upd H' Dd (.lst ys)) ⟨rfl,rfl⟩ ?_ ?_
    ·rintro ys H2 ⟨rfl,rfl⟩;refine⟨by show abc.cps.size<=26; rw [Dh]; exact af _,?_⟩;rw [show letters.take 26=letters from ay (by rw [xR]; exact af _)];obtain ⟨c,hc,hn⟩:=Gj hl (Be x none (some 5));have hmem:c∈letters.filter fun c=>decide (¬ (c++Be x none (some 5))∈us):=dP.mpr ⟨hc,aw hn⟩;obtain ⟨d,rest,ed⟩:=List.exists_cons_of_ne_nil (List.ne_nil_of_mem hmem);have hd:d∈letters.filter fun c=>decide (¬ (c++Be x none (some 5))∈us):=by rw [ed]; exact aS
     obtain⟨GU,y6⟩:=dP.mp hd;refine⟨_,rfl,Dd,_,_,.str d,rfl,rfl,XQ ak,by rw[ed];exact aK (j:=0) rfl,_,rfl,_,rfl,x,rfl,by omega,_,_,rfl,rfl,?_,?_⟩
     ·rw[nD d GU];omega
     ·refine k _ _ ?_ (eI y6) (oh.trans (X5 hD)) ?_
      ·exact⟨by rw[bD,nD d GU];omega,by rw[bD,nD d GU];omega,(Lw.letter GU).app (hx.2.2.slice _ _)⟩
      ·obtain⟨a,b,c,e⟩:=ph;exact⟨a,b,c,by rw[aB pD];exact e⟩
    ·rintro i ys H2 hi ⟨rfl,rfl⟩;refine⟨by show i < abc.cps.size; rw [Dh]; exact hi,?_⟩;rintro y H3 ⟨rfl,c,ec,rfl⟩ gi ho;obtain ⟨o,rfl⟩:=eP ho
     have el:letters[i]?=some ⟨#[c]⟩:=by
      have YE:abc.cps[i]?=some c:=ec;unfold letters;rw[bS,kF,YE];rfl
     have et:letters.take (i+1)=letters.take i++[⟨#[c]⟩]:=by
      rw[li,el];rfl
     have eC:(((letters.take i).filter λc=>decide (¬(c++Be x none (some 5))∈us)).map V.str).length<=26:=by
      rw[aa];refine dq (eS _ _) ?_;rw[bj];omega
     refine⟨‹9›,_,rfl,_,rfl,_,rfl,x,rfl,by omega,_,_,rfl,rfl,(by show 1+_<=ab;omega),_,rfl,u,_,rfl,.inl (XQ (by rw[aB uD];exact RY)),rfl,lY us,_,rfl,rJ (λhb=>?_) (λhb=>?_)⟩
     ·have hb:(!Iy (.str (⟨#[c]⟩++Be x none (some 5))) (us.map V.str))=true:=hb;rw [pH] at hb;have hn:¬ ((⟨#[c]⟩:Str)++Be x none (some 5))∈us:=by simpa using hb
      refine⟨_,rfl,by omega,ak,bG hi ⟨?_,by rw[gM]⟩⟩;rw[et,iX,av];congr 1;rw[fm,dL (aw hn)];rfl
     ·have hb:¬ (!Iy (.str (⟨#[c]⟩++Be x none (some 5))) (us.map V.str))=true:=hb;rw [pH] at hb;have hn:((⟨#[c]⟩:Str)++Be x none (some 5))∈us:=by simpa using hb
      refine bG hi ⟨?_,rfl⟩;rw[et,iX];rw[show List.filter (λc=>decide (¬(c++Be x none (some 5))∈us)) [(⟨#[c]⟩:Str)]=[]by rw[fm,dC (by simpa using hn)];rfl,dm]
end
section
variable {P:vy}{w:xm}{K:PySem.W.Frag}{mg:MG}{base:Heap}{t:tT}
theorem uG{α:Type}{l:List α}{x:α}(h:l.Nodup)(hx:¬x∈l):(l++[x]).Nodup:=by
 rw[iA];refine⟨h,by simp,λa ha b hb e=>?_⟩;have:b=x:=by simpa using hb
 rw[e,this]at ha;exact hx ha
end
section
variable {P:vy}{w:xm}{K:PySem.W.Frag}{mg:MG}{base:Heap}{t:tT}
inductive Px (vs:LV) (H:Hp) (Q:VK) (E_:XK):Prop
 |mk (p m:ax) (ns:LS) (n:Nat):vs=[.ref p,.ref m,.int n]->Pu H p->H m=some (.lst (ns.map V.str))->n<=100->ns.length<=100->(∀(q:ax) (es:LS) H',H' q=some (.tup (es.map V.str))->(∀x∈es,x∈ns)->es.Nodup->es.length<=n->Off p H H'->Pu H' p->Q (.ref q) H')->Px vs H Q E_
theorem Bp(D:Defs K mg t):aW P w K mg base bm 2 t.iW.1 t.iW.2 ["_law_purse_here","_law_menu","_law_most"] Px:=by
 have tI:=@rP P w K mg base t D;have hz:ab=16777216:=cn;refine D.iW.fn.ok ou ‹4› ‹3›
 ·obtain⟨p,m,ns,n,rfl,_⟩:=h;rfl
 ·obtain ⟨p,m,ns,n,rfl,hp,hm,hn,hl,k⟩:=h;have mp:m≠p:=hp.ne hm
  refine⟨_,(au (aU (i:=3) ou.nd rfl (uv rfl) (bw aq))
   (au (bL (aV cO (aN bJ (by rfl) D.cW cg ‹14›) aG (aR _))
   (aF (aM (bW aq)))
   aX)
   (au (fG di rfl (iY rfl D.ni (aj (aH D.bI tI ‹2› (by rfl) (aj (pv 0) (aj (bh nJ (pv 2) aG) aq))) aq)) (aO (i:=4) ou.nd rfl (uv rfl))
   (au (aU (i:=5) ou.nd rfl (uv rfl) (bf bF (pv 1) (aH D.bI tI ‹2› (by rfl) (aj (pv 0) (aj (aN bJ (by rfl) D.cW cg ‹14›) aq))) ‹20›))
   (aF (bL (aV wI (pv 5) (pv 3) (by with_unfolding_all rfl))
   (aF (bH (gb cz eQ eR fY (pv 3) (aj (pv 5) aq))))
   aX))))
   (aF (aM (aY dM (by rfl) D.dB cP (aj (pv 3) aq))))))),?_⟩
  simp only[jm,Cx.nox];refine⟨ck _,λl Md=>?_⟩;have pl:p≠l:=hp.neN Md;have ml:m≠l:=aD hm Md;refine⟨_,rfl,m,_,rfl,.inl (XQ (by rw[aB ml];exact hm)),rfl,_,rfl,rJ (λhb=>?_) (λhb=>?_)⟩
  ·exact⟨ck _,λq hq=>k q [] _ ak (by simp) j0 (ck _) ((X5 Md).trans (X5 hq)) ((hp.aB pl).aB ((hp.aB pl).neN hq))⟩
  ·have hpos:0<ns.length:=by
    have hb:¬decide (V.int ((ns.map V.str).length:Int)=V.int 0)=true:=hb;rcases Nat.eq_zero_or_pos ns.length with h|h
    ·exfalso
     apply hb;rw[aa,h];exact aw rfl
    ·exact h
   refine⟨_,rfl,_,rfl,_,_,rfl,rfl,p,_,rfl,hp.aB pl,by omega,by omega,λr a1 b1 c1 l1 u1=>⟨r,rfl,by omega,by omega,?_⟩⟩
   refine mq (lo:=0) (n:=r.toNat) (λi σ H2=>∃(es:LS) (v4 v5:OV),σ=[some (.ref p),some (.ref m),some (.int n),some (.ref l),v4,v5]/\es.length<=i/\es.Nodup/\(∀x∈es,x∈ns)/\H2 l=some (.lst (es.map V.str))/\Off p H H2/\Pu H2 p)
    ⟨[],_,_,rfl,af _,j0,by simp,by rw[aB pl.symm,ak];rfl,(X5 Md).trans X4,X8⟩ ?_ ?_
   ·rintro i σ H2 hi ⟨es,v4,v5,rfl,he,nd,sub,cx,o2,p2⟩;have GV:H2 m=some (.lst (ns.map V.str)):=o2 m _ mp hm;refine⟨_,rfl,_,rfl,_,rfl,m,_,rfl,.inl (XQ GV),p,_,rfl,p2,by rw [aa]; omega,by rw [aa]; omega,fun r2 a2 b2 c2 l2 u2=>?_⟩;rw [aa] at u2;obtain ⟨x,ex,mx,_⟩:=jw (ns:=ns) l2 u2;refine⟨m,_,_,_,rfl,rfl,XQ (by rw [aB mp]; exact GV),ex,?_⟩;have lp:l≠p:=pl.symm;refine⟨_,rfl,_,rfl,l,_,rfl,.inl (XQ (by rw [aB lp]; exact cx)),rfl,lY es,_,rfl,rJ (fun hc=>?_) (fun hc=>?_)⟩
    ·have hc:(!Iy (.str x) (es.map V.str))=true:=hc;rw [pH] at hc;have hx:¬ x∈es:=by simpa using hc
     refine⟨_,rfl,.inl ⟨rfl,_,XQ (by rw[aB lp];exact cx)⟩,_,rfl,l,es.map V.str,.str x,rfl,rfl,by rw[aB lp];exact cx,by rw[aa];omega,es++[x],_,_,rfl,by rw[ai];exact Nat.succ_le_succ he,uG nd hx,?_,by rw[ak,av];rfl,?_,Pu.upd.aB pl⟩
     ·intro z hz;rcases bu.mp hz with h | h
      ·exact sub z h
      ·rw[bg.mp h];exact mx
     ·intro b o hb e;rw[aB (aD e Md),aB hb];exact o2 b o hb e
    ·exact⟨es,_,_,rfl,Nat.le_succ_of_le he,nd,sub,by rw[aB lp];exact cx,o2.trans X4,X8⟩
   ·rintro σ H2 ⟨es,v4,v5,rfl,he,nd,sub,cx,o2,p2⟩;refine⟨_,rfl,l,_,rfl,.inl ⟨XQ cx,λq hq=>?_⟩⟩;exact k q es _ ak sub nd ‹21› (o2.trans (X5 hq)) (p2.aB (p2.neN hq))
def zc(H:Hp)(kvs:sg)(g:Str->LS)(ns:LS):Prop:=∀x∈ns,∃q,eU kvs (.inr x)=some (.ref q)/\H q=some (.tup ((g x).map V.str))/\(g x).length<=8
theorem zc.mono(h:zc H kvs g ns)(s:fH H H'):zc H' kvs g ns:=λx hx=>by
 obtain⟨q,h1,h2,h3⟩:=h x hx;exact⟨q,h1,s q _ h2,h3⟩
theorem yw(xs:LV)(k:Nat)(h:k<=xs.length):mO xs none (some (k:Int))=xs.take k:=by
 unfold mO;rw[HT.yp,Nat.min_eq_left h];rfl
theorem wU(xs:LV)(k:Nat)(h:k<=xs.length):mO xs (some (k:Int)) none=xs.drop k:=by
 unfold mO;rw[HT.yp,Nat.min_eq_left h];show List.take (xs.length - k) (xs.drop k)=_;rw[ay];rw[ja];exact af _
theorem Rx(xs:LV):mO xs none (some 1)=xs.take 1:=by
 cases xs with
 |nil=>rfl
 |cons x xs=>exact yw (x::xs) 1 (by rw[aI];omega)
theorem uF(xs:LV):mO xs (some 1) none=xs.drop 1:=by
 cases xs with
 |nil=>rfl
 |cons x xs=>exact wU (x::xs) 1 (by rw[aI];omega)
noncomputable def lX(g:Str->LS)(es:LS):LL:=es.map g++[es]
theorem Ab(h:∀x∈es,(g x).length<=8):lm (lX g es)<=9*es.length:=by
 have tl:∀es:LS,(∀x∈es,(g x).length<=8)->lm (es.map g)<=8*es.length:=by
  intro es
  induction es with
  |nil=>exact λ_=>af _
  |cons x es ih=>
   intro h;rw[ci,jE,aI];have:=h x aS;have:=ih λy hy=>h y (cf _ hy);omega
 have ta:lm (lX g es)=lm (es.map g)+es.length:=by
  unfold lX lm;rw[av,n9];simp
 have:=tl es h;omega
theorem Mg.yQ{r:Option LS}(h:Mg ah r):∀os,r=some os->(∀y∈os,∃q∈ah,y∈q)/\os.Nodup:=by
 induction h with
 |nil=>
  intro os e;cases e;exact⟨by simp,j0⟩
 |stuck _ _=>
  intro os e;cases e
 | @step ah x ba r hf _ ih=>
  intro os e;cases r with
  |none=>cases e
  |some GH=>
   cases e;obtain⟨h1,h2⟩:=ih GH rfl
   have IR:∀y∈GH,y≠x/\∃q∈ah,y∈q:=λy hy=>by
    obtain⟨q,hq,GY⟩:=h1 y hy;obtain⟨sw,_⟩:=dP.mp hq;obtain⟨q0,NH,rfl⟩:=bE.mp sw;obtain⟨a,b⟩:=dP.mp GY;exact⟨eI b,q0,NH,a⟩
   refine⟨λy hy=>?_,fg.mpr ⟨λh=>(IR x h).1 rfl,h2⟩⟩;rcases aT.mp hy with rfl|h
   ·obtain ⟨q,hq,hh⟩:=uy (by rw [hf]; exact aS);refine⟨q,hq,?_⟩;cases q with
    |nil=>cases hh
    |cons z q=>
     cases hh;exact aS
   ·exact(IR y h).2
theorem Mz{x:Str}{q:LS}(h:¬x∈q):c7 x q=q:=by
 unfold c7;rw[List.filter_eq_self];intro y hy;exact aw λe=>h (e ▸ hy)
theorem Am:∀(os:LS),os.Nodup->Mg (bP [os]) (some os)
 |[],_=>.nil
 |y::os,nd=>by
  obtain⟨n1,n2⟩:=fg.mp nd;have ih:=Am os n2
  have hh:¬eY [y::os] y=true:=by
   unfold eY;simp[n1]
  have hf:frees [y::os]=y::[]:=by
   show(if eY [y::os] y=true then[]else[y])++[]=_;rw[dC hh];rfl
  have ho:bP ([y::os].map (c7 y))=bP [os]:=by
   have:c7 y (y::os)=os:=by
    have h1:c7 y (y::os)=c7 y os:=by
     unfold c7;rw[fm];simp
    rw[h1,Mz n1]
   show bP [c7 y (y::os)]=_;rw[this]
  have:=Mg.step hf (r:=some os) (by rw[ho];exact ih);exact this
theorem S8{e:Str}(nd:(e::os).Nodup):Mg (bP [e::os,[e]]) (some (e::os)):=by
 obtain⟨n1,n2⟩:=fg.mp nd;have ih:=Am os n2
 have hh:¬eY [e::os,[e]] e=true:=by
  unfold eY;simp[n1]
 have hf:frees [e::os,[e]]=e::[e]:=by
  show(if eY [e::os,[e]] e=true then[]else[e])++((if eY [e::os,[e]] e=true then[]else[e])++[])=_;rw[dC hh];rfl
 have h1:c7 e (e::os)=os:=by
  have h1:c7 e (e::os)=c7 e os:=by
   unfold c7;rw[fm];simp
  rw[h1,Mz n1]
 have h2:c7 e [e]=[]:=by
  unfold c7;simp
 have ho:bP ([e::os,[e]].map (c7 e))=bP [os]:=by
  show bP [c7 e (e::os),c7 e [e]]=_;rw[h1,h2];cases os <;>rfl
 have YF:bP [e::os,[e]]=[e::os,[e]]:=rfl;rw[YF];exact Mg.step hf (r:=some os) (by rw[ho];exact ih)
def GOk(g:Str->LS)(S:LS):Prop:=∀x∈S,(g x).Nodup/\(∃os,g x=x::os)/\∀y∈g x,y∈S
theorem Tn(gg:GOk g S)(sub:∀x∈es,x∈S)(h:es.length<=1\/∃os,Mg (bP (lX g es)) (some os)):∃os,Mg (bP (lX g es)) (some os):=by
 rcases h with h|h
 ·cases es with
  |nil=>exact⟨[],.nil⟩
  |cons e r=>
   cases r with
   |nil=>
    obtain⟨nd,⟨os,eo⟩,_⟩:=gg e (sub e aS);rw[eo]at nd;refine⟨e::os,?_⟩;show Mg (bP [g e,[e]]) _;rw[eo];exact S8 nd
   |cons e2 r=>simp at h
 ·exact h
theorem U5(gg:GOk g S)(sub:∀x∈es,x∈S)(h:Mg (bP (lX g es)) (some os)):os.Nodup/\∀y∈os,y∈S:=by
 obtain⟨h1,h2⟩:=Mg.yQ h os rfl;refine⟨h2,λy hy=>?_⟩;obtain⟨q,hq,GY⟩:=h1 y hy;have hq:=(dP.mp hq).1;rcases bu.mp hq with h|h
 ·obtain⟨e,he,rfl⟩:=bE.mp h;exact(gg e (sub e he)).2.2 y GY
 ·rw[bg.mp h]at GY;exact sub y GY
def zP(g:Str->LS)(x:Str)(o:LS):Str->LS:=λy=>if y=x then o else g y
theorem GOk.put{x:Str}(gg:GOk g S)(hx:¬x∈S)(nd:os.Nodup)(sub:∀y∈os,y∈S):GOk (zP g x (x::os)) (S++[x]):=λy hy=>by
 unfold zP
 by_cases e:y=x
 ·rw [dL e,e];refine⟨fg.mpr ⟨fun h=>hx (sub x h),nd⟩,⟨os,rfl⟩,fun z hz=>?_⟩;rcases aT.mp hz with rfl | h
  ·exact dQ _ (bg.mpr rfl)
  ·exact i7 _ (sub z h)
 ·rw [dC e]
  have hy':y∈S:=by
   rcases bu.mp hy with h|h
   ·exact h
   ·exact absurd (bg.mp h) e
  obtain⟨a,b,c⟩:=gg y hy';exact⟨a,b,λz hz=>i7 _ (c z hz)⟩
theorem zc.put{x:Str}(h:zc H kvs g S)(s:fH H H')(hq:H' q=some (.tup (os.map V.str)))(hl:os.length<=8):zc H' (db kvs (.inr x) (.ref q)) (zP g x os) (S++[x]):=λy hy=>by
 unfold zP;rw[zE]
 by_cases e:y=x
 ·rw[dL e,dL (by rw[e])];exact⟨q,rfl,hq,hl⟩
 ·rw [dC e,dC (by intro z; injection z with z; exact e z)]
  have hy':y∈S:=by
   rcases bu.mp hy with h|h
   ·exact h
   ·exact absurd (bg.mp h) e
  exact h.mono s y hy'
def jn(ws:LS):Str:=We " " ws
theorem YG(Pt:Str)(ws:LS):We Pt ws=Str.join Pt ws:=StrLaws.glued_eq_join Pt ws
theorem dO(x:Str):jn [x]=x:=by
 unfold jn;rw[YG];rfl
theorem vK(x y:Str)(r:LS):jn (x::y::r)=x++ " " ++ jn (y::r):=by
 unfold jn;rw[YG,YG];rfl
theorem iU(x:Str){r:LS}(h:r≠[]):jn (x::r)=x++ " " ++ jn r:=by
 cases r with
 |nil=>exact absurd rfl h
 |cons y r=>exact vK x y r
theorem Dm{a b:LS}(ha:a≠[])(hb:b≠[]):jn (a++b)=jn a++ " " ++ jn b:=by
 induction a with
 |nil=>exact absurd rfl ha
 |cons x a ih=>
  cases a with
  |nil=>rw[dO,eM,gy,iU x hb]
  |cons y a=>
   rw[eM,iU x (by simp),vK,ih (bc _ _)];simp only[mS]
theorem yN:∀{ls:LL},(∀l∈ls,l≠[])->jn (ls.map jn)=jn ls.flatten
 |[],_=>rfl
 |[l],_=>by rw[ci,kN,dO,eK,nh,dm]
 |l::m::ls,h=>by
  have ih:=yN (ls:=m::ls) λx hx=>h x (cf _ hx);have hm:=h m (cf _ aS)
  have wn:(m::ls).flatten≠[]:=λe=>by
   rw[eK]at e;exact hm (List.append_eq_nil_iff.mp e).1
  rw[ci,iU _ (by simp),ih,show(l::m::ls).flatten=l++(m::ls).flatten from rfl,Dm (h l aS) wn]
noncomputable def wt(ws:LS):Nat:=(ws.map λx=>x.length+1).sum
theorem bM(x:Str)(ws:LS):wt (x::ws)=x.length+1+wt ws:=by
 unfold wt;rw[ci,sk]
theorem vg(a b:LS):wt (a++b)=wt a+wt b:=by
 unfold wt;rw[av,n9]
theorem Bw:∀ws:LS,(ws.map (·.length)).sum+ws.length*1=wt ws
 |[]=>rfl
 |x::ws=>by
  rw[bM,<- Bw ws,ci,sk,aI];omega
theorem Di(ws:LS):(jn ws).length<=wt ws:=by
 unfold jn;rw[YG];have:=StrLaws.join_length_le " " ws;have e:(" ":Str).length=1:=rfl;rw[e]at this;have:=Bw ws;omega
def nS(i:Int):Str:=(io i:String)
theorem tH:∀n:Nat,n<=7->(nS n).length<=1:=by
 intro n h;rcases(by omega:n=0\/n=1\/n=2\/n=3\/n=4\/n=5\/n=6\/n=7)with rfl|rfl|rfl|rfl|rfl|rfl|rfl|rfl <;>decide +kernel
noncomputable def AW:List Int:=[0,1,7,999999999]
theorem Qt:∀i∈AW,(nS i).length<=9:=by decide +kernel
def isW:List T->Bool
 |.str _::_=>true
 |_=>false
mutual
def be:T->LS
 |.non=>["none"]
 |.int i=>[nS i]
 |.str x=>[x]
 |.tup ts=>if isW ts=true then SE ts else nS ts.length::SE ts
def SE:List T->LS
 |[]=>[]
 |t::ts=>be t++SE ts
end
end
theorem CG:∀ts:List T,SE ts=(ts.map be).flatten
 |[]=>by rw[SE];rfl
 |t::ts=>by rw[SE,CG ts];rfl
theorem oK(x:Str):be (.str x)=[x]:=by rw[be]
theorem iG(w:Str)(ts:List T):be (.tup (.str w::ts))=w::(ts.map be).flatten:=by
 rw[be,dL (by rfl),SE,CG,be];rfl
noncomputable def bins:LS:=["plus","minus","less","alike","or"]
abbrev KW:=LS×LS
def bK:Nat->KW->T->Prop
 |0,_,_=>False
 | n+1,kk,t=>t=.non\/(∃ i∈AW,t=.int i)\/t=.tup [.str "me"]\/(∃ w x:Str,((w = "name" /\ x∈kk.2)\/(w = "new" /\ x∈kk.1))/\Nm x/\t=.tup [.str w,.str x])\/(∃(e:T) (x:Str),bK n kk e/\Nm x/\t=.tup [.str "get",e,.str x])\/
  (∃(e:T) (x:Str) (as:List T),bK n kk e/\Nm x/\(∀a∈as,bK n kk a)/\as.length<=3/\t=.tup [.str "ask",e,.str x,.tup as])\/(∃(x:Str) (as:List T),Nm x/\(∀a∈as,bK n kk a)/\as.length<=3/\t=.tup [.str "up",.str x,.tup as])\/
  (∃(w:Str) (e1 e2:T),w∈bins/\bK n kk e1/\bK n kk e2/\t=.tup [.str w,e1,e2])
variable {kk:KW}
def Mo(n:Nat)(t:T):Prop:=∃kk,bK n kk t
theorem bK.W4(h:bK n kk t):∀x,t≠.str x:=by
 cases n with
 |zero=>exact h.elim
 |succ n=>
  intro x e;subst e;rcases h with h|⟨_,_,h⟩|h|⟨_,_,_,_,h⟩|⟨_,_,_,_,h⟩|⟨_,_,_,_,_,_,_,h⟩|⟨_,_,_,_,_,h⟩|⟨_,_,_,_,_,_,h⟩ <;>cases h
theorem pO(h:∀a∈as,Mo n a):be (.tup as)=nS as.length::(as.map be).flatten:=by
 have e:isW as=false:=by
  cases as with
  |nil=>rfl
  |cons a as=>
   obtain⟨_,h0⟩:=h a aS;have:=bK.W4 h0;cases a with
   |str x=>exact absurd rfl (this x)
   |_=>rfl
 rw[be,dC (by rw[e];exact az),CG]
def BE:Nat->Nat
 |0=>0
 |n+1=>4*BE n+110
theorem Ht{B:Nat}:∀{as:List T},(∀a∈as,wt (be a)<=B)->wt ((as.map be).flatten)<=as.length*B
 |[],_=>ck _
 |a::as,h=>by
  rw[ci,eK,vg,aI,my];have:=Ht (as:=as) λx hx=>h x (cf _ hx);have:=h a aS;omega
theorem Ei:∀w∈bins,w.length<=5:=by decide +kernel
theorem um:wt []=0:=rfl
theorem bK.wt:∀{n:Nat} {t:T},bK n kk t->be t≠[]/\K26.wt (be t)<=BE n
 |0,_,h=>h.elim
 |n+1,t,h=>by
  have hB:BE (n+1)=4*BE n+110:=rfl;rcases h with rfl|⟨i,hi,rfl⟩|rfl|⟨w,x,hw,hx,rfl⟩|⟨e,x,he,hx,rfl⟩|⟨e,x,as,he,hx,ha,hl,rfl⟩|⟨x,as,hx,ha,hl,rfl⟩|⟨w,e1,e2,hw,h1,h2,rfl⟩
  ·rw[be];refine⟨bc _ _,?_⟩;have:K26.wt (["none"]:LS)=5:=rfl;omega
  ·rw[be];refine⟨bc _ _,?_⟩;have:=Qt i hi;rw[bM,um];omega
  ·rw[iG];refine⟨bc _ _,?_⟩;have:K26.wt (("me":Str)::(([]:List T).map be).flatten)=3:=rfl;omega
  ·rw [iG];refine⟨bc _ _,?_⟩;have hx:=hx.2.1;have YH:w.length<=4:=by rcases hw with ⟨rfl,_⟩ | ⟨rfl,_⟩ <;> decide +kernel
   have e:([T.str x].map be).flatten=[x]:=by
    show be (.str x)++[]=_;rw[oK];rfl
   rw[e,bM,bM,um];omega
  ·rw [iG];refine⟨bc _ _,?_⟩;have ih:=(bK.wt he).2;have hx:=hx.2.1;have e3:("get" : Str).length=3:=rfl
   have e:([e,T.str x].map be).flatten=be e++[x]:=by
    show be e++(be (.str x)++[])=_;rw[oK];rfl
   rw[e,bM,vg,bM,um];omega
  ·rw [iG];refine⟨bc _ _,?_⟩;have ih:=(bK.wt he).2;have hx:=hx.2.1;have e3:("ask" : Str).length=3:=rfl
   have e:([e,T.str x,T.tup as].map be).flatten=be e++(x::be (.tup as)):=by
    show be e++(be (.str x)++(be (.tup as)++[]))=_;rw[oK,dm];rfl
   have ia:=Ht (B:=BE n) (as:=as) λa h=>(bK.wt (ha a h)).2;have im:=fR (BE n) hl;have hn:=tH as.length ‹21›;rw[e,pO (λa h=>⟨_,ha a h⟩),bM,vg,bM,bM];omega
  ·rw [iG];refine⟨bc _ _,?_⟩;have hx:=hx.2.1;have e3:("up" : Str).length=2:=rfl
   have e:([T.str x,T.tup as].map be).flatten=x::be (.tup as):=by
    show be (.str x)++(be (.tup as)++[])=_;rw[oK,dm];rfl
   have ia:=Ht (B:=BE n) (as:=as) λa h=>(bK.wt (ha a h)).2;have im:=fR (BE n) hl;have hn:=tH as.length ‹21›;rw[e,pO (λa h=>⟨_,ha a h⟩),bM,bM,bM];omega
  ·rw [iG];refine⟨bc _ _,?_⟩;have i1:=(bK.wt h1).2;have i2:=(bK.wt h2).2;have hw5:=Ei w hw
   have e:([e1,e2].map be).flatten=be e1++be e2:=by
    show be e1++(be e2++[])=_;rw[dm]
   rw[e,bM,vg];omega
end K26
end
section
namespace L2
open PySem PySem.Spec PyProof.Rows
variable {a i1 i2 t1 t2 z:ax}{ys:AV}{b:ue}{E Q:ES}{P prog:vy}{w:xm}{K:PySem.W.Frag}{no:List Expr}{x1:Nat}{bi lf:mo}{A:ye}{s:ut}{ta:TA}{xs:LV}{σ:St}{H:Hp}
section
variable {prog:vy}{w:xm}{A:ye}{E:ES}{s:ut}
theorem J1{TI TO:ax}{k:Nat}{xs:AV}{x y a:ue}(D:ZA z TI TO i1 i2 t1 t2)
  (hz:Hn s.heap z TI TO .none) (vE:De s.heap TI (.ref i1) (.ref i2)) (xp:De s.heap TO a b) (h1:s.heap.IsListIter i1 t1 k) (h2:s.heap.IsTupleIter i2 t2 k)
  (fq:s.heap.IsList t1 xs) (cx:s.heap.IsTuple t2 ys) (hx:xs[k]?=some x) (hy:ys[k]?=some y)
  (hQ:∀ h',Hn h' z TI TO (sR s.heap.objs.size)->De h' TO x y->h'.IsListIter i1 t1 (k+1)->h'.IsTupleIter i2 t2 (k+1)->De h' s.heap.objs.size x y->
   (∀c o,c≠z->c≠TO->c≠i1->c≠i2->s.heap.get? c=some o->h'.get? c=some o)->Q (.ref s.heap.objs.size) {s with heap:=h'}):
  wpAny ‹17› A (xf.«zip.__next__» ⟨[.ref z],[]⟩) (λhJ s'=>∃v,hJ=.done (.ret v)/\Q v s') E s:=by
 show wpAny _ _ (Xl (.ref z) 2 >>= _) _ _ _;refine ae (eT hz rfl (x:=.bool false) rfl ?_);show wpAny _ _ (Xl (.ref z) 3 >>= _) _ _ _;refine ae (eT hz rfl (x:=.ref TI) rfl (ae (gI vE rfl ?_)));show wpAny _ _ (xj (.ref z) >>= _) _ _ _;unfold xj;refine ae (ae (eT hz rfl (x:=.none) rfl (aE ?_)));simp only[kM];refine ae (jS (ae (eT hz rfl (x:=.ref TO) rfl (ae (fS hz (by simp) λg1 z1 q1=>?_)))))
 replace z1:Hn g1 z TI TO .ellipsis:=z1
 simp only[mE,n4,lS,mn];refine ae (ae (ae (kU ?_)));show wpAny _ _ (xx (.ref i1) >>= _) _ _ _;refine ae (wpAny_nextOf_list_item (h1.extBut q1.extBut D.a3) (fq.extBut q1.extBut D.b2) hx λg2 j2 q2=>aE ?_);have p2:De g2 TO a b:=q2.extBut _ _ D.a8 (q1.extBut _ _ D.a2 xp);refine ae (gI p2 rfl (ae (kP p2 λg3 p3 q3=>ae (qk (aE ?_)))))
 replace p3:De g3 TO x b:=p3
 refine ae (ae (kU ?_));show wpAny _ _ (xx (.ref i2) >>= _) _ _ _;refine ae (sy (((h2.extBut q1.extBut D.a4).extBut q2.extBut D.b1.symm).extBut q3.extBut D.a9.symm) (((cx.extBut q1.extBut D.b6).extBut q2.extBut D.b8).extBut q3.extBut D.b7) hy λg4 j4 q4=>aE ?_);have p4:De g4 TO x b:=q4.extBut _ _ D.a9 p3;refine ae (gI p4 rfl (ae (kP p4 λg5 p5 q5=>ae (qk (aE (aE ?_))))))
 replace p5:De g5 TO x y:=p5
 refine ae (gI p5 rfl (ae (wpAny_newTuple ?_)));have sz:g5.objs.size=s.heap.objs.size:=by rw[q5.1,q4.1,q3.1,q2.1,q1.1]
 have z5:Hn g5 z TI TO .ellipsis:=q5.extBut _ _ D.a2.symm (q4.extBut _ _ D.a4.symm (q3.extBut _ _ D.a2.symm (q2.extBut _ _ D.a3.symm z1)));have k5:∀c o,c≠z->c≠TO->c≠i1->c≠i2->s.heap.get? c=some o->g5.get? c=some o:=fun c o c1 c2 c3 c4 e=>q5.extBut _ _ c2 (q4.extBut _ _ c4 (q3.extBut _ _ c2 (q2.extBut _ _ c3 (q1.extBut _ _ c1 e))));have j5:g5.IsListIter i1 t1 (k+1):=((j2.extBut q3.extBut D.a8.symm).extBut q4.extBut D.b1).extBut q5.extBut D.a8.symm;have l5:g5.IsTupleIter i2 t2 (k+1):=j4.extBut q5.extBut D.a9.symm;have zl:z<g5.objs.size:=cr z5;show wpAny _ _ (zb (.ref z) (.ref g5.objs.size) >>= _) _ _ _;refine ae ?_;unfold zb;have z6:Hn (g5.push {cls:=.type "tuple",data:=.seq #[x,y]}) z TI TO .ellipsis:=am _ z5;refine ae (fS z6 (by simp) fun g7 z7 q7=>?_)
 replace z7:Hn g7 z TI TO (sR g5.objs.size):=z7
 refine fS z7 (by simp) λg8 z8 q8=>?_
 replace z8:Hn g8 z TI TO (sR g5.objs.size):=z8
 have up:∀c o,c≠z->g5.get? c=some o->g8.get? c=some o:=λc o c1 e=>q8.extBut _ _ c1 (q7.extBut _ _ c1 (am _ e));have n8:De g8 g5.objs.size x y:=q8.extBut _ _ (fN zl) (q7.extBut _ _ (fN zl) (bn _ rfl));rw[sz]at z8 n8;refine aE ⟨_,rfl,?_⟩;show Q (.ref g5.objs.size) _;rw[sz];refine hQ g8 z8 (up _ _ D.a2 p5) ?_ ?_ n8 λc o c1 c2 c3 c4 e=>up c o c1 (k5 c o c1 c2 c3 c4 e)
 ·obtain⟨o,e,r⟩:=j5;exact⟨o,up _ o D.a3 e,r⟩
 ·obtain⟨o,e,r⟩:=l5;exact⟨o,up _ o D.a4 e,r⟩
theorem PJ{TI TO:ax}{k:Nat}{xs:AV}{a:ue}{Q:Fin->ut->Prop}(hh:A.handled=none)(D:ZA z TI TO i1 i2 t1 t2)
  (hz:Hn s.heap z TI TO .none) (vE:De s.heap TI (.ref i1) (.ref i2)) (xp:De s.heap TO a b) (h1:s.heap.IsListIter i1 t1 k) (fq:s.heap.IsList t1 xs) (hx:xs[k]?=none)
  (hE:∀h' e,(∀c o,c≠z->c≠TO->c≠i1->c≠i2->s.heap.get? c=some o->h'.get? c=some o)->(∃o,h'.get? e=some o/\o.cls=.type "StopIteration")->E (.ref e) {s with heap:=h'}):
  wpAny ‹17› A (xf.«zip.__next__» ⟨[.ref z],[]⟩) Q E s:=by
 show wpAny _ _ (Xl (.ref z) 2 >>= _) _ _ _;refine ae (eT hz rfl (x:=.bool false) rfl ?_);show wpAny _ _ (Xl (.ref z) 3 >>= _) _ _ _;refine ae (eT hz rfl (x:=.ref TI) rfl (ae (gI vE rfl ?_)));show wpAny _ _ (xj (.ref z) >>= _) _ _ _;unfold xj;refine ae (ae (eT hz rfl (x:=.none) rfl (aE ?_)));simp only[kM];refine ae (jS (ae (eT hz rfl (x:=.ref TO) rfl (ae (fS hz (by simp) λg1 z1 q1=>?_)))))
 replace z1:Hn g1 z TI TO .ellipsis:=z1
 simp only[mE,n4,lS,mn];refine ae (ae (ae (kU ?_)));show wpAny _ _ (xx (.ref i1) >>= _) _ _ _;refine ae (wpAny_nextOf_list_end hh (h1.extBut q1.extBut D.a3) (fq.extBut q1.extBut D.b2) hx λg2 e q2 ⟨oe,e1,e2⟩=>?_);have z2:Hn g2 z TI TO .ellipsis:=q2 _ _ D.a3.symm z1;have Yl:e≠z:=λx=>by subst x;rw[z2]at e1;cases e1;simp at e2
 exact fS z2 (by simp) λg3 _ q3=>hE g3 e (λc o c1 _ c3 _ x=>q3.extBut _ _ c1 (q2 _ _ c3 (q1.extBut _ _ c1 x))) ⟨oe,q3.extBut _ _ Yl e1,e2⟩
end
def Ka(K:PySem.W.Frag)(t1 t2:ax):It:=
 ⟨λi H=>∃xs ys x y,SqL K H t1 xs/\SqT K H t2 ys/\xs[i]?=some x/\ys[i]?=some y,λi H v H'=>∃p,H p=none/\v=.ref p/\∀xs ys x y,SqL K H t1 xs->SqT K H t2 ys->xs[i]?=some x->ys[i]?=some y->H'=upd H p (.tup [x,y]),
  λi H=>∃xs,SqL K H t1 xs/\xs.length<=i⟩
theorem Kr{TI TO:ax}(D:ZA z TI TO i1 i2 t1 t2):wf P w K (.Tuple no x1 lf) (Ka K t1 t2) [z,TI,TO,i1,i2] z
  (λi h=>Hn h z TI TO .none/\De h TI (.ref i1) (.ref i2)/\(∃a b,De h TO a b)/\h.IsListIter i1 t1 i/\h.IsTupleIter i2 t2 i)where
 mem:=by simp
 obj:=λi h st b hb=>by
  obtain⟨hz,vE,⟨a,c,xp⟩,⟨o1,e1,_,d1⟩,⟨o2,e2,_,d2⟩⟩:=st;simp only[aT,dS,iN]at hb;rcases hb with rfl|rfl|rfl|rfl|rfl
  ·exact⟨_,hz,λv q=>nomatch q⟩
  ·exact⟨_,vE,λv q=>nomatch q⟩
  ·exact⟨_,xp,λv q=>nomatch q⟩
  ·exact⟨_,e1,λv q=>by rw[d1]at q;cases q⟩
  ·exact⟨_,e2,λv q=>by rw[d2]at q;cases q⟩
 keep:=λi h h' st k=>by
  obtain⟨hz,vE,⟨a,c,xp⟩,⟨o1,e1,r1⟩,⟨o2,e2,r2⟩⟩:=st;exact⟨k z (by simp) _ hz,k TI (by simp) _ vE,⟨a,c,k TO (by simp) _ xp⟩,⟨o1,k i1 (by simp) _ e1,r1⟩,⟨o2,k i2 (by simp) _ e2,r2⟩⟩
 item:=by
  intro X hP hw hK hc i ag s σ H E I hf st hg;subst hP hw hK;obtain⟨xs,ys,x,y,q1,q2,e1,e2⟩:=hg;obtain⟨its,rv,p,pi⟩:=I.list q1;obtain⟨EV,tF,p',Ym⟩:=I.tuple q2;obtain⟨u,hu,ru⟩:=rv.get e1;obtain⟨u',RY,ru'⟩:=tF.get e2;obtain⟨hz,vE,⟨a,c,xp⟩,h1,h2⟩:=st;have hT:s.TypeIs (.ref z) "zip":= ⟨_,hz,rfl⟩;unfold M3
  refine ae (qh (gm (name:=Str.ofString "__next__") hT iP (jb iP hT mI
   (J1 D hz vE xp h1 h2 p.isList (show s.heap.IsTuple t2 EV.toArray from p') (x:=u) (y:=u') (by simpa using hu) (by simpa using RY) λh' a1 a2 a3 a4 a5 a6=>aE ?_) (mf _))))
  refine⟨_,rfl,mr a1 λIJ Yn q'=>?_⟩;have hn:H s.heap.objs.size=none:=I.hok.fresh (af _);have Sa:z<s.heap.objs.size:=cr hz;have tlt:TO<s.heap.objs.size:=cr xp;have Sb:i1<s.heap.objs.size:=by obtain⟨_,e,_⟩:=h1;exact cr e
  have Sc:i2<s.heap.objs.size:=by obtain⟨_,e,_⟩:=h2;exact cr e
  have kk:∀b ob,b∉ [z,TI,TO,i1,i2]->s.heap.get? b=some ob->IJ.get? b=some ob:=λb ob hb e=>by
   simp only[aT,dS,iN,sr]at hb;exact q'.extBut _ _ hb.1 (a6 b ob hb.1 hb.2.2.1 hb.2.2.2.1 hb.2.2.2.2 e)
  have I1:Inv X ag σ (upd H s.heap.objs.size (.tup [x,y])) {s with heap:=IJ}:=I.yP (t':=s.toks) hf kk (af _)
   ⟨⟨by show 2<=ab;decide,λo e=>by rw[q'.extBut _ _ (fN Sa) a5]at e;cases e;rfl⟩,[u,u'],.cons ru (.cons ru' .nil),⟨_,q'.extBut _ _ (fN Sa) a5,rfl,_,rfl⟩⟩
  refine⟨.ref s.heap.objs.size,_,I1,rfl,⟨_,hn,rfl,λxs' ys' x' y' k1 k2 k3 k4=>?_⟩,⟨Yn,q'.extBut _ _ D.a1 (a6 _ _ D.a1 D.a5 D.a6 D.a7 vE),⟨_,_,q'.extBut _ _ D.a2 a2⟩,a3.extBut q'.extBut D.a3,a4.extBut q'.extBut D.a4⟩,λb hb=>?_⟩
  ·rw[I.zK k1 q1,e1]at k3;rw[I.uM k2 q2,e2]at k4;cases k3;cases k4;rfl
  ·have kD:=hb;simp only [aT,dS,iN] at kD
   have lc:b<s.heap.objs.size:=by
    rcases kD with rfl|rfl|rfl|rfl|rfl
    ·exact Sa
    ·exact cr vE
    ·exact tlt
    ·exact Sb
    ·exact Sc
   rw[aB (d6 lc)];exact(hf b hb).1
 done:=by
  intro X hP hw hK hc i ag s σ H E I hf st hg;subst hP hw hK;obtain⟨xs,q1,e1⟩:=hg;obtain⟨its,rv,p,pi⟩:=I.list q1;obtain⟨hz,vE,⟨a,c,xp⟩,h1,h2⟩:=st;have hT:s.TypeIs (.ref z) "zip":= ⟨_,hz,rfl⟩;have hl:=rv.length;unfold M3
  refine ae (qh (gm (name:=Str.ofString "__next__") hT iP (jb iP hT mI
   (PJ (I.ok.hd hc) D hz vE xp h1 p.isList (by simp;omega) λh' e kk ⟨o,ho,GN⟩=>?_) (mf _))))
  refine ae (Xm (T:= "StopIteration") (b:=true) ⟨o,ho,GN⟩ tp (aE ⟨rfl,I.xZ (t':=s.toks) hf fun b u hb q=>?_⟩));simp only[aT,dS,iN,sr]at hb;exact kk b u hb.1 hb.2.2.1 hb.2.2.2.1 hb.2.2.2.2 q
 self:=λ_ _ _ _ _ st h=>qc st.1 h
abbrev YI(h:Heap)(l1:ax):Heap:=h.push {cls:=.type "list_iterator",data:=.fields #[.ref l1,.int 0 0]}
abbrev VT(h:Heap)(l1 l2:ax):Heap:=(YI h l1).push {cls:=.type "tuple_iterator",data:=.fields #[.ref l2,.int 0 0]}
abbrev VU(h:Heap)(l1 l2:ax):Heap:=(VT h l1 l2).push {cls:=.type "tuple",data:=.seq #[.ref h.objs.size,.ref (YI h l1).objs.size]}
abbrev PY(h:Heap)(l1 l2:ax):Heap:=(VU h l1 l2).push {cls:=.type "tuple",data:=.seq #[.none,.none]}
abbrev zr5(h:Heap)(l1 l2:ax):Heap:=(PY h l1 l2).push {cls:=.type "zip",data:=.fields #[.none,.bool false,.bool false,.ref (VT h l1 l2).objs.size,.ref (VU h l1 l2).objs.size]}
theorem Uq(l1 l2:ax)(xs ys:AV):Meets (xf.«zip.__new__» ⟨[.type "zip",.ref l1,.ref l2],[]⟩) (fun _ R s=>s.heap.IsList l1 xs/\s.heap.IsTuple l2 ys/\R (.ok (.ret (.ref (PY s.heap l1 l2).objs.size))) {s with heap:=zr5 s.heap l1 l2}):=
 .of_wp λprog w A R s h=>by
  obtain⟨hp,g,d,tk,os⟩:=s;obtain⟨fq,cx,h⟩:=h;have Ev:=sub_zip;have hL1:Heap.IsList (ut.heap ⟨hp,g,d,tk,os⟩) l1 xs:=fq;have hL2:Heap.IsTuple (ut.heap ⟨hp.push {cls:=.type "list_iterator",data:=.fields #[.ref l1,.int 0 0]},g,d,tk,os⟩) l2 ys:=Heap.IsTuple.push cx _
  wp_walk using ce hL1,ca hL2
  exact⟨_,rfl,h⟩
theorem Ra{l1 l2:ax}{xs:AV}(fq:s.heap.IsList l1 xs)(cx:s.heap.IsTuple l2 ys)
  (h:Q (.ref (PY s.heap l1 l2).objs.size) {s with heap:=zr5 s.heap l1 l2}):wpAny ‹17› A (call (.type "zip") [.ref l1,.ref l2]) Q E s:=by
 refine callType_new F.called_zip ‹11› (F.typeCall_zip_2 _ _) (F.newCall_zip_2 _ _) (λobj=>F.args_object_init_3 obj _ _) F.entry_zip_new (Uq l1 l2 xs ys) ⟨fq,cx,?_⟩;show _/\_;exact⟨⟨_,bn _ rfl,rfl⟩,h⟩
section
variable {X:Cx}
inductive Oq (K:PySem.W.Frag) (R:It->Hp->Prop) (vs:LV) (H1:Hp):Prop
 |mk (a b xs ys:_):vs=[.ref a,.ref b]->SqL K H1 a xs->SqT K H1 b ys->R (Ka K a b) H1->Oq K R vs H1
def Wn(K:PySem.W.Frag)(ta:TA):TI:=λσ H R=>ta σ H λvs H1=>Oq K R vs H1
theorem RD{a b:Expr}{p:mo}(hg:Gl X "zip")(hm:X.mg "zip" =none)(ha:PA X [a,b] ta)
  (he:xF [a,b] X.env=(false,cq a X.env)::xF [b] X.env:=by rfl) (Bn:(JP bi (xF [b] X.env)).any (·.1)=false:=by rfl):PI X (.Tuple no x1 lf) (.Call (.Name "zip" p) [a,b] [] bi) (Wn X.K ta):=by
 intro ag s σ H R I h;refine km (vB I hg hm boot_zip ?_);refine jI (cb (ha bi ag s σ H _ I h) λus s1 ⟨vs,H1,I1,r1,t1,t2,xs,ys,e,q1,q2,q⟩=>?_) he Bn;subst e;obtain⟨u,w',rfl,ru,tF⟩:=vals2 r1;cases ru;cases tF;obtain⟨its,rv,p1,hz1⟩:=I1.list q1;obtain⟨EV,No,p2,hz2⟩:=I1.tuple q2;refine Ra p1.isList (show s1.heap.IsTuple t2 EV.toArray from p2) ?_;have b1:(YI s1.heap t1).objs.size=s1.heap.objs.size+1:=fk ..;have b2:(VT s1.heap t1 t2).objs.size=s1.heap.objs.size+2:=by rw[fk,b1]
 have b3:(VU s1.heap t1 t2).objs.size=s1.heap.objs.size+3:=by rw[fk,b2]
 have b4:(PY s1.heap t1 t2).objs.size=s1.heap.objs.size+4:=by rw[fk,b3]
 have c1:t1<s1.heap.objs.size:=by obtain⟨o,ho,_⟩:=p1.isList;exact cr ho
 have c2:t2<s1.heap.objs.size:=p2.lt;have hz:Hn (zr5 s1.heap t1 t2) (PY s1.heap t1 t2).objs.size (VT s1.heap t1 t2).objs.size (VU s1.heap t1 t2).objs.size .none:=bn _ rfl
 have DD:ZA (PY s1.heap t1 t2).objs.size (VT s1.heap t1 t2).objs.size (VU s1.heap t1 t2).objs.size s1.heap.objs.size (YI s1.heap t1).objs.size t1 t2:=by
  rw[b4,b2,b3,b1];exact R4 c1 c2
 refine qc hz ?_;have I2:Inv X ag σ H1 {s1 with heap:=zr5 s1.heap t1 t2}:=I1.kept (t':=s1.toks) λb o e=>am _ (am _ (am _ (am _ (am _ e))))
 refine⟨(PY s1.heap t1 t2).objs.size,[(PY s1.heap t1 t2).objs.size,(VT s1.heap t1 t2).objs.size,(VU s1.heap t1 t2).objs.size,s1.heap.objs.size,(YI s1.heap t1).objs.size],_,Ka X.K t1 t2,H1,rfl,I2,
  Kr DD,⟨hz,?_,⟨.none,.none,?_⟩,?_,?_⟩,λb hb=>?_,q⟩
 ·exact am _ (am _ (bn _ rfl))
 ·exact am _ (bn _ rfl)
 ·exact⟨_,am _ (am _ (am _ (am _ (bn _ rfl)))),rfl,rfl⟩
 ·exact⟨_,am _ (am _ (am _ (bn _ rfl))),rfl,rfl⟩
 ·have Fn:s1.heap.objs.size<=b:=by
   rw[b4,b2,b3,b1]at hb;simp only[aT,dS,iN]at hb;rcases hb with h|h|h|h|h <;>rw[h] <;>first|exact af _|exact k9 _ _
  exact I1.qI Fn (I1.hok.fresh Fn)
end
theorem Mt{b:ax}{ys:LV}{g:TG}{tb:TS}{D:mT}(hn:xs.length=ys.length)(Pv:Nat->St->Hp->Prop)(h0:Pv 0 σ H)(hl:∀i σ H,i<=xs.length->Pv i σ H->SqL K H a xs/\SqT K H b ys)
  (hs:∀i x y σ H p,xs[i]?=some x->ys[i]?=some y->Pv i σ H->H p=none->g (.ref p) σ (upd H p (.tup [x,y])) λmd H2=>tb {D with nx:=Pv (i+1),ct:=Pv (i+1),bk:=D.nx} md H2) (hd:∀σ H,Pv xs.length σ H->D.nx σ H):
  ∃W:Nat->Nat->St->Hp->Prop,(∃m,W 0 m σ H)/\∀i m σ H,W i m σ H->
   ((Ka K a b).stop i H/\D.nx σ H)\/((Ka K a b).go i H/\∃N:St->Hp->Prop,(∀cp H',N cp H'->∃m',m'<m/\W (i+1) m' cp H')/\∀x H',(Ka K a b).yld i H x H'->g x σ H' λmd H2=>tb {D with nx:=N,ct:=N,bk:=D.nx} md H2):=by
 refine⟨λi m σ H=>m=xs.length - i/\i<=xs.length/\Pv i σ H,⟨xs.length,by simp,ck _,h0⟩,?_⟩;rintro i m σ H ⟨rfl,hi,p⟩;obtain⟨q1,q2⟩:=hl i σ H hi p
 by_cases lc:i<xs.length
 ·have hy:i < ys.length:=by omega
  refine .inr ⟨⟨xs,ys,xs[i],ys[i],q1,q2,ac lc,ac hy⟩,Pv (i+1),λcp H' p'=>⟨xs.length - (i+1),by omega,rfl,lc,p'⟩,λx H' y=>?_⟩;obtain⟨r,hr,rfl,y⟩:=y;have e:=y xs ys xs[i] ys[i] q1 q2 (ac lc) (ac hy);subst e;exact hs i xs[i] ys[i] σ _ r (ac lc) (ac hy) p hr
 ·have e:i=xs.length:=by omega
  subst e;exact .inl ⟨⟨xs,q1,af _⟩,hd σ H p⟩
end L2
end
section
namespace K26
open PySem PyProof.Rows L2
variable {c d j n:Nat}{t:T}{js kb ps ws:LS}{ss ts:List T}{init DT ah wp:LL}{P:vy}{w:xm}{K:PySem.W.Frag}{ad:Str->ax}{tb:List (Str×LS)}{fd:uB}{sp:Sp}{mg:MG}{kk:KW}{hG:List LL}{H H' H1 H2:Hp}{vs:LV}{a:ax}{v:V}
theorem Hv(hn:n<=4)(h:Mo n t):(be t).length<=9350:=by
 obtain⟨_,h⟩:=h;have h1:=(bK.wt h).2;have h2:=Bw (be t)
 have h3:BE n<=9350:=by
  rcases(by omega:n=0\/n=1\/n=2\/n=3\/n=4)with rfl|rfl|rfl|rfl|rfl <;>decide
 omega
def Kd(kk:KW)(x:Str):Prop:=Nm x/\x∈kk.1
def Nx(kk:KW)(x:Str):Prop:=Nm x/\x∈kk.2
def pG(n:Nat)(kk:KW)(f:Str)(t:T)(ws:LS):Prop:=(f="e" /\ bK n kk t/\ws=be t)\/(f="args" /\ ∃as:List T,t=.tup as/\(∀a∈as,bK n kk a)/\as.length<=3/\ws=be t)\/(f="elders" /\ ∃ks:LS,t=.tup (ks.map T.str)/\ks.length<=100/\(ks.Nodup/\∀x∈ks,Kd kk x)/\ws=ks)\/(∃x:Str,((f="x" /\ x∈kk.2)\/f="name" \/ (f="kind" /\ x∈kk.1))/\Nm x/\t=.str x/\ws=[x])
def Vu(n:Nat)(f:Str)(t:T)(ws:LS):Prop:=∃kk,pG n kk f t ws
variable {kk:KW}
theorem wk{n:Nat}(hn:n<=4):∀{as:List T},(∀a∈as,Mo n a)->((as.map be).flatten).length<=as.length*9350
 |[],_=>ck _
 |a::as,h=>by
  rw[ci,eK,ai,aI,my];have:=wk hn (as:=as) λx hx=>h x (cf _ hx);have:=Hv hn (h a aS);omega
theorem pG.len(hn:n<=4){f:Str}(h:pG n kk f t ws):ws.length<=30000:=by
 rcases h with⟨_,h,rfl⟩|⟨_,as,rfl,h,hl,rfl⟩|⟨_,ks,_,hl,_,rfl⟩|⟨x,_,_,_,rfl⟩
 ·have:=Hv hn ⟨_,h⟩;omega
 ·have h:∀a∈as,Mo n a:=λa q=>⟨_,h a q⟩;rw[pO h,aI];have:=wk hn h;omega
 ·omega
 ·exact Nat.le_add_left _ _
inductive PsW (n:Nat) (kk:KW):LS->List T->LL->Prop
 |nil:PsW n kk [] [] []
 |cons {f:Str} {t:T} {ws:LS} {fs:LS} {ts:List T} {wp:LL}:pG n kk f t ws->PsW n kk fs ts wp->PsW n kk (f::fs) (t::ts) (ws::wp)
def PsI(n:Nat)(fs:LS)(ts:List T)(wp:LL):Prop:=∃kk,PsW n kk fs ts wp
theorem PsW.len{fs:LS}(h:PsW n kk fs ts wp):fs.length=ts.length/\wp.length=ts.length:=by
 induction h with
 |nil=>exact⟨rfl,rfl⟩
 |cons _ _ ih=>exact⟨by rw[aI,aI,ih.1],by rw[aI,aI,ih.2]⟩
theorem PsW.get{n:Nat}{fs:LS}{ts:List T}{wp:LL}(h:PsW n kk fs ts wp):∀(i:Nat) (h1:i<fs.length) (h2:i<ts.length) (h3:i<wp.length),pG n kk fs[i] ts[i] wp[i]:=by
 induction h with
 |nil=>exact λi h=>absurd h (oq _)
 |cons a _ ih=>
  intro i h1 h2 h3;cases i with
  |zero=>exact a
  |succ i=>exact ih i (by simpa using h1) (by simpa using h2) (by simpa using h3)
theorem pP{c:ax}(_T:Yt P w K c ad tb){p:Str×LS}(h:p∈tb):eU (tb.map λp=>((.inr p.1:ga),V.ref (ad p.1))) (.inr p.1)=some (.ref (ad p.1)):=by
 clear _T
 induction tb with
 |nil=>cases h
 |cons q tb ih=>
  rw[ci]
  by_cases e:q.1=p.1
  ·rw[gJ (p:=((.inr q.1:ga),V.ref (ad q.1))) (by rw[e]),e]
  ·rw [fZ (p:=((.inr q.1:ga),V.ref (ad q.1))) (by intro z; injection z with z; exact e z)];rcases aT.mp h with rfl | h'
   ·exact absurd rfl e
   ·exact ih h'
theorem Ih(K:PySem.W.Frag):PySem.W.kitOne K (.type "int") (.type "tuple")=some false:=by rfl
theorem lg{i:Int}(h0:0<=i)(h1:i<=999999999):i.natAbs.log2<1920:=by
 by_cases e:i.natAbs=0
 ·rw[e];decide
 ·rw [Nat.log2_lt e];have:(999999999:Nat) < 2 ^ 1920:=by decide +kernel
  omega
theorem Ip:∀i∈AW,0<=i/\i<=999999999:=by decide +kernel
theorem xT{f:ax}{base:Heap}(F:∀vs H Q E,sp vs H Q E->False):aW P w K mg base bm 0 f fd ps sp:=⟨λ_ _ _ _ h=>(F _ _ _ _ h).elim,λ_ _ _ _ _ _ _ _ _ _ _ _ _ h=>(F _ _ _ _ h).elim⟩
section
variable {P:vy}{w:xm}{K:PySem.W.Frag}{mg:MG}{base:Heap}{t:tT}
inductive zy (n:Nat) (vs:LV) (H:Hp) (Q:VK) (E_:XK):Prop
 |mk (v:V) (t:T):vs=[v]->Dp H t v->Mo n t->(∀(l:ax) H',H l=none->H' l=some (.lst ((be t).map V.str))->Same H H'->Q (.ref l) H')->zy n vs H Q E_
inductive Ca (n:Nat) (vs:LV) (H:Hp) (Q:VK) (E_:XK):Prop
 |mk (v:V) (t:T):vs=[.str "e",v]->Dp H t v->Mo n t->(∀(l:ax) H',H l=none->H' l=some (.lst ((be t).map V.str))->Same H H'->Q (.ref l) H')->Ca n vs H Q E_
inductive CK (n:Nat) (vs:LV) (H:Hp) (Q:VK) (E_:XK):Prop
 |mk (f:Str) (v:V) (t:T) (ws:LS):vs=[.str f,v]->Dp H t v->Vu n f t ws->(∀(l:ax) H',H l=none->H' l=some (.lst (ws.map V.str))->Same H H'->Q (.ref l) H')->CK n vs H Q E_
inductive yE (n:Nat) (vs:LV) (H:Hp) (Q:VK) (E_:XK):Prop
 |mk (a b:ax) (ys:LV) (ts:List T):vs=[.ref a,.ref b]->H a=some (.lst (List.replicate ts.length (.str "e")))->H b=some (.tup ys)->DpL H ts ys->(∀x∈ts,Mo n x)->ts.length<=3->(∀(l:ax) H',H l=none->H' l=some (.lst (((ts.map be).flatten).map V.str))->Same H H'->Q (.ref l) H')->yE n vs H Q E_
inductive yJ (K:PySem.W.Frag) (n:Nat) (vs:LV) (H:Hp) (Q:VK) (E_:XK):Prop
 |mk (a b:ax) (ys:LV) (fs:LS) (ts:List T) (wp:LL):vs=[.ref a,.ref b]->(∀H:Hp,SqT K H a (fs.map V.str))->H b=some (.tup ys)->DpL H ts ys->PsI n fs ts wp->ts.length<=4->(∀(l:ax) H',H l=none->H' l=some (.lst ((wp.flatten).map V.str))->Same H H'->Q (.ref l) H')->yJ K n vs H Q E_
theorem ne_str{a b:Str}(h:¬a=b):¬decide (V.str a=V.str b)=true:=by
 rw[cw (by intro z;injection z with z;exact h z)];exact az
theorem Fy(D:Defs K mg t){k:Nat}(Gbf:aW P w K mg base bm k t.bY.1 t.bY.2 ["expression"] (zy n)):aW P w K mg base bm (k+1) t.dD.1 t.dD.2 ["form","part"] (Ca n):=by
 have YJ:aW P w K mg base bm 0 t.cT.1 t.cT.2 ["forms","parts"] (fun _ _ _ _=>False):=xT fun _ _ _ _ h=>h;refine D.dD.fn.ok wj ‹4› ‹3›
 ·obtain⟨v,t,rfl,_⟩:=h;rfl
 ·obtain ⟨v,t,rfl,dv,ex,q⟩:=h
  refine⟨_,(au (bL (aV cO (pv 0) aP (aR _))
   (aF (aM (aH D.bY Gbf ‹2› (by rfl) ‹14›)))
   aX)
   (au (bL (aV cO (pv 0) aP (aR _))
   (aF (aM (bh cX (bw (aj (aY fP (by rfl) D.pQ lM (aj (aN bJ (by rfl) D.cW cg ‹14›) aq)) aq)) (aH D.cT YJ ‹2› (by rfl) (aj (bh P0 (bw (aj aP aq)) (aN bJ (by rfl) D.cW cg ‹14›)) ‹14›)))))
   aX)
   (au (bL (aV cO (pv 0) aP (aR _))
   (aF (aM (aY gB (by rfl) D.lO ji ‹14›)))
   aX)
   (aF (aM (bw ‹14›)))))),?_⟩
  exact⟨_,rfl,rfl,_,rfl,bR (aw rfl) ⟨_,rfl,v,t,rfl,dv,ex,q⟩⟩
end
section
variable {P:vy}{w:xm}{K:PySem.W.Frag}{mg:MG}{base:Heap}{t:tT}
theorem Ba(D:Defs K mg t){k:Nat}(hn:n<=4)(YK:aW P w K mg base bm k t.dD.1 t.dD.2 ["form","part"] (Ca n)):aW P w K mg base bm (k+1) t.cT.1 t.cT.2 ["forms","parts"] (yE n):=by
 have hz:ab=16777216:=cn;refine D.cT.fn.ok fU ‹4› ‹3›
 ·obtain⟨a,b,ys,ts,rfl,_⟩:=h;rfl
 ·obtain ⟨a,b,ys,ts,rfl,ha,hb,dl,ex,ma,q⟩:=h;have EX:ys.length=ts.length:=dl.length
  refine⟨_,(au (aU (i:=2) fU.nd rfl (uv rfl) (bw aq))
   (au (fG di rfl (RD rfl D.Oa (aj (pv 0) ‹14›)) (jX rfl (cu (aO (i:=3) fU.nd rfl (uv rfl)) (cu (aO (i:=4) fU.nd rfl (uv rfl)) jJ)))
   (aF (bH (gb cz ij ik mU (pv 2) (aj (aH D.dD YK ‹2› (by rfl) (aj (pv 3) (aj (pv 4) aq))) aq)))))
   (aF (aM (pv 2))))),?_⟩
  refine⟨ck _,λl hl=>?_⟩;have s1:∀o,Same H (upd H l o):=λo=>X6 hl
  refine⟨_,rfl,_,rfl,a,b,_,ys,rfl,XQ (s1 _ a _ ha),XR (s1 _ b _ hb),Mt (K:=K) (a:=a) (b:=b) (xs:=List.replicate ts.length (.str "e")) (ys:=ys) (by rw[eL,EX]) (fun i σ H2=>∃(v3 v4:OV),σ=[some (.ref a),some (.ref b),some (.ref l),v3,v4]/\H2 l=some (.lst ((((ts.take i).map be).flatten).map V.str))/\Same H H2)
   ⟨_,_,rfl,ak,s1 _⟩ (λi σ H2 _ ⟨_,_,_,_,s⟩=>⟨XQ (s a _ ha),XR (s b _ hb)⟩) ?_ ?_⟩
  ·rintro i x y σ H2 p hx hy ⟨v3,v4,rfl,cx,s2⟩ hp
   have sv:i<ts.length:=by
    have:=(bo.mp hy).1;omega
   have UP:x=.str "e":= by
    have:=gE hx;exact(List.mem_replicate.mp this).2
   subst UP;obtain⟨y',ey,dy⟩:=dl.get (ac sv);rw[hy]at ey;cases ey;have s3:Same H2 (upd H2 p (.tup [.str "e",y])):=X6 hp;refine⟨p,_,rfl,XR ak,rfl,_,_,rfl,_,_,rfl,rfl,?_⟩;generalize upd H2 p (.tup [.str "e",y])=H3 at s3;have vS:=s3 l _ cx;refine⟨_,rfl,.inl ⟨rfl,_,XQ vS⟩,_,rfl,_,rfl,y,ts[i],rfl,dy.mono (XX (s2.trans s3)),ex _ (bX sv),fun l2 H4 hln ua s4=>?_⟩;have ze:=s4 l _ vS;have fl:=wk hn (as:=ts.take i) fun a h=>ex a (ib h);have wl:=Hv hn (ex _ (bX sv));have tl:(ts.take i).length<=3:=by rw[bj];omega
   have tm:=fR 9350 tl;refine⟨l,l2,_,_,rfl,rfl,ze,ua,by rw[aa,aa];omega,?_⟩;refine⟨_,_,rfl,?_,λc o e=>?_⟩
   ·rw[ak,take_snoc sv,av,fE,av];show _=some (HO.lst (_++(be ts[i]++[]).map V.str));rw[dm]
   ·rw[aB (aD e hl)];exact s4 c o (s3 c o (s2 c o e))
  ·rintro σ H2 ⟨v3,v4,rfl,cx,s2⟩;rw[eL,ay (af _)]at cx;exact⟨_,rfl,q l H2 hl cx s2⟩
theorem Q5:∀w∈bins,(w,(["e","e"]:LS))∈exprs:=by decide +kernel
theorem bK.cls{t:T}(h:bK (n+1) kk t):t=.non\/(∃i∈AW,t=.int i)\/∃(wd:Str) (ts:List T) (fs:LS),t=.tup (.str wd::ts)/\(wd,fs)∈exprs/\PsW n kk fs ts (ts.map be)/\ts.length<=4:=by
 have S:∀(f x:Str),((f="x" /\ x∈kk.2)\/f="name" \/ (f="kind" /\ x∈kk.1))->Nm x->pG n kk f (.str x) (be (.str x)):=fun f x h nx=>.inr (.inr (.inr ⟨x,h,nx,rfl,oK x⟩));have E:∀e,bK n kk e->pG n kk "e" e (be e):=fun e h=>.inl ⟨rfl,h,rfl⟩;have A:∀as:List T,(∀a∈as,bK n kk a)->as.length<=3->pG n kk "args" (.tup as) (be (.tup as)):=fun as h hl=>.inr (.inl ⟨rfl,as,rfl,h,hl,rfl⟩);rcases h with rfl|⟨i,hi,rfl⟩|rfl|⟨w,x,hw,hx,rfl⟩|⟨e,x,he,hx,rfl⟩|⟨e,x,as,he,hx,ha,hl,rfl⟩|⟨x,as,hx,ha,hl,rfl⟩|⟨w,e1,e2,hw,h1,h2,rfl⟩
 ·exact .inl rfl
 ·exact .inr (.inl ⟨i,hi,rfl⟩)
 ·exact .inr (.inr ⟨"me",[],[],rfl,by decide +kernel,.nil,by decide⟩)
 ·rcases hw with ⟨rfl,hk⟩ | ⟨rfl,hk⟩
  ·exact .inr (.inr ⟨"name",_,["x"],rfl,by decide +kernel,.cons (S _ _ (.inl ⟨rfl,hk⟩) hx) .nil,by show 1<=4;decide⟩)
  ·exact .inr (.inr ⟨"new",_,["kind"],rfl,by decide +kernel,.cons (S _ _ (.inr (.inr ⟨rfl,hk⟩)) hx) .nil,by show 1<=4;decide⟩)
 ·exact .inr (.inr ⟨"get",_,["e","name"],rfl,by decide +kernel,.cons (E _ he) (.cons (S _ _ (.inr (.inl rfl)) hx) .nil),by show 2<=4;decide⟩)
 ·exact .inr (.inr ⟨"ask",_,["e","name","args"],rfl,by decide +kernel,.cons (E _ he) (.cons (S _ _ (.inr (.inl rfl)) hx) (.cons (A _ ha hl) .nil)),by show 3<=4;decide⟩)
 ·exact .inr (.inr ⟨"up",_,["name","args"],rfl,by decide +kernel,.cons (S _ _ (.inr (.inl rfl)) hx) (.cons (A _ ha hl) .nil),by show 2<=4;decide⟩)
 ·exact .inr (.inr ⟨w,_,["e","e"],rfl,Q5 w hw,.cons (E _ h1) (.cons (E _ h2) .nil),by show 2<=4;decide⟩)
theorem Rt(hn:n+1<=4){fs:LS}(h:PsW n kk fs ts wp):(wp.flatten).length<=ts.length*30000:=by
 induction h with
 |nil=>exact ck _
 |cons a _ ih=>
  rw[eK,ai,aI,my];have:=a.len (by omega:n<=4);omega
theorem Js(D:Defs K mg t){k:Nat}(hn:n<=4)(hj:j<=k)(Gbf:aW P w K mg base bm j t.bY.1 t.bY.2 ["expression"] (zy n))(YJ:aW P w K mg base bm k t.cT.1 t.cT.2 ["forms","parts"] (yE n)):aW P w K mg base bm (k+1) t.dD.1 t.dD.2 ["form","part"] (CK n):=by
 have hz:ab=16777216:=cn;refine D.dD.fn.ok wj ‹4› ‹3›
 ·obtain⟨f,v,t,ws,rfl,_⟩:=h;rfl
 ·obtain ⟨f,v,t,ws,rfl,dv,pw,q⟩:=h
  refine⟨_,(au (bL (aV cO (pv 0) aP (aR _))
   (aF (aM (aH D.bY Gbf ‹2› (by rfl) ‹14›)))
   aX)
   (au (bL (aV cO (pv 0) aP (aR _))
   (aF (aM (bh cX (bw (aj (aY fP (by rfl) D.pQ lM (aj (aN bJ (by rfl) D.cW cg ‹14›) aq)) aq)) (aH D.cT YJ ‹2› (by rfl) (aj (bh P0 (bw (aj aP aq)) (aN bJ (by rfl) D.cW cg ‹14›)) ‹14›)))))
   aX)
   (au (bL (aV cO (pv 0) aP (aR _))
   (aF (aM (aY gB (by rfl) D.lO ji ‹14›)))
   aX)
   (aF (aM (bw ‹14›)))))),?_⟩
  obtain⟨kk,pw⟩:=pw;rcases pw with⟨rfl,ex,rfl⟩|⟨rfl,as,rfl,ex0,ma,rfl⟩|⟨rfl,ks,rfl,hk,_,rfl⟩|⟨x,hf,_,rfl,rfl⟩
  ·exact⟨_,rfl,rfl,_,rfl,bR (aw rfl) ⟨_,rfl,v,t,rfl,dv,⟨_,ex⟩,q⟩⟩
  ·obtain ⟨a,ys,rfl,ha,dl⟩:=L2.Dp.cR dv;have EX:ys.length=as.length:=dl.length;have ex:∀ a∈as,Mo n a:=fun a h=>⟨kk,ex0 a h⟩;refine‹18›;refine‹8›;refine⟨_,rfl,a,_,rfl,.inr (XR ha),_,rfl,lg ‹21› ‹21›,by show 1<=ab; decide,fun l1 fq=>?_⟩;have s1:∀ o,Same H (upd H l1 o):=fun o=>X6 fq;have hW:∀ o,(upd H l1 o) l1=some o:=fun o=>ak;refine⟨by show 1<=ab; decide,fun l2 cx=>?_⟩;have SF:=((s1 _).trans (X6 (o:=.lst [.str "e"]) cx)) a _ ha;refine⟨_,rfl,a,_,rfl,.inr (XR SF),?_⟩;refine⟨l2,_,_,rfl,rfl,ak,by omega,by omega,by show 1 * ((ys.length:Nat):Int).toNat<=ab; omega,fun l3 vS=>?_⟩
   have e3:(List.replicate ((ys.length:Nat):Int).toNat [V.str "e"]).flatten=List.replicate as.length (V.str "e"):=by
    rw[show((ys.length:Nat):Int).toNat=as.length by omega];clear ma dl dv ex ex0 EX q
    induction as with
    |nil=>rfl
    |cons _ as ih=>
     rw[aI,j3,eK,ih,j3];rfl
   rw[e3];have YL:=((X6 cx).trans (X6 (o:=.lst (List.replicate as.length (V.str "e"))) vS)) l1 _ (hW _);have YM:(upd (upd (upd H l1 (.lst [.str ((io ((ys.length:Nat):Int):String):Str)])) l2 (.lst [.str "e"])) l3 (.lst (List.replicate as.length (V.str "e")))) l3=some (.lst (List.replicate as.length (V.str "e"))):=ak;have s3:Same H (upd (upd (upd H l1 (.lst [.str ((io ((ys.length:Nat):Int):String):Str)])) l2 (.lst [.str "e"])) l3 (.lst (List.replicate as.length (V.str "e")))):=(s1 _).trans ((X6 cx).trans (X6 vS));generalize upd (upd (upd H l1 (.lst [.str ((io ((ys.length:Nat):Int):String):Str)])) l2 (.lst [.str "e"])) l3 (.lst (List.replicate as.length (V.str "e")))=H3 at YL YM s3;refine⟨_,rfl,l3,a,ys,as,rfl,YM,s3 a _ ha,dl.mono (XX s3),ex,ma,fun l4 H4 hn4 ze s4=>?_⟩;have fl:=wk hn ex;refine⟨l1,l4,_,_,rfl,rfl,s4 l1 _ YL,ze,by rw[aa];show 1+_<=ab;omega,fun l5 xI=>?_⟩;have YN:=(s3.trans s4);refine q l5 _ ?_ ?_ (YN.trans (X6 xI))
   ·cases e:H l5 with
    |none=>rfl
    |some o=>rw[YN l5 o e]at xI;cases xI
   ·rw[ak,pO ex,ci,<- EX];rfl
  ·obtain⟨a,ys,rfl,ha,dl⟩:=L2.Dp.cR dv;rw[DpL.rR dl]at ha;refine‹18›;refine‹18›;refine‹8›;exact⟨_,rfl,a,_,rfl,.inr (XR ha),λl hl=>q l _ hl ak (X6 hl)⟩
  ·have ev:=L2.Dp.eG dv;subst ev;have n1:¬ f = "e" := by rcases hf with ⟨rfl,_⟩ | rfl | ⟨rfl,_⟩ <;> decide +kernel
   have n2:¬f="args":= by rcases hf with⟨rfl,_⟩|rfl|⟨rfl,_⟩ <;>decide +kernel
   have n3:¬f="elders":= by rcases hf with⟨rfl,_⟩|rfl|⟨rfl,_⟩ <;>decide +kernel
   refine⟨_,rfl,rfl,_,rfl,aL (ne_str n1) ?_⟩;refine⟨_,rfl,rfl,_,rfl,aL (ne_str n2) ?_⟩;refine⟨_,rfl,rfl,_,rfl,aL (ne_str n3) ?_⟩;exact⟨_,rfl,by show 1<=ab;decide,λl hl=>q l _ hl ak (X6 hl)⟩
theorem Km(D:Defs K mg t){k:Nat}(hn:n<=4)(YK:aW P w K mg base bm k t.dD.1 t.dD.2 ["form","part"] (CK n)):aW P w K mg base bm (k+1) t.cT.1 t.cT.2 ["forms","parts"] (yJ K n):=by
 have hz:ab=16777216:=cn;refine D.cT.fn.ok fU ‹4› ‹3›
 ·obtain⟨a,b,ys,fs,ts,wp,rfl,_⟩:=h;rfl
 ·obtain ⟨a,b,ys,fs,ts,wp,rfl,ha,hb,dl,pw,ze,q⟩:=h;have EX:ys.length=ts.length:=dl.length;obtain ⟨kk,pw⟩:=pw;obtain ⟨pl1,Nw⟩:=pw.len
  refine⟨_,(au (aU (i:=2) fU.nd rfl (uv rfl) (bw aq))
   (au (fG di rfl (Jp rfl D.Oa (aj (pv 0) ‹14›)) (jX rfl (cu (aO (i:=3) fU.nd rfl (uv rfl)) (cu (aO (i:=4) fU.nd rfl (uv rfl)) jJ)))
   (aF (bH (gb cz ij ik mU (pv 2) (aj (aH D.dD YK ‹2› (by rfl) (aj (pv 3) (aj (pv 4) aq))) aq)))))
   (aF (aM (pv 2))))),?_⟩
  refine⟨ck _,λl hl=>?_⟩;have s1:∀o,Same H (upd H l o):=λo=>X6 hl
  refine⟨_,rfl,_,rfl,a,b,_,ys,rfl,ha _,XR (s1 _ b _ hb),Gw (K:=K) (a:=a) (b:=b) (xs:=fs.map V.str) (ys:=ys) (n:=ts.length) (by rw[aa];omega) (λi σ H2=>∃(v3 v4:OV),σ=[some (.ref a),some (.ref b),some (.ref l),v3,v4]/\H2 l=some (.lst (((wp.take i).flatten).map V.str))/\((wp.take i).flatten).length<=i*30000/\Same H H2)
   ⟨_,_,rfl,ak,ck _,s1 _⟩ (λi σ H2 _ ⟨_,_,_,_,_,s⟩=>⟨ha _,XR (s b _ hb)⟩) ?_ ?_⟩
  ·rintro i x y σ H2 p hx hy ⟨v3,v4,rfl,cx,ll2,s2⟩ hp
   have sv:i<ts.length:=by
    have:=(bo.mp hy).1;omega
   have zd:i<fs.length:=by omega
   have hiw:i<wp.length:=by omega
   have UP:x=.str fs[i]:=by
    rw[bS,ac zd]at hx;exact(cS hx).symm
   subst UP;obtain⟨y',ey,dy⟩:=dl.get (ac sv);rw[hy]at ey;cases ey;have YO:=pw.get i zd sv hiw;have s3:Same H2 (upd H2 p (.tup [.str fs[i],y])):=X6 hp;refine⟨p,_,rfl,XR ak,rfl,_,_,rfl,_,_,rfl,rfl,?_⟩;generalize upd H2 p (.tup [.str fs[i],y])=H3 at s3;have vS:=s3 l _ cx;refine⟨_,rfl,.inl ⟨rfl,_,XQ vS⟩,_,rfl,_,rfl,fs[i],y,ts[i],wp[i],rfl,dy.mono (XX (s2.trans s3)),⟨kk,YO⟩,λl2 H4 hln ua s4=>?_⟩;have hl4':=s4 l _ vS;have wl:=YO.len hn;have hi4:i<=4:=by omega
   refine⟨l,l2,_,_,rfl,rfl,hl4',ua,by rw[aa,aa];omega,?_⟩
   have ew:(wp.take (i+1)).flatten=(wp.take i).flatten++wp[i]:=by
    rw[take_snoc hiw,fE];show _++(wp[i]++[])=_;rw[dm]
   refine⟨_,_,rfl,?_,?_,λc o e=>?_⟩
   ·rw[ak,ew,av]
   ·rw[ew,ai];omega
   ·rw[aB (aD e hl)];exact s4 c o (s3 c o (s2 c o e))
  ·rintro σ H2 ⟨v3,v4,rfl,cx,_,s2⟩;rw[ay ‹21›]at cx;exact⟨_,rfl,q l H2 hl cx s2⟩
theorem Bx(D:Defs K mg t)(GL:BN P w K mg t){k:Nat}(hn:n+1<=4)(YJ:aW P w K mg base bm k t.cT.1 t.cT.2 ["forms","parts"] (yJ K n)):aW P w K mg base bm (k+1) t.bY.1 t.bY.2 ["expression"] (zy (n+1)):=by
 have hz:ab=16777216:=cn;refine D.bY.fn.ok vA ‹4› ‹3›
 ·obtain⟨v,t,rfl,_⟩:=h;rfl
 ·obtain ⟨v,t0,rfl,dv,ex,q⟩:=h
  refine⟨_,(au (bL (aV tZ (pv 0) jz (aR _))
   (aF (aM (bw (aj aP aq))))
   aX)
   (au (bL (gH (fB (aN eX (by rfl) D.cH cD (aj (pv 0) (aj (iz (v:=V.ty "tuple") rfl D.dB cP rfl) aq)))))
   (aF (aM (bw (aj (aY fP (by rfl) D.pQ lM ‹15›) aq))))
   aX)
   (aF (aM (bh cX (bw (aj ‹5› aq)) (aH D.cT YJ ‹2› (by rfl) (aj (yd (eZ (v:=V.ref t.cQ) (by rfl) GL.qg rfl) ‹5› ‹20›) (aj (gn wC (pv 0) (iM aG) iH) aq)))))))),?_⟩
  obtain⟨kk,ex⟩:=ex;rcases ex.cls with rfl|⟨i,hi,rfl⟩|⟨wd,ts,fs,rfl,hm,pw,ze⟩
  ·rw[Dp]at dv;subst dv;refine‹8›;refine⟨by show 1<=ab;decide,λl hl=>q l _ hl ?_ (X6 hl)⟩;rw[ak,be];rfl
  ·rw[Dp]at dv;subst dv;obtain⟨h0,h1⟩:=Ip i hi;refine⟨_,rfl,rfl,_,rfl,aL (by rw[cw ‹6›];exact az) ?_⟩;refine⟨_,rfl,_,_,_,false,rfl,.int i,Ih N0,_,rfl,jq ?_⟩;refine⟨_,rfl,_,rfl,lg h0 h1,by show 1<=ab;decide,λl hl=>q l _ hl ?_ (X6 hl)⟩;rw[ak,be];rfl
  ·obtain ⟨a,xs,rfl,ha,dl⟩:=L2.Dp.cR dv;obtain ⟨x1,ys,rfl,d1,zh⟩:=dl.cases;have e1:=L2.Dp.eG d1;subst e1;refine⟨_,rfl,rfl,_,rfl,aL (by rw [cw ‹6›]; exact az) ?_⟩;refine⟨_,rfl,_,_,_,true,rfl,.tup ha,gG N0 "tuple",_,rfl,iu ?_⟩;refine⟨_,rfl,a,_,_,_,rfl,rfl,XR ha,aK (j:=0) rfl,by show 1<=ab; decide,fun l1 fq=>?_⟩;exists 1,s1,hW,H,l1,(.lst [.str wd]),fq,H1;refine⟨_,rfl,a,_,_,_,rfl,rfl,XR (s1 a _ ha),aK (j:=0) rfl,t.cQ,_,.inr wd,_,rfl,GL.cZ.d,rfl,pP GL.cZ hm,?_⟩;refine⟨_,rfl,_,rfl,a,_,rfl,s1 a _ ha,fun b H2 hb s2=>?_⟩;rw [uF] at hb;have pl:=pw.len;refine⟨t.ad "e" wd,b,ys,fs,ts,ts.map be,rfl,GL.cZ.s (wd,fs) hm,hb,zh.mono (XX (s1.trans s2)),⟨kk,pw⟩,ze,fun l2 H3 Fk cx s3=>?_⟩;have s13:=s2.trans s3
   have fl:((ts.map be).flatten).length<=4*30000:=by
    have hp:=Rt hn pw;have:=fR 30000 ze;omega
   refine⟨l1,l2,_,_,rfl,rfl,s13 l1 _ hW,cx,by rw[aa];show 1+_<=ab;omega,λl5 xI=>?_⟩;have YN:=s1.trans s13;refine q l5 _ ?_ ?_ (YN.trans (X6 xI))
   ·cases e:H l5 with
    |none=>rfl
    |some o=>rw[YN l5 o e]at xI;cases xI
   ·rw[ak,iG,ci];rfl
theorem yt(D:Defs K mg t)(GL:BN P w K mg t):∀n,n<=4->aW P w K mg base bm (5*n) t.bY.1 t.bY.2 ["expression"] (zy n)
 |0,_=>xT λvs H Q E ⟨v,t,_,_,⟨_,ex⟩,_⟩=>ex
 |n+1,hn=>by
  have h:=Bx D GL hn (Km D ‹21› (Js D (j:=5*n) (k:=5*n+2) ‹21› ‹21› (yt D GL n ‹21›) (Ba D (k:=5*n+1) ‹21› (Fy D (k:=5*n) (yt D GL n ‹21›)))));exact h
theorem Ln(D:Defs K mg t)(GL:BN P w K mg t):aW P w K mg base bm 23 t.dD.1 t.dD.2 ["form","part"] (CK 4):=
 Js D (j:=20) ‹21› ‹21› (yt D GL 4 ‹21›) (Ba D ‹21› (Fy D (yt D GL 4 ‹21›)))
abbrev sI:=T->LL->Nat->Prop
abbrev lU:=KW->sI
noncomputable def ones:LS:=[("tell":Str),("do":Str),("give":Str),("throw":Str)]
def BB(B:lU)(kk:KW)(t:T)(ah:LL)(c:Nat):Prop:=
 (∃(w:Str) (e:T),w∈ones/\bK 4 kk e/\t=.tup [.str w,e]/\ah=[w::be e]/\c=1)\/
 (∃(x:Str) (e:T),Nx kk x/\bK 4 kk e/\t=.tup [.str ("let":Str),.str x,e]/\ah=[("let":Str)::x::be e]/\c=1)\/
 (∃(e:T) (x:Str) (e2:T),bK 4 kk e/\Nm x/\bK 4 kk e2/\t=.tup [.str ("put":Str),e,.str x,e2]/\ah=[("put":Str)::(be e++x::be e2)]/\c=1)\/
 (∃(w:Str) (e:T) (x:Str),(w=("drop":Str)\/(w=("become":Str)/\x∈kk.1))/\bK 4 kk e/\Nm x/\t=.tup [.str w,e,.str x]/\ah=[w::(be e++[x])]/\c=1)\/
 (∃a b d f:Str,Kd kk a/\Nm b/\Kd kk d/\Nm f/\t=.tup [.str ("turn":Str),.str a,.str b,.str d,.str f]/\ah=[[("turn":Str),a,b,d,f]]/\c=1)\/
 (∃a b:Str,Kd kk a/\Nm b/\t=.tup [.str ("strip":Str),.str a,.str b]/\ah=[[("strip":Str),a,b]]/\c=1)\/
 (∃(a:Str) (ks:LS),Kd kk a/\ks.length<=7/\(ks.Nodup/\∀x∈ks,Kd kk x)/\t=.tup [.str ("elders":Str),.str a,.tup (ks.map T.str)]/\ah=[("elders":Str)::a::ks]/\c=1)\/
 (∃(e b1 b2:T) (r1 r2:LL) (c1 c2:Nat),bK 4 kk e/\B kk b1 r1 c1/\B kk b2 r2 c2/\t=.tup [.str ("if":Str),e,b1,b2]/\ah=(("if":Str)::be e)::(r1++[("else":Str)]::(r2++[[("end":Str)]]))/\c=1+c1+c2)\/
 (∃(w:Str) (e b:T) (r:LL) (c1:Nat),(w=("while":Str)\/w=("repeat":Str))/\bK 4 kk e/\B kk b r c1/\t=.tup [.str w,e,b]/\ah=(w::be e)::(r++[[("end":Str)]])/\c=1+c1)\/
 (∃(b1 b2:T) (x:Str) (r1 r2:LL) (c1 c2:Nat),B kk b1 r1 c1/\Nx kk x/\B kk b2 r2 c2/\t=.tup [.str ("try":Str),b1,.str x,b2]/\ah=[("try":Str)]::(r1++[("catch":Str),x]::(r2++[[("end":Str)]]))/\c=1+c1+c2)
variable {kk:KW}
inductive StL (R:sI):List T->List LL->Nat->Prop
 |nil:StL R [] [] 0
 |cons {s:T} {r:LL} {d:Nat} {ss:List T} {hG:List LL} {c:Nat}:R s r d->StL R ss hG c->StL R (s::ss) (r::hG) (d+c)
theorem StL.snoc{R:sI}{s:T}{r:LL}(h:StL R ss hG c)(hs:R s r d):StL R (ss++[s]) (hG++[r]) (c+d):=by
 induction h with
 |nil=>
  have:=StL.cons hs StL.nil;rw[Nat.add_zero]at this;rw[Nat.zero_add];exact this
 |cons a _ ih=>
  rw[Nat.add_assoc];exact StL.cons a ih
theorem StL.len{R:sI}(h:StL R ss hG c):ss.length=hG.length:=by
 induction h with
 |nil=>rfl
 |cons _ _ ih=>rw[aI,aI,ih]
theorem StL.get{R:sI}{ss:List T}{hG:List LL}{c:Nat}(h:StL R ss hG c):∀(i:Nat) (h1:i<ss.length) (h2:i<hG.length),∃d,d<=c/\R ss[i] hG[i] d:=by
 induction h with
 |nil=>exact λi h=>absurd h (oq _)
 |cons a _ ih=>
  intro i h1 h2;cases i with
  |zero=>exact⟨_,k9 _ _,a⟩
  |succ i=>
   obtain⟨d,hd,hr⟩:=ih i (by simpa using h1) (by simpa using h2);exact⟨d,by omega,hr⟩
def SB:Nat->lU
 |0=>λ_ _ _ _=>False
 |n+1=>λkk t ah c=>∃ss hG,t=.tup ss/\StL (BB (SB n) kk) ss hG c/\ah=hG.flatten
def pN(r:LS):Prop:=r≠[]/\wt r<=19000
theorem Fq:∀w∈ones,w.length<=5:=by decide +kernel
theorem SG{e:T}(h:bK 4 kk e):wt (be e)<=9350:=(bK.wt h).2
theorem wG:∀{ks:LS},(∀x∈ks,Nm x)->wt ks<=ks.length*101
 |[],_=>ck _
 |x::ks,h=>by
  rw[bM,aI,my];have:=wG λy hy=>h y (cf _ hy);have:=(h x aS).2.1;omega
def VW(B:lU):Prop:=∀kk t ah c,B kk t ah c->ah.length<=3*c/\∀r∈ah,pN r
theorem Br{B:lU}(hB:VW B):VW (BB B):=by
 have G0:∀{r:LS} {c:Nat},c=1->pN r->([r]:LL).length<=3*c/\∀q∈[r],pN q:=λ{r c} e h=>⟨by rw[e];show 1<=3;decide,λq hq=>by rw[bg.mp hq];exact h⟩;have CL:∀(x:Str),x.length<=100->pN [x]:=λx hx=>⟨bc _ _,by rw[bM,um];omega⟩;intro kk t ah c h;rcases h with⟨w,e,hw,he,rfl,rfl,rfl⟩|⟨x,e,hx,he,rfl,rfl,rfl⟩|⟨e,x,e2,he,hx,xi,rfl,rfl,rfl⟩|⟨w,e,x,hw,he,hx,rfl,rfl,rfl⟩|⟨a,b,d,f,ha,hb,hd,hf,rfl,rfl,rfl⟩|⟨a,b,ha,hb,rfl,rfl,rfl⟩|⟨a,ks,ha,hl,hk,rfl,rfl,rfl⟩|⟨e,b1,b2,r1,r2,c1,c2,he,h1,h2,rfl,rfl,rfl⟩|⟨w,e,b,r,c1,hw,he,h1,rfl,rfl,rfl⟩|⟨b1,b2,x,r1,r2,c1,c2,h1,hx,h2,rfl,rfl,rfl⟩
 ·refine G0 rfl ⟨bc _ _,?_⟩;have:=Fq w hw;have:=SG he;rw[bM];omega
 ·refine G0 rfl ⟨bc _ _,?_⟩;have:=SG he;have hx:=hx.1.2.1;have e3:("let":Str).length=3:=rfl;rw[bM,bM];omega
 ·refine G0 rfl ⟨bc _ _,?_⟩;have:=SG he;have:=SG xi;have hx:=hx.2.1;have e3:("put":Str).length=3:=rfl;rw[bM,vg,bM];omega
 ·refine G0 rfl ⟨bc _ _,?_⟩;have:=SG he;have hx:=hx.2.1;have e3:w.length<=6:=by rcases hw with rfl | ⟨rfl,_⟩ <;> decide +kernel
  rw[bM,vg,bM,um];omega
 ·refine G0 rfl ⟨bc _ _,?_⟩;have ha:=ha.1.2.1;have hb:=hb.2.1;have hd:=hd.1.2.1;have hf:=hf.2.1;have e3:("turn":Str).length=4:=rfl;rw[bM,bM,bM,bM,bM,um];omega
 ·refine G0 rfl ⟨bc _ _,?_⟩;have ha:=ha.1.2.1;have hb:=hb.2.1;have e3:("strip":Str).length=5:=rfl;rw[bM,bM,bM,um];omega
 ·refine G0 rfl ⟨bc _ _,?_⟩;have ha:=ha.1.2.1;have e3:("elders":Str).length=6:=rfl;have:=wG fun x hx=>(hk.2 x hx).1;rw[bM,bM];omega
 ·obtain ⟨l1,k1⟩:=hB _ _ _ _ h1;obtain ⟨l2,k2⟩:=hB _ _ _ _ h2;refine⟨?_,fun q hq=>?_⟩
  ·rw[aI,ai,aI,ai,cy];omega
  ·rcases aT.mp hq with rfl | hq
   ·refine⟨bc _ _,?_⟩;have:=SG he;have e3:("if":Str).length=2:=rfl;rw[bM];omega
   rcases bu.mp hq with hq|hq
   ·exact k1 q hq
   rcases aT.mp hq with rfl|hq
   ·exact CL _ ‹1›
   rcases bu.mp hq with hq|hq
   ·exact k2 q hq
   ·rw[bg.mp hq];exact CL _ ‹1›
 ·obtain ⟨l1,k1⟩:=hB _ _ _ _ h1;refine⟨?_,fun q hq=>?_⟩
  ·rw[aI,ai,cy];omega
  ·rcases aT.mp hq with rfl | hq
   ·refine⟨bc _ _,?_⟩;have:=SG he;have e3:w.length<=6:=by rcases hw with rfl | rfl <;> decide +kernel
    rw[bM];omega
   rcases bu.mp hq with hq|hq
   ·exact k1 q hq
   ·rw[bg.mp hq];exact CL _ ‹1›
 ·obtain ⟨l1,k1⟩:=hB _ _ _ _ h1;obtain ⟨l2,k2⟩:=hB _ _ _ _ h2;refine⟨?_,fun q hq=>?_⟩
  ·rw[aI,ai,aI,ai,cy];omega
  ·rcases aT.mp hq with rfl | hq
   ·exact CL _ ‹1›
   rcases bu.mp hq with hq|hq
   ·exact k1 q hq
   rcases aT.mp hq with rfl|hq
   ·refine⟨bc _ _,?_⟩;have hx:=hx.1.2.1;have e3:("catch":Str).length=5:=rfl;rw[bM,bM,um];omega
   rcases bu.mp hq with hq|hq
   ·exact k2 q hq
   ·rw[bg.mp hq];exact CL _ ‹1›
theorem Hu{R:lU}(hR:VW R)(h:StL (R kk) ss hG c):(hG.flatten).length<=3*c/\∀r∈hG.flatten,pN r:=by
 induction h with
 |nil=>exact⟨ck _,λr h=>by cases h⟩
 |cons a _ ih=>
  obtain⟨l1,k1⟩:=hR _ _ _ _ a;rw[eK];refine⟨by rw[ai];omega,λr hr=>?_⟩;rcases bu.mp hr with h|h
  ·exact k1 r h
  ·exact ih.2 r h
theorem pW:∀n,VW (SB n)
 |0=>λ_ _ _ _ h=>h.elim
 |n+1=>λkk t ah c ⟨ss,hG,_,h,e⟩=>by
  rw[e];exact Hu (Br (pW n)) h
inductive Stp (B:sI) (kk:KW):LS->List T->LL->LS->LS->LL->Nat->Prop
 |nil {init:LL} {kb:LS} {js:LS}:Stp B kk [] [] init kb js (init++[kb]) 0
 |block {b:T} {r:LL} {c d:Nat} {fs:LS} {ts:List T} {init:LL} {kb:LS} {jj:Str} {js:LS} {DT:LL}:B b r c->c<=16->Stp B kk fs ts (init++[kb]++r) [jj] js DT d->Stp B kk (("block":Str)::fs) (b::ts) init kb (jj::js) DT (c+d)
 |part {d:Nat} {f:Str} {t:T} {ws:LS} {fs:LS} {ts:List T} {init:LL} {kb:LS} {js:LS} {DT:LL}:pG 4 kk f t ws->¬f=("block":Str)->Stp B kk fs ts init (kb++ws) js DT d->Stp B kk (f::fs) (t::ts) init kb js DT d
theorem Stp.len{B:sI}{fs:LS}(h:Stp B kk fs ts init kb js DT d):fs.length=ts.length/\init.length+1<=DT.length:=by
 induction h with
 |nil=>exact⟨rfl,by rw[ai];exact af _⟩
 |block _ _ _ ih=>
  refine⟨by rw[aI,aI,ih.1],?_⟩;have:=ih.2;rw[ai,ai,cy]at this;omega
 |part _ _ _ ih=>exact⟨by rw[aI,aI,ih.1],ih.2⟩
theorem Jc:∀w∈ones,(w,([("e":Str)]:LS))∈stats/\∀p∈mj,¬p.1=w:=by decide +kernel
theorem yx{B:lU}{t:T}(hc:c<=16)(h:BB B kk t ah c):∃(w:Str) (ps:List T) (fs js:LS) (d:Nat),c=1+d/\t=.tup (.str w::ps)/\(w,fs)∈stats/\((w,js)∈mj\/(js=[]/\∀p∈mj,¬p.1=w))/\Stp (B kk) kk fs ps [] [w] js ah d/\ps.length<=4:=by
 have S:∀(f x:Str),(f=("x":Str)/\x∈kk.2)\/f=("name":Str)\/(f=("kind":Str)/\x∈kk.1)->Nm x->pG 4 kk f (.str x) [x]:=fun f x h nx=>.inr (.inr (.inr ⟨x,h,nx,rfl,rfl⟩));have E:∀e,bK 4 kk e->pG 4 kk ("e":Str) e (be e):=fun e h=>.inl ⟨rfl,h,rfl⟩;rcases h with⟨w,e,hw,he,rfl,rfl,rfl⟩|⟨x,e,hx,he,rfl,rfl,rfl⟩|⟨e,x,e2,he,hx,xi,rfl,rfl,rfl⟩|⟨w,e,x,hw,he,hx,rfl,rfl,rfl⟩|⟨a,b,d,f,ha,hb,hd,hf,rfl,rfl,rfl⟩|⟨a,b,ha,hb,rfl,rfl,rfl⟩|⟨a,ks,ha,hl,hk,rfl,rfl,rfl⟩|⟨e,b1,b2,r1,r2,c1,c2,he,h1,h2,rfl,rfl,rfl⟩|⟨w,e,b,r,c1,hw,he,h1,rfl,rfl,rfl⟩|⟨b1,b2,x,r1,r2,c1,c2,h1,hx,h2,rfl,rfl,rfl⟩
 ·exact⟨w,_,_,[],0,by omega,rfl,(Jc w hw).1,.inr ⟨rfl,(Jc w hw).2⟩,.part (E _ he) ‹1› .nil,by show 1<=4;decide⟩
 ·exact⟨("let":Str),_,[("x":Str),("e":Str)],[],0,by omega,rfl,by decide +kernel,.inr ⟨rfl,by decide +kernel⟩,.part (S _ x (.inl ⟨rfl,hx.2⟩) hx.1) ‹1› (.part (E _ he) ‹1› .nil),by show 2<=4;decide⟩
 ·refine⟨("put" : Str),_,[("e" : Str),("name" : Str),("e" : Str)],[],0,by omega,rfl,by decide +kernel,.inr ⟨rfl,by decide +kernel⟩,.part (E _ he) ‹1› (.part (S _ x (.inr (.inl rfl)) hx) ‹1› (.part (E _ xi) ‹1› ?_)),by show 3<=4; decide⟩;have:([("put" : Str)]++be e++[x]++be e2:LS)=("put" : Str)::(be e++x::be e2):=by simp
  rw[this];exact .nil
 ·rcases hw with rfl | ⟨rfl,hk⟩
  ·refine⟨("drop" : Str),_,[("e" : Str),("name" : Str)],[],0,by omega,rfl,by decide +kernel,.inr ⟨rfl,by decide +kernel⟩,.part (E _ he) ‹1› (.part (S _ x (.inr (.inl rfl)) hx) ‹1› ?_),by show 2<=4; decide⟩;have:([("drop" : Str)]++be e++[x]:LS)=("drop" : Str)::(be e++[x]):=by simp
   rw[this];exact .nil
  ·refine⟨("become" : Str),_,[("e" : Str),("kind" : Str)],[],0,by omega,rfl,by decide +kernel,.inr ⟨rfl,by decide +kernel⟩,.part (E _ he) ‹1› (.part (S _ x (.inr (.inr ⟨rfl,hk⟩)) hx) ‹1› ?_),by show 2<=4; decide⟩;have:([("become" : Str)]++be e++[x]:LS)=("become" : Str)::(be e++[x]):=by simp
   rw[this];exact .nil
 ·exact⟨("turn":Str),_,[("kind":Str),("name":Str),("kind":Str),("name":Str)],[],0,by omega,rfl,by decide +kernel,.inr ⟨rfl,by decide +kernel⟩,.part (S _ a (.inr (.inr ⟨rfl,ha.2⟩)) ha.1) ‹1› (.part (S _ b (.inr (.inl rfl)) hb) ‹1› (.part (S _ d (.inr (.inr ⟨rfl,hd.2⟩)) hd.1) ‹1› (.part (S _ f (.inr (.inl rfl)) hf) ‹1› .nil))),by show 4<=4;decide⟩
 ·exact⟨("strip":Str),_,[("kind":Str),("name":Str)],[],0,by omega,rfl,by decide +kernel,.inr ⟨rfl,by decide +kernel⟩,.part (S _ a (.inr (.inr ⟨rfl,ha.2⟩)) ha.1) ‹1› (.part (S _ b (.inr (.inl rfl)) hb) ‹1› .nil),by show 2<=4;decide⟩
 ·exact⟨("elders":Str),_,[("kind":Str),("elders":Str)],[],0,by omega,rfl,by decide +kernel,.inr ⟨rfl,by decide +kernel⟩,.part (S _ a (.inr (.inr ⟨rfl,ha.2⟩)) ha.1) ‹1› (.part (.inr (.inr (.inl ⟨rfl,ks,rfl,by omega,hk,rfl⟩))) ‹1› .nil),by show 2<=4;decide⟩
 ·refine⟨("if" : Str),_,[("e" : Str),("block" : Str),("block" : Str)],[("else" : Str),("end" : Str)],c1+(c2+0),by omega,rfl,by decide +kernel,.inl ‹1›,.part (E _ he) ‹1› (.block h1 ‹21› (.block h2 ‹21› ?_)),by show 3<=4; decide⟩;have:([]++[[("if" : Str)]++be e]++r1++[[("else" : Str)]]++r2++[[("end" : Str)]]:LL)=(("if" : Str)::be e)::(r1++[("else" : Str)]::(r2++[[("end" : Str)]])):=by simp
  rw[<- this];exact .nil
 ·rcases hw with rfl | rfl
  ·refine⟨("while" : Str),_,[("e" : Str),("block" : Str)],[("end" : Str)],c1+0,by omega,rfl,by decide +kernel,.inl ‹1›,.part (E _ he) ‹1› (.block h1 ‹21› ?_),by show 2<=4; decide⟩;have:([]++[[("while" : Str)]++be e]++r++[[("end" : Str)]]:LL)=(("while" : Str)::be e)::(r++[[("end" : Str)]]):=by simp
   rw[<- this];exact .nil
  ·refine⟨("repeat" : Str),_,[("e" : Str),("block" : Str)],[("end" : Str)],c1+0,by omega,rfl,by decide +kernel,.inl ‹1›,.part (E _ he) ‹1› (.block h1 ‹21› ?_),by show 2<=4; decide⟩;have:([]++[[("repeat" : Str)]++be e]++r++[[("end" : Str)]]:LL)=(("repeat" : Str)::be e)::(r++[[("end" : Str)]]):=by simp
   rw[<- this];exact .nil
 ·refine⟨("try" : Str),_,[("block" : Str),("x" : Str),("block" : Str)],[("catch" : Str),("end" : Str)],c1+(c2+0),by omega,rfl,by decide +kernel,.inl ‹1›,.block h1 ‹21› (.part (S _ x (.inl ⟨rfl,hx.2⟩) hx.1) ‹1› (.block h2 ‹21› ?_)),by show 3<=4; decide⟩;have:([]++[[("try" : Str)]]++r1++[[("catch" : Str)]++[x]]++r2++[[("end" : Str)]]:LL)=[("try" : Str)]::(r1++[("catch" : Str),x]::(r2++[[("end" : Str)]])):=by simp
  rw[<- this];exact .nil
def Fp(H H':Hp)(vs:LV)(ah:LL):Prop:=Paired (λ(v:V) (r:LS)=>∃a,v=.ref a/\H a=none/\H' a=some (.lst (r.map V.str))) vs ah
theorem Fp.keep(h:Fp H H1 vs ah)(s:∀a,H a=none->∀o,H1 a=some o->H2 a=some o):Fp H H2 vs ah:=XM h λv r ⟨a,e,n,q⟩=>⟨a,e,n,s a n _ q⟩
theorem dN(s:Same H H')(h:H' a=none):H a=none:=by
 cases e:H a with
 |none=>rfl
 |some o=>rw[s a o e]at h;cases h
theorem nC{κ:Type}[DecidableEq κ]:∀{kvs:List (κ×V)} {k:κ},(eU kvs k).isSome=true↔k∈kvs.map (·.1)
 |[],k=>by simp[eU]
 |p::kvs,k=>by
  by_cases e:p.1=k
  ·rw[gJ e];simp[e]
  ·rw[fZ e,nC];have:¬k=p.1:=λz=>e z.symm;simp[this]
theorem jN{α β:Type}{F:α->β->Prop}{as YQ:List α}{bs bs':List β}(h:Paired F as bs)(h':Paired F YQ bs'):Paired F (as++YQ) (bs++bs'):=by
 induction h with
 |nil=>exact h'
 |cons a _ ih=>exact .cons a ih
def Ss(H H':Hp)(x y z:ax)(vs:LV)(ah:LL):Prop:=Paired (λ(v:V) (r:LS)=>∃a,v=.ref a/\H a=none/\a≠x/\a≠y/\a≠z/\H' a=some (.lst (r.map V.str))) vs ah
inductive zY (B:lU) (vs:LV) (H:Hp) (Q:VK) (E_:XK):Prop
 |mk (v:V) (t:T) (ah:LL) (c:Nat):vs=[v]->Dp H t v->(∃kk,B kk t ah c)->c<=16->(∀(l:ax) (us:LV) H',H l=none->H' l=some (.lst us)->Fp H H' us ah->Same H H'->Q (.ref l) H')->zY B vs H Q E_
theorem LC(D:Defs K mg t)(GL:BN P w K mg t){B:lU}(hB:VW B){k:Nat}(hj:j<=k)(hk:23<=k)(Gba:aW P w K mg base bm j t.fD.1 t.fD.2 ["block"] (zY B)):aW P w K mg base bm (k+1) t.dY.1 t.dY.2 ["statement"] (zY (BB B)):=by
 have YK:=@Ln P w K mg base t D GL;have hz:ab=16777216:=cn;refine D.dY.fn.ok fj ‹4› ‹3›
 ·obtain⟨v,t,ah,c,rfl,_⟩:=h;rfl
 ·obtain ⟨v,t0,DT,c,rfl,dv,mN,hc,q⟩:=h;obtain ⟨kk,mN⟩:=mN;obtain ⟨ol,_⟩:=Br hB _ _ _ _ mN;obtain ⟨wd,ps,fs,js,d0,_,rfl,hm,EZ,MA,VX⟩:=yx hc mN;obtain ⟨a,xs,rfl,ha,dl⟩:=L2.Dp.cR dv;obtain ⟨x1,ys,rfl,d1,zh⟩:=dl.cases;have e1:=L2.Dp.eG d1;subst e1;have EX:ys.length=ps.length:=zh.length
  refine⟨_,(au (aU (i:=1) fj.nd rfl (uv rfl) (bf Cr (pv 0) aG ‹20›))
   (au (aU (i:=2) fj.nd rfl (uv rfl) (bw (aj (bw ‹14›) aq)))
   (au (aU (i:=3) fj.nd rfl (uv rfl) (aY rA (by rfl) D.lO ji (aj (Gs (eZ (v:=V.ref t.jY) (by rfl) GL.Gr rfl) (pv 1) (bW aq) ⟨by rfl,by rfl,by rfl,by rfl⟩) aq)))
   (au (fG di rfl (Jp rfl D.Oa (aj (yd (eZ (v:=V.ref t.cV) (by rfl) GL.rE rfl) (pv 1) ‹20›) (aj (gn yh (pv 0) (iM aG) iH) aq))) (PX rfl (cu (aO (i:=4) fj.nd rfl (uv rfl)) (cu (aO (i:=5) fj.nd rfl (uv rfl)) jJ)))
   (aF (bL (aV cO (pv 4) aP (aR _))
   (au (bH (gb cz ij ik mU (pv 2) (aj (aH D.fD Gba ‹2› (by rfl) (aj (pv 5) aq)) aq)))
   (aF (bH (gb cz eQ eR fY (pv 2) (aj (bw (aj (gb cz PySem.F.slot_list_pop PySem.F.type_list_pop FT (pv 3) (aj aG aq)) aq)) aq)))))
   (aF (bH (gb cz ij ik mU (bf yu (pv 2) (RP Ml aG) ‹20›) (aj (aH D.dD YK ‹2› (by rfl) (aj (pv 4) (aj (pv 5) aq))) aq)))))))
   (aF (aM (pv 2))))))),?_⟩
  simp only[jm,Cx.nox];refine⟨_,rfl,a,_,_,_,rfl,rfl,XR ha,aK (j:=0) rfl,?_⟩;refine⟨_,rfl,by show 1<=ab;decide,λla NI=>⟨by show 1<=ab;decide,λr SH=>?_⟩⟩;have IS:la≠r:=aD ak SH;have hrH:H r=none:=by rw[aB IS.symm]at SH;exact SH
  have s1:Same H (upd (upd H la (.lst [.str wd])) r (.lst [.ref la])):=(X6 NI).trans (X6 SH);have IT:(upd (upd H la (.lst [.str wd])) r (.lst [.ref la])) la=some (.lst [.str wd]):=by rw[aB IS,ak]
  have NE:(upd (upd H la (.lst [.str wd])) r (.lst [.ref la])) r=some (.lst [.ref la]):=ak;generalize upd (upd H la (.lst [.str wd])) r (.lst [.ref la])=H1 at s1 IT NE;refine⟨t.jY,_,rfl,GL.qK.d,_,rfl,ck _,λe0 VI=>⟨.inr wd,rfl,?_⟩⟩;exists 1,s2,xi,H1,e0,(.tup []),VI,H2
  obtain⟨jt,hjt,hjv⟩:∃jt:ax,((eU (mj.map fun p=>((.inr p.1:ga),V.ref (t.ad "j" p.1))) (.inr wd)).getD (.ref e0))=V.ref jt/\SqT K H2 jt (js.map V.str):=by
   rcases EZ with EZ|⟨rfl,AR⟩
   ·exact⟨t.ad "j" wd,by rw[pP GL.qK EZ];rfl,GL.qK.s _ EZ H2⟩
   ·refine⟨e0,?_,XR xi⟩
    have:eU (mj.map fun p=>((.inr p.1:ga),V.ref (t.ad "j" p.1))) (.inr wd)=none:=by
     cases e:eU (mj.map fun p=>((.inr p.1:ga),V.ref (t.ad "j" p.1))) (.inr wd)with
     |none=>rfl
     |some y=>
      have h1:(eU (mj.map fun p=>((.inr p.1:ga),V.ref (t.ad "j" p.1))) (.inr wd)).isSome=true:=by rw[e];rfl
      rw[nC,kQ,bE]at h1;obtain⟨z,pi,ez⟩:=h1;have ez:(By z.1:ga)=By wd:=ez;injection ez with ez;exact absurd ez (AR z pi)
    rw[this];rfl
  rw[hjt];refine⟨jt,_,rfl,.inr hjv,fun jl E1=>?_⟩;have s3:Same H2 (upd H2 jl (.lst (js.map V.str))):=X6 E1;have YR:(upd H2 jl (.lst (js.map V.str))) jl=some (.lst (js.map V.str)):=ak;have IU:Same H (upd H2 jl (.lst (js.map V.str))):=(s1.trans s2).trans s3;have FC:=(s2.trans s3) la _ IT;have PF:=(s2.trans s3) r _ NE;have jlH:H jl=none:=dN (s1.trans s2) E1;have xt:la≠jl:=aD (s2 la _ IT) E1;have rjl:r≠jl:=aD (s2 r _ NE) E1;generalize upd H2 jl (.lst (js.map V.str))=H3 at s3 YR IU FC PF;refine⟨_,rfl,t.cV,_,.inr wd,_,rfl,GL.dR.d,rfl,pP GL.dR hm,?_⟩;refine⟨_,rfl,_,rfl,a,_,rfl,IU a _ ha,fun pb H4 YS s4=>?_⟩;rw[uF]at YS;have YS:H4 pb=some (.tup ys):=YS;have s04:=IU.trans s4;obtain⟨fl,_⟩:=MA.len;refine⟨t.ad "s" wd,pb,_,ys,rfl,GL.dR.s (wd,fs) hm H4,XR YS,?_⟩;have hpbH:∀H5:Hp,(∀b zs,H4 b=some (.tup zs)->H5 b=some (.tup zs))->SqT K H5 pb ys:=fun H5 h=>XR (h pb _ YS)
  refine Gw (K:=K) (a:=t.ad "s" wd) (b:=pb) (xs:=fs.map V.str) (ys:=ys) (n:=ps.length) (by rw[aa];omega) (fun i σ H5=>∃(vs:LV) (la:ax) (init:LL) (kb js:LS) (v4 v5:OV),σ=[some (.ref a),some (.str wd),some (.ref r),some (.ref jl),v4,v5]/\H5 r=some (.lst (vs++[.ref la]))/\Ss H H5 la r jl vs init/\H5 la=some (.lst (kb.map V.str))/\H la=none/\la≠r/\la≠jl/\H5 jl=some (.lst (js.map V.str))/\(∃d,Stp (B kk) kk (fs.drop i) (ps.drop i) init kb js DT d)/\kb.length<=1+i*30000/\Same H H5/\fH H4 H5)
   ⟨[],la,[],[wd],js,_,_,rfl,s4 r _ PF,.nil,s4 la _ FC,NI,IS,xt,s4 jl _ YR,by rw[r8,r8];exact⟨_,MA⟩,af _,s04,λ_ _ e=>e⟩ (λi σ H5 _ h=>by
    obtain⟨_,_,_,_,_,_,_,_,_,_,_,_,_,_,_,_,_,_,tu⟩:=h;exact⟨GL.dR.s (wd,fs) hm H5,hpbH H5 tu⟩) ?_ ?_
  ·rintro i x y σ H5 p hx hy ⟨vs,la,init,kb,js,v4,v5,rfl,hr5,rz,FD,YT,IS,xt,IX,⟨d5,st⟩,ll,CM,NJ⟩ hp
   have sv:i<ps.length:=by
    have:=(bo.mp hy).1;omega
   have zd:i<fs.length:=by omega
   have UP:x=.str fs[i]:=by
    rw[bS,ac zd]at hx;exact(cS hx).symm
   subst UP;obtain⟨y',ey,dy⟩:=zh.get (ac sv);rw[hy]at ey;cases ey;have s6:Same H5 (upd H5 p (.tup [.str fs[i],y])):=X6 hp;refine⟨p,_,rfl,XR ak,rfl,_,_,rfl,_,_,rfl,rfl,?_⟩;generalize upd H5 p (.tup [.str fs[i],y])=H6 at s6;have PZ:=CM.trans s6;have MB:fH H4 H6:=NJ.trans (XX s6);have So:=s6 r _ hr5;have BO:=s6 la _ FD;have EA:=s6 jl _ IX;have rz6:Ss H H6 la r jl vs init:=XM rz λv tF ⟨b,e,n,n1,n2,n3,q⟩=>⟨b,e,n,n1,n2,n3,s6 b _ q⟩;have il:init.length+1<=DT.length:=st.len.2;have vl:vs.length=init.length:=cE rz;rw[cK zd,cK sv]at st;have dy6:=dy.mono (XX PZ);generalize VY:fs[i]=ff at st;generalize hte:ps[i]=tt at st dy6;cases st with
   | @block bb rr cc _ _ _ _ _ jj Cs _ hb hcc BH=>
    refine‹8›;refine⟨_,rfl,.inl ⟨rfl,_,XQ So⟩,_,rfl,y,tt,rr,cc,rfl,dy6,⟨kk,hb⟩,hcc,λl2 P1 H7 Fk cx YU s7=>?_⟩;have PM:=s7 r _ So;have BQ:=s7 la _ BO;have NL:=s7 jl _ EA;have rl:=(hB _ _ _ _ hb).1;have v2l:P1.length=rr.length:=cE YU;refine⟨r,l2,_,_,rfl,rfl,PM,cx,by rw[ai,cy];omega,?_⟩;have MC:∀b o,b≠r->H7 b=some o->(upd H7 r (.lst (vs++[.ref la]++P1))) b=some o:=λb o hb e=>by rw[aB hb];exact e
    have YV:(upd H7 r (.lst (vs++[.ref la]++P1))) r=some (.lst (vs++[.ref la]++P1)):=ak;generalize upd H7 r (.lst (vs++[.ref la]++P1))=H8 at MC YV;have BS:=MC la _ IS BQ;have FE:=MC jl _ rjl.symm NL;refine⟨_,rfl,.inl ⟨rfl,_,XQ YV⟩,_,rfl,.inl ⟨rfl,_,XQ FE⟩,jl,_,0,0,.str jj,rfl,rfl,FE,by decide,by decide,?_,rfl,?_⟩
    ·rw[ci,aI];unfold tN;simp
    refine⟨by show 1<=ab;decide,λnl P2=>?_⟩;have ejs:((jj::Cs).map V.str).eraseIdx 0=Cs.map V.str:=rfl;rw[ejs]at P2⊢;have NM:∀b o,b≠jl->H8 b=some o->(upd H8 jl (.lst (Cs.map V.str))) b=some o:=λb o hb e=>by rw[aB hb];exact e
    have BU:(upd H8 jl (.lst (Cs.map V.str))) jl=some (.lst (Cs.map V.str)):=ak;generalize upd H8 jl (.lst (Cs.map V.str))=H9 at NM BU P2;have hr9:=NM r _ rjl YV;have SI:=NM la _ xt BS;have nlr:nl≠r:=(aD hr9 P2).symm;have YW:nl≠jl:=(aD BU P2).symm;exists 1,AM,YX,H9,nl,(.lst [.str jj]),P2,AU;refine⟨r,_,.ref nl,rfl,rfl,AM r _ hr9,by rw[ai,ai,cy];omega,?_⟩;have H9H:∀b o,b≠r->b≠jl->H7 b=some o->H9 b=some o:=λb o h1 h2 e=>NM b o h2 (MC b o h1 e)
    have At:∀b o,b≠r->b≠jl->H7 b=some o->(upd AU r (.lst (vs++[.ref la]++P1++[.ref nl]))) b=some o:=λb o h1 h2 e=>by
     rw[aB h1];exact AM b o (H9H b o h1 h2 e)
    have nlH:∀b o,H7 b=some o->b≠r->b≠jl->b≠nl:=λb o e h1 h2=>aD (H9H b o h1 h2 e) P2;have s0:Same H (upd AU r (.lst (vs++[.ref la]++P1++[.ref nl]))):=λb o e=>At b o (aD e hrH) (aD e jlH) (s7 b o (PZ b o e))
    have nlH0:H nl=none:=by
     cases e:H nl with
     |none=>rfl
     |some o=>rw[H9H nl o nlr YW (s7 nl o (PZ nl o e))]at P2;cases P2
    refine⟨vs++[.ref la]++P1,nl,init++[kb]++rr,[jj],Cs,_,_,rfl,ak,?_,by rw[aB nlr];exact YX,nlH0,nlr,YW,by rw[aB rjl.symm];exact AM jl _ BU,⟨_,BH⟩,by show 1<=_;omega,s0,λb zs e=>?_⟩
    ·refine jN (jN ?_ (.cons ?_ .nil)) ?_
     ·exact XM rz6 λv tF ⟨b,e,n,n1,n2,n3,q⟩=>⟨b,e,n,nlH b _ (s7 b _ q) n2 n3,n2,n3,At b _ n2 n3 (s7 b _ q)⟩
     ·exact⟨la,rfl,YT,nlH la _ BQ IS xt,IS,xt,At la _ IS xt BQ⟩
     ·refine XM YU fun v tF ⟨b,e,n,q⟩=>?_;have nr:b≠r:=fun z=>by rw [z,So] at n; cases n
      have nj:b≠jl:=λz=>by rw[z,EA]at n;cases n
      exact⟨b,e,dN PZ n,nlH b _ q nr nj,nr,nj,At b _ nr nj q⟩
    ·have e7:=s7 b _ (MB b _ e);exact At b _ (bV e7 PM ‹6›) (bV e7 NL ‹6›) e7
   | @part _ _ _ ws _ _ _ _ _ _ pw hf BH=>
    refine⟨_,rfl,rfl,_,rfl,aL (ne_str hf) ?_⟩;refine⟨_,rfl,_,rfl,r,_,_,_,rfl,rfl,XQ So,Pq _ _,.inl ⟨rfl,_,XQ BO⟩,_,rfl,_,rfl,ff,y,tt,ws,rfl,dy6,⟨kk,pw⟩,λl2 H7 Fk cx s7=>?_⟩;have BQ:=s7 la _ BO;have wl:=pw.len ‹11›;have hi4:i<=4:=by omega
    refine⟨la,l2,_,_,rfl,rfl,BQ,cx,by rw[aa,aa];omega,?_⟩;have MC:∀b o,b≠la->H7 b=some o->(upd H7 la (.lst (kb.map V.str++ws.map V.str))) b=some o:=λb o hb e=>by rw[aB hb];exact e
    refine⟨vs,la,init,kb++ws,js,_,_,rfl,MC r _ IS.symm (s7 r _ So),?_,by rw[ak,av],YT,IS,xt,MC jl _ xt.symm (s7 jl _ EA),⟨_,BH⟩,by rw[ai];omega,λb o e=>MC b o (aD e YT) (s7 b o (PZ b o e)),λb zs e=>?_⟩
    ·exact XM rz6 λv tF ⟨b,e,n,n1,n2,n3,q⟩=>⟨b,e,n,n1,n2,n3,MC b _ n1 (s7 b _ q)⟩
    ·have e7:=s7 b _ (MB b _ e);exact MC b _ (bV e7 BQ ‹6›) e7
  ·rintro σ H5 ⟨vs,la,init,kb,js,v4,v5,rfl,hr5,rz,FD,YT,IS,xt,IX,⟨d5,st⟩,ll,CM,NJ⟩;rw[List.drop_of_length_le ‹21›,List.drop_of_length_le (af _)]at st;cases st;refine⟨_,rfl,q r _ H5 hrH hr5 (jN (XM rz λv tF ⟨b,e,n,_,_,_,q⟩=>⟨b,e,n,q⟩) (.cons ⟨la,rfl,YT,FD⟩ .nil)) CM⟩
structure KR where
 kind:Str
 bx:LS
 fields:LS
noncomputable def yB(r:KR):T:=.tup [.str r.kind,.tup (r.bx.map T.str),.tup (r.fields.map T.str)]
def kW(r:KR):LS:= "kind"::r.kind::nS r.bx.length::(r.bx++r.fields)
theorem Dp.Aa{r:KR}(d:Dp H (yB r) v):∃q e f,v=.ref q/\H q=some (.tup [.str r.kind,.ref e,.ref f])/\H e=some (.tup (r.bx.map V.str))/\H f=some (.tup (r.fields.map V.str)):=by
 obtain⟨q,xs,rfl,hq,dl⟩:=L2.Dp.cR d;obtain⟨x1,r1,rfl,d1,dl⟩:=dl.cases;obtain⟨x2,r2,rfl,d2,dl⟩:=dl.cases;obtain⟨x3,r3,rfl,d3,dl⟩:=dl.cases;have e1:=L2.Dp.eG d1;have e4:=dl.eO;obtain⟨e,ys,rfl,he,np⟩:=L2.Dp.cR d2;obtain⟨f,zs,rfl,hf,wc⟩:=L2.Dp.cR d3;subst e1 e4;rw[DpL.rR np]at he;rw[DpL.rR wc]at hf;exact⟨q,e,f,rfl,hq,he,hf⟩
structure DR where
 kind:Str
 name:Str
 params:LS
 block:T
def FF(d:DR):T:=.tup [.str d.kind,.str d.name,.tup (d.params.map T.str),d.block]
def iR(d:DR):LS:= "deed"::d.kind::d.name::d.params
theorem Dp.Oc{d:DR}(h:Dp H (FF d) v):∃q p b,v=.ref q/\H q=some (.tup [.str d.kind,.str d.name,.ref p,b])/\H p=some (.tup (d.params.map V.str))/\Dp H d.block b:=by
 obtain⟨q,xs,rfl,hq,dl⟩:=L2.Dp.cR h;obtain⟨x1,r1,rfl,d1,dl⟩:=dl.cases;obtain⟨x2,r2,rfl,d2,dl⟩:=dl.cases;obtain⟨x3,r3,rfl,d3,dl⟩:=dl.cases;obtain⟨x4,r4,rfl,d4,dl⟩:=dl.cases;have e1:=L2.Dp.eG d1;have e2:=L2.Dp.eG d2;have e4:=dl.eO;obtain⟨p,ys,rfl,hp,np⟩:=L2.Dp.cR d3;subst e1 e2 e4;rw[DpL.rR np]at hp;exact⟨q,p,_,rfl,hq,hp,d4⟩
def Nn(r:KR):Prop:=Nm r.kind/\r.bx.length<=7/\r.fields.length<=3/\(∀x∈r.bx,Nm x)/\∀x∈r.fields,Nm x
def VZ(kk:KW)(d:DR)(ah:LL):Prop:=Kd kk d.kind/\Nm d.name/\d.params.length<=3/\((∀x∈d.params,Nx kk x)/\d.params.Nodup)/\∃c,c<=16/\SB 3 kk d.block ah c
variable {kk:KW}
def fO(d:DR)(b:LL):LL:=iR d::(b++[[("end":Str)]])
theorem Fg{r:KR}(h:Nn r):pN (kW r):=by
 obtain⟨h1,h2,h3,h4,h5⟩:=h;have h1:=h1.2.1;refine⟨bc _ _,?_⟩;have e:("kind":Str).length=4:=rfl;have:=tH r.bx.length h2;have:=wG h4;have:=wG h5;unfold kW;rw[bM,bM,bM,vg];omega
theorem iJ:pN ["end"]:=⟨bc _ _,by show 4<=19000;decide⟩
theorem Ay{d:DR}{b:LL}(h:VZ kk d b):(fO d b).length<=50/\∀r∈fO d b,pN r:=by
 obtain⟨h1,h2,h3,⟨h4,_⟩,c,hc,hb⟩:=h;have h1:=h1.1.2.1;have h2:=h2.2.1;have h4:=λx hx=>(h4 x hx).1;obtain⟨l,k⟩:=pW 3 _ _ _ _ hb;refine⟨by unfold fO;rw[aI,ai,cy];omega,λr hr=>?_⟩;rcases aT.mp hr with rfl|hr
 ·refine⟨bc _ _,?_⟩;have e:("deed":Str).length=4:=rfl;have:=wG h4;unfold iR;rw[bM,bM,bM];omega
 rcases bu.mp hr with hr|hr
 ·exact k r hr
 ·rw[bg.mp hr];exact iJ
def Ij(b:LL):LL:=[("run":Str)]::(b++[[("end":Str)]])
theorem xV(D:Defs K mg t){k:Nat}(Gby:aW P w K mg base bm k t.dY.1 t.dY.2 ["statement"] (zY (BB (SB n)))):aW P w K mg base bm (k+1) t.fD.1 t.fD.2 ["block"] (zY (SB (n+1))):=by
 have hz:ab=16777216:=cn;refine D.fD.fn.ok qe ‹4› ‹3›
 ·obtain⟨v,t,ah,c,rfl,_⟩:=h;rfl
 ·obtain ⟨v,t0,ah,c,rfl,dv,⟨kk,ss,hG,rfl,mN,rfl⟩,hc,q⟩:=h;obtain ⟨a,xs,rfl,ha,dl⟩:=L2.Dp.cR dv;have G1:xs.length=ss.length:=dl.length;have AN:=mN.len;obtain ⟨fl,_⟩:=Hu (Br (pW n)) mN
  refine⟨_,(au (aU (i:=1) qe.nd rfl (uv rfl) (bw aq))
   (au (fG di rfl (dg (pv 0)) (aO (i:=2) qe.nd rfl (uv rfl))
   (aF (bH (gb cz ij ik mU (pv 1) (aj (aH D.dY Gby ‹2› (by rfl) (aj (pv 2) aq)) aq)))))
   (aF (aM (pv 1))))),?_⟩
  refine⟨ck _,λl hl=>?_⟩;exists 1,s1,fq,H,l,(.lst []),hl,H1
  have pre:∀i,((hG.take i).flatten).length<=48:=λi=>by
   have:((hG.take i).flatten).length<=(hG.flatten).length:=by
    conv=>rhs;rw[<- fz i hG]
    rw[fE,ai];omega
   omega
  refine⟨_,rfl,a,rfl,⟨_,XR (s1 a _ ha)⟩,nq (K:=N0) (a:=a) (xs:=xs) (λi σ H2=>∃(us:LV) (v2:OV),σ=[some (.ref a),some (.ref l),v2]/\H2 l=some (.lst us)/\Paired (λ(v:V) (r:LS)=>∃b,v=.ref b/\H b=none/\b≠l/\H2 b=some (.lst (r.map V.str))) us (hG.take i).flatten/\Same H H2)
   ⟨[],_,rfl,fq,.nil,s1⟩ (λi σ H2 _ ⟨_,_,_,_,_,s⟩=>XR (s a _ ha)) ?_ ?_⟩
  ·rintro i x σ H2 hi ⟨us,v2,rfl,cx,rf,s2⟩;have hix:i < xs.length:=(bo.mp hi).1;have YY:i < ss.length:=by omega
   have sL:i<hG.length:=by omega
   obtain⟨x',ex,dx⟩:=dl.get (ac YY);rw[ex]at hi;cases hi;obtain⟨d,hd,hs⟩:=mN.get i YY sL;refine⟨_,rfl,.inl ⟨rfl,_,XQ cx⟩,_,rfl,x,ss[i],hG[i],d,rfl,dx.mono (XX s2),⟨kk,hs⟩,by omega,λl2 DU H3 Fk ua YU s3=>?_⟩;have ma:=s3 l _ cx
   have ew:(hG.take (i+1)).flatten=(hG.take i).flatten++hG[i]:=by
    rw[take_snoc sL,fE];show _++(hG[i]++[])=_;rw[dm]
   have p1:=pre i;have p2:=pre (i+1);rw[ew,ai]at p2;have ul:=cE rf;have ul2:=cE YU;refine⟨l,l2,_,_,rfl,rfl,ma,ua,by omega,?_⟩;refine⟨us++DU,_,rfl,ak,?_,λb o e=>by rw[aB (aD e hl)];exact s3 b o (s2 b o e)⟩;rw[ew];refine jN (XM rf λv r ⟨b,e,n,nb,q⟩=>⟨b,e,n,nb,by rw[aB nb];exact s3 b _ q⟩) (XM YU λv r ⟨b,e,n,q⟩=>?_);have nb:b≠l:=λz=>by rw[z,cx]at n;cases n
   exact⟨b,e,dN s2 n,nb,by rw[aB nb];exact q⟩
  ·rintro σ H2 ⟨us,v2,rfl,cx,rf,s2⟩;rw[ay ‹21›]at rf;exact⟨_,rfl,q l us H2 hl cx (XM rf λv r ⟨b,e,n,_,q⟩=>⟨b,e,n,q⟩) s2⟩
theorem Mx(D:Defs K mg t)(GL:BN P w K mg t):∀n,aW P w K mg base bm (26+2*n) t.fD.1 t.fD.2 ["block"] (zY (SB (n+1)))
 |0=>xV D (LC D GL (pW 0) (j:=0) (k:=24) ‹21› ‹21› (xT λvs H Q E ⟨v,t,r,c,_,_,⟨_,h⟩,_,_⟩=>h))
 |n+1=>by
  have h:=xV D (LC D GL (pW (n+1)) (j:=26+2*n) (k:=26+2*n) ‹21› ‹21› (Mx D GL n));exact h
inductive MJ (vs:LV) (H:Hp) (Q:VK) (E_:XK):Prop
 |mk (f:ax) (v:V) (ws:LS) (t:T) (ah:LL) (c:Nat):vs=[.ref f,v]->H f=some (.lst (ws.map V.str))->Dp H t v->(∃kk,SB 3 kk t ah c)->c<=16->(∀(l:ax) (us:LV) H',H l=none->H' l=some (.lst (.ref f::us))->Fp H H' us (ah++[[("end":Str)]])->Same H H'->Q (.ref l) H')->MJ vs H Q E_
theorem Rv(D:Defs K mg t)(GL:BN P w K mg t):aW P w K mg base bm 31 t.lE.1 t.lE.2 ["first","block"] MJ:=by
 have Gba:=@Mx P w K mg base t D GL 2;have hz:ab=16777216:=cn;refine D.lE.fn.ok Bu ‹4› ‹3›
 ·obtain⟨f,v,ws,t,ah,c,rfl,_⟩:=h;rfl
 ·obtain ⟨f,v,ws,t0,ah,c,rfl,hf,dv,sb,hc,q⟩:=h;refine⟨_,(aF (aM (bh cX (bh cX (bw ‹15›) (aH D.fD Gba ‹2› (by rfl) ‹14›)) (bw (aj (bw (aj aP aq)) aq))))),?_⟩;refine⟨_,rfl,by show 1<=ab; decide,fun l1 fq=>?_⟩;exists 1,s1,hW,H,l1,(.lst [.ref f]),fq,H1;refine⟨_,rfl,v,t0,ah,c,rfl,dv.mono (XX s1),sb,hc,fun l2 us H2 Fk cx rf s2=>?_⟩;have rl:=(pW 3 _ _ _ _ sb.choose_spec).1;have ul:=cE rf;refine⟨l1,l2,_,_,rfl,rfl,s2 l1 _ hW,cx,by show 1+us.length<=ab; omega,fun l3 ma=>?_⟩;exists 1,s3,yT,H2,l3,(.lst ([.ref f]++us)),ma,H3;refine⟨by show 1<=ab; decide,fun e1 CH=>⟨by show 1<=ab; decide,fun e2 xi=>?_⟩⟩;have s4:Same H3 (upd (upd H3 e1 (.lst [.str "end"])) e2 (.lst [.ref e1])):=(X6 CH).trans (X6 xi);have YZ:(upd (upd H3 e1 (.lst [.str "end"])) e2 (.lst [.ref e1])) e1=some (.lst [.str "end"]):=by rw [aB (aD ak xi),ak]
  have Y0:(upd (upd H3 e1 (.lst [.str "end"])) e2 (.lst [.ref e1])) e2=some (.lst [.ref e1]):=ak;generalize upd (upd H3 e1 (.lst [.str "end"])) e2 (.lst [.ref e1])=H4 at s4 YZ Y0;refine⟨l3,e2,_,_,rfl,rfl,s4 l3 _ yT,Y0,by show([V.ref f]++us).length+1<=ab;rw[ai,cy];omega,fun l5 xI=>?_⟩;have s5:=s4.trans (X6 (o:=.lst ([.ref f]++us++[.ref e1])) xI);have IU:=(s1.trans s2).trans s3;refine q l5 (us++[.ref e1]) _ (dN (IU.trans s4) xI) (by rw[ak];rfl) (jN (XM rf fun v r ⟨b,e,n,q⟩=>⟨b,e,dN s1 n,(s3.trans s5) b _ q⟩) (.cons ⟨e1,rfl,dN IU CH,(X6 xI) e1 _ YZ⟩ .nil)) (IU.trans s5)
inductive NQ (vs:LV) (H:Hp) (Q:VK) (E_:XK):Prop
 |mk (v:V) (r:KR):vs=[v]->Dp H (yB r) v->Nn r->(∀(l:ax) H',H l=none->H' l=some (.lst ((kW r).map V.str))->Same H H'->Q (.ref l) H')->NQ vs H Q E_
theorem Q9(D:Defs K mg t):aW P w K mg base bm 1 t.mJ.1 t.mJ.2 ["row"] NQ:=by
 have hz:ab=16777216:=cn;refine D.mJ.fn.ok oR ‹4› ‹3›
 ·obtain⟨v,r,rfl,_⟩:=h;rfl
 ·obtain ⟨v,r,rfl,dv,⟨_,h2,h3,_,_⟩,q⟩:=h;obtain ⟨q0,e,f,rfl,NH,he,hf⟩:=K26.Dp.Aa dv
  refine⟨_,(au (qw (pv 0) (jX rfl (cu (aO (i:=1) oR.nd rfl (uv rfl)) (cu (aO (i:=2) oR.nd rfl (uv rfl)) (cu (aO (i:=3) oR.nd rfl (uv rfl)) jJ)))))
   (aF (aM (bh cX (bh cX (bw (aj aP (aj (pv 1) (aj (aY fP (by rfl) D.pQ lM (aj (aN bJ (by rfl) D.cW cg (aj (pv 2) aq)) aq)) aq)))) (aY gB (by rfl) D.lO ji (aj (pv 2) aq))) (aY gB (by rfl) D.lO ji (aj (pv 3) aq)))))),?_⟩
  refine⟨_,rfl,q0,_,rfl,XR NH,rfl,_,_,rfl,_,_,rfl,_,_,rfl,rfl,?_⟩;refine⟨_,rfl,_,rfl,e,_,rfl,.inr (XR he),_,rfl,lg ‹21› (by rw[aa];omega),by show 3<=ab;decide,λl1 fq=>?_⟩;have ew:((io (((r.bx.map V.str).length:Nat):Int):String):Str)=nS r.bx.length:=by rw[aa];rfl
  rw[ew];exists 1,s1,hW,H,l1,(.lst [.str "kind",.str r.kind,.str (nS r.bx.length)]),fq,H1;refine⟨_,rfl,e,_,rfl,.inr (XR (s1 e _ he)),fun l2 cx=>?_⟩;exists 1,s2,IY,H1,l2,(.lst (r.bx.map V.str)),cx,H2;refine⟨l1,l2,_,_,rfl,rfl,s2 l1 _ hW,IY,by rw[aa];show 3+_<=ab;omega,fun l3 ma=>?_⟩;exists 1,s3,yT,H2,l3,(.lst ([.str "kind",.str r.kind,.str (nS r.bx.length)]++r.bx.map V.str)),ma,H3;have IU:=(s1.trans s2).trans s3;refine⟨_,rfl,f,_,rfl,.inr (XR (IU f _ hf)),fun l4 ze=>?_⟩;exists 1,s4,IZ,H3,l4,(.lst (r.fields.map V.str)),ze,H4;refine⟨l3,l4,_,_,rfl,rfl,s4 l3 _ yT,IZ,by rw[ai,aa,aa];show 3+_+_<=ab;omega,fun l5 xI=>?_⟩;refine q l5 _ (dN (IU.trans s4) xI) ?_ ((IU.trans s4).trans (X6 xI));rw[ak];unfold kW;rw[ci,ci,ci,av];rfl
end
end K26
end
section
namespace K26.F
open PySem PyProof.Rows L2
variable {H:Hp}{q:ax}{es:LS}{v:V}
abbrev rh:=List (Str×LS)
noncomputable def wH(r:Str×LS):T:=.tup [.str r.1,.tup (r.2.map T.str)]
noncomputable def Qf(f:rh):T:=.tup (f.map wH)
abbrev iq(f:rh):LS:=f.map (·.1)
structure ud (f:rh):Prop where
 nd:(iq f).Nodup
 sub:∀r∈f,∀e∈r.2,e∈iq f
 len:f.length<=7
 el:∀r∈f,r.2.length<=7
 Qu:∃top:LS,top.Nodup/\(∀x,x∈top↔x∈iq f)/\∀r∈f,∃j,top[j]?=some r.1/\∀e∈r.2,e∈top.take j
theorem Dp.row{e:ax}{x:Str}(hq:H q=some (.tup [.str x,.ref e]))(he:H e=some (.tup (es.map V.str))):Dp H (wH (x,es)) (.ref q):=
 L2.Dp.tup hq (.cons (L2.Dp.str x) (.cons (L2.Dp.tup he (X3 es)) .nil))
theorem Dp.xg{r:Str×LS}(d:Dp H (wH r) v):∃q e,v=.ref q/\H q=some (.tup [.str r.1,.ref e])/\H e=some (.tup (r.2.map V.str)):=by
 obtain⟨q,xs,rfl,hq,dl⟩:=L2.Dp.cR d;obtain⟨x1,r1,rfl,d1,dl⟩:=dl.cases;obtain⟨x2,r2,rfl,d2,wc⟩:=dl.cases;have e1:=L2.Dp.eG d1;have e3:=wc.eO;obtain⟨e,ys,rfl,he,np⟩:=L2.Dp.cR d2;subst e1 e3;rw[DpL.rR np]at he;exact⟨q,e,rfl,hq,he⟩
end K26.F
end
section
namespace K26.F
open PySem L2
variable {ah:LL}{i j:Nat}
noncomputable def wM (ah:LL):Option LS:=open Classical in if h:∃r,Mg ah r then Classical.choose h else none
theorem qH{r:Option LS}(h:Mg ah r):wM ah=r:=by
 unfold wM;rw[dif_pos ⟨r,h⟩];exact Mg.det (Classical.choose_spec (⟨r,h⟩:∃r,Mg ah r)) h
noncomputable def Kw(f:rh)(x:Str):LS:=((f.find? λr=>decide (r.1=x)).map (·.2)).getD []
theorem wg:∀{f:rh},(iq f).Nodup->∀r∈f,Kw f r.1=r.2
 |[],_,_,h=>nomatch h
 |r0::f,nd,r,hr=>by
  have NN:(r0.1::iq f).Nodup:=nd;obtain⟨n1,n2⟩:=fg.mp NN;unfold Kw;rw[kL];rcases aT.mp hr with rfl|h
  ·rw[aw rfl];rfl
  ·have ne:¬r0.1=r.1:=λe=>n1 (e ▸ bE.mpr ⟨r,h,rfl⟩);rw[cw ne];exact wg n2 r h
noncomputable def dZ(g:Str->Option LS)(es:LS):LL:=es.map (λe=>(g e).getD [])++[es]
noncomputable def tR (f:rh):Nat->Str->Option LS
 |0,_=>none
 |n+1,x=>if(Kw f x).all (λe=>(tR f n e).isSome)=true then(wM (bP (dZ (tR f n) (Kw f x)))).map (x::·)else none
variable {f:rh}
theorem Dq{l:LS}(h:l.Nodup){x:Str}(a:l[i]?=some x)(b:l[j]?=some x):i=j:=by
 obtain⟨h1,e1⟩:=bo.mp a;obtain⟨h2,e2⟩:=bo.mp b;exact(List.getElem_inj h).mp (e1.trans e2.symm)
theorem nH{l:LS}{x:Str}(h:x∈l.take j):∃i,i<j/\l[i]?=some x:=by
 obtain⟨i,hi,e⟩:=fc h;rw[bj]at hi;refine⟨i,by omega,?_⟩;rw[<- e,List.getElem_take];exact ac ‹21›
theorem Mp(G:ud f){top:LS}(t0:top.Nodup)(t1:∀x,x∈top↔x∈iq f)(t2:∀r∈f,∃j,top[j]?=some r.1/\∀e∈r.2,e∈top.take j):
  ∀(j:Nat) (x:Str),top[j]?=some x->∀n m,j<n->j<m->tR f n x=tR f m x:=by
 intro j
 induction j using Nat.strongRecOn with
 |ind j ih=>
  intro x hx n m hn hm;obtain⟨n,rfl⟩:∃n',n=n'+1:=⟨n - 1,by omega⟩;obtain⟨m,rfl⟩:∃m',m=m'+1:=⟨m - 1,by omega⟩;have hxn:x∈iq f:=(t1 x).mp (gE hx);obtain⟨r,hr,rfl⟩:=bE.mp hxn;have ee:=wg G.nd r hr;obtain⟨j',h1,h2⟩:=t2 r hr;have ej:=Dq t0 hx h1;subst ej
  have same:∀e∈r.2,tR f n e=tR f m e:=λe he=>by
   obtain⟨i,hi,ei⟩:=nH (h2 e he);exact ih i hi e ei n m ‹21› ‹21›
  unfold tR;rw[ee]
  have c1:r.2.all (λe=>(tR f n e).isSome)=r.2.all (λe=>(tR f m e).isSome):=by
   apply gN.mpr;rw[fb,fb];exact⟨λh e he=>by rw[<- same e he];exact h e he,λh e he=>by rw[same e he];exact h e he⟩
  have c2:dZ (tR f n) r.2=dZ (tR f m) r.2:=by
   unfold dZ;congr 1;exact kz λe he=>by rw[same e he]
  rw[c1,c2]
noncomputable def iI (f:rh):Str->Option LS:=tR f 8
theorem Hz(G:ud f){r:Str×LS}(hr:r∈f):iI f r.1=if r.2.all (λe=>(iI f e).isSome)=true then(wM (bP (dZ (iI f) r.2))).map (r.1::·)else none:=by
 obtain⟨top,t0,t1,t2⟩:=G.Qu
 have tl:top.length<=7:=by
  have h1:=fK t0 (m:=iq f) λx hx=>(t1 x).mp hx;have h2:(iq f).length=f.length:=aa _;have:=G.len;omega
 have same:∀e∈r.2,tR f 7 e=iI f e:=λe he=>by
  obtain⟨j,h1,h2⟩:=t2 r hr;obtain⟨i,hi,ei⟩:=nH (h2 e he);have lb:=(bo.mp ei).1;exact Mp G t0 t1 t2 i e ei 7 8 ‹21› ‹21›
 show tR f 8 r.1=_;unfold tR;rw[wg G.nd r hr]
 have c1:r.2.all (λe=>(tR f 7 e).isSome)=r.2.all (λe=>(iI f e).isSome):=by
  apply gN.mpr;rw[fb,fb];exact⟨λh e he=>by rw[<- same e he];exact h e he,λh e he=>by rw[same e he];exact h e he⟩
 have c2:dZ (tR f 7) r.2=dZ (iI f) r.2:=by
  unfold dZ;congr 1;exact kz λe he=>by rw[same e he]
 rw[c1,c2]
end K26.F
end
section
namespace K26
open PySem PyProof.Rows L2 F
variable {ks:List KR}{i:Nat}
noncomputable def knd(ks:List KR):LS:=ks.map (·.kind)
noncomputable def pL(ks:List KR):rh:=ks.map λr=>(r.kind,r.bx)
theorem tQ(ks:List KR):iq (pL ks)=knd ks:=by
 unfold iq pL knd;rw[kQ];rfl
structure sH (ks:List KR):Prop where
 nd:(knd ks).Nodup
 len:ks.length<=7
 el:∀i r,ks[i]?=some r->(∀e∈r.bx,e∈(knd ks).take i)/\r.bx.length<=7/\r.bx.Nodup
 fl:∀r∈ks,r.fields.length<=3/\r.fields.Nodup
 Vj:∃g:Str->Option LS,∀r∈ks,∃os,g r.kind=some (r.kind::os)/\Mg (bP (dZ g r.bx)) (some os)
theorem TV{r:KR}(h:ks[i]?=some r):(knd ks)[i]?=some r.kind:=by
 unfold knd;rw[bS,h];rfl
theorem sH.fam(G:sH ks):ud (pL ks)where
 nd:=by rw[tQ];exact G.nd
 sub:=λr hr e he=>by
  obtain⟨r0,h0,rfl⟩:=bE.mp hr;obtain⟨i,hi,rfl⟩:=fc h0;rw[tQ];exact ib ((G.el i _ (ac hi)).1 e he)
 len:=by unfold pL;rw[aa];exact G.len
 el:=λr hr=>by
  obtain⟨r0,h0,rfl⟩:=bE.mp hr;obtain⟨i,hi,rfl⟩:=fc h0;exact(G.el i _ (ac hi)).2.1
 Qu:=by
  refine⟨knd ks,G.nd,λx=>by rw[tQ],λr hr=>?_⟩;obtain⟨r0,h0,rfl⟩:=bE.mp hr;obtain⟨i,hi,rfl⟩:=fc h0;exact⟨i,TV (ac hi),(G.el i _ (ac hi)).1⟩
theorem sH.ord(G:sH ks):∀r∈ks,∃os,iI (pL ks) r.kind=some (r.kind::os)/\Mg (bP (dZ (iI (pL ks)) r.bx)) (some os):=by
 obtain⟨g,hg⟩:=G.Vj
 have y8:∀(i:Nat) (r:KR),ks[i]?=some r->iI (pL ks) r.kind=g r.kind/\∃os,iI (pL ks) r.kind=some (r.kind::os)/\Mg (bP (dZ (iI (pL ks)) r.bx)) (some os):=by
  intro i
  induction i using Nat.strongRecOn with
  |ind i ih=>
   intro r hi;have hr:r∈ks:=gE hi;obtain⟨os,h1,h2⟩:=hg r hr;have eo:=Hz G.fam (r:=(r.kind,r.bx)) (bE.mpr ⟨r,hr,rfl⟩)
   have eld:∀e∈r.bx,iI (pL ks) e=g e/\(g e).isSome=true:=λe he=>by
    obtain⟨j,hj,ej⟩:=nH ((G.el i r hi).1 e he);unfold knd at ej;rw[bS]at ej;cases hkj:ks[j]? with
    |none=>rw[hkj]at ej;cases ej
    |some r'=>
     rw[hkj]at ej;cases ej;obtain⟨a,_⟩:=ih j hj r' hkj;obtain⟨GH,b,_⟩:=hg r' (gE hkj);exact⟨a,by rw[b];rfl⟩
   have er:dZ (iI (pL ks)) r.bx=dZ g r.bx:=by
    unfold dZ;congr 1;exact kz λe he=>by rw[(eld e he).1]
   rw[dL (by rw[fb];intro e he;rw[(eld e he).1];exact(eld e he).2),er,qH h2]at eo;have eo:iI (pL ks) r.kind=some (r.kind::os):=eo;exact⟨by rw[eo,h1],os,eo,by rw[er];exact h2⟩
 intro r hr;obtain⟨i,hi,rfl⟩:=fc hr;exact(y8 i _ (ac hi)).2
end K26
end
section
namespace L2
open PySem PySem.Spec PyProof.Rows
variable {X:Cx}{K:PySem.W.Frag}{e:Expr}
theorem Bs{o:Expr}{es:List Expr}{to:TE}{t:TA}{name:Str}{sK ng:mo}{T id:String}{r:V->LV->Hp->VK->Prop}(hK:X.K=K)(pa:PlainAttrs T)(slot:Slot T name id)(hty:typeOf (.builtin id)=Hb (.type "method_descriptor"))(hm:MtR X id r)(ho:PE X o to)(ha:PA X (e::es) t)
  (IA:RC o name X.env (cq o X.env)=cq o X.env:=by rfl)
  (RA:((JP ng (xF (e::es) X.env)).all (λx=>!x.1) && (xa ng (WN [] X.env)).all (λx=>x.1.isSome) && decide ((e::es).length+([]:List xc).length+(if([]:List xc).isEmpty then 0 else 1)<30))=true:=by rfl)
  (IB:(sK.endLine== ng.line)=true:=by rfl) (hs:xF (e::es) X.env=(false,cq e X.env)::xF es X.env:=by rfl) (D7:(JP ng (xF es X.env)).any (·.1)=false:=by rfl):PE X (.Call (.Attribute o name sK) (e::es) [] ng) (tBM K T r to t):=by
 subst hK;exact gb pa slot hty hm ho ha IA RA IB hs D7
end L2
namespace K26
open PySem PyProof.Rows L2
variable {H H':Hp}{v:V}{ks:List KR}{ds:List DR}{run:T}{ah rr:LL}{dt:List LL}
def rF(H:Hp)(v:V)(ks:List KR)(ds:List DR)(run:T):Prop:=∃q kv dv rv,v=.ref q/\H q=some (.tup [kv,dv,rv])/\Dp H (.tup (ks.map yB)) kv/\Dp H (.tup (ds.map FF)) dv/\Dp H run rv
theorem rF.mono(h:rF H v ks ds run)(s:fH H H'):rF H' v ks ds run:=by
 obtain⟨q,kv,dv,rv,e,hq,d1,d2,d3⟩:=h;exact⟨q,kv,dv,rv,e,s q _ hq,d1.mono s,d2.mono s,d3.mono s⟩
def Gd(d:DR):Str×Str:=(d.kind,d.name)
structure GoodW (ww:LS) (ks:List KR) (ds:List DR) (run:T) (dt:List LL) (rr:LL):Prop where
 kl:ks.length<=7
 ko:∀r∈ks,Nn r
 dl:ds.length<=8
 bl:dt.length=ds.length
 dk:∀i (h1:i<ds.length) (h2:i<dt.length),VZ (knd ks,ww) ds[i] dt[i]
 rc:∃c,c<=16/\SB 3 (knd ks,ww) run rr c
 kg:sH ks
 k1:1<=ks.length
 un:(ds.map Gd).Nodup
 wl:ww.length<=5
def Jb(ks:List KR)(ds:List DR)(run:T)(dt:List LL)(rr:LL):Prop:=∃ww,GoodW ww ks ds run dt rr
variable {kk:KW}
noncomputable def kY(ks:List KR)(ds:List DR)(dt:List LL)(rr:LL):LL:=ks.map kW++‹10›.flatten++Ij rr
noncomputable def uX(ah:LL):Str:=We "\n" (ah.map jn)
theorem Cy:∀{ds:List DR} {dt:List LL},dt.length=ds.length->(∀i (h1:i<ds.length) (h2:i<dt.length),VZ kk ds[i] dt[i])->(‹10›.flatten).length<=ds.length*50/\∀r∈‹10›.flatten,pN r
 |[],dt,_,_=>⟨ck _,λr h=>by cases h⟩
 |d::ds,[],h,_=>by cases h
 |d::ds,b::dt,h,k=>by
  obtain⟨l1,k1⟩:=Ay (k 0 (Nat.zero_lt_succ _) (Nat.zero_lt_succ _));have l1:(fO d b).length<=50:=l1;obtain⟨l2,k2⟩:=Cy (ds:=ds) (dt:=dt) (by simpa using h) λi h1 h2=>k (i+1) (by simpa using h1) (by simpa using h2);rw[pS,eK];refine⟨by rw[ai,aI,my];omega,λr hr=>?_⟩;rcases bu.mp hr with h|h
  ·exact k1 r h
  ·exact k2 r h
theorem T5(h:∃c,c<=16/\SB 3 kk run rr c):(Ij rr).length<=50/\∀r∈Ij rr,pN r:=by
 obtain⟨c,hc,hb⟩:=h;obtain⟨l,k⟩:=pW 3 _ _ _ _ hb;refine⟨by unfold Ij;rw[aI,ai,cy];omega,λr hr=>?_⟩;rcases aT.mp hr with rfl|hr
 ·exact⟨bc _ _,by show 4<=19000;decide⟩
 rcases bu.mp hr with hr|hr
 ·exact k r hr
 ·rw[bg.mp hr];exact iJ
theorem Dl(G:Jb ks ds run dt rr):(kY ks ds dt rr).length<=457/\∀r∈kY ks ds dt rr,pN r:=by
 obtain⟨ww,G⟩:=G;obtain⟨l1,k1⟩:=Cy G.bl G.dk;obtain⟨l2,k2⟩:=T5 G.rc;have:=G.kl;have h8:=fR 50 G.dl;unfold kY;refine⟨by rw[ai,ai,aa];omega,λr hr=>?_⟩;rcases bu.mp hr with hr|hr
 ·rcases bu.mp hr with hr | hr
  ·obtain⟨x,hx,rfl⟩:=bE.mp hr;exact Fg (G.ko x hx)
  ·exact k1 r hr
 ·exact k2 r hr
theorem Cp{B:Nat}:∀{xs:LS},(∀x∈xs,x.length<=B)->(xs.map (·.length)).sum<=xs.length*B
 |[],_=>ck _
 |x::xs,h=>by
  rw[ci,sk,aI,my];have:=Cp λy hy=>h y (cf _ hy);have:=h x aS;omega
theorem Ag(hl:ah.length<=457)(h:∀r∈ah,pN r):((ah.map jn).map (·.length)).sum+(ah.map jn).length*("\n":Str).length<=16777216:=by
 have h1:=Cp (B:=19000) (xs:=ah.map jn) λx hx=>by
  obtain⟨r,hr,rfl⟩:=bE.mp hx;exact dq (Di r) (h r hr).2
 have e:("\n":Str).length=1:=rfl;rw[aa]at h1;rw[aa,e];have:=fR 19000 hl;omega
theorem yM{r:LS}(h:pN r):(r.map (·.length)).sum+r.length*(" ":Str).length<=16777216:=by
 have e:(" ":Str).length=1:=rfl;rw[e];have:=Bw r;have:=h.2;omega
section
variable {P:vy}{w:xm}{K:PySem.W.Frag}{mg:MG}{base:Heap}{t:tT}
inductive M9 (vs:LV) (H:Hp) (Q:VK) (E_:XK):Prop
 |mk (v:V) (ks:List KR) (ds:List DR) (run:T) (dt:List LL) (rr:LL):vs=[v]->rF H v ks ds run->Jb ks ds run dt rr->(∀H',Same H H'->Q (.str (uX (kY ks ds dt rr))) H')->M9 vs H Q E_
theorem RG(D:Defs K mg t)(GL:BN P w K mg t):aW P w K mg base bm 32 t.gZ.1 t.gZ.2 ["program"] M9:=by
 have Gbq:=@Q9 P w K mg base t D;have Gbk:=@Rv P w K mg base t D GL;have hz:ab=16777216:=cn;refine D.gZ.fn.ok dI ‹4› ‹3›
 ·obtain⟨v,ks,ds,run,dt,rr,rfl,_⟩:=h;rfl
 ·obtain ⟨v,ks,ds,run,dt,rr,rfl,⟨p0,kv,dv,rv,rfl,Y1,dk,dd,dr⟩,G,k⟩:=h;obtain ⟨ww,G⟩:=G;have k7:=G.kl;have d8:=G.dl;have b8:=G.bl;obtain ⟨a,xs,rfl,ha,dl⟩:=L2.Dp.cR dk;obtain ⟨da,SK,rfl,Y2,Y3⟩:=L2.Dp.cR dd;have G1:xs.length=ks.length:=by have:=dl.length; rwa [aa] at this
  have hdl:SK.length=ds.length:=by have:=Y3.length;rwa[aa]at this
  obtain⟨zl,zk⟩:=Cy G.bl G.dk
  refine⟨_,(au (qw (pv 0) (jX rfl (cu (aO (i:=1) dI.nd rfl (uv rfl)) (cu (aO (i:=2) dI.nd rfl (uv rfl)) (cu (aO (i:=3) dI.nd rfl (uv rfl)) jJ)))))
   (au (rD (i:=4) rfl dI.nd rfl (uv rfl) (X7 ["row"] [] ["row"] (aJ (top 42)) ["program","kinds","deeds","run","rows","kind","deed","params","block"] rfl rfl ‹1›) ⟨fun _ _ _ _ _=>(aO (i:=0) (show List.Nodup [("row":Str)]by decide +kernel) rfl ‹16› ‹13›),fun _ _ _ _ _=>cJ,fun _ _ _ _ _=>(aH D.mJ Gbq ‹2› (by rfl) ‹15›)⟩ (dg (pv 1)))
   (au (fG di rfl (dg (pv 2)) (jX rfl (cu (aO (i:=5) dI.nd rfl (uv rfl)) (cu (aO (i:=6) dI.nd rfl (uv rfl)) (cu (aO (i:=7) dI.nd rfl (uv rfl)) (cu (aO (i:=8) dI.nd rfl (uv rfl)) jJ)))))
   (aF (bH (gb cz ij ik mU (pv 4) (aj (aH D.lE Gbk ‹2› (by rfl) (aj (bh cX (bw (aj aP (aj (pv 5) (aj (pv 6) aq)))) (aY gB (by rfl) D.lO ji (aj (pv 7) aq))) (aj (pv 8) aq))) aq)))))
   (au (bH (gb cz ij ik mU (pv 4) (aj (aH D.lE Gbk ‹2› (by rfl) (aj (bw (aj aP aq)) (aj (pv 3) aq))) aq)))
   (aF (aM (gb eW fT gh oN aP (aj (cI rfl (X7 ["row"] [] ["row"] (aJ (top 42)) ["program","kinds","deeds","run","rows","kind","deed","params","block"] rfl rfl ‹1›) ⟨fun _ _ _ _ _=>(aO (i:=0) (show List.Nodup [("row":Str)]by decide +kernel) rfl ‹16› ‹13›),fun _ _ _ _ _=>cJ,fun _ _ _ _ _=>(Bs (K:=K) rfl eW fT gh (Ae (K:=K) rfl) aP ‹15›)⟩ (iB (pv 4))) aq)))))))),?_⟩
  simp only[jm,Cx.nox];refine⟨_,rfl,p0,_,rfl,XR Y1,rfl,_,_,rfl,_,_,rfl,_,_,rfl,rfl,?_⟩;refine⟨_,rfl,a,rfl,⟨_,XR ha⟩,λl hl=>?_⟩;refine bN (n:=xs.length) (λi ys H2=>nT H2 l ys ((ks.take i).map kW)/\H2 l=some (.lst ys)/\Same H H2) ⟨.nil,ak,X6 hl⟩ ?_ ?_;rotate_left
  ·rintro i ys H2 hi ⟨rx,cx,s2⟩;have He:i < ks.length:=by omega
   obtain⟨x,ex,dx⟩:=dl.get (i:=i) (t:=yB ks[i]) (by rw[bS,ac He];rfl);refine⟨⟨_,_,XR (s2 a _ ha),ex⟩,?_⟩;rintro v H3 ⟨rfl,yy⟩ gi ho;obtain⟨oo,rfl⟩:=eP ho;have ev:=yy _ (XR (s2 a _ ha));rw[ex]at ev;cases ev;refine⟨‹9›,dh ⟨_,rfl,x,ks[i],rfl,dx.mono (XX s2),G.ko _ (bX He),λl2 H4 Fk ua s4=>?_⟩⟩;have ze:=s4 l _ cx;have yl:=cE rx;rw[aa,bj]at yl;have n2:l2≠l:=λz=>by rw[z,cx]at Fk;cases Fk
   refine⟨by omega,ze,bG hi ⟨?_,ak,λb o e=>by rw[aB (aD e hl)];exact s4 b o (s2 b o e)⟩⟩;rw[take_snoc He,av];exact jN (rx.grow s4) (.cons ⟨l2,rfl,n2,by rw[aB n2];exact ua⟩ .nil)
  rintro ys H2 ⟨rx,cx,s2⟩;rw[ay ‹21›]at rx;refine⟨⟨_,XR (s2 a _ ha),af _⟩,?_⟩
  refine⟨_,rfl,da,rfl,⟨_,XR (s2 da _ Y2)⟩,nq (K:=N0) (a:=da) (xs:=SK) (λi σ H3=>∃(ys:LV) (v5 v6 v7 v8:OV),σ=[some (.ref p0),some (.ref a),some (.ref da),some rv,some (.ref l),v5,v6,v7,v8]/\nT H3 l ys (ks.map kW++(‹10›.take i).flatten)/\H3 l=some (.lst ys)/\Same H H3)
   ⟨ys,_,_,_,_,rfl,by rw[List.take_zero,nh,dm];exact rx,cx,s2⟩ (λi σ H3 _ ⟨_,_,_,_,_,_,_,_,s⟩=>XR (s da _ Y2)) ?_ ?_⟩
  ·rintro i x σ H3 hi ⟨ys,v5,v6,v7,v8,rfl,rx,ma,s3⟩;have hix:i < SK.length:=(bo.mp hi).1;have Nd:i < ds.length:=by omega
   have Wp:i<dt.length:=by omega
   obtain⟨x',ex,dx⟩:=Y3.get (i:=i) (t:=FF ds[i]) (by rw[bS,ac Nd];rfl);rw[ex]at hi;cases hi;obtain⟨q,pp,bv,rfl,hq,hpp,SO⟩:=K26.Dp.Oc (dx.mono (XX s3));obtain⟨_,_,p7,_,c,hc,sb⟩:=G.dk i Nd Wp;have hzw:i< ‹10›.length:=by rw[kX];omega
   have ezw:‹10›[i]=fO ds[i] dt[i]:=qq;refine⟨q,_,rfl,XR hq,rfl,_,_,rfl,_,_,rfl,_,_,rfl,_,_,rfl,rfl,?_⟩;refine⟨_,rfl,.inl ⟨rfl,_,XQ ma⟩,_,rfl,_,rfl,by show 3<=ab;decide,fun l1 fq=>?_⟩;exists 1,s4,hW,H3,l1,(.lst [.str "deed",.str ds[i].kind,.str ds[i].name]),fq,H4;refine⟨_,rfl,pp,_,rfl,.inr (XR (s4 pp _ hpp)),fun l2 ua=>?_⟩;exists 1,s5,IY,H4,l2,(.lst (ds[i].params.map V.str)),ua,H5;refine⟨l1,l2,_,_,rfl,rfl,s5 l1 _ hW,IY,by rw[aa];show 3+_<=ab;omega,fun f hf=>?_⟩;have s6:Same H5 (upd H5 f (.lst ([.str "deed",.str ds[i].kind,.str ds[i].name]++ds[i].params.map V.str))):=X6 hf;have SR:(upd H5 f (.lst ([.str "deed",.str ds[i].kind,.str ds[i].name]++ds[i].params.map V.str))) f=some (.lst ((iR ds[i]).map V.str)):=ak;have hlf:=(s4.trans s5) l _ ma;have fl:f≠l:=fun z=>by rw[z,hlf]at hf;cases hf
   generalize upd H5 f (.lst ([.str "deed",.str ds[i].kind,.str ds[i].name]++ds[i].params.map V.str))=H6 at s6 SR;have MD:=(s4.trans s5).trans s6;have FG:=MD l _ ma;refine⟨_,rfl,f,bv,iR ds[i],ds[i].block,dt[i],c,rfl,SR,SO.mono (XX MD),⟨_,sb⟩,hc,fun l7 us H7 hn7 FH rf s7=>?_⟩;have CO:=s7 l _ FG;have yl:=cE rx;have ul:=cE rf
   have ptl:(‹10›.take i).flatten.length<=‹10›.flatten.length:=by
    conv=>rhs;rw[<- fz i ‹10›]
    rw[fE,ai];omega
   have rl:=(pW 3 _ _ _ _ sb).1;have h8:=fR 50 d8;rw[ai,aa]at yl;rw[ai,cy]at ul;refine⟨l,l7,_,_,rfl,rfl,CO,FH,by rw[aI];omega,?_⟩;refine⟨ys++(.ref f::us),_,_,_,_,rfl,?_,ak,λb o e=>by rw[aB (aD e hl)];exact s7 b o (MD b o (s3 b o e))⟩;rw[take_snoc hzw,ezw,fE,<- dE];refine jN (rx.grow (MD.trans s7)) ?_
   have e9:([fO ds[i] dt[i]]:List LL).flatten=iR ds[i]::(dt[i]++[[("end":Str)]]):=by
    show fO ds[i] dt[i]++[]=_;rw[dm];rfl
   rw[e9];refine .cons ⟨f,rfl,fl,by rw[aB fl];exact s7 f _ SR⟩ (XM rf λv r ⟨b,e,n,q⟩=>?_);have nb:b≠l:=λz=>by rw[z,FG]at n;cases n
   exact⟨b,e,nb,by rw[aB nb];exact q⟩
  ·rintro σ H3 ⟨ys,v5,v6,v7,v8,rfl,rx,ma,s3⟩;rw [ay (by rw [kX]; omega)] at rx;obtain ⟨c,hc,sb⟩:=G.rc;refine⟨_,rfl,.inl ⟨rfl,_,XQ ma⟩,by show 1<=ab; decide,fun f hf=>?_⟩;have s6:Same H3 (upd H3 f (.lst [.str "run"])):=X6 hf;have SR:(upd H3 f (.lst [.str "run"])) f=some (.lst (([("run" : Str)]).map V.str)):=ak;have fl:f≠l:=fun z=>by rw [z,ma] at hf; cases hf
   generalize upd H3 f (.lst [.str "run"])=H6 at s6 SR;have FG:=s6 l _ ma;refine⟨_,rfl,f,rv,["run"],run,rr,c,rfl,SR,dr.mono (XX (s3.trans s6)),⟨_,sb⟩,hc,fun l7 us H7 hn7 FH rf s7=>?_⟩;have CO:=s7 l _ FG;have yl:=cE rx;have ul:=cE rf;have rl:=(pW 3 _ _ _ _ sb).1;have h8:=fR 50 d8;rw[ai,aa]at yl;rw[ai,cy]at ul;refine⟨l,l7,_,_,rfl,rfl,CO,FH,by rw[aI];omega,?_⟩
   have rx9:nT (upd H7 l (.lst (ys++(.ref f::us)))) l (ys++(.ref f::us)) (kY ks ds dt rr):=by
    refine jN (rx.grow (s6.trans s7)) (.cons ⟨f,rfl,fl,by rw[aB fl];exact s7 f _ SR⟩ (XM rf λv r ⟨b,e,n,q⟩=>?_));have nb:b≠l:=λz=>by rw[z,FG]at n;cases n
    exact⟨b,e,nb,by rw[aB nb];exact q⟩
   have E3:(upd H7 l (.lst (ys++(.ref f::us)))) l=some (.lst (ys++(.ref f::us))):=ak;have s9:Same H (upd H7 l (.lst (ys++(.ref f::us)))):=λb o e=>by rw[aB (aD e hl)];exact s7 b o (s6 b o (s3 b o e))
   generalize ys++(.ref f::us)=zs at rx9 E3 s9;generalize upd H7 l (.lst zs)=H9 at rx9 E3 s9;obtain⟨pl,pk⟩:=Dl ⟨ww,G⟩;have zl9:=cE rx9;refine⟨rfl,_,rfl,l,rfl,⟨_,XQ E3⟩,λD2 nv=>?_⟩;have AM:∀o,Same H9 (upd H9 D2 o):=λo=>X6 nv;refine bN (n:=zs.length) (λi ts AU=>ts=(((kY ks ds dt rr).take i).map jn).map V.str/\AU=upd H9 D2 (.lst ts)) ⟨rfl,rfl⟩ ?_ ?_
   ·rintro ts AU ⟨rfl,rfl⟩;rw[ay ‹21›];refine⟨⟨_,XQ (AM _ l _ E3),af _⟩,"\n",D2,_,rfl,rfl,.inl (XQ ak),Ag pl pk,k _ (s9.trans (AM _))⟩
   ·rintro i ts AU hi ⟨rfl,rfl⟩;obtain⟨b,hrb,eb,_,hb⟩:=(rx9.mono (AM (.lst ((((kY ks ds dt rr).take i).map jn).map V.str)))).get hi;refine⟨⟨_,_,XQ (AM _ l _ E3),eb⟩,?_⟩;rintro v UZ ⟨rfl,yy⟩ gi ho;obtain⟨oo,rfl⟩:=eP ho;have ev:=yy _ (XQ (AM _ l _ E3));rw[eb]at ev;cases ev;refine⟨‹9›,dh ⟨rfl,_,rfl," ",b,_,rfl,rfl,.inl (XQ hb),yM (pk _ (bX hrb)),by rw[aa,aa,bj];omega,ak,bG hi ⟨?_,by rw[gM]⟩⟩⟩;rw[take_snoc hrb,av,av];rfl
end
end K26
end
section
namespace L2
open PySem PySem.Spec PyProof.Rows
variable {prog:vy}{w:xm}{A:ye}{R:Xh->ut->Prop}{s:ut}{eD kx tg vx:Expr}{gens:List Comprehension}{scope:Scope}{bi:mo}{c d:Nat}{ifs:List Expr}{cv:ue}{env:wT}{ag:LO}{σ:St}{H H2:Hp}{D it:ax}{fp:LA}{tn:Nat->Heap->Prop}{J:It}{E:ES}{X:Cx}{ws:LS}
abbrev TU:=St->Hp->(St->Hp->Prop)->Prop
def PU(X:Cx)(m:AG Unit)(t:TU):Prop:=
 ∀(ag:LO) (s:ut) (σ:St) (H:Hp) (Q:St->Hp->Prop),Inv X ag σ H s->t σ H Q->wpAny ‹7› X.A m (λ_ s'=>∃cp H',Inv X ag cp H' s'/\Q cp H') X.xe s
noncomputable def Au(e:Expr)(d:Nat)(tg eD:Expr)(ifs:List Expr)(m:AG Unit)(it cv:ue)(env:wT):AG Fin:=do
 WF eD.pos
 match <- M3 it with
 |none=>Hb (.done .next)
 |some v=>
  JS tg it v
  oT tg env v
  let mut ok:=true
  for c in ifs do
   if ok then ok <- isTrue c env (cq c env)
  if ok then m
  again (.compLoop e d it cv env)
theorem Fl{nc:Expr}{m:AG Unit}{it:ue}(he:tj (.DictComp kx vx gens scope bi) d it cv env=Au (.DictComp kx vx gens scope bi) d nc eD ifs m it cv env)(I:Nat->ut->Prop)
  (xk:∀ n s,I n s->wpAny ‹17› A (M3 it) (fun r bq=>match r with
   |none=>R (.ok .next) bq
   |some v=>wpAny ‹17› A (JS nc it v) (λ_ CD=>wpAny ‹17› A (oT nc env v) (λ_ na=>
     wpAny ‹17› A (forIn ifs true λc r=>if r=true then do let ok <- isTrue c env (cq c env);Hb (Eg ok)else Hb (Eg r)) (λok eh=>
      if ok=true then wpAny ‹17› A m (λ_ IE=>∃m,m<n/\I m IE) (λ_ _=>False) eh
      else∃m,m<n/\I m eh) (λ_ _=>False) na) (λ_ _=>False) CD) (λ_ _=>False) bq) (λ_ _=>False) s)
  (n:Nat) (h:I n s):
  BV ‹17› A (.compLoop (.DictComp kx vx gens scope bi) d it cv env) R s:=by
 refine codeAny_loop rfl I (λn s hI=>?_) n h;show wpAny _ A ((tj (.DictComp kx vx gens scope bi) d it cv env).onRaise (λx=>do noteFrame x env;theTreesLotGoes x)) _ _ s;refine wpAny_noted ?_;rw[he];unfold Au;refine ae (kS (ae (fF (xk n s hI) (λr bq ix=>?_) λ_ _ h'=>h'.elim)));cases r with
 |none=>exact aE ix
 |some v=>
  refine ae (fF ix (λ_ CD IF=>?_) λ_ _ h'=>h'.elim);refine ae (fF IF (λ_ na D8=>ae (fF D8 (λok eh D9=>?_) λ_ _ h'=>h'.elim)) λ_ _ h'=>h'.elim);cases ok with
  |false=>exact aE ⟨rfl,D9⟩
  |true=>exact ae (fF D9 (λ_ IE RO=>aE ⟨rfl,RO⟩) λ_ _ h'=>h'.elim)
def tbU(tc:TT)(te:TU):TS:=λD σ H=>tc σ H λb H3=>if b=true then te σ H3 D.nx else D.nx σ H3
section
variable {X:Cx}{tg eD:Expr}{ifs:List Expr}{g:TG}{tc:TT}{te:TU}{wi:TI}
theorem Ri{m:AG Unit}(hc:X.calm=true)(hx:X.xe=λ_ _=>False)(hg:PG X tg g)(ht:RI X ifs tc)(hm:PU X m te)(he:∀it,tj (.DictComp kx vx gens scope bi) d it cv X.env=Au (.DictComp kx vx gens scope bi) d tg eD ifs m it cv X.env)
      (I2:Inv X ag σ H s)     (T:wf X.prog X.w X.K tg J fp it tn) (CA:tn 0 s.heap) (f2:∀b∈fp,qu X ag H b) {D:mT} 
  (hw:∃W:Nat->Nat->St->Hp->Prop,(∃m,W 0 m σ H)/\∀i m σ H,W i m σ H->(J.stop i H/\D.nx σ H)\/(J.go i H/\∃N:St->Hp->Prop,(∀cp H',N cp H'->∃m',m'<m/\W (i+1) m' cp H')/\∀x H',J.yld i H x H'->g x σ H' λmd H2=>tbU tc te {D with nx:=N,ct:=N,bk:=D.nx} md H2))
  (hR:∀cp H' s',Inv X ag cp H' s'->D.nx cp H'->R (.ok .next) s'):
  BV ‹7› X.A (.compLoop (.DictComp kx vx gens scope bi) d (.ref it) cv X.env) R s:=by
 obtain⟨W,⟨m0,w0⟩,xk⟩:=hw;have xo:∀{H':Hp},(∀b∈fp,H' b=none)->∀b∈fp,qu X ag H' b:=λhn b hb=>⟨hn b hb,(f2 b hb).2⟩;have nx:∀{α:Type} {t:AG α} {Q:α->ut->Prop} {s:ut},wpAny ‹7› X.A t Q X.xe s->wpAny ‹7› X.A t Q (λ_ _=>False) s:=λh=>by rw[hx]at h;exact h
 refine Fl (he _) (λn s'=>∃i cp H',Inv X ag cp H' s'/\tn i s'.heap/\(∀b∈fp,H' b=none)/\W i n cp H') ?_ m0 ⟨0,σ,H,I2,CA,λb hb=>(f2 b hb).1,w0⟩;rintro n s3 ⟨i,DH,H3,I3,Q1,XW,w3⟩;rcases xk i n DH H3 w3 with⟨stop,qn⟩|⟨go,N,hN,step⟩
 ·refine cb (T.done X rfl rfl rfl hc i ag s3 DH H3 _ I3 (xo XW) Q1 stop) λr s4 ⟨hr,I4⟩=>?_;subst hr;exact hR _ _ _ I4 qn
 ·refine cb (T.item X rfl rfl rfl hc i ag s3 DH H3 _ I3 (xo XW) Q1 go) fun r s4 ⟨u,hr,h4⟩=>?_;subst hr;refine cb h4 fun _ s5 ⟨x,H5,I5,r5,y5,L7,UR⟩=>?_;have I5':=I5.pinned (xo UR) (T.obj _ _ L7)
  have again:∀{CB:St} {H7:Hp} {s7:ut},Inv X (ag++w6 fp s5.heap) CB H7 s7->N CB H7->∃m,m<n/\∃i cp H',Inv X ag cp H' s7/\tn i s7.heap/\(∀b∈fp,H' b=none)/\W i m cp H':=λ{CB H7 s7} I7 n7=>by
   obtain⟨m',hm,w7⟩:=hN CB H7 n7;refine⟨m',hm,i+1,CB,H7,I7.uc,T.keep _ _ _ L7 λb hb o e=>(I7.pin (b,o) (dQ _ (dQ _ (mz hb e)))).1,λb hb=>?_,w7⟩;obtain⟨o,e,d⟩:=T.obj _ _ L7 b hb;exact(I7.pin (b,o) (dQ _ (dQ _ (mz hb e)))).2.1
  refine nx (cb (hg _ s5 DH H5 x u _ I5' r5 (step x H5 y5)) λ_ s6 ⟨XY,H6,I6,q6⟩=>?_);refine nx (cb (ht _ s6 XY H6 _ I6 q6) λb s7 ⟨H7,I7,q7⟩=>?_);cases b with
  |false=>
   rw[dC az]at q7⊢;exact again I7 q7
  |true=>
   rw[dL rfl]at q7⊢;exact nx (cb (hm _ s7 XY H7 _ I7 q7) λ_ s8 ⟨UY,H8,I8,q8⟩=>again I8 q8)
end
section
variable {prog:vy}{w:xm}{A:ye}{R:Xh->ut->Prop}{s:ut}
theorem CZ{it:ue}(GN:(clausesOf (.DictComp kx vx gens scope bi))[d]?=some ⟨tg,eD,ifs,0⟩)
  (h0:BV ‹17› A (.compLoop (.DictComp kx vx gens scope bi) d it cv env) R s)
  (h:wpAny ‹17› A (pyIter it) (λit' s'=>BV ‹17› A (.compLoop (.DictComp kx vx gens scope bi) d it' cv env) R s') (λ_ _=>False) s):
  BV ‹17› A (.compStart (.DictComp kx vx gens scope bi) d it cv env) R s:=by
 refine rq ?_;show wpAny _ A ((compStart (.DictComp kx vx gens scope bi) d it cv env).onRaise (λx=>do noteFrame x env;WF theWindowsPlace)) _ _ s;refine wpAny_notedAt ?_;unfold compStart;rw[GN];show wpAny _ A (ask >>= _) _ _ s;refine ae (wpAny_askSetting (wpAny_ite ?_));split
 ·first
   |exact ae (aE (aE (And.intro rfl h0)))
   |exact aE (And.intro rfl h0)
 ·first
   |exact ae (jS (ae (kS (ae (fF h (λit' s' h'=>aE (And.intro rfl h')) λ_ _ x=>x.elim)))))
   |(refine ae (jS ?_);show wpAny _ _ (WF eD.pos >>= _) _ _ s;exact ae (kS (ae (fF h (λit' s' h'=>aE (And.intro rfl h')) λ_ _ x=>x.elim))))
end
section
variable {X:Cx}{tg eD:Expr}{ifs:List Expr}{g:TG}{tc:TT}{te:TU}{wi:TI}
noncomputable def PK(kx vx:Expr)(D:ax)(env:wT):AG Unit:=do
 let kv <- cq kx env
 let vv <- Q4 [kv] (cq vx env)
 WF {kx.pos with endLine:=vx.pos.endLine,endCol:=vx.pos.endCol}
 Q4 [kv,vv] (dictSet D kv vv)
def Sw(tk tv:TE)(D:ax):TU:=λσ H Q=>tk σ H λy H1=>tv σ H1 λv H2=>∃(kvs:sg) (k:ga),H2 D=some (.dK kvs)/\y=kV k/\kvs.length<ab/\Q σ (upd H2 D (.dK (db kvs k v)))
theorem Rk{tk tv:TE}(hk:PE X kx tk)(hv:PE X vx tv):PU X (PK kx vx D X.env) (Sw tk tv D):=by
 intro ag s σ H Q I h;unfold PK;refine ae (cb (hk ag s σ H _ I h) λu s1 ⟨y,H1,I1,ry,q1⟩=>ae (ie (cb (hv ag s1 σ H1 _ I1 q1) λr s2 ⟨v,H2,I2,rv,kvs,k,e,ey,l,q⟩=>ae (kS (ie ?_)))));subst ey;obtain⟨z,hd,vs,so,dd⟩:=O2 I2.hok e;have hz:vs.length<=ab:=by rw[<- so.length];exact z
 have hl:(db kvs k v).length<=ab:=by have:=jr kvs k v;omega
 refine vc (hsz:=hz) (tD ry) dd λh' L9 hs=>⟨σ,_,?_,q⟩;have he:∃q,h'.get? D=some q:=let⟨q,_,_,hq,_⟩:=L9;⟨q,hq⟩;exact yg I2 (by rw[e];exact True.intro) hs he (GX hl hd (so.put k rv) L9)
end
def DcB(g:TG)(tb:TS)(σ:St)(Q:VK)(J:It)(D:ax)(H0:Hp):Prop:=∃W:Nat->Nat->St->Hp->Prop,(∃m,W 0 m σ H0)/\∀i m σ H,W i m σ H->
 (J.stop i H/\Q (.ref D) H)\/(J.go i H/\∃N:St->Hp->Prop,(∀cp H',N cp H'->∃m',m'<m/\W (i+1) m' cp H')/\∀x H',J.yld i H x H'->g x σ H' λmd H2=>tb ⟨N,λ_ _=>False,λ_ H=>Q (.ref D) H,N⟩ md H2)
def Lz(own:Nat)(fr:List Nat)(wi:TI)(g:TG)(tc:TT)(te:ax->TU):TE:=λσ H Q=>wi σ H λJ H1=>∀D,H1 D=none->DcB g (tbU tc (te D)) (List.replicate own none++DJ σ fr) Q J D (upd H1 D (.dK []))
section
variable {X:Cx}{scope:Scope}{own N:LS}{fr:List Nat}{tg eD kx vx:Expr}{gens:List Comprehension}{ifs:List Expr}{g:TG}{tc:TT}{te:ax->TU}{m:ax->wT->AG Unit}{wi:TI}{bi:mo}
theorem J4(hc:X.calm=true)(S:aQ X scope own fr N)(hg:∀(cl:List (Str×ax)) (C:ax) (eh:ut) (hV:Hp) (fp:LA),PG (gF X scope cl N C eh hV fp) tg g)(ht:∀(cl:List (Str×ax)) (C:ax) (eh:ut) (hV:Hp) (fp:LA),RI (gF X scope cl N C eh hV fp) ifs tc)
  (hm:∀(cl:List (Str×ax)) (C:ax) (eh:ut) (hV:Hp) (fp:LA) (D:ax),PU (gF X scope cl N C eh hV fp) (m D (R1 scope cl C X.env)) (te D)) (he:∀(D:ax) (it:ue) (env:wT),tj (.DictComp kx vx gens scope bi) 0 it (.ref D) env=Au (.DictComp kx vx gens scope bi) 0 tg eD ifs (m D env) it (.ref D) env)
  (GN:(clausesOf (.DictComp kx vx gens scope bi))[0]?=some ⟨tg,eD,ifs,0⟩)    {s2:ut} (I2:Inv X ag σ H2 s2)    
  (T:wf X.prog X.w X.K tg J fp it tn) (CA:tn 0 s2.heap) (f2:∀b∈fp,qu X ag H2 b) {Q:VK}  {RR:ue->ax->Xh->ut->Prop}
  (hw:∀D,H2 D=none->DcB g (tbU tc (te D)) (List.replicate own.length none++DJ σ fr) Q J D (upd H2 D (.dK [])))
  (hR:∀D C s' H' m,Inv X ag σ H' s'->qu X ag H' C->s'.heap.Ns C m->Q (.ref D) H'->RR (.ref D) C (.ok .next) s'):
  wpAny ‹7› X.A newDict (λcv eh=>wpAny ‹7› X.A (VV scope X.env.globals (clo X.env.cells scope.names []) [] X.env.qual none .none (some X.env)) (λIG AT=>
   BV ‹7› X.A (.compStart (.DictComp kx vx gens scope bi) 0 (.ref it) cv {IG with scope:=QR scope X.env}) (RR cv IG.locals) AT) E eh) E s2:=by
 have hD:H2 s2.heap.objs.size=none:=I2.hok.fresh (af _)
 have I3:Inv X ag σ (upd H2 s2.heap.objs.size (.dK [])) {s2 with heap:=s2.heap.push {cls:=.type "dict",data:=.dict #[]} }:=
  I2.laid (a:=s2.heap.objs.size) (o:=.dK []) (t':=s2.toks) (λ_ _ q=>am _ q) (af _) (zH s2.heap I2.big)
 have IH:∀b∈fp,b<s2.heap.objs.size:=λb hb=>by
  obtain⟨o,e,_⟩:=T.obj _ _ CA b hb;exact cr e
 have f3:∀b∈fp,qu X ag (upd H2 s2.heap.objs.size (.dK [])) b:=λb hb=>⟨by rw[aB (d6 (IH b hb))];exact(f2 b hb).1,(f2 b hb).2⟩;have xk:=hw _ hD;refine gX (xK λix ox zI zS=>?_)
 suffices RS:∀s3:ut,s3={s2 with heap:=s2.heap.push {cls:=.type "dict",data:=.dict #[]} }->Inv X ag σ (upd H2 s2.heap.objs.size (.dK [])) s3->∀m:MG,ix.Ns s3.heap.objs.size m->
   (∀ b o,s3.heap.get? b=some o->ix.get? b=some o)->CellsOk ix (s3.heap.objs.size+1) (cm (s3.heap.objs.size+1) scope.names [])->BV ‹7› X.A (.compStart (.DictComp kx vx gens scope bi) 0 (.ref it) (.ref s2.heap.objs.size) (R1 scope (qU s3.heap.objs.size X.env.cells scope.names) s3.heap.objs.size X.env))
    (RR (.ref s2.heap.objs.size) s3.heap.objs.size) {s3 with heap:=ix,toks:=s3.toks}from
  RS _ rfl I3 _ ox zI zS
 clear ox zI zS;intro s3 hH3 I3 m3 ox BA Yh;have e3:s3.heap=s2.heap.push {cls:=.type "dict",data:=.dict #[]}:=by rw[hH3]
 have hs3:s2.heap.objs.size<s3.heap.objs.size:=by rw[e3,fk];exact mv _
 have Ee:∀b∈fp,b<s3.heap.objs.size:=λb hb=>mB (IH b hb) hs3;have I4:=DG S I3 f3 Ee (t:=s3.toks) ox BA Yh;have Yi:=CJ S I3 f3 Ee;have Yj:tn 0 ix:=T.keep 0 s2.heap ix CA λb hb o e=>BA b o (by rw[e3];exact am _ e)
 have xo:∀b∈fp,qu (gF X scope (qU s3.heap.objs.size X.env.cells scope.names) N s3.heap.objs.size s3 (upd H2 s2.heap.objs.size (.dK [])) fp) [] (upd H2 s2.heap.objs.size (.dK [])) b:=λb hb=>
  ⟨(f3 b hb).1,d6 (Ee b hb),Yi.Hl b hb,.inl hb,(Yi.exf b hb).2,λp hp=>by
   have hp:p∈([]:LO):=hp;simp at hp⟩
 have II:BV ‹7› X.A (.compLoop (.DictComp kx vx gens scope bi) 0 (.ref it) (.ref s2.heap.objs.size) (R1 scope (qU s3.heap.objs.size X.env.cells scope.names) s3.heap.objs.size X.env))
    (RR (.ref s2.heap.objs.size) s3.heap.objs.size) {s3 with heap:=ix,toks:=s3.toks}:=by
  refine Ri (X:=gF X scope (qU s3.heap.objs.size X.env.cells scope.names) N s3.heap.objs.size s3 (upd H2 s2.heap.objs.size (.dK [])) fp) (cv:=.ref s2.heap.objs.size) (D:=⟨λ_ H=>Q (.ref s2.heap.objs.size) H,λ_ _=>False,λ_ H=>Q (.ref s2.heap.objs.size) H,λ_ _=>False⟩) hc rfl (hg _ _ _ _ _) (ht _ _ _ _ _) (hm _ _ _ _ _ _) (λit=>he _ it _) I4 T Yj xo xk λXY H6 s6 I6 q6=>?_;obtain⟨m,hn6,_⟩:=I6.loc;exact hR _ _ s6 H6 m (I3.call' (ch:=fp) I6.os I6.base I6.hok I6.bare λb hb=>⟨(f3 b hb).2.2.2.1,(f3 b hb).2.1,(f3 b hb).2.2.2.2.1,(f3 b hb).2.2.2.2.2⟩) (I3.qI (af _) I6.free) hn6 q6
 exact CZ GN II (T.self _ 0 _ _ _ Yj II)
theorem Oe(hc:X.calm=true)(S:aQ X scope own fr N)(hg:∀(cl:List (Str×ax)) (C:ax) (eh:ut) (hV:Hp) (fp:LA),PG (gF X scope cl N C eh hV fp) tg g)(ht:∀(cl:List (Str×ax)) (C:ax) (eh:ut) (hV:Hp) (fp:LA),RI (gF X scope cl N C eh hV fp) ifs tc)
  (hm:∀(cl:List (Str×ax)) (C:ax) (eh:ut) (hV:Hp) (fp:LA) (D:ax),PU (gF X scope cl N C eh hV fp) (m D (R1 scope cl C X.env)) (te D)) (he:∀(D:ax) (it:ue) (env:wT),tj (.DictComp kx vx (⟨tg,eD,ifs,0⟩::gens) scope bi) 0 it (.ref D) env=Au (.DictComp kx vx (⟨tg,eD,ifs,0⟩::gens) scope bi) 0 tg eD ifs (m D env) it (.ref D) env)
  (hi:PI X tg eD wi) (hs:∀x,ft eD X.env x=Hb x:=by intro _;rfl):
  PE X (.DictComp kx vx (⟨tg,eD,ifs,0⟩::gens) scope bi) (Lz own.length fr wi g tc te):=by
 intro ag s σ H Q I h;show wpAny _ _ (comprehension (.DictComp kx vx (⟨tg,eD,ifs,0⟩::gens) scope bi) scope X.env _ newDict false (cq eD X.env)) _ _ _;refine nX (use:=none) (g:=⟨tg,eD,ifs,0⟩) (gs:=gens) rfl hs (vH (S.clo I.ok)) S.kind S.names (cb (hi ag s σ H _ I h) λv s1 h1=>cb h1 λXV s2 h2=>?_);obtain⟨it,fp,tn,J,H2,e,I2,T,CA,f2,hw⟩:=h2;subst e
 exact J4 (RR:=λcv C=>compPost ‹7› X.A X.xe none (EP X ag σ Q) cv C) hc S hg ht hm he rfl I2 T CA f2 hw λD C s' H' m I' fC hn q=>
  ⟨m,hn,λh' hb=>⟨.ref D,H',I'.turned (t':=s'.toks) (λb o wn e=>hb.extBut b o wn e) fC.1 fC.2.1 fC.2.2.2.1 fC.2.2.2.2.1 fC.2.2.2.2.2,rfl,q⟩⟩
end
section
variable {X:Cx}{scope:Scope}{own N:LS}{fr:List Nat}{tg1 it1 kx vx:Expr}{if1:List Expr}{g1:TG}{tc1:TT}{tk tv:TE}{wi1:TI}{bi:mo}
theorem KC(hc:X.calm=true)(S:aQ X scope own fr N)(hi1:PI X tg1 it1 wi1)(hg1:∀(cl:List (Str×ax)) (C:ax) (eh:ut) (hV:Hp) (fp:LA),PG (gF X scope cl N C eh hV fp) tg1 g1)(ht1:∀(cl:List (Str×ax)) (C:ax) (eh:ut) (hV:Hp) (fp:LA),RI (gF X scope cl N C eh hV fp) if1 tc1)
  (hk:∀(cl:List (Str×ax)) (C:ax) (eh:ut) (hV:Hp) (fp:LA),PE (gF X scope cl N C eh hV fp) kx tk) (hv:∀(cl:List (Str×ax)) (C:ax) (eh:ut) (hV:Hp) (fp:LA),PE (gF X scope cl N C eh hV fp) vx tv)
  (hs:∀x,ft it1 X.env x=Hb x:=by intro _;rfl):
  PE X (.DictComp kx vx [⟨tg1,it1,if1,0⟩] scope bi) (Lz own.length fr wi1 g1 tc1 λD=>Sw tk tv D):=
 Oe (m:=λD env=>PK kx vx D env) hc S hg1 ht1 (λcl C eh hV fp D=>Rk (hk cl C eh hV fp) (hv cl C eh hV fp)) (λD it env=>rfl) hi1 hs
end
inductive xM (xs:LV) (H:Hp) (Q:VK):Prop
 |mk (x:Str) (n:Int):xs=[.str x]->PySem.intText? x=some n->x.length<=640->Q (.int n) H->xM xs H Q
theorem Le:iy X (.type "int") xM:=by
 intro ag s σ H xs us Q I r h;obtain⟨x,n,rfl,hn,hl,q⟩:=h;obtain⟨u,rfl,ru⟩:=vals1 r;obtain⟨t,rfl⟩:=ru;exact PySem.W.KIN.call_text hn hl ⟨.int n,H,I.tok _,⟨_,rfl⟩,q⟩
inductive Ls (v:V) (vs:LV) (H:Hp) (Q:VK):Prop
 |mk (x y:Str):v=.str x->vs=[.str y]->(y.length== 0)=false->x.length<=16000000->(∀l,H l=none->Q (.ref l) (upd H l (.lst ((Up x y).map V.str))))->Ls v vs H Q
theorem Ju:∀{l:List (Str×Tok)},Vals ((l.map (·.1)).map V.str) (strValues l)
 |[]=>.nil
 |(x,t)::l=>.cons ⟨t,rfl⟩ Ju
theorem Fx:US X "str.split" Ls:=by
 intro ag s σ H v vs u us Q I rx rv h;obtain⟨x,y,rfl,rfl,hy,hx,q⟩:=h;obtain⟨t,rfl⟩:=rx;obtain⟨u,rfl,ru⟩:=rv.one;obtain⟨tu,rfl⟩:=ru;have hz:ab=16777216:=cn;have ol:=StrLaws.occ_length_le_len x y 0 x.length (x.length+1)
 have pl:(PP x (HQ x y 0 x.length (x.length+1)) y.length).length<=ab:=by
  rw[ve];omega
 have hJ:∀(l:List (Str×Tok)) (k:Tok),l.map (·.1)=Up x y->l.length<=ab->EP X ag σ Q (.ref s.heap.objs.size) {s with heap:=s.heap.push {cls:=.type "list",data:=.seq (strValues l).toArray},toks:=k}:=fun l k e hl=>
  ⟨.ref s.heap.objs.size,_,I.laid (t':=k) (λb o' e=>am _ e) (af _) (show fV X.prog X.w _ _ _ (.lst ((Up x y).map V.str))from⟨by rw[<- e,aa,aa];exact hl,strValues l,0,by rw[<- e];exact Ju,bn _ rfl⟩),rfl,q _ (I.hok.fresh (af _))⟩
 cases h1:(decide (x.length<y.length)|| decide (xf.Str.strKind x<xf.Str.strKind y))
 ·cases hf:(HQ x y 0 x.length (x.length+1)).isEmpty
  ·refine lz Xo (rV _ _ _) WP (Wl _ _) (meets_str_split_sep x y t tu h1 hy hf ‹21› pl) ?_;show EP X ag σ Q _ {s with toks:=_,heap:=s.heap.push {cls:=.type "list",data:=.seq (strsFrom s.toks (PP x (HQ x y 0 x.length (x.length+1)) y.length)).toArray} };rw[strsFrom_eq];exact hJ (numbered s.toks _) _ ((numbered_texts _ _).trans ((dC (rg h1)).trans (dC (rg hf))).symm) (by have:=congrArg List.length (numbered_texts s.toks (PP x (HQ x y 0 x.length (x.length+1)) y.length));rw[aa]at this;omega)
  ·refine lz Xo (rV _ _ _) WP (Wl _ _) (meets_str_split_not_found x y t tu h1 hy hf) ?_;exact hJ [(x,t)] s.toks ((dC (rg h1)).trans (dL hf)).symm (by show 1<=ab;omega)
 ·refine lz Xo (rV _ _ _) WP (Wl _ _) (meets_str_split_cannot_occur x y t tu h1) ?_;exact hJ [(x,t)] s.toks (dL h1).symm (by show 1<=ab;omega)
theorem K7:∀{ps ws:LS},ps≠[]->ws≠[]->(∀p∈ps,c∉p.cps.toList)->(∀p∈ws,c∉p.cps.toList)->Str.join ⟨#[c]⟩ ps=Str.join ⟨#[c]⟩ ws->ps=ws:=by
 have two:∀(x:Str) (r:LS),r≠[]->(Str.join ⟨#[c]⟩ (x::r)).cps.toList=x.cps.toList++c::(Str.join ⟨#[c]⟩ r).cps.toList:=by
  intro x r hr;cases r with
  |nil=>exact absurd rfl hr
  |cons y r=>
   show(x++⟨#[c]⟩++Str.join ⟨#[c]⟩ (y::r)).cps.toList=_;show((x.cps++#[c])++(Str.join ⟨#[c]⟩ (y::r)).cps).toList=_;simp
 have G0:∀x:Str,Str.join ⟨#[c]⟩ [x]=x:=λx=>rfl
 have cut:∀{a b d e:List Nat},c∉a->c∉b->a++c::d=b++c::e->a=b/\d=e:=by
  intro a
  induction a with
  |nil=>
   intro b d e _ hb h;cases b with
   |nil=>exact⟨rfl,by injection h⟩
   |cons z b=>
    injection h with h _;exact absurd (by rw[h];exact aS) hb
  |cons z a ih=>
   intro b d e ha hb h;cases b with
   |nil=>
    injection h with h _;exact absurd (by rw[h];exact aS) ha
   |cons z' b=>
    injection h with h h';obtain⟨e1,e2⟩:=ih (λm=>ha (cf _ m)) (λm=>hb (cf _ m)) h';exact⟨by rw[h,e1],e2⟩
 have ext:∀{x y:Str},x.cps.toList=y.cps.toList->x=y:=λ{x y} h=>by
  cases x with
  |mk a=>
   cases y with
   |mk b=>exact congrArg Str.mk (Array.ext' h)
 intro ps
 induction ps with
 |nil=>exact λh=>absurd rfl h
 |cons x r ih=>
  intro ws _ hw fp fw h;cases ws with
  |nil=>exact absurd rfl hw
  |cons y q=>
   cases r with
   |nil=>
    cases q with
    |nil=>
     rw[G0,G0]at h;rw[h]
    |cons z q=>
     have h:=congrArg (λs:Str=>s.cps.toList) h;simp only[G0,two y _ (bc z q)]at h;exact absurd (by rw[h];simp) (fp x aS)
   |cons z r=>
    cases q with
    |nil=>
     have h:=congrArg (λs:Str=>s.cps.toList) h;simp only[G0,two x _ (bc z r)]at h;exact absurd (by rw[<- h];simp) (fw y aS)
    |cons z' q=>
     have h:=congrArg (λs:Str=>s.cps.toList) h;simp only[two x _ (bc z r),two y _ (bc z' q)]at h;obtain⟨e1,e2⟩:=cut (fp x aS) (fw y aS) h;rw[ext e1,ih (bc _ _) (bc _ _) (λp hp=>fp p (cf _ hp)) (λp hp=>fw p (cf _ hp)) (ext e2)]
theorem yO(hw:ws≠[])(h:∀p∈ws,c∉p.cps.toList):Up (We ⟨#[c]⟩ ws) ⟨#[c]⟩=ws:=by
 have e:We ⟨#[c]⟩ ws=Str.join ⟨#[c]⟩ ws:=StrLaws.glued_eq_join _ ws;refine K7 (c:=c) (λz=>?_) hw (StrLaws.split_free _ c) h (by rw[StrLaws.join_split,e]);have j:=StrLaws.join_split (We ⟨#[c]⟩ ws) ⟨#[c]⟩;unfold Up at z;split at z
 ·cases z
 ·split at z
  ·cases z
  ·have:=congrArg List.length z;rw[ve]at this;cases this
end L2
end
section
namespace K26.F
open PySem PyProof.Rows L2
variable {H H':Hp}{vs:LV}{ah:LL}{K:PySem.W.Frag}{v:V}
theorem nC{κ:Type}[DecidableEq κ]:∀{kvs:List (κ×V)} {k:κ},(eU kvs k).isSome=true↔k∈kvs.map (·.1)
 |[],k=>by simp[eU]
 |p::kvs,k=>by
  by_cases e:p.1=k
  ·rw[gJ e];simp[e]
  ·rw[fZ e,nC];have:¬k=p.1:=λz=>e z.symm;simp[this]
noncomputable def jo(rs:LS):sg:=rs.map λy=>(.inr y,.bl true)
theorem oV(rs:LS)(x:Str):(eU (jo rs) (.inr x)).isSome=true↔x∈rs:=by
 rw[nC];unfold jo;rw[kQ,bE];constructor
 ·rintro⟨y,hy,e⟩;have e:(By y:ga)=By x:=e;injection e with e;exact e ▸ hy
 ·exact λh=>⟨x,h,rfl⟩
theorem tW{rs:LS}{x:Str}(h:¬x∈rs):db (jo rs) (.inr x) (.bl true)=jo (rs++[x]):=by
 have hn:eU (jo rs) (.inr x)=none:=by
  cases q:eU (jo rs) (.inr x)with
  |none=>rfl
  |some y=>exact absurd ((oV rs x).mp (by rw[q];rfl)) h
 rw[DP _ hn];unfold jo;rw[av];rfl
theorem FJ{rs:LS}{x:Str}(h:x∈rs):db (jo rs) (.inr x) (.bl true)=jo rs:=by
 unfold db;rw[dL (by rw[qX];exact(oV rs x).mpr h)];unfold jo;rw[kQ];apply kz;intro y _;show(if(By y:ga)=By x then(By y,V.bl true)else(By y,V.bl true))=_;split <;>rfl
theorem Ou(rs:LS)(x:Str):∃AX,db (jo rs) (.inr x) (.bl true)=jo AX/\(∀y,y∈AX↔y∈rs\/y=x)/\AX.length<=rs.length+1:=by
 by_cases h:x∈rs
 ·exact⟨rs,FJ h,λy=>⟨.inl,λz=>z.elim id λe=>e ▸ h⟩,sf _⟩
 ·refine⟨rs++[x],tW h,λy=>?_,by rw[ai];exact af _⟩;rw[bu,bg]
section
variable {P:vy}{w:xm}{K:PySem.W.Frag}{mg:MG}{base:Heap}{t:tT}
def Ft(H:Hp)(v:V)(r:LS):Prop:=∃a,v=.ref a/\(H a=some (.lst (r.map V.str))\/(H a=some (.tup (r.map V.str))/\r≠[]))
def u0(H:Hp)(vs:LV)(ah:LL):Prop:=Paired (Ft H) vs ah
theorem u0.mono(h:u0 H vs ah)(s:Same H H'):u0 H' vs ah:=XM h λv r ⟨a,e,q⟩=>⟨a,e,q.elim (λz=>.inl (s a _ z)) λz=>.inr ⟨s a _ z.1,z.2⟩⟩
theorem u0.get{H:Hp}{vs:LV}{ah:LL}(h:u0 H vs ah){i:Nat}{v:V}(e:vs[i]?=some v):∃(hr:i<ah.length),Ft H v ah[i]:=by
 have hi:=(bo.mp e).1;have hr:i<ah.length:=by rw[<- cE h];exact hi
 have q:=mQ h i hi hr;rw[ac hi]at e;cases e;exact⟨hr,q⟩
theorem Ft.cut{r:LS}(h:Ft H v r){Q:VK}(q:∀(p:ax) H',lQ H' (.ref p) ((r.drop 1).map V.str)->Same H H'->Q (.ref p) H'):Rw K v (some 1) none H Q\/Nq K v (some 1) none H Q:=by
 obtain⟨a,rfl,h⟩:=h;rcases h with h|⟨h,wn⟩
 ·refine .inr ⟨a,_,rfl,XQ h,λp hp=>q p _ ⟨p,rfl,.inl (by rw[ak,Rb])⟩ (X6 hp)⟩
 ·refine .inl ⟨a,_,rfl,XR h,fun z=>?_,fun p hp=>q p _ ⟨p,rfl,.inr (by rw [ak,Rb])⟩ (X6 hp)⟩;have e1:HT.sIx (r.map V.str).length 0 (some 1)=min 1 (r.map V.str).length:=HT.yp _ 0 1;rw [e1,aa] at z;cases r with
  |nil=>exact wn rfl
  |cons y r=>simp at z
theorem Ft.at0{y:Str}{r:LS}(h:Ft H v (y::r)){Q:VK}(q:Q (.str y) H):Kl K v (.int 0) H Q\/Qg K v (.int 0) H Q:=by
 obtain⟨a,rfl,h⟩:=h;rcases h with h|⟨h,_⟩
 ·exact .inr ⟨a,_,0,_,rfl,rfl,XQ h,L2.at0 y r,q⟩
 ·exact .inl ⟨a,_,0,_,rfl,rfl,XR h,L2.at0 y r,q⟩
theorem Ft.tru{r:LS}(h:Ft H v r):Tc K v H (!r.isEmpty):=by
 obtain⟨a,rfl,h⟩:=h;have e:(!(r.map V.str).isEmpty)=!r.isEmpty:=by cases r <;>rfl
 rcases h with h|⟨h,_⟩
 ·exact .inl ⟨_,XQ h,e.symm⟩
 ·exact .inr (.inl ⟨_,XR h,e.symm⟩)
theorem Qi(ah:LL)(k:Nat):lm (ah.take k)<=lm ah:=by
 have e:lm ah=lm (ah.take k)+lm (ah.drop k):=by
  unfold lm;rw[<- n9,<- av,fz]
 omega
def Ai(l:LS):V:=match l with
 |[]=>.non
 |x::_=>.str x
inductive JF (vs:LV) (H:Hp) (Q:VK) (E_:XK):Prop
 |mk (l:ax) (us:LV) (ah:LL):vs=[.ref l]->lQ H (.ref l) us->u0 H us ah->lm ah<=2000->ah.length<=1000->(∀H',Same H H'->Q (Ai (frees ah)) H')->JF vs H Q E_
theorem Ol(D:Defs K mg t):aW P w K mg base bm 1 t.kE.1 t.kE.2 ["left"] JF:=by
 have hz:ab=16777216:=cn;refine D.kE.fn.ok jV ‹4› ‹3›
 ·obtain⟨l,us,ah,rfl,_⟩:=h;rfl
 ·obtain ⟨l,us,ah,rfl,hl,I0,Yw,eC,k⟩:=h;have hul:us.length=ah.length:=cE I0
  refine⟨_,(au (aU (i:=1) jV.nd rfl (uv rfl) qQ)
   (au (fG di rfl (yK (K:=K) (pv 0) rfl) (aO (i:=2) jV.nd rfl (uv rfl))
   (aF (fG di rfl (yK (K:=K) (gn (Ru (K:=K) rfl) (pv 2) (iM aG) iH) rfl) (aO (i:=3) jV.nd rfl (uv rfl))
   (aF (rB (lF hr) (pv 1) (pv 3) jP rfl)))))
   (au (fG di rfl (yK (K:=K) (pv 0) rfl) (aO (i:=2) jV.nd rfl (uv rfl))
   (aF (bL (XN (Hw (yV (pv 2) (by intro _;rfl)) (Dt (CW (Bk (lF hr) (bf (Je (K:=K) rfl) (pv 2) aG ‹20›) (pv 1))))))
   (aF (aM (bf (Je (K:=K) rfl) (pv 2) aG ‹20›)))
   aX)))
   (aF (aM jz))))),?_⟩
  simp only[jm,Cx.nox];intro hd hhd;have s0:∀o,Same H (upd H hd o):=λo=>X6 hhd
  have kl:∀{H2:Hp},Same H H2->∀o,(upd H hd (.dK [])) l=some o->H2 l=some o:=λ{H2} s o e=>by
   obtain⟨p,ep,h⟩:=hl;cases ep
   have hlh:l≠hd:=by
    rcases h with h|h
    ·exact aD h hhd
    ·exact aD h hhd
   rw[aB hlh]at e;exact s l o e
  refine⟨_,rfl,l,rfl,BZ (K:=K) (hl.same (s0 _)) (λi σ H2=>∃(rs:LS) (v2 v3:OV),σ=[some (.ref l),some (.ref hd),v2,v3]/\H2 hd=some (.dK (jo rs))/\(∀y,y∈rs↔∃o∈ah.take i,y∈o.drop 1)/\rs.length<=lm (ah.take i)/\Same H H2)
   ⟨[],_,_,rfl,ak,by simp,ck _,s0 _⟩ (λi σ H2 _ ⟨_,_,_,_,_,_,_,s⟩=>kl s) ?_ ?_⟩
  ·rintro i x σ H2 hi ⟨rs,v2,v3,rfl,hh2,mem,rl,sm⟩;obtain ⟨sL,ha⟩:=(I0.mono sm).get hi
   have hri:(ah[i]).length+lm (ah.take i)=lm (ah.take (i+1)):=by
    rw[take_snoc sL];unfold lm;rw[av,n9];simp;omega
   have htl:lm (ah.take (i+1))<=lm ah:=by
    exact Qi ah (i+1)
   refine⟨_,rfl,_,rfl,ha.cut λp H3 hp s3=>⟨p,rfl,?_⟩⟩;have xE:Same H H3:=sm.trans s3
   refine BZ (K:=K) hp (λj σ H4=>∃(AX:LS) (v3:OV),σ=[some (.ref l),some (.ref hd),some x,v3]/\H4 hd=some (.dK (jo AX))/\(∀y,y∈AX↔y∈rs\/y∈((ah[i]).drop 1).take j)/\AX.length<=rs.length+j/\∀b u,b≠hd->H3 b=some u->H4 b=some u)
    ⟨rs,_,rfl,s3 hd _ hh2,by simp,af _,λb u _ e=>e⟩ ?_ ?_ ?_
   ·rintro j σ H4 _ ⟨AX,v3,rfl,hh4,_,_,kp⟩ o e;refine kp p o (λz=>?_) e;rw[z]at hp;obtain⟨q,eq,h⟩:=hp;cases eq;rw[s3 hd _ hh2]at h;rcases h with h|h <;>cases h
   ·rintro j y σ H4 hj ⟨AX,v3,rfl,hh4,SS,rl',kp⟩
    have E1:j<((ah[i]).drop 1).length:=by
     have:=(bo.mp hj).1
     rwa[aa]at this
    have ey:y=.str ((ah[i]).drop 1)[j]:=by
     rw[bS,ac E1]at hj;exact(cS hj).symm
    subst ey;obtain⟨oi,e2,m2,l2⟩:=Ou AX ((ah[i]).drop 1)[j];have hjl':=E1;rw[ja]at hjl';refine⟨_,rfl,_,rfl,hd,_,rfl,zQ.k (k:=.inr ((ah[i]).drop 1)[j]) hh4 (by unfold jo;rw[aa];omega),oi,_,rfl,by rw[ak,e2],λz=>?_,by omega,λb u hb e=>by rw[aB hb];exact kp b u hb e⟩;rw[m2,SS,take_snoc E1,bu,bg];constructor
    ·rintro ((h | h) | h)
     ·exact .inl h
     ·exact .inr (.inl h)
     ·exact .inr (.inr h)
    ·rintro (h | h | h)
     ·exact .inl (.inl h)
     ·exact .inl (.inr h)
     ·exact .inr h
   ·rintro σ H4 ⟨AX,v3,rfl,hh4,SS,rl',kp⟩;rw [aa,ja] at rl';refine⟨AX,_,_,rfl,hh4,fun y=>?_,by omega,fun b u e=>kp b u (aD e hhd) (xE b u e)⟩;have et:((ah[i]).drop 1).take (((ah[i]).drop 1).map V.str).length=(ah[i]).drop 1:=ay (by rw [aa]; exact af _);rw [SS,et,mem,take_snoc sL];constructor
    ·rintro (⟨o,h1,h2⟩ | h)
     ·exact⟨o,i7 _ h1,h2⟩
     ·exact⟨ah[i],dQ _ aS,h⟩
    ·rintro ⟨o,h1,h2⟩;rcases bu.mp h1 with h | h
     ·exact .inl ⟨o,h,h2⟩
     ·rw[bg.mp h]at h2;exact .inr h2
  ·rintro σ H2 ⟨rs,v2,v3,rfl,hh2,mem,rl,sm⟩;rw [ay ‹21›] at mem
   have held:∀y,(eU (jo rs) (.inr y)).isSome=eY ah y:=λy=>by
    apply gN.mpr;rw[oV,mem];unfold eY;rw[jv];exact⟨λ⟨o,h1,h2⟩=>⟨o,h1,aw h2⟩,λ⟨o,h1,h2⟩=>⟨o,h1,eI h2⟩⟩
   refine⟨_,rfl,l,rfl,BZ (K:=K) (hl.same sm) (λi σ H3=>∃(v2 v3:OV),σ=[some (.ref l),some (.ref hd),v2,v3]/\(ah.take i).flatMap (freeOf ah)=[]/\H3=H2)
    ⟨_,_,rfl,rfl,rfl⟩ (λi σ H3 _ ⟨_,_,_,_,e⟩ o h=>by rw[e];exact h) ?_ ?_⟩
   ·rintro i x σ H3 hi ⟨v2',v3',rfl,xL,rfl⟩;obtain ⟨sL,ha⟩:=(I0.mono sm).get hi
    have SU:frees ah=(ah.take i).flatMap (freeOf ah)++(freeOf ah ah[i]++(ah.drop (i+1)).flatMap (freeOf ah)):=by
     unfold frees
     have e:ah=ah.take i++(ah[i]::ah.drop (i+1)):=by
      rw[List.getElem_cons_drop,fz]
     conv=>lhs;rw[e]
     rw[nB,pM];rw[<- e]
    refine⟨_,rfl,_,ha.tru,?_⟩;cases hre:ah[i]with
    |nil=>
     refine iu (iu ⟨_,_,rfl,?_,rfl⟩);rw[take_snoc sL,nB,xL,hre];rfl
    |cons y r=>
     rw[hre]at ha SU;refine jq ⟨_,rfl,ha.at0 ⟨_,rfl,hd,_,rfl,uO.k (k:=.inr y) hh2,_,rfl,?_⟩⟩;rw[held y];have ef:freeOf ah (y::r)=if eY ah y=true then[]else[y]:=rfl;cases hh:eY ah y with
     |true=>
      refine iu ⟨_,_,rfl,?_,rfl⟩;rw[take_snoc sL,nB,xL,hre,List.flatMap_singleton,ef,hh,dL rfl];rfl
     |false=>
      refine jq ⟨_,rfl,ha.at0 ?_⟩;have:=k H3 sm;rw[SU,xL,ef,hh,dC az]at this;exact this
   ·rintro σ H3 ⟨v2',v3',rfl,xL,rfl⟩;rw[ay ‹21›]at xL;have xL:frees ah=[]:=xL;have:=k H3 sm;rw[xL]at this;exact this
end
end K26.F
end
section
namespace K26
open PySem PyProof.Rows L2 F
variable {H H':Hp}{o:HO}{C r:ax}{ah:LL}{kk:KW}{i:Nat}{ws:LS}
def jk:gz:=lh (top 50) 0
def qG:gz:=lh (top 50) 1
def oY:gz:=lh (top 50) 2
def qz:gz:=lh (top 50) 3
def j8:gz:=lh (top 50) 4
def kJ:gz:=lh (top 50) 5
def jy:gz:=lh (top 50) 6
def kj:gz:=lh (top 50) 7
def mR:gz:=lh (top 50) 8
structure pR where
 C:ax
 init:ax×uB
 need:ax×uB
 ahead:ax×uB
 take:ax×uB
 eE:ax×uB
 gP:ax×uB
 eF:ax×uB
 gQ:ax×uB
 iJ:ax×uB
structure xS (K:PySem.W.Frag) (mg:MG) (c:pR):Prop where
 cl:Cls K c.C
 mk0:Mk K c.C c.init.1
 gS:mg "Reader" =some (.ref c.C)
 nR:mK K c.C "rows"
 nI:mK K c.C "row"
 nP:mK K c.C "place"
 nK:mK K c.C "kinds"
 nN:mK K c.C "names"
 nS:mK K c.C "statements"
 vC:Fun K "__init__" "Reader.__init__" jk c.init.1 c.init.2
 G3:Binds K c.init.2 ["self","text"] []
 Hr:Fun K "need" "Reader.need" qG c.need.1 c.need.2
 jg:Binds K c.need.2 ["self","holds"] []
 jf:yn K c.C "need" c.need.1
 Cg:Fun K "ahead" "Reader.ahead" oY c.ahead.1 c.ahead.2
 uz:Binds K c.ahead.2 ["self"] []
 uw:yn K c.C "ahead" c.ahead.1
 G6:Fun K "take" "Reader.take" qz c.take.1 c.take.2
 sV:Binds K c.take.2 ["self"] []
 uh:yn K c.C "take" c.take.1
 tU:Fun K "take_word" "Reader.take_word" j8 c.eE.1 c.eE.2
 nF:Binds K c.eE.2 ["self","word"] []
 nA:yn K c.C "take_word" c.eE.1
 uo:Fun K "take_name" "Reader.take_name" kJ c.gP.1 c.gP.2
 sZ:Binds K c.gP.2 ["self"] []
 tL:yn K c.C "take_name" c.gP.1
 pY:Fun K "take_number" "Reader.take_number" jy c.eF.1 c.eF.2
 pZ:Binds K c.eF.2 ["self"] []
 ql:yn K c.C "take_number" c.eF.1
 tO:Fun K "take_rest" "Reader.take_rest" kj c.gQ.1 c.gQ.2
 uq:Binds K c.gQ.2 ["self"] []
 uf:yn K c.C "take_rest" c.gQ.1
 wQ:Fun K "end_row" "Reader.end_row" mR c.iJ.1 c.iJ.2
 qN:Binds K c.iJ.2 ["self"] []
 qP:yn K c.C "end_row" c.iJ.1
noncomputable def fL(r:ax)(i p:Int)(k n:ax)(s:Int):List (Str×V):=[("rows",.ref r),("row",.int i),("place",.int p),("kinds",.ref k),("names",.ref n),("statements",.int s)]
section
variable (r:ax)(i p:Int)(k n:ax)(s:Int)(z:Int)(y:ax)
theorem Rr:(fL r i p k n s).lookup ("rows":Str)=some (.ref r):=rfl
theorem Pj:(fL r i p k n s).lookup ("row":Str)=some (.int i):=rfl
theorem MK:(fL r i p k n s).lookup ("place":Str)=some (.int p):=rfl
theorem V7:(fL r i p k n s).lookup ("kinds":Str)=some (.ref k):=rfl
theorem VR:(fL r i p k n s).lookup ("names":Str)=some (.ref n):=rfl
theorem Wm:(fL r i p k n s).lookup ("statements":Str)=some (.int s):=rfl
theorem cF{m:Str}(h:¬m∈[("rows":Str),"row","place","kinds","names","statements"]):(fL r i p k n s).lookup m=none:=by
 simp only[aT,dS,iN,sr]at h;obtain⟨h1,h2,h3,h4,h5,h6⟩:=h;unfold fL;simp only[ii,List.lookup_nil,gp.mpr h1,gp.mpr h2,gp.mpr h3,gp.mpr h4,gp.mpr h5,gp.mpr h6]
theorem Rh:fQ "row" (.int z) (fL r i p k n s)=fL r z p k n s:=rfl
theorem Cu:fQ "place" (.int z) (fL r i p k n s)=fL r i z k n s:=rfl
theorem Rc:fQ "kinds" (.ref y) (fL r i p k n s)=fL r i p y n s:=rfl
theorem QT:fQ "names" (.ref y) (fL r i p k n s)=fL r i p k y s:=rfl
theorem Jd:fQ "statements" (.int z) (fL r i p k n s)=fL r i p k n z:=rfl
end
structure LT (H H':Hp):Prop where
 l:∀b xs,H b=some (.lst xs)->H' b=some (.lst xs)
 t:∀b xs,H b=some (.tup xs)->H' b=some (.tup xs)
 z:∀b o u,H b=some (.frz o u)->H' b=some (.frz o u)
theorem LT.trans{H'':Hp}(h:LT H H')(g:LT H' H''):LT H H'':=⟨λb xs e=>g.1 b xs (h.1 b xs e),λb xs e=>g.2 b xs (h.2 b xs e),λb o u e=>g.3 b o u (h.3 b o u e)⟩
theorem LT.same(s:Same H H'):LT H H':=⟨λb _ e=>s b _ e,λb _ e=>s b _ e,λb _ _ e=>s b _ e⟩
theorem LT.ins{H:Hp}{a C dx:ax}{fs gs:List (Str×V)}(h:H a=some (.ins C dx fs)):LT H (upd H a (.ins C dx gs)):=⟨λb xs e=>by rw[aB (bV e h ‹6›)];exact e,λb xs e=>by rw[aB (bV e h ‹6›)];exact e,λb o u e=>by rw[aB (bV e h ‹6›)];exact e⟩
theorem LT.own{H0:Hp}{l:ax}(h:LT H0 H)(n:H0 l=none):LT H0 (upd H l o):=⟨λb xs e=>by rw[aB (aD e n)];exact h.1 b xs e,λb xs e=>by rw[aB (aD e n)];exact h.2 b xs e,λb o u e=>by rw[aB (aD e n)];exact h.3 b o u e⟩
theorem LT.tups(h:LT H H'):fH H H':=λc zs e=>h.2 c zs e
structure RT (H:Hp) (r:ax) (ah:LL):Prop where
 at':∃vs,H r=some (.lst vs)/\Paired (λ(v:V) (ws:LS)=>∃a,v=.ref a/\H a=some (.lst (ws.map V.str))) vs ah
 len:ah.length<=1000/\∀ws∈ah,ws.length<=20000
theorem RT.lt(h:RT H r ah)(l:LT H H'):RT H' r ah:=by
 obtain⟨⟨vs,h1,h2⟩,h3⟩:=h;exact⟨⟨vs,l.1 r vs h1,XM h2 λv ws ⟨a,e,q⟩=>⟨a,e,l.1 a _ q⟩⟩,h3⟩
noncomputable def left(ah:LL)(i p:Nat):LL:=match ah.drop i with
 |[]=>[]
 |ws::ba=>ws.drop p::ba
def Kn(kk:KW)(kvs:sg):Prop:=kk.1.length<=7/\kk.2.length<=20/\∃rs:LS,kvs=jo rs/\rs.Nodup/\∀x∈rs,x∈kk.2
def Rs(C:ax)(H:Hp)(ra r:ax)(ah EB:LL)(kk:KW)(s:Nat):Prop:=∃(dx ka nd:ax) (kvs:sg) (i p:Nat),H ra=some (.ins C dx (fL r i p ka nd s))/\H ka=some (.tup (kk.1.map V.str))/\H nd=some (.dK kvs)/\Kn kk kvs/\i<=ah.length/\p<=(ah.getD i []).length/\EB=left ah i p
theorem Rs.same{ra:ax}{EB:LL}{s:Nat}(h:Rs C H ra r ah EB kk s)(e:Same H H'):Rs C H' ra r ah EB kk s:=by
 obtain⟨dx,ka,nd,kvs,i,p,h1,h2,h3,h4⟩:=h;exact⟨dx,ka,nd,kvs,i,p,e _ _ h1,e _ _ h2,e _ _ h3,h4⟩
theorem Rs.lst{C:ax}{H:Hp}{ra r l:ax}{xs ys:LV}{ah EB:LL}{kk:KW}{s:Nat}(h:Rs C H ra r ah EB kk s)(hl:H l=some (.lst xs)):Rs C (upd H l (.lst ys)) ra r ah EB kk s:=by
 obtain⟨dx,ka,nd,kvs,i,p,h1,h2,h3,h4⟩:=h;exact⟨dx,ka,nd,kvs,i,p,by rw[aB (bV h1 hl ‹6›)];exact h1,by rw[aB (bV h2 hl ‹6›)];exact h2,by rw[aB (bV h3 hl ‹6›)];exact h3,h4⟩
theorem uE{p:Nat}{ba:LL}(h:ws::ba=left ah i p):∃(hi:i<ah.length),ws=ah[i].drop p/\ba=ah.drop (i+1):=by
 unfold left at h
 by_cases hi:i<ah.length
 ·rw[cK hi]at h;injection h with h1 h2;exact⟨hi,h1,h2⟩
 ·rw[fh ‹21›]at h;cases h
theorem Cz{p:Nat}(hi:i<ah.length):left ah i p=ah[i].drop p::ah.drop (i+1):=by
 unfold left;rw[cK hi]
theorem getD_at(hi:i<ah.length):ah.getD i []=ah[i]:=by
 rw[List.getD_eq_getElem?_getD,ac hi];rfl
theorem Al(ah:LL)(i:Nat):left ah i 0=ah.drop i:=by
 unfold left;cases ah.drop i <;>rfl
def Ai(ws:LS):V:=match ws with
 |[]=>.non
 |w::_=>.str w
theorem vm:aZ ["self","text"] ["self","text"] (aJ jk):=‹0›
theorem yH:aZ ["self","holds"] ["self","holds"] (aJ qG):=‹0›
theorem sJ:aZ ["self","words"] ["self"] (aJ oY):=‹0›
theorem sX:aZ ["self","word"] ["self"] (aJ qz):=‹0›
theorem uR:aZ ["self","word"] ["self","word"] (aJ j8):=‹0›
theorem nW:aZ ["self","name"] ["self"] (aJ kJ):=‹0›
theorem lW:aZ ["self","word"] ["self"] (aJ jy):=‹0›
theorem nO:aZ ["self","words"] ["self"] (aJ kj):=‹0›
theorem vR:aZ ["self"] ["self"] (aJ mR):=‹0›
theorem pat{F:V->LS->Prop}:∀{vs:LV} {ah:LL},Paired F vs ah->∀{i:Nat} (h:i<ah.length),∃v,vs[i]?=some v/\F v ah[i]
 |_,_,.nil,i,h=>absurd h (oq _)
 |_,_,.cons a r,0,_=>⟨_,rfl,a⟩
 |_,_,.cons a r,i+1,h=>by
  obtain⟨v,e,q⟩:=pat r (i:=i) (Nat.lt_of_succ_lt_succ h);exact⟨v,e,q⟩
theorem RT.row(h:RT H r ah)(hi:i<ah.length):∃(vs:LV) (a:ax),H r=some (.lst vs)/\vs.length=ah.length/\vs[i]?=some (.ref a)/\H a=some (.lst (ah[i].map V.str)):=by
 obtain⟨⟨vs,h1,h2⟩,_⟩:=h;obtain⟨v,e1,a,e,q⟩:=pat h2 hi;exact⟨vs,a,h1,cE h2,by rw[e1,e],q⟩
inductive gK (vs:LV) (H:Hp) (Q:VK) (E_:XK):Prop
 |mk (ra:ax):vs=[.ref ra,.bl true]->Q .non H->gK vs H Q E_
inductive nG (C:ax) (vs:LV) (H:Hp) (Q:VK) (E_:XK):Prop
 |mk (ra r:ax) (ah ba:LL) (ws:LS) (kk:KW) (s:Nat):vs=[.ref ra]->RT H r ah->Rs C H ra r ah (ws::ba) kk s->Q (Ai ws) H->nG C vs H Q E_
inductive nZ (C:ax) (vs:LV) (H:Hp) (Q:VK) (E_:XK):Prop
 |mk (ra r:ax) (ah ba:LL) (w:Str) (ws:LS) (kk:KW) (s:Nat):vs=[.ref ra]->RT H r ah->Rs C H ra r ah ((w::ws)::ba) kk s->(∀H',Rs C H' ra r ah (ws::ba) kk s->LT H H'->Q (.str w) H')->nZ C vs H Q E_
inductive rO (C:ax) (vs:LV) (H:Hp) (Q:VK) (E_:XK):Prop
 |mk (ra r:ax) (ah ba:LL) (w:Str) (ws:LS) (kk:KW) (s:Nat):vs=[.ref ra,.str w]->RT H r ah->Rs C H ra r ah ((w::ws)::ba) kk s->(∀H',Rs C H' ra r ah (ws::ba) kk s->LT H H'->Q .non H')->rO C vs H Q E_
inductive vP (C:ax) (vs:LV) (H:Hp) (Q:VK) (E_:XK):Prop
 |mk (ra r:ax) (ah ba:LL) (ws:LS) (kk:KW) (s:Nat):vs=[.ref ra]->RT H r ah->Rs C H ra r ah (ws::ba) kk s->(∀q H',H' q=some (.tup (ws.map V.str))->Rs C H' ra r ah ([]::ba) kk s->LT H H'->Q (.ref q) H')->vP C vs H Q E_
inductive zm (C:ax) (vs:LV) (H:Hp) (Q:VK) (E_:XK):Prop
 |mk (ra r:ax) (ah ba:LL) (kk:KW) (s:Nat):vs=[.ref ra]->RT H r ah->Rs C H ra r ah ([]::ba) kk s->(∀H',Rs C H' ra r ah ba kk s->LT H H'->Q .non H')->zm C vs H Q E_
section
variable {P:vy}{w:xm}{K:PySem.W.Frag}{mg:MG}{base:Heap}{t:tT}{c:pR}
theorem bU(S:xS K mg c):aW P w K mg base bm 1 c.need.1 c.need.2 ["self","holds"] gK:=by
 refine S.Hr.ok yH ‹4› ‹3›
 ·obtain⟨ra,rfl,_⟩:=h;rfl
 ·obtain ⟨ra,rfl,k⟩:=h
  refine⟨_,(aF (bL (gH (yV (pv 1) (by intro _;rfl)))
   (aF DQ)
   aX)),?_⟩
  exact⟨_,rfl,true,rfl,k⟩
theorem gR(D:Defs K mg t)(S:xS K mg c):aW P w K mg base bm 2 c.ahead.1 c.ahead.2 ["self"] (nG c.C):=by
 have ub:aW P w K mg base bm 1 c.need.1 c.need.2 _ gK:=bU S;refine S.Cg.ok sJ ‹4› ‹3›
 ·obtain⟨ra,r,ah,ba,ws,kk,s,rfl,_⟩:=h;rfl
 ·obtain ⟨ra,r,ah,ba,ws,kk,s,rfl,rt,⟨dx,ka,nd,kvs,i,p,gt,CS,HI,hm,hi,hp,e⟩,k⟩:=h;obtain ⟨hi,ew,em⟩:=uE e;obtain ⟨vs,a,fA,hl,hv,ha⟩:=rt.row hi;have hl19:=rt.len
  refine⟨_,(au (bH (dW (pv 0) S.cl S.jf ub ‹2› S.jg .nil cN (aj (cL vd (jT (pv 0) rfl) (aN bJ (by rfl) D.cW cg (aj (jT (pv 0) rfl) aq)) (aR _)) aq)))
   (au (aU (i:=1) sJ.nd rfl (uv rfl) (bf bF (jT (pv 0) rfl) (jT (pv 0) rfl) ‹20›))
   (aF (aM (Pb (aV vd (jT (pv 0) rfl) (aN bJ (by rfl) D.cW cg ‹14›) (aR _)) (bf bF (pv 1) (jT (pv 0) rfl) ‹20›) jz))))),?_⟩
  simp only[jm,Cx.nox];refine⟨_,rfl,ra,dx,_,rfl,gt,cF _ _ _ _ _ _ ‹1›,⟨_,rfl,ra,c.C,dx,_,_,rfl,gt,S.cl,S.nI,Pj _ _ _ _ _ _,_,rfl,ra,c.C,dx,_,_,rfl,gt,S.cl,S.nR,Rr _ _ _ _ _ _,r,vs,rfl,.inl (XQ fA),_,_,rfl,rfl,ra,?_,?_⟩⟩
  ·show[V.ref ra,V.bl (decide ((i:Int)<(vs.length:Int)))]=_;rw[aw ‹21›]
  refine⟨_,rfl,ra,c.C,dx,_,_,rfl,gt,S.cl,S.nR,Rr _ _ _ _ _ _,_,rfl,ra,c.C,dx,_,_,rfl,gt,S.cl,S.nI,Pj _ _ _ _ _ _,r,_,_,_,rfl,rfl,XQ fA,aK hv,?_⟩;refine⟨_,rfl,ra,c.C,dx,_,_,rfl,gt,S.cl,S.nP,MK _ _ _ _ _ _,_,rfl,a,_,rfl,.inl (XQ ha),_,_,rfl,rfl,_,rfl,?_⟩;rw[aa]
  by_cases hp':p<ah[i].length
  ·refine bR (aw ‹21›) ?_;refine⟨_,rfl,_,rfl,ra,c.C,dx,_,_,rfl,gt,S.cl,S.nP,MK _ _ _ _ _ _,a,_,_,_,rfl,rfl,XQ ha,aK (j:=p) (by rw[bS,ac hp'];rfl),?_⟩;rw[ew,cK hp']at k;exact k
  ·refine aL (by rw[cw ‹21›];exact az) ?_;rw[ew,fh ‹21›]at k;exact k
theorem gq(D:Defs K mg t)(S:xS K mg c):aW P w K mg base bm 3 c.take.1 c.take.2 ["self"] (nZ c.C):=by
 have ub:aW P w K mg base bm 1 c.need.1 c.need.2 _ gK:=bU S;have Jn:aW P w K mg base bm 2 c.ahead.1 c.ahead.2 _ (nG c.C):=gR D S;refine S.G6.ok sX ‹4› ‹3›
 ·obtain⟨ra,r,ah,ba,w,ws,kk,s,rfl,_⟩:=h;rfl
 ·obtain ⟨ra,r,ah,ba,w,ws,kk,s,rfl,rt,rs,k⟩:=h;obtain ⟨dx,ka,nd,kvs,i,p,gt,CS,HI,hm,GO,hp,e⟩:=id rs;obtain ⟨hi,ew,em⟩:=uE e
  have Bn:p<ah[i].length:=by
   have:=congrArg List.length ew;rw[ja,aI]at this;omega
  have Y4:=rt.len.2 _ (bX hi)
  refine⟨_,(au (aU (i:=1) sX.nd rfl (uv rfl) (cG (pv 0) S.cl S.uw Jn ‹2› S.uz .nil cN))
   (au (bH (dW (pv 0) S.cl S.jf ub ‹2› S.jg .nil cN (aj (cL Iu (pv 1) jz (aR _)) aq)))
   (au (uI (pv 0) aG BP)
   (aF (aM (pv 1)))))),?_⟩
  simp only[jm,Cx.nox];refine⟨_,rfl,ra,dx,_,rfl,gt,cF _ _ _ _ _ _ ‹1›,ra,r,ah,ba,w::ws,kk,s,rfl,rt,rs,?_⟩;refine⟨_,rfl,ra,dx,_,rfl,gt,cF _ _ _ _ _ _ ‹1›,⟨_,rfl,rfl,ra,rfl,?_⟩⟩;refine⟨_,rfl,ra,c.C,dx,_,_,rfl,gt,S.cl,S.nP,MK _ _ _ _ _ _,_,_,rfl,rfl,dx,_,gt,(by show 6<1000;decide),_,rfl,?_⟩;rw[Cu];refine k _ ⟨dx,ka,nd,kvs,i,p+1,?_,?_,?_,hm,GO,by rw[getD_at hi];exact Bn,?_⟩ (LT.ins gt)
  ·rw[ak];rfl
  ·rw[aB (bV CS gt ‹6›)];exact CS
  ·rw[aB (bV HI gt ‹6›)];exact HI
  ·rw[Cz hi,em];have:=congrArg List.tail ew;rw[List.tail_drop]at this;rw[<- this];rfl
theorem fM(D:Defs K mg t)(S:xS K mg c):aW P w K mg base bm 4 c.eE.1 c.eE.2 ["self","word"] (rO c.C):=by
 have ub:aW P w K mg base bm 1 c.need.1 c.need.2 _ gK:=bU S;have Ga:aW P w K mg base bm 3 c.take.1 c.take.2 _ (nZ c.C):=gq D S;refine S.tU.ok uR ‹4› ‹3›
 ·obtain⟨ra,r,ah,ba,w,ws,kk,s,rfl,_⟩:=h;rfl
 ·obtain⟨ra,r,ah,ba,w,ws,kk,s,rfl,rt,rs,k⟩:=h;obtain⟨dx,ka,nd,kvs,i,p,gt,CS,HI,hm,GO,hp,e⟩:=id rs;refine⟨_,(aF (bH (dW (pv 0) S.cl S.jf ub ‹2› S.jg .nil cN (aj (cL cO (cG (pv 0) S.cl S.uh Ga ‹2› S.sV .nil cN) (pv 1) (aR _)) aq)))),?_⟩;refine⟨_,rfl,ra,dx,_,rfl,gt,cF _ _ _ _ _ _ ‹1›,⟨_,rfl,ra,dx,_,rfl,gt,cF _ _ _ _ _ _ ‹1›,ra,r,ah,ba,w,ws,kk,s,rfl,rt,rs,λH' AX lt=>⟨_,rfl,rfl,ra,?_,k H' AX lt⟩⟩⟩;rw[aw rfl];rfl
theorem jQ(D:Defs K mg t)(S:xS K mg c):aW P w K mg base bm 1 c.gQ.1 c.gQ.2 ["self"] (vP c.C):=by
 have hz:ab=16777216:=cn;refine S.tO.ok nO ‹4› ‹3›
 ·obtain⟨ra,r,ah,ba,ws,kk,s,rfl,_⟩:=h;rfl
 ·obtain ⟨ra,r,ah,ba,ws,kk,s,rfl,rt,rs,k⟩:=h;obtain ⟨dx,ka,nd,kvs,i,p,gt,CS,HI,hm,GO,hp,e⟩:=id rs;obtain ⟨hi,ew,em⟩:=uE e;obtain ⟨vs,a,fA,hl,hv,ha⟩:=rt.row hi;have Y4:=rt.len.2 _ (bX hi)
  refine⟨_,(au (aU (i:=1) nO.nd rfl (uv rfl) (gn vN (bf bF (jT (pv 0) rfl) (jT (pv 0) rfl) ‹20›) (iM (jT (pv 0) rfl)) iH))
   (au (uI (pv 0) (aN bJ (by rfl) D.cW cg ‹14›) BP)
   (aF (aM (aY dM (by rfl) D.dB cP ‹14›))))),?_⟩
  simp only[jm,Cx.nox];rw[getD_at hi]at hp;refine⟨_,rfl,ra,c.C,dx,_,_,rfl,gt,S.cl,S.nR,Rr _ _ _ _ _ _,_,rfl,ra,c.C,dx,_,_,rfl,gt,S.cl,S.nI,Pj _ _ _ _ _ _,r,_,_,_,rfl,rfl,XQ fA,aK hv,_,rfl,ra,c.C,dx,_,_,rfl,gt,S.cl,S.nP,MK _ _ _ _ _ _,_,rfl,a,_,rfl,XQ ha,λq hq=>?_⟩
  have ec:mO (ah[i].map V.str) (some (p:Int)) none=ws.map V.str:=by
   rw[wU _ _ (by rw[aa];exact hp),<- List.map_drop,<- ew]
  rw[ec];exists 1,s1,sw,H,q,(.lst (ws.map V.str)),hq,H1;have gc:=s1 _ _ gt;refine⟨_,rfl,ra,c.C,dx,_,_,rfl,gc,S.cl,S.nP,MK _ _ _ _ _ _,_,rfl,q,_,rfl,.inl (XQ sw),_,_,rfl,rfl,dx,_,gc,(by show 6<1000;decide),?_⟩;rw[Cu];have lt:=(LT.same s1).trans (LT.ins (gs:=fL r i ((p:Int)+((ws.map V.str).length:Nat)) ka nd s) gc);have qra:q≠ra:=bV sw gc ‹6›;refine⟨_,rfl,q,_,rfl,.inl ⟨XQ (by rw[aB qra];exact sw),λl hl'=>?_⟩⟩;have s2:=X6 (o:=.tup (ws.map V.str)) hl';refine k l _ ak ⟨dx,ka,nd,kvs,i,p+ws.length,s2 _ _ ?_,s2 _ _ ?_,s2 _ _ ?_,hm,GO,?_,?_⟩ (lt.trans (LT.same s2))
  ·rw[ak,aa];rfl
  ·rw[aB (bV (s1 _ _ CS) gc ‹6›)];exact s1 _ _ CS
  ·rw[aB (bV (s1 _ _ HI) gc ‹6›)];exact s1 _ _ HI
  ·rw[getD_at hi];have:=congrArg List.length ew;rw[ja]at this;omega
  ·rw[Cz hi,em];have:=congrArg List.length ew;rw[ja]at this;rw[show ah[i].drop (p+ws.length)=[]from fh ‹21›]
theorem lJ(D:Defs K mg t)(S:xS K mg c):aW P w K mg base bm 3 c.iJ.1 c.iJ.2 ["self"] (zm c.C):=by
 have ub:aW P w K mg base bm 1 c.need.1 c.need.2 _ gK:=bU S;have Jn:aW P w K mg base bm 2 c.ahead.1 c.ahead.2 _ (nG c.C):=gR D S;refine S.wQ.ok vR ‹4› ‹3›
 ·obtain⟨ra,r,ah,ba,kk,s,rfl,_⟩:=h;rfl
 ·obtain ⟨ra,r,ah,ba,kk,s,rfl,rt,rs,k⟩:=h;obtain ⟨dx,ka,nd,kvs,i,p,gt,CS,HI,hm,GO,hp,e⟩:=id rs;obtain ⟨hi,ew,em⟩:=uE e;have rl:=rt.len.1
  refine⟨_,(au (bH (dW (pv 0) S.cl S.jf ub ‹2› S.jg .nil cN (aj (cL tZ (cG (pv 0) S.cl S.uw Jn ‹2› S.uz .nil cN) jz (aR _)) aq)))
   (au (uI (pv 0) aG BP)
   (aF (qD (pv 0) aG rfl)))),?_⟩
  simp only[jm,Cx.nox];refine⟨_,rfl,ra,dx,_,rfl,gt,cF _ _ _ _ _ _ ‹1›,⟨_,rfl,ra,dx,_,rfl,gt,cF _ _ _ _ _ _ ‹1›,ra,r,ah,ba,[],kk,s,rfl,rt,rs,rfl,ra,rfl,?_⟩⟩;refine⟨_,rfl,ra,c.C,dx,_,_,rfl,gt,S.cl,S.nI,Pj _ _ _ _ _ _,_,_,rfl,rfl,dx,_,gt,(by show 6<1000;decide),?_⟩;rw[Rh];have h1:=LT.ins (H:=H) (gs:=fL r ((i:Int)+1) p ka nd s) gt;have e1:(upd H ra (.ins c.C dx (fL r ((i:Int)+1) p ka nd s))) ra=some (.ins c.C dx (fL r ((i:Int)+1) p ka nd s)):=ak;have hk1:(upd H ra (.ins c.C dx (fL r ((i:Int)+1) p ka nd s))) ka=some (.tup (kk.1.map V.str)):=by rw[aB (bV CS gt ‹6›)];exact CS
  have NO:(upd H ra (.ins c.C dx (fL r ((i:Int)+1) p ka nd s))) nd=some (.dK kvs):=by rw[aB (bV HI gt ‹6›)];exact HI
  generalize upd H ra (.ins c.C dx (fL r ((i:Int)+1) p ka nd s))=H1 at h1 e1 hk1 NO;refine⟨_,rfl,ra,c.C,dx,_,rfl,e1,S.cl,S.nP,(by show 6<1000;decide),?_⟩;rw[Cu];refine k _ ⟨dx,ka,nd,kvs,i+1,0,ak,?_,?_,hm,hi,ck _,by rw[Al];exact em⟩ (h1.trans (LT.ins e1))
  ·rw[aB (bV hk1 e1 ‹6›)];exact hk1
  ·rw[aB (bV NO e1 ‹6›)];exact NO
end
end K26
end
section
namespace K26.F
open PySem PyProof.Rows L2
variable {H H':Hp}{q:ax}{kvs:sg}{ah:LL}{xs:LV}{os:LS}
theorem Kg(ah:LL)(x:Str):eY (bP ah) x=eY ah x:=by
 unfold eY bP;apply gN.mpr;rw[jv,jv];constructor
 ·rintro⟨o,h1,h2⟩;exact⟨o,(dP.mp h1).1,h2⟩
 ·rintro ⟨o,h1,h2⟩;refine⟨o,dP.mpr ⟨h1,?_⟩,h2⟩;cases o with
  |nil=>have:=eI h2;cases this
  |cons _ _=>rfl
theorem zx(ah:LL):frees (bP ah)=frees ah:=by
 have y8:∀(R S:LL),(∀x,eY S x=eY R x)->∀rs:LL,(bP rs).flatMap (freeOf S)=rs.flatMap (freeOf R):=by
  intro R S h rs
  induction rs with
  |nil=>rfl
  |cons r rs ih=>
   unfold bP at ih⊢;rw[fm,pM];cases r with
   |nil=>
    simp only[List.isEmpty_nil,Bool.not_true,lI,rS];rw[ih];rfl
   |cons y r=>
    simp only[pE,rX,kM];rw[pM,ih];congr 1;show(if eY S y=true then[]else[y])=(if eY R y=true then[]else[y]);rw[h y]
 exact y8 ah (bP ah) (Kg ah) ah
theorem uU(x:Str):∀ah:LL,bP ((bP ah).map (c7 x))=bP (ah.map (c7 x))
 |[]=>rfl
 |r::ah=>by
  have ih:=uU x ah;unfold bP at ih⊢;rw[fm,ci,fm];cases r with
  |nil=>
   simp only[List.isEmpty_nil,Bool.not_true,lI,rS];rw[ih];rfl
  |cons y r=>
   simp only[pE,rX,kM,ci];rw[fm,ih]
section
variable {P:vy}{w:xm}{K:PySem.W.Frag}{mg:MG}{base:Heap}{t:tT}
def Lx(H:Hp)(x:Str)(os:LS)(q:ax):Prop:=∃qo,H q=some (.tup [.str "order",.ref qo])/\H qo=some (.tup ((x::os).map V.str))
inductive Io (vs:LV) (H:Hp) (Q:VK) (E_:XK):Prop
 |mk (x:Str) (l:ax) (us:LV) (ah:LL):vs=[.str x,.ref l]->H l=some (.tup us)->oU H us ah->((∀r∈ah,r≠[])\/∀r∈ah,r=[])->lm ah<=1000->ah.length<=1000->(∃os,Mg (bP ah) (some os))->(∀(q:ax) (os:LS) H',Mg (bP ah) (some os)->Lx H' x os q->Same H H'->Q (.ref q) H')->Io vs H Q E_
theorem PL(D:Defs K mg t):aW P w K mg base bm 3 t.j7.1 t.j7.2 ["kind","rows"] Io:=by
 have Gbu:=@Ol P w K mg base t D;have Gce:aW P w K mg base bm 0 t.mD.1 t.mD.2 ["left"] (fun _ _ _ _=>False):=⟨fun _ _ _ _ h=>h.elim,fun _ _ _ _ _ _ _ _ _ _ _ _ _ h=>h.elim⟩;have hz:ab=16777216:=cn;refine D.j7.fn.ok jW ‹4› ‹3›
 ·obtain⟨x,l,us,ah,rfl,_⟩:=h;rfl
 ·obtain ⟨x,l,us,ah,rfl,hl,hrt,Y5,Yw,eC,⟨os0,hM⟩,k⟩:=h
  refine⟨_,(au (aU (i:=2) jW.nd rfl (uv rfl) (bw ‹15›))
   (au (aU (i:=3) jW.nd rfl (uv rfl) (pv 1))
   (au (qJ di (fB (aN (Li rfl) (by rfl) D.R9 Ob (aj (pv 3) aq)))
   (au (aU (i:=4) jW.nd rfl (MT rfl) (aH D.kE Gbu ‹2› (by rfl) (aj (pv 3) aq)))
   (au (bL (aV tZ (pv 4) jz (aR _))
   (aF (aM (bW (aj aP (aj (pv 0) (aj (aH D.mD Gce ‹2› (by rfl) (aj (pv 3) aq)) aq))))))
   aX)
   (au (bH (gb cz eQ eR fY (pv 2) (aj (pv 4) aq)))
   (aF (rD (i:=3) rfl jW.nd rfl (uv rfl) (X7 ["row"] [4] ["row","first"] (aJ (top 27)) ["kind","rows","order","left","first"] rfl rfl ‹1›) ⟨fun _ _ _ _ _=>(aO (i:=0) (show List.Nodup [("row":Str),("first":Str)]by decide +kernel) rfl ‹16› ‹13›),fun _ _ _ _ _=>cJ,fun _ _ _ _ _=>(cI rfl (aQ.of2 ["name"] [1] ["name","first"] ["row","first"] rfl rfl ‹1›) ⟨fun _ _ _ _ _=>(aO (i:=0) (show List.Nodup [("name":Str),("first":Str)]by decide +kernel) rfl ‹16› ‹13›),fun _ _ _ _ _=>(oJ (aV Fo (pv 0) (pv 1) (aR _))),fun _ _ _ _ _=>(pv 0)⟩ (yK (K:=K) (pv 0) rfl))⟩ (yK (K:=K) (pv 3) rfl)))))))
   (aF (aM (bW (aj aP (aj (aY dM (by rfl) D.dB cP (aj (pv 2) aq)) aq)))))))),?_⟩
  simp only[jm,Cx.nox];refine⟨_,rfl,by show 1<=ab;decide,λol Me=>?_⟩;exists 1,s0,hol0,H,ol,(.lst [.str x]),Me,H1;refine⟨_,rfl,?_⟩
  refine⟨λm σ H2=>∃(DU:LV) (bp:LL) (os:LS) (l2:ax) (v4:OV),σ=[some (.str x),some (.ref l),some (.ref ol),some (.ref l2),v4]/\lQ H2 (.ref l2) DU/\l2≠ol/\Paired (λ(v:V) (r:LS)=>∃a,v=.ref a/\a≠ol/\(H2 a=some (.lst (r.map V.str))\/H2 a=some (.tup (r.map V.str)))) DU bp/\(u0 H2 DU bp\/∀r∈bp,r=[])/\
   H2 ol=some (.lst ((x::os).map V.str))/\m=lm bp/\os.length+lm bp<=1000/\bp.length=ah.length/\(∀r,Mg (bP bp) r->Mg (bP ah) (r.map (os++·)))/\Same H H2,?_,?_⟩
  ·refine⟨_,us,ah,[],l,_,rfl,⟨l,rfl,.inr (s0 l _ hl)⟩,aD hl Me,XM hrt fun v r ⟨a,e,h⟩=>⟨a,e,aD h Me,.inr (s0 a _ h)⟩,?_,hol0,rfl,by show 0+_<=_; omega,rfl,fun r h=>?_,s0⟩
   ·rcases Y5 with h | h
    ·left
     have y8:∀{us:LV} {ah:LL},oU H us ah->(∀r∈ah,r≠[])->u0 H1 us ah:=by
      intro us ah hh
      induction hh with
      |nil=>exact λ_=>.nil
      |cons q _ ih=>
       intro h;obtain⟨a,e,h'⟩:=q;exact .cons ⟨a,e,.inr ⟨s0 a _ h',h _ aS⟩⟩ (ih λr hr=>h r (cf _ hr))
     exact y8 hrt h
    ·exact .inr h
   ·have:r.map (([]:LS)++·)=r:=by cases r <;> rfl
    rw[this];exact h
  ·rintro m σ H2 ⟨DU,bp,os,l2,v4,rfl,cx,l2o,pr,Cn,CF,rfl,PR,AN,mg2,AO⟩;have hul:DU.length=bp.length:=cE pr;obtain ⟨l2',we,ua⟩:=id cx;cases we;refine⟨_,rfl,l2,DU,bp.map (fun r=>!r.isEmpty),rfl,ua,by rw [aa,hul],fun i hi hj=>?_,_,rfl,?_⟩
   ·have sL:i < bp.length:=by omega
    obtain⟨a,e,_,h⟩:=mQ pr i hi sL;refine⟨(bp[i]).map V.str,⟨a,e,h⟩,?_⟩;rw[nk];cases bp[i] <;>rfl
   have SD:(bp.map λr=>!r.isEmpty).any id=!(bP bp).isEmpty:=by
    rw[List.any_map];apply gN.mpr;rw[jv];constructor
    ·rintro ⟨r,h1,h2⟩;have:r∈bP bp:=dP.mpr ⟨h1,h2⟩;cases hf:bP bp with
     |nil=>rw[hf]at this;cases this
     |cons _ _=>rfl
    ·intro h;cases hf:bP bp with
     |nil=>rw[hf]at h;cases h
     |cons r _=>
      have:r∈bP bp:=by rw[hf];exact aS
      obtain⟨h1,h2⟩:=dP.mp this;exact⟨r,h1,h2⟩
   rw[SD];cases hf:bP bp with
   |nil=>
    refine iu ⟨_,rfl,ol,_,rfl,.inl ⟨XQ CF,fun qo hqo=>⟨by show 2<=ab;decide,fun q hq=>?_⟩⟩⟩;have h1:=mg2 (some []) (by rw[hf];exact .nil);have s3:=(X6 (o:=.tup ((x::os).map V.str)) hqo).trans (X6 (o:=.tup [.str "order",.ref qo]) hq);refine k q os _ (by simpa using h1) ⟨qo,ak,?_⟩ (AO.trans s3);rw[aB (aD ak hq),ak]
   |cons r0 rr=>
    have hfne:bP bp≠[]:=by rw[hf];exact bc _ _
    have hrn:u0 H2 DU bp:=by
     rcases Cn with h|h
     ·exact h
     ·exfalso
      have:r0∈bP bp:=by rw[hf];exact aS
      obtain⟨h1,h2⟩:=dP.mp this;rw[h r0 h1]at h2;cases h2
    refine jq ⟨λcp H'=>∃m',m'<lm bp/\∃(DU:LV) (bp:LL) (os:LS) (l2:ax) (v4:OV),cp=[some (.str x),some (.ref l),some (.ref ol),some (.ref l2),v4]/\lQ H' (.ref l2) DU/\l2≠ol/\Paired (λ(v:V) (r:LS)=>∃a,v=.ref a/\a≠ol/\(H' a=some (.lst (r.map V.str))\/H' a=some (.tup (r.map V.str)))) DU bp/\(u0 H' DU bp\/∀r∈bp,r=[])/\
     H' ol=some (.lst ((x::os).map V.str))/\m'=lm bp/\os.length+lm bp<=1000/\bp.length=ah.length/\(∀r,Mg (bP bp) r->Mg (bP ah) (r.map (os++·)))/\Same H H',λcp H' h=>h,?_⟩
    refine⟨_,rfl,l2,DU,bp,rfl,cx,hrn,by omega,by omega,λH3 s3=>?_⟩;cases PH:frees bp with
    |nil=>
     have h0:Mg (bP ah) none:=mg2 none (.stuck hfne (by rw[zx];exact PH));have:=(qH h0).symm.trans (qH hM);cases this
    |cons x1 ba=>
     refine⟨_,rfl,rfl,_,rfl,iu ?_⟩;have hx1:x1∈frees bp:=by rw[PH];exact aS
     obtain⟨r1,NE,Yy⟩:=uy hx1
     have Sn:x1∈r1:=by
      cases r1 with
      |nil=>cases Yy
      |cons y r'=>
       cases Yy;exact aS
     have lc:=vh (x:=x1) ⟨r1,NE,Sn⟩;have Fu:=s3 ol _ CF;refine⟨_,rfl,.inl ⟨rfl,_,XQ Fu⟩,_,rfl,ol,_,.str x1,rfl,rfl,Fu,by rw[aa,aI];omega,?_⟩;have eol:(x::os).map V.str++[V.str x1]=(x::(os++[x1])).map V.str:=by rw[ci,ci,av];rfl
     rw[eol];have BY:∀b u,b≠ol->H3 b=some u->(upd H3 ol (.lst ((x::(os++[x1])).map V.str))) b=some u:=λb u hb e=>by rw[aB hb];exact e
     have NR:(upd H3 ol (.lst ((x::(os++[x1])).map V.str))) ol=some (.lst ((x::(os++[x1])).map V.str)):=ak;generalize upd H3 ol (.lst ((x::(os++[x1])).map V.str))=H4 at BY NR;have Y6:Same H H4:=λb u e=>BY b u (aD e Me) (s3 b u (AO b u e));have ze:lQ H4 (.ref l2) DU:=⟨l2,rfl,ua.elim (λz=>.inl (BY l2 _ l2o (s3 l2 _ z))) λz=>.inr (BY l2 _ l2o (s3 l2 _ z))⟩
     have row4:∀(i:Nat) (v:V),DU[i]?=some v->∃(sL:i<bp.length) (a:ax),v=.ref a/\lQ H4 (.ref a) ((bp[i]).map V.str):=λi v e=>by
      have hi:=(bo.mp e).1;have sL:i<bp.length:=by omega
      obtain⟨a,ea,ao,h⟩:=mQ pr i hi sL;rw[ac hi]at e;cases e;exact⟨sL,a,ea,a,rfl,h.elim (λz=>.inl (BY a _ ao (s3 a _ z))) λz=>.inr (BY a _ ao (s3 a _ z))⟩
     refine⟨_,rfl,l2,rfl,Ep (K:=K) ze (λD i ys H5=>H5 D=some (.lst ys)/\sG H5 D ol ys ((bp.take i).map (c7 x1))/\Same H4 H5)
      (λD hD=>⟨ak,.nil,X6 hD⟩) (λD i ys H5 hD ⟨_,_,sm⟩ o e=>sm l2 o e) ?_ ?_⟩
     ·rintro D1 ys H5 hC ⟨i0,WA,pz⟩;rw [ay ‹21›] at WA;have D1o:D1≠ol:=fun e=>by rw [e,NR] at hC; cases hC
      refine⟨lm (bp.map (c7 x1)),lc,ys,bp.map (c7 x1),os++[x1],D1,_,rfl,⟨D1,rfl,.inl i0⟩,D1o,XM WA λv r ⟨a,e,_,n,q⟩=>⟨a,e,n,.inl q⟩,.inl (XM WA λv r ⟨a,e,_,n,q⟩=>⟨a,e,.inl q⟩),pz ol _ NR,rfl,?_,by rw[aa];exact AN,λr h=>?_,Y6.trans pz⟩
      ·rw[ai,cy];omega
      ·have h1:=mg2 _ (.step (by rw [zx]; exact PH) (by rw [uU]; exact h));rw [Option.map_map] at h1
       have:((λx=>os++x) ∘ λx=>x1::x)=λx=>os++[x1]++x:=by
        funext z;simp
       rw[this]at h1;exact h1
     ·rintro D1 i v ys H5 hC hi ev ⟨i0,WA,pz⟩ gi ho;obtain ⟨oo,rfl⟩:=eP ho;obtain ⟨sL,a,rfl,ha⟩:=row4 i v ev;have ha5:=ha.same pz
      have EX:ys.length<=1000:=by
       rw[cE WA,aa,bj];omega
      refine⟨‹9›,dh ⟨_,rfl,a,rfl,Ep (K:=K) ha5 (λD j Mn H6=>Mn=(c7 x1 ((bp[i]).take j)).map V.str/\H6=upd H5 D (.lst Mn))
       (λD hD=>⟨rfl,rfl⟩) (λD j Mn H6 hD ⟨_,e6⟩ o e=>by rw[e6,aB (aD e hD)];exact e) ?_ ?_⟩⟩
      ·rintro D5 Mn H6 yA ⟨rfl,rfl⟩;rw [ay (by rw [aa]; exact af _)];have s6:∀ o,Same H5 (upd H5 D5 o):=fun o=>X6 yA;have D51:D5≠D1:=fun e=>by rw [e,i0] at yA; cases yA
       have D5o:D5≠ol:=λe=>by rw[e,pz ol _ NR]at yA;cases yA
       refine⟨by omega,s6 _ D1 _ i0,bG hi ⟨ak,?_,λb u e=>?_⟩⟩
       ·rw[take_snoc sL,av];exact iw (WA.grow (s6 _)) ⟨D5,rfl,D51,D5o,by rw[aB D51,ak]⟩
       ·rw[aB (aD e hC)];exact s6 _ b _ (pz b _ e)
      ·rintro D5 j y Mn H6 yA hj ey ⟨rfl,rfl⟩ YB YC;obtain ⟨o5,rfl⟩:=eP YC;have Co:j < (bp[i]).length:=by rw [aa] at hj; exact hj
       rw[bS,ac Co]at ey;cases ey
       have IQ:c7 x1 ((bp[i]).take (j+1))=c7 x1 ((bp[i]).take j)++(if decide ((bp[i])[j]≠x1)=true then[(bp[i])[j]]else[]):=by
        unfold c7;rw[take_snoc Co,iX];congr 1;rw[fm];rfl
       have hri:=yZ (bX sL)
       have xI:((c7 x1 ((bp[i]).take j)).map V.str).length<=1000:=by
        rw[aa];have h1:=CT x1 ((bp[i]).take j);rw[bj]at h1;omega
       refine⟨‹9›,_,rfl,_,rfl,rfl,_,rfl,rJ (λhb=>?_) (λhb=>?_)⟩
       ·have hb:(bp[i])[j]≠x1:=λe=>by
         have hb:(!decide (V.str (bp[i])[j]=V.str x1))=true:=hb;rw[e,aw rfl]at hb;cases hb
        refine⟨_,rfl,by omega,ak,bG hj ⟨?_,by rw[gM]⟩⟩;rw[IQ,dL (aw hb),av];rfl
       ·have hb:(bp[i])[j]=x1:=gx λe=>hb (by
         show(!decide (V.str (bp[i])[j]=V.str x1))=true;rw[cw (by intro z;injection z with z;exact e z)];rfl)
        refine bG hj ⟨?_,rfl⟩;rw[IQ,dC (by simpa using hb),dm]
def Ah(H:Hp)(f:rh)(x:Str)(q:ax):Prop:=∃o qo,iI f x=some o/\H q=some (.tup [.str "order",.ref qo])/\H qo=some (.tup (o.map V.str))
def pK(H:Hp)(kvs:sg)(f:rh)(S:Str->Prop):Prop:=∀x,S x->∃q,eU kvs (.inr x)=some (.ref q)/\Ah H f x q
theorem Ah.mono{f:rh}{x:Str}(h:Ah H f x q)(s:fH H H'):Ah H' f x q:=by
 obtain⟨o,qo,h1,h2,h3⟩:=h;exact⟨o,qo,h1,s q _ h2,s qo _ h3⟩
theorem pK.mono{f:rh}{S:Str->Prop}(h:pK H kvs f S)(s:fH H H'):pK H' kvs f S:=λx hx=>by
 obtain⟨q,h1,h2⟩:=h x hx;exact⟨q,h1,h2.mono s⟩
inductive zZ (vs:LV) (H:Hp) (Q:VK) (E_:XK):Prop
 |mk (e d:ax) (es:LS) (kvs:sg) (f:rh):vs=[.ref e,.ref d]->H e=some (.tup (es.map V.str))->Rd H d (.dK kvs)->pK H kvs f (·∈es)->Q .non H->zZ vs H Q E_
theorem yI:¬("order":Str)="quarrel":= by decide +kernel
theorem Ib(D:Defs K mg t):aW P w K mg base bm 1 t.dH.1 t.dH.2 ["kinds","told"] zZ:=by
 refine D.dH.fn.ok jL ‹4› ‹3›
 ·obtain⟨e,d,es,kvs,f,rfl,_⟩:=h;rfl
 ·obtain ⟨e,d,es,kvs,f,rfl,he,hd,uk,k1⟩:=h
  refine⟨_,(au (fG di rfl (dg (pv 0)) (aO (i:=2) jL.nd rfl (uv rfl))
   (aF (bL (aV cO (bf bB (oA (lF hr) (pv 1) (pv 2) ‹20›) aG ‹20›) aP (aR _))
   (aF (aM (oA (lF hr) (pv 1) (pv 2) ‹20›)))
   aX)))
   (aF (aM jz))),?_⟩
  refine⟨_,rfl,e,rfl,⟨_,XR he⟩,nq (K:=N0) (a:=e) (xs:=es.map V.str) (λi σ H2=>∃v2:OV,σ=[some (.ref e),some (.ref d),v2]/\H2=H)
   ⟨_,rfl,rfl⟩ (λi σ H2 _ ⟨_,_,e2⟩=>by rw[e2];exact XR he) ?_ ?_⟩
  ·rintro i v σ H2 hi ⟨v2,rfl,rfl⟩
   have lb:i<es.length:=by
    have:=(bo.mp hi).1
    rwa[aa]at this
   have ev:v=.str es[i]:=by
    rw[bS,ac lb]at hi;exact(cS hi).symm
   subst ev;have hm:es[i]∈es:=bX lb;obtain⟨q,hv,ht⟩:=uk es[i] hm;have gd:uO H2 d (.str es[i]) (some (.ref q)):=.inl ⟨kvs,.inr es[i],hd,rfl,hv.symm⟩;obtain⟨o,qo,h1,h2,h3⟩:=ht;exact⟨_,rfl,_,rfl,d,.ref q,rfl,gd,q,_,_,_,rfl,rfl,XR h2,rfl,rfl,_,rfl,aL (by rw[cw (by intro h;injection h with h;exact yI h)];exact az) ⟨_,rfl,rfl⟩⟩
  ·rintro σ H2 ⟨v2,rfl,rfl⟩;exact k1
inductive Ec (vs:LV) (H:Hp) (Q:VK) (E_:XK):Prop
 |mk (e d:ax) (es:LS) (kvs:sg) (f:rh):vs=[.ref e,.ref d]->H e=some (.tup (es.map V.str))->Rd H d (.dK kvs)->pK H kvs f (·∈es)->(∀x∈es,(iI f x).isSome=true)->es.length<=1000->(∀(q:ax) (us:LV) H',H' q=some (.tup us)->oU H' us (dZ (iI f) es)->Same H H'->Q (.ref q) H')->Ec vs H Q E_
theorem KN(D:Defs K mg t):aW P w K mg base bm 1 t.qZ.1 t.qZ.2 ["elders","told"] Ec:=by
 have hz:ab=16777216:=cn;refine D.qZ.fn.ok HJ ‹4› ‹3›
 ·obtain⟨e,d,es,kvs,f,rfl,_⟩:=h;rfl
 ·obtain ⟨e,d,es,kvs,f,rfl,he,hd,uk,all,eC,k⟩:=h;refine⟨_,(aF (aM (bh Gn (aY dM (by rfl) D.dB cP (aj (cI rfl (X7 ["elder"] [1] ["elder","told"] (aJ (top 26)) ["elders","told"] rfl rfl ‹1›) ⟨fun _ _ _ _ _=>(aO (i:=0) (show List.Nodup [("elder" : Str),("told" : Str)] by decide +kernel) rfl ‹16› ‹13›),fun _ _ _ _ _=>cJ,fun _ _ _ _ _=>(bf bB (oA (lF hr) (pv 1) (pv 0) ‹20›) aG ‹20›)⟩ (dg (pv 0))) aq)) (bW ‹15›)))),?_⟩;refine⟨_,rfl,e,rfl,⟨_,XR he⟩,fun D1 hC=>?_⟩;have s1:∀ o,Same H (upd H D1 o):=fun o=>X6 hC;refine bN (n:=(es.map V.str).length) (fun i ys H2=>oU H ys ((es.take i).map fun x=>(iI f x).getD [])/\H2=upd H D1 (.lst ys)) ⟨.nil,rfl⟩ ?_ ?_
  ·rintro ys H2 ⟨rt,rfl⟩;rw [aa,ay (af _)] at rt;refine⟨⟨_,XR (s1 _ e _ he),af _⟩,D1,_,rfl,.inl ⟨XQ ak,fun q1 sw=>?_⟩⟩;have s2:=(s1 (.lst ys)).trans (X6 (o:=.tup ys) sw);have EX:ys.length=es.length:=by rw [cE rt,aa]
   refine⟨_,rfl,by show 1<=ab;decide,λq2 E4=>?_⟩;have s3:=s2.trans (X6 (o:=.tup [.ref e]) E4);have h1:(upd (upd (upd H D1 (.lst ys)) q1 (.tup ys)) q2 (.tup [.ref e])) q1=some (.tup ys):=by rw[aB (aD ak E4),ak]
   have kb:∀(H':Hp),Same H H'->oU H' (ys++[.ref e]) (dZ (iI f) es):=λH' s=>iw (rt.mono (XX s)) ⟨e,rfl,s e _ he⟩;cases ys with
   |nil=>
    refine .inr ⟨q1,q2,[.ref e],rfl,rfl,h1,ak,?_⟩;exact k q2 _ _ ak (kb _ s3) s3
   |cons y0 yr=>
    refine .inl ⟨q1,q2,y0::yr,[.ref e],rfl,rfl,XR h1,XR ak,bc _ _,by rw[EX];show es.length+1<=ab;omega,(λh=>absurd h (bc _ _)),λ_ q3 JA=>?_⟩;have s4:=s3.trans (X6 (o:=.tup (y0::yr++[.ref e])) JA);exact k q3 _ _ ak (kb _ s4) s4
  ·rintro i ys H2 hi ⟨rt,rfl⟩;have ET:i < es.length:=by rw [aa] at hi; exact hi
   have ei:(es.map V.str)[i]?=some (.str es[i]):=by rw[bS,ac ET];rfl
   refine⟨⟨_,_,XR (s1 _ e _ he),ei⟩,?_⟩;rintro v H3 ⟨rfl,yy⟩ gi ho;obtain⟨oo,rfl⟩:=eP ho;have ev:=yy _ (XR (s1 _ e _ he));rw[ei]at ev;cases ev;have hm:es[i]∈es:=bX ET;obtain⟨q,hv,ht⟩:=uk es[i] hm
   have GU:Rd (upd H D1 (.lst ys)) d (.dK kvs):=by
    rcases hd with h|⟨o,h⟩
    ·exact .inl (s1 _ d _ h)
    ·exact .inr ⟨o,s1 _ d _ h⟩
   obtain⟨o,qo,h1,h2,h3⟩:=ht;refine⟨‹9›,dh ⟨_,rfl,_,rfl,d,.ref q,rfl,.inl ⟨kvs,.inr es[i],GU,rfl,hv.symm⟩,q,_,_,_,rfl,rfl,XR (s1 _ q _ h2),rfl,by rw[cE rt,aa,bj];omega,ak,bG hi ⟨?_,by rw[gM]⟩⟩⟩;rw[take_snoc ET,av];refine iw rt ⟨qo,rfl,?_⟩;show H qo=some (.tup (((iI f es[i]).getD []).map V.str));rw[h1];exact h3
structure JR (f:rh) (pl:LS):Prop where
 nd:pl.Nodup
 sub:∀x∈pl,x∈iq f
 el:∀(j:Nat) (r:Str×LS),r∈f->pl[j]?=some r.1->∀e∈r.2,e∈pl.take j
theorem G8{f:rh}(G:ud f)(pl:LS){r:Str×LS}(hr:r∈f)(hn:¬r.1∈pl):∃r'∈f,¬r'.1∈pl/\∀e∈r'.2,e∈pl:=by
 obtain⟨top,t0,t1,t2⟩:=G.Qu
 have y8:∀(j:Nat) (r:Str×LS),r∈f->top[j]?=some r.1->¬r.1∈pl->∃r'∈f,¬r'.1∈pl/\∀e∈r'.2,e∈pl:=by
  intro j
  induction j using Nat.strongRecOn with
  |ind j ih=>
   intro r hr hj hn
   by_cases hX:∀e∈r.2,e∈pl
   ·exact⟨r,hr,hn,hX⟩
   ·have⟨e,he⟩:=Classical.not_forall.mp hX;have CH:e∈r.2:=gx λz=>he λy=>absurd y z;have xi:¬e∈pl:=λz=>he λ_=>z;obtain⟨j',h1,h2⟩:=t2 r hr;have ej:=Dq t0 hj h1;subst ej;obtain⟨i,hi,ei⟩:=nH (h2 e CH);obtain⟨r2,P4,WB⟩:=bE.mp (G.sub r hr e CH);have WB:r2.1=e:=WB;exact ih i hi r2 P4 (by rw[WB];exact ei) (by rw[WB];exact xi)
 obtain⟨j,h1,_⟩:=t2 r hr;exact y8 j r hr h1 hn
noncomputable def bQ(f:rh)(pl:LS):rh:=f.filter λr=>decide (¬r.1∈pl)
noncomputable def cB(f:rh)(pl:LS):LS:=((bQ f pl).filter λr=>r.2.all λe=>decide (e∈pl)).map (·.1)
theorem JR.more{f:rh}(G:ud f){pl:LS}(T:JR f pl):JR f (pl++cB f pl):=by
 have mem:∀x,x∈cB f pl->∃r∈f,r.1=x/\¬x∈pl/\∀e∈r.2,e∈pl:=λx hx=>by
  obtain⟨r,hr,rfl⟩:=bE.mp hx;obtain⟨h1,h2⟩:=dP.mp hr;obtain⟨h3,h4⟩:=dP.mp h1;exact⟨r,h3,rfl,eI h4,λe he=>eI (fb.mp h2 e he)⟩
 have ndr:(cB f pl).Nodup:=by
  have:(cB f pl).Sublist (iq f):=List.Sublist.map _ (List.Sublist.trans List.filter_sublist List.filter_sublist);exact G.nd.sublist this
 refine⟨?_,λx hx=>?_,λj r hr ej e he=>?_⟩
 ·rw[iA];refine⟨T.nd,ndr,λa ha b hb e=>?_⟩;obtain⟨_,_,_,h,_⟩:=mem b hb;exact h (e ▸ ha)
 ·rcases bu.mp hx with h | h
  ·exact T.sub x h
  ·obtain⟨r,hr,e,_⟩:=mem x h;rw[<- e];exact bE.mpr ⟨r,hr,rfl⟩
 ·by_cases hj:j < pl.length
  ·rw[kG hj]at ej;have:=T.el j r hr ej e he;rw[List.take_append_of_le_length ‹21›];exact this
  ·rw[kB ‹21›]at ej;obtain⟨r',fA,e',_,h⟩:=mem r.1 (gE ej);have er:Kw f r'.1=r'.2:=wg G.nd r' fA;have WB:Kw f r.1=r.2:=wg G.nd r hr;rw[e',WB]at er;have hp:e∈pl:=h e (er ▸ he);rw[List.take_append];exact i7 _ (by rw[ay ‹21›];exact hp)
inductive Eu (vs:LV) (H:Hp) (Q:VK) (E_:XK):Prop
 |mk (v:V) (f:rh):vs=[v]->Dp H (Qf f) v->ud f->(∀(q:ax) (pl:LS) H',H' q=some (.tup (pl.map V.str))->JR f pl->(∀x∈iq f,x∈pl)->Same H H'->Q (.ref q) H')->Eu vs H Q E_
theorem Bd(D:Defs K mg t):aW P w K mg base bm 1 t.ig.1 t.ig.2 ["family"] Eu:=by
 have hz:ab=16777216:=cn;refine D.ig.fn.ok fJ ‹4› ‹3›
 ·obtain⟨v,f,rfl,_⟩:=h;rfl
 ·obtain ⟨v,f,rfl,dv,gf,k⟩:=h;obtain ⟨a,xs,rfl,ha,dl⟩:=L2.Dp.cR dv;have G1:xs.length=f.length:=by have:=dl.length; rwa [aa] at this
  have f7:=gf.len
  refine⟨_,(au (aU (i:=1) fJ.nd rfl (MT rfl) qQ)
   (au (aU (i:=2) fJ.nd rfl (uv rfl) (aY gB (by rfl) D.lO ji ‹15›))
   (au (aU (i:=3) fJ.nd rfl (uv rfl) (pv 2))
   (au (qJ di (yV (pv 3) (by intro _;rfl))
   (au (rD (i:=3) rfl fJ.nd rfl (uv rfl) (X7 ["kind","elders"] [1] ["kind","elders","placed"] (aJ (top 13)) ["family","placed","waiting","ready","kind"] rfl rfl ‹1›) ⟨fun _ _ _ _ _=>(jX (n:=2) rfl (cu (aO (i:=0) (show List.Nodup [("kind":Str),("elders":Str),("placed":Str)]by decide +kernel) rfl ‹16› ‹13›) (cu (aO (i:=1) (show List.Nodup [("kind":Str),("elders":Str),("placed":Str)]by decide +kernel) rfl ‹16› ‹13›) jJ))),fun _ _ _ _ _=>(oJ (fB (aN (iV rfl) (by rfl) D.sY oW (aj (cI rfl (aQ.of2 ["elder"] [2] ["elder","placed"] ["kind","elders","placed"] rfl rfl ‹1›) ⟨fun _ _ _ _ _=>(aO (i:=0) (show List.Nodup [("elder":Str),("placed":Str)]by decide +kernel) rfl ‹16› ‹13›),fun _ _ _ _ _=>cJ,fun _ _ _ _ _=>(Pn (Qk (lF hr) (pv 0) (pv 1)))⟩ (dg (pv 1))) aq)))),fun _ _ _ _ _=>(pv 0)⟩ (iB (pv 2)))
   (au (fG di rfl (iB (pv 3)) (aO (i:=4) fJ.nd rfl (uv rfl))
   (aF (rB (lF hr) (pv 1) (pv 4) jP rfl)))
   (aF (rD (i:=2) rfl fJ.nd rfl (uv rfl) (X7 ["pair"] [1] ["pair","placed"] (aJ (top 13)) ["family","placed","waiting","ready","kind"] rfl rfl ‹1›) ⟨fun _ _ _ _ _=>(aO (i:=0) (show List.Nodup [("pair":Str),("placed":Str)]by decide +kernel) rfl ‹16› ‹13›),fun _ _ _ _ _=>(oJ (CW (Bk (lF hr) ‹5› (pv 1)))),fun _ _ _ _ _=>(pv 0)⟩ (iB (pv 2)))))))
   (aF (aM (aY (En rfl) (by rfl) D.dB cP ‹14›))))))),?_⟩
  simp only[jm,Cx.nox];intro pd Si;have s1:Same H (upd H pd (.dK [])):=X6 Si;have Y7:(upd H pd (.dK [])) pd=some (.dK (jo [])):=ak;generalize upd H pd (.dK [])=H1 at s1 Y7;refine⟨_,rfl,a,_,rfl,.inr (XR (s1 a _ ha)),λw0 hw0=>?_⟩;have s2:Same H1 (upd H1 w0 (.lst xs)):=X6 hw0;refine⟨_,rfl,?_⟩;refine⟨λm σ H2=>∃(pl:LS) (wl rl:ax) (ws rs:LV) (v4:OV),σ=[some (.ref a),some (.ref pd),some (.ref wl),some (.ref rl),v4]/\H2 pd=some (.dK (jo pl))/\JR f pl/\H2 wl=some (.lst ws)/\DpL H2 ((bQ f pl).map wH) ws/\H2 rl=some (.lst rs)/\(rs=[]->bQ f pl=[])/\m=2*(bQ f pl).length+(if rs.isEmpty=true then 0 else 1)/\Same H H2,?_,?_⟩
  ·have e0:bQ f []=f:=by
    unfold bQ;rw[List.filter_eq_self];simp
   refine⟨_,[],w0,w0,xs,xs,_,rfl,s2 pd _ Y7,⟨j0,by simp,by intro j r _ h;simp at h⟩,ak,?_,ak,λh=>?_,rfl,s1.trans s2⟩
   ·rw[e0];exact dl.mono (XX (s1.trans s2))
   ·rw[e0];rw[h]at G1;exact List.eq_nil_of_length_eq_zero G1.symm
  ·rintro m σ H2 ⟨pl,wl,rl,ws,rs,v4,rfl,FI,T,SV,dw,P4,NA,rfl,AO⟩;refine⟨_,rfl,_,.inl ⟨_,XQ P4,rfl⟩,?_⟩;cases hrs:rs with
   |nil=>
    refine iu ⟨_,rfl,pd,_,rfl,.inl FI,λq hq=>?_⟩
    have ek:(jo pl).map (λkv=>kV kv.1)=pl.map V.str:=by
     unfold jo;rw[kQ];rfl
    rw[ek];refine k q pl _ ak T (λx hx=>?_) (AO.trans (X6 hq));have h0:=NA hrs;apply gx;intro hn;obtain⟨r,fA,rfl⟩:=bE.mp hx;have:r∈bQ f pl:=dP.mpr ⟨fA,aw hn⟩;rw[h0]at this;cases this
   |cons r0 rr=>
    have hem:(!(r0::rr).isEmpty)=true:=rfl;rw[hem];refine jq ⟨λcp H'=>∃m',m'<2*(bQ f pl).length+1/\∃(pl:LS) (wl rl:ax) (ws rs:LV) (v4:OV),cp=[some (.ref a),some (.ref pd),some (.ref wl),some (.ref rl),v4]/\H' pd=some (.dK (jo pl))/\JR f pl/\H' wl=some (.lst ws)/\DpL H' ((bQ f pl).map wH) ws/\H' rl=some (.lst rs)/\(rs=[]->bQ f pl=[])/\m'=2*(bQ f pl).length+(if rs.isEmpty=true then 0 else 1)/\Same H H',λcp H' h=>h,?_⟩;have Mb:ws.length=(bQ f pl).length:=by have:=dw.length;rwa[aa]at this
    have FH:(bQ f pl).length<=7:=dq (eS _ _) f7;have pwne:∀{H3:Hp},Same H2 H3->True:=λ_=>trivial;refine⟨_,rfl,wl,rfl,⟨_,XQ SV⟩,λD1 hC=>?_⟩;refine bN (n:=ws.length) (λi ys H3=>ys=((((bQ f pl).take i).filter λr=>r.2.all λe=>decide (e∈pl)).map (·.1)).map V.str/\H3 D1=some (.lst ys)/\Same H2 H3) ⟨rfl,ak,X6 hC⟩ ?_ ?_
    ·rintro ys H3 ⟨rfl,DS,xE⟩;rw [ay ‹21›] at DS;have DS:H3 D1=some (.lst ((cB f pl).map V.str)):=DS;refine⟨⟨_,XQ (xE wl _ SV),af _⟩,?_⟩;have hwD:wl≠D1:=aD SV hC;have pdD:pd≠D1:=aD FI hC
     have hrdy:(cB f pl).length<=7:=by
      unfold cB;rw[aa];exact dq (eS _ _) FH
     have Tm:=T.more gf
     have plx:pl.length<=7:=by
      have h1:=fK T.nd (m:=iq f) T.sub;have h2:(iq f).length=f.length:=aa _;omega
     have newk:∀(i:Nat) (hi:i<(cB f pl).length),¬(cB f pl)[i]∈pl++(cB f pl).take i:=λi hi h=>by
      have nd:=Tm.nd
      have e:pl++cB f pl=(pl++(cB f pl).take i)++((cB f pl)[i]::(cB f pl).drop (i+1)):=by
       rw[dE,List.getElem_cons_drop,fz]
      rw[e,iA]at nd;exact nd.2.2 _ h _ aS rfl
     refine⟨_,rfl,D1,rfl,⟨_,XQ DS⟩,vW (K:=N0) (a:=D1) (xs:=(cB f pl).map V.str) (λi σ H4=>∃v4:OV,σ=[some (.ref a),some (.ref pd),some (.ref wl),some (.ref D1),v4]/\H4 pd=some (.dK (jo (pl++(cB f pl).take i)))/\∀b u,b≠pd->H3 b=some u->H4 b=some u)
      ⟨_,rfl,by rw[List.take_zero,dm];exact xE pd _ FI,λb u _ e=>e⟩ (λi σ H4 _ ⟨_,_,_,kp⟩=>XQ (kp D1 _ pdD.symm DS)) ?_ ?_⟩
     ·rintro i x σ H4 hi ⟨v4',rfl,JE,BY⟩
      have lb:i<(cB f pl).length:=by
       have:=(bo.mp hi).1
       rwa[aa]at this
      have ex:x=.str (cB f pl)[i]:=by
       rw[bS,ac lb]at hi;exact(cS hi).symm
      subst ex;refine⟨_,rfl,_,rfl,pd,_,rfl,zQ.k (k:=.inr (cB f pl)[i]) JE (by unfold jo;rw[aa,ai,bj];omega),?_⟩;rw[tW (newk i lb)];exact⟨_,rfl,by rw[ak,take_snoc lb,dE],λb u hb e=>by rw[aB hb];exact BY b u hb e⟩
     ·rintro σ H4 ⟨v4',rfl,JE,BY⟩;rw [aa,ay (af _)] at JE;have wpd:wl≠pd:=bV SV FI ‹6›;have YH:=BY wl _ wpd (xE wl _ SV);have tu4:fH H2 H4:=fun c zs e=>BY c _ (bV e FI ‹6›) (xE c _ e);have Y6:Same H H4:=fun b u e=>BY b u (aD e Si) (xE b u (AO b u e));have dw4:=dw.mono tu4;refine⟨_,rfl,wl,rfl,⟨_,XQ YH⟩,fun D2 nv=>?_⟩;refine bN (n:=ws.length) (fun i ys H5=>H5 D2=some (.lst ys)/\DpL H4 ((((bQ f pl).take i).filter fun r=>decide (¬ r.1∈pl++cB f pl)).map wH) ys/\Same H4 H5) ⟨ak,.nil,X6 nv⟩ ?_ ?_
      ·rintro ys H5 ⟨i0,dy,pz⟩;rw [ay ‹21›] at dy;refine⟨⟨_,XQ (pz wl _ YH),af _⟩,?_⟩
       have el:(bQ f pl).filter (λr=>decide (¬r.1∈pl++cB f pl))=bQ f (pl++cB f pl):=by
        unfold bQ;rw[List.filter_filter];apply List.filter_congr;intro r _
        by_cases h1:r.1∈pl
        ·simp[h1]
        ·simp[h1]
       rw[el]at dy;have Fn:(bQ f (pl++cB f pl)).length<=(bQ f pl).length:=by rw[<- el];exact eS _ _
       have HK:2*(bQ f (pl++cB f pl)).length+(if((cB f pl).map V.str).isEmpty=true then 0 else 1)<2*(bQ f pl).length+1:=by
        cases UX:cB f pl with
        |nil=>
         rw[UX]at Fn;simp
        |cons x0 xr=>
         have:(bQ f (pl++cB f pl)).length<(bQ f pl).length:=by
          rw[<- el];have hx0:x0∈cB f pl:=by rw[UX];exact aS
          obtain⟨r,fA,e⟩:=bE.mp hx0;have AN:=(dP.mp fA).1;refine Nat.lt_of_le_of_ne (eS _ _) λe2=>?_;have:=List.length_filter_eq_length_iff.mp e2 r AN;have:=eI this;exact this (dQ _ (by show r.1∈_;rw[show r.1=x0 from e];exact hx0))
         rw[UX]at this;simp;omega
       refine⟨_,HK,pl++cB f pl,D2,D1,ys,(cB f pl).map V.str,_,rfl,pz pd _ JE,Tm,i0,dy.mono (XX pz),pz D1 _ (BY D1 _ pdD.symm DS),λh=>?_,rfl,Y6.trans pz⟩;have UX:cB f pl=[]:=List.map_eq_nil_iff.mp h;apply gx;intro wn;obtain⟨r,fA⟩:=List.exists_mem_of_ne_nil _ wn;obtain⟨h1,h2⟩:=dP.mp fA;have h2:=eI h2;have IJ:¬r.1∈pl:=λz=>h2 (i7 _ z);obtain⟨r',NE,hr2',PF⟩:=G8 gf pl h1 IJ;have:r'.1∈cB f pl:=bE.mpr ⟨r',dP.mpr ⟨dP.mpr ⟨NE,aw hr2'⟩,fb.mpr λe he=>aw (PF e he)⟩,rfl⟩;rw[UX]at this;cases this
      ·rintro i ys H5 hi ⟨i0,dy,pz⟩;have zd:i < (bQ f pl).length:=by omega
       obtain⟨y,ey,WC⟩:=dw4.get (i:=i) (t:=wH (bQ f pl)[i]) (by rw[bS,ac zd];rfl);obtain⟨q,e,rfl,hq,he⟩:=K26.F.Dp.xg WC;refine⟨⟨_,_,XQ (pz wl _ YH),ey⟩,?_⟩;rintro z H6 ⟨rfl,yy⟩ gi ho;obtain⟨oo,rfl⟩:=eP ho;have ez:=yy _ (XQ (pz wl _ YH));rw[ey]at ez;cases ez
       have EX:ys.length<=7:=by
        rw[dy.length,aa];refine dq (eS _ _) ?_;rw[bj];omega
       have Y8:((bQ f pl).take (i+1)).filter (λr=>decide (¬r.1∈pl++cB f pl))=((bQ f pl).take i).filter (λr=>decide (¬r.1∈pl++cB f pl))++(if decide (¬((bQ f pl)[i]).1∈pl++cB f pl)=true then[(bQ f pl)[i]]else[]):=by
        rw[take_snoc zd,iX];congr 1;rw[fm];rfl
       refine⟨‹9›,_,rfl,q,_,_,_,rfl,rfl,XR (pz q _ hq),rfl,_,rfl,pd,_,rfl,uO.k (k:=.inr ((bQ f pl)[i]).1) (pz pd _ JE),_,rfl,?_⟩;cases Ap:(eU (jo (pl++cB f pl)) (.inr ((bQ f pl)[i]).1)).isSome with
       |true=>
        have hm:=(oV _ _).mp Ap;refine iu (bG hi ⟨i0,?_,pz⟩);rw[Y8,dC (λh=>(eI h) hm),dm];exact dy
       |false=>
        have hm:¬((bQ f pl)[i]).1∈pl++cB f pl:=λh=>by rw[(oV _ _).mpr h]at Ap;cases Ap
        refine jq ⟨_,rfl,by omega,i0,bG hi ⟨ak,?_,λb u e'=>?_⟩⟩
        ·rw[Y8,dL (aw hm),av];exact dy.append (.cons WC .nil)
        ·rw[aB (aD e' nv)];exact pz b _ e'
    ·rintro i ys H3 hi ⟨rfl,DS,xE⟩;have zd:i < (bQ f pl).length:=by omega
     obtain⟨y,ey,WC⟩:=(dw.mono (XX xE)).get (i:=i) (t:=wH (bQ f pl)[i]) (by rw[bS,ac zd];rfl);obtain⟨q,e,rfl,hq,he⟩:=K26.F.Dp.xg WC;refine⟨⟨_,_,XQ (xE wl _ SV),ey⟩,?_⟩;rintro z H4 ⟨rfl,yy⟩ gi ho;obtain⟨oo,oo',rfl⟩:=Xa ho;have ez:=yy _ (XQ (xE wl _ SV));rw[ey]at ez;cases ez
     have EX:(((((bQ f pl).take i).filter λr=>r.2.all λe=>decide (e∈pl)).map (·.1)).map V.str).length<=7:=by
      rw[aa,aa];refine dq (eS _ _) ?_;rw[bj];omega
     have Y8:((bQ f pl).take (i+1)).filter (λr=>r.2.all λe=>decide (e∈pl))=((bQ f pl).take i).filter (λr=>r.2.all λe=>decide (e∈pl))++(if(((bQ f pl)[i]).2.all λe=>decide (e∈pl))=true then[(bQ f pl)[i]]else[]):=by
      rw[take_snoc zd,iX];congr 1;rw[fm];rfl
     refine⟨q,_,rfl,XR hq,rfl,_,_,rfl,_,_,rfl,rfl,⟨[_,_],rfl,rfl⟩,_,rfl,e,rfl,⟨_,XR he⟩,λD3 hD3'=>?_⟩;have s5:∀o,Same H4 (upd H4 D3 o):=λo=>X6 hD3';have el7:=gf.el _ (dP.mp (bX zd)).1;refine bN (n:=(((bQ f pl)[i]).2.map V.str).length) (λj bs H5=>bs=((((bQ f pl)[i]).2.take j).map λe=>decide (e∈pl)).map V.bl/\H5=upd H4 D3 (.lst bs)) ⟨rfl,rfl⟩ ?_ ?_
     ·rintro bs H5 ⟨rfl,rfl⟩;rw [ay (by rw [aa]; exact af _)];refine⟨⟨_,XR (s5 _ e _ he),af _⟩,D3,_,rfl,XQ ak,_,rfl,?_⟩
      have eall:((((bQ f pl)[i]).2.map λe=>decide (e∈pl)).all id)=((bQ f pl)[i]).2.all λe=>decide (e∈pl):=by
       rw[List.all_map];rfl
      rw[eall];cases hX:(((bQ f pl)[i]).2.all λe=>decide (e∈pl))with
      |true=>
       refine jq ⟨_,rfl,by omega,s5 _ D1 _ DS,bG hi ⟨?_,ak,λb u e'=>?_⟩⟩
       ·rw[Y8,hX,dL rfl,av,av];rfl
       ·rw[aB (aD e' hC)];exact s5 _ b _ (xE b _ e')
      |false=>
       refine iu (bG hi ⟨?_,s5 _ D1 _ DS,xE.trans (s5 _)⟩);rw[Y8,hX,dC az,dm]
     ·rintro j bs H5 hj ⟨rfl,rfl⟩;have Co:j < ((bQ f pl)[i]).2.length:=by rw [aa] at hj; exact hj
      have ej:(((bQ f pl)[i]).2.map V.str)[j]?=some (.str ((bQ f pl)[i]).2[j]):=by rw[bS,ac Co];rfl
      refine⟨⟨_,_,XR (s5 _ e _ he),ej⟩,?_⟩;rintro y5 H6 ⟨rfl,yy⟩ YB YC;obtain⟨o5,rfl⟩:=eP YC;have ey5:=yy _ (XR (s5 _ e _ he));rw[ej]at ey5;cases ey5;refine⟨‹9›,dh ⟨_,rfl,_,rfl,pd,_,rfl,uO.k (k:=.inr ((bQ f pl)[i]).2[j]) (s5 _ pd _ (xE pd _ FI)),by rw[aa,aa,bj];omega,ak,bG hj ⟨?_,by rw[gM]⟩⟩⟩;rw[take_snoc Co,av,av];congr 1;show[V.bl (eU (jo pl) (.inr ((bQ f pl)[i]).2[j])).isSome]=[V.bl (decide (((bQ f pl)[i]).2[j]∈pl))];congr 2;apply gN.mpr;rw[oV,oP]
theorem Mg.yQ{r:Option LS}(h:Mg ah r):∀os,r=some os->(∀y∈os,∃q∈ah,y∈q)/\os.Nodup:=by
 induction h with
 |nil=>
  intro os e;cases e;exact⟨by simp,j0⟩
 |stuck _ _=>
  intro os e;cases e
 | @step ah x ba r hf _ ih=>
  intro os e;cases r with
  |none=>cases e
  |some GH=>
   cases e;obtain⟨h1,h2⟩:=ih GH rfl
   have IR:∀y∈GH,y≠x/\∃q∈ah,y∈q:=λy hy=>by
    obtain⟨q,hq,GY⟩:=h1 y hy;obtain⟨sw,_⟩:=dP.mp hq;obtain⟨q0,NH,rfl⟩:=bE.mp sw;obtain⟨a,b⟩:=dP.mp GY;exact⟨eI b,q0,NH,a⟩
   refine⟨λy hy=>?_,fg.mpr ⟨λh=>(IR x h).1 rfl,h2⟩⟩;rcases aT.mp hy with rfl|h
   ·obtain ⟨q,hq,hh⟩:=uy (by rw [hf]; exact aS);refine⟨q,hq,?_⟩;cases q with
    |nil=>cases hh
    |cons z q=>
     cases hh;exact aS
   ·exact(IR y h).2
theorem Kv{f:rh}(G:ud f):∀x∈iq f,∀o,iI f x=some o->o≠[]/\(∀y∈o,y∈iq f)/\o.length<=8:=by
 obtain⟨top,t0,t1,t2⟩:=G.Qu
 have y8:∀(j:Nat) (x:Str),top[j]?=some x->∀o,iI f x=some o->o≠[]/\(∀y∈o,y∈iq f)/\o.length<=8:=by
  intro j
  induction j using Nat.strongRecOn with
  |ind j ih=>
   intro x hx o ho;have hxn:x∈iq f:=(t1 x).mp (gE hx);obtain⟨r,hr,rfl⟩:=bE.mp hxn;rw[Hz G hr]at ho;split at ho
   ·rename_i hX
    obtain⟨j',h1,h2⟩:=t2 r hr;have ej:=Dq t0 hx h1;subst ej;cases hm:wM (bP (dZ (iI f) r.2))with
    |none=>rw[hm]at ho;cases ho
    |some os=>
     rw[hm]at ho;cases ho
     have hM:∃q,Mg (bP (dZ (iI f) r.2)) q:=by
      apply gx;intro hn;unfold wM at hm;rw[dif_neg hn]at hm;cases hm
     obtain⟨q,hq⟩:=hM;have eq:=qH hq;rw[hm]at eq;subst eq;obtain⟨h3,h4⟩:=Mg.yQ hq os rfl
     have sub:∀y∈os,y∈iq f:=λy hy=>by
      obtain⟨q,L8,GY⟩:=h3 y hy;have L8:=(dP.mp L8).1;unfold dZ at L8;rcases bu.mp L8 with h|h
      ·obtain⟨e,he,rfl⟩:=bE.mp h;obtain⟨i,hi,ei⟩:=nH (h2 e he);have hs:=fb.mp hX e he;obtain⟨oe,hoe⟩:=iO.mp hs;rw[hoe]at GY;exact(ih i hi e ei oe hoe).2.1 y GY
      ·rw[bg.mp h]at GY;exact G.sub r hr y GY
     refine⟨bc _ _,λy hy=>?_,?_⟩
     ·rcases aT.mp hy with rfl | h
      ·exact hxn
      ·exact sub y h
     ·have h5:=fK h4 (m:=iq f) sub;have h6:(iq f).length=f.length:=aa _;have:=G.len;rw[aI];omega
   ·cases ho
 intro x hx;obtain⟨j,hj,e⟩:=fc ((t1 x).mpr hx);exact y8 j x (by rw[ac hj,e])
def uZ(H:Hp)(kvs:sg)(f:rh):Prop:=Paired (λ(kv:ga×V) (r:Str×LS)=>kv.1=.inr r.1/\∃e,kv.2=.ref e/\H e=some (.tup (r.2.map V.str))) kvs f
theorem uZ.keys{f:rh}(h:uZ H kvs f):kvs.map (·.1)=(iq f).map By:=by
 induction h with
 |nil=>rfl
 |cons r _ ih=>exact congr (congrArg List.cons r.1) ih
theorem uZ.get{H:Hp}:∀{kvs:sg} {f:rh},uZ H kvs f->(iq f).Nodup->∀r∈f,∃e,eU kvs (.inr r.1)=some (.ref e)/\H e=some (.tup (r.2.map V.str))
 |_,_,.nil,_,r,hr=>nomatch hr
 |(k,v)::kvs,r0::f,.cons q t,nd,r,hr=>by
  have NN:(r0.1::iq f).Nodup:=nd;obtain⟨n1,n2⟩:=fg.mp NN;obtain⟨e1,e,e2,e3⟩:=q;rcases aT.mp hr with rfl|h
  ·exact⟨e,by rw[gJ (p:=(k,v)) e1];exact congrArg some e2,e3⟩
  ·obtain⟨e',h1,h2⟩:=uZ.get t n2 r h;refine⟨e',?_,h2⟩;rw[fZ (p:=(k,v)),h1];intro z;have z:k=By r.1:=z;have e1:k=By r0.1:=e1;rw[e1]at z;injection z with z;exact n1 (z ▸ bE.mpr ⟨r,h,rfl⟩)
theorem Bl:∀(ba cv:sg),((cv++ba).map (·.1)).Nodup->jU cv ba=cv++ba
 |[],cv,_=>by rw[dm];rfl
 |(k,v)::ba,cv,nd=>by
  have hn:eU cv k=none:=by
   cases q:eU cv k with
   |none=>rfl
   |some y=>
    exfalso
    have h1:(eU cv k).isSome=true:=by rw[q];rfl
    rw[nC]at h1;have h2:=h1;rw[av,ci]at nd;exact(iA.mp nd).2.2 k h2 k aS rfl
  show jU (db cv k v) ba=_;rw[DP v hn,Bl ba (cv++[(k,v)]) (by rw[dE];exact nd),dE];rfl
theorem K8{f:rh}(dl:DpL H (f.map wH) xs):∃kvs,BX H xs kvs/\uZ H kvs f:=by
 induction f generalizing xs with
 |nil=>
  rw[dl.eO];exact⟨[],⟨rfl,λi kv h=>by simp at h⟩,.nil⟩
 |cons r f ih=>
  obtain⟨x,rest,rfl,d,zh⟩:=dl.cases;obtain⟨kvs,h1,h2⟩:=ih zh;obtain⟨q,e,rfl,hq,he⟩:=K26.F.Dp.xg d;refine⟨(.inr r.1,.ref e)::kvs,⟨by rw[aI,aI,h1.1],λi kv h=>?_⟩,.cons ⟨rfl,e,rfl,he⟩ h2⟩;cases i with
  |zero=>
   cases h;exact⟨q,rfl,hq⟩
  |succ i=>exact h1.2 i kv h
theorem uZ.len{f:rh}(h:uZ H kvs f):kvs.length=f.length:=cE h
theorem uZ.merge{f:rh}(h:uZ H kvs f)(nd:(iq f).Nodup):jU [] kvs=kvs:=by
 refine Bl kvs [] ?_;rw[gy,h.keys];exact wR (λa _ b _ e=>by injection e) nd
theorem Il{f:rh}(G:ud f){r:Str×LS}(hr:r∈f)(hX:∀x∈r.2,(iI f x).isSome=true):lm (dZ (iI f) r.2)<=100/\(dZ (iI f) r.2).length<=8/\((∀q∈dZ (iI f) r.2,q≠[])\/∀q∈dZ (iI f) r.2,q=[]):=by
 have e7:=G.el r hr
 have ord:∀x∈r.2,∃o,iI f x=some o/\o≠[]/\o.length<=8:=λx hx=>by
  obtain⟨o,ho⟩:=iO.mp (hX x hx);obtain⟨h1,_,h3⟩:=Kv G x (G.sub r hr x hx) o ho;exact⟨o,ho,h1,h3⟩
 have tl:∀es:LS,(∀x∈es,x∈r.2)->lm (es.map λe=>(iI f e).getD [])<=8*es.length:=by
  intro es
  induction es with
  |nil=>exact λ_=>af _
  |cons x es ih=>
   intro h;rw[ci,jE,aI];obtain⟨o,ho,_,h3⟩:=ord x (h x aS);have:=ih λy hy=>h y (cf _ hy);have:((iI f x).getD []).length<=8:=by rw[ho];exact h3
   omega
 have ta:lm (dZ (iI f) r.2)=lm (r.2.map λe=>(iI f e).getD [])+r.2.length:=by
  unfold dZ lm;rw[av,n9];simp
 refine⟨?_,?_,?_⟩
 ·rw[ta];have:=tl r.2 λ_ h=>h;omega
 ·unfold dZ;rw[ai,aa,cy];omega
 ·cases hes:r.2 with
  |nil=>
   right
   intro q hq;exact bg.mp hq
  |cons x0 xr=>
   left
   intro q hq;rw[<- hes]at hq;rcases bu.mp hq with h|h
   ·obtain⟨x,hx,rfl⟩:=bE.mp h;obtain⟨o,ho,h1,_⟩:=ord x hx;rw[ho];exact h1
   ·rw[bg.mp h,hes];exact bc _ _
theorem Lx.f{f:rh}(G:ud f){r:Str×LS}(hr:r∈f)(hX:∀x∈r.2,(iI f x).isSome=true)(hm:Mg (bP (dZ (iI f) r.2)) (some os))(h:Lx H r.1 os q):Ah H f r.1 q:=by
 have e:=Hz G hr;rw[dL (fb.mpr hX),qH hm]at e;obtain⟨qo,h1,h2⟩:=h;exact⟨r.1::os,qo,e,h1,h2⟩
def KIn(kvs:sg)(f:rh):Prop:=∀k,(eU kvs k).isSome=true->∃x∈iq f,k=By x
inductive Ox (vs:LV) (H:Hp) (Q:VK) (E_:XK):Prop
 |mk (v:V) (f:rh):vs=[v]->Dp H (Qf f) v->ud f->(∀r∈f,∃os,Mg (bP (dZ (iI f) r.2)) (some os))->(∀(d:ax) (kvs:sg) H',H d=none->H' d=some (.dK kvs)->pK H' kvs f (·∈iq f)->KIn kvs f->kvs.length<=7->Same H H'->Q (.ref d) H')->Ox vs H Q E_
theorem Q8(D:Defs K mg t):aW P w K mg base bm 4 t.jx.1 t.jx.2 ["family"] Ox:=by
 have Gav:=@Bd P w K mg base t D;have Gbb:=@Ib P w K mg base t D;have Gcc:=@KN P w K mg base t D;have Gca:=@PL P w K mg base t D;have hz:ab=16777216:=cn;refine D.jx.fn.ok jB ‹4› ‹3›
 ·obtain⟨v,f,rfl,_⟩:=h;rfl
 ·obtain ⟨v,f,rfl,dv,gf,hord,k⟩:=h;obtain ⟨a,xs,rfl,ha,dl⟩:=L2.Dp.cR dv;obtain ⟨JI,VC,el⟩:=K8 dl;have hkl:JI.length=f.length:=el.len;have f7:=gf.len
  refine⟨_,(au (aU (i:=1) jB.nd rfl (uv rfl) (aY (Hx rfl) (by rfl) D.Uj QS ‹15›))
   (au (aU (i:=2) jB.nd rfl (uv rfl) qQ)
   (au (fG di rfl (dg (aH D.ig Gav ‹2› (by rfl) ‹15›)) (aO (i:=3) jB.nd rfl (uv rfl))
   (au (aU (i:=4) jB.nd rfl (uv rfl) (aH D.dH Gbb ‹2› (by rfl) (aj (oA (lF hr) (pv 1) (pv 3) ‹20›) (aj (pv 2) aq))))
   (aF (bL (aV tZ (pv 4) jz (aR _))
   (aF (rB (lF hr) (pv 2) (pv 3) (aH D.j7 Gca ‹2› (by rfl) (aj (pv 3) (aj (aH D.qZ Gcc ‹2› (by rfl) (aj (oA (lF hr) (pv 1) (pv 3) ‹20›) (aj (pv 2) aq))) aq))) rfl))
   (aF (rB (lF hr) (pv 2) (pv 3) (pv 4) rfl))))))
   (aF (aM (pv 2)))))),?_⟩
  refine⟨_,rfl,a,xs,JI,rfl,ha,VC,by omega,λd hd=>?_⟩;rw[el.merge gf.nd];exists 1,s1,GU,H,d,(.dK JI),hd,H1;intro td Y9;have s2:Same H1 (upd H1 td (.dK [])):=X6 Y9;have Za:(upd H1 td (.dK [])) td=some (.dK []):=ak
  have SW:H td=none:=by
   cases q:H td with
   |none=>rfl
   |some o=>
    rw[s1 td o q]at Y9;cases Y9
  have dtd:d≠td:=aD GU Y9;have htd1:=Y9;generalize upd H1 td (.dK [])=H2 at s2 Za;refine⟨_,rfl,.ref a,f,rfl,dv.mono (XX (s1.trans s2)),gf,λq pl H3 hq T SY s3=>⟨q,rfl,⟨_,XR hq⟩,?_⟩⟩;have Zb:=s3 d _ (s2 d _ GU);have Zc:=s3 td _ Za;have qtd:q≠td:=bV hq Zc ‹6›;have xE:Same H H3:=(s1.trans s2).trans s3
  refine nq (K:=N0) (a:=q) (xs:=pl.map V.str) (λi σ H4=>∃(kvs:sg) (v3 v4:OV),σ=[some (.ref a),some (.ref d),some (.ref td),v3,v4]/\H4 td=some (.dK kvs)/\(kvs.length<=i/\KIn kvs f)/\pK H4 kvs f (·∈pl.take i)/\∀b u,b≠td->H3 b=some u->H4 b=some u)
   ⟨[],_,_,rfl,Zc,⟨af _,(λk h=>nomatch h)⟩,by intro x hx;simp at hx,λb u _ e=>e⟩ (λi σ H4 _ ⟨_,_,_,_,_,_,_,kp⟩=>XR (kp q _ qtd hq)) ?_ ?_
  ·rintro i x σ H4 hi ⟨kvs,v3,v4,rfl,FK,⟨kl,ki⟩,uk,BY⟩
   have lb:i<pl.length:=by
    have:=(bo.mp hi).1
    rwa[aa]at this
   have ex:x=.str pl[i]:=by
    rw[bS,ac lb]at hi;exact(cS hi).symm
   subst ex;obtain⟨r,fA,er⟩:=bE.mp (T.sub _ (bX lb));have er:r.1=pl[i]:=er;rw[<- er];have Zd:∀e∈r.2,e∈pl.take i:=T.el i r fA (by rw[ac lb,er]);have Y6:Same H H4:=λb u e=>BY b u (aD e SW) (xE b u e);have Sk:=BY d _ dtd Zb;obtain⟨e,CH,xi⟩:=el.get gf.nd r fA;have Ze:=Y6 e _ xi;have gd:∀{H5:Hp},H5 d=some (.dK JI)->uO H5 d (.str r.1) (some (.ref e)):=λ{H5} h=>.inl ⟨JI,.inr r.1,.inl h,rfl,CH.symm⟩
   have plx:pl.length<=7:=by
    have h1:=fK T.nd (m:=iq f) T.sub;have h2:(iq f).length=f.length:=aa _;omega
   have JJ:pK H4 kvs f (·∈r.2):=λy hy=>uk y (Zd y hy)
   have Zf:∀(q5:ax) (H5:Hp) (v4:OV),Same H4 H5->Ah H5 f r.1 q5->∃(NS:sg) (v3' v4':OV),([some (.ref a),some (.ref d),some (.ref td),some (.str r.1),v4]:L2.St)=[some (.ref a),some (.ref d),some (.ref td),v3',v4']/\(upd H5 td (.dK (db kvs (.inr r.1) (.ref q5)))) td=some (.dK NS)/\(NS.length<=i+1/\KIn NS f)/\pK (upd H5 td (.dK (db kvs (.inr r.1) (.ref q5)))) NS f (·∈pl.take (i+1))/\∀b u,b≠td->H3 b=some u->(upd H5 td (.dK (db kvs (.inr r.1) (.ref q5)))) b=some u:=λq5 H5 v4 s5 ht=>by
    have tu:fH H5 (upd H5 td (.dK (db kvs (.inr r.1) (.ref q5)))):=λc zs e'=>by
     rw[aB (bV e' (s5 td _ FK) ‹6›)];exact e'
    refine⟨_,_,_,rfl,ak,⟨?_,λz hz=>?_⟩,λy hy=>?_,λb u hb e'=>by rw[aB hb];exact s5 b _ (BY b u hb e')⟩
    ·have:=jr kvs (.inr r.1) (.ref q5);omega
    ·rw [zE] at hz
     by_cases hzr:z=By r.1
     ·exact⟨r.1,bE.mpr ⟨r,fA,rfl⟩,hzr⟩
     ·rw[dC hzr]at hz;exact ki z hz
    ·rw [zE]
     by_cases hyr:y=r.1
     ·subst hyr;exact⟨q5,dL rfl,ht.mono tu⟩
     ·rw [take_snoc lb] at hy;rcases bu.mp hy with h | h
      ·obtain⟨q6,h1,h2⟩:=uk y h;exact⟨q6,by rw[dC (by intro z;injection z with z;exact hyr z)];exact h1,(h2.mono (XX s5)).mono tu⟩
      ·exact absurd ((bg.mp h).trans er.symm) hyr
   have hX:∀x∈r.2,(iI f x).isSome=true:=λx hx=>by
    obtain⟨_,_,o,_,ho,_⟩:=JJ x hx;rw[ho];rfl
   refine⟨_,rfl,_,rfl,d,.ref e,rfl,gd Sk,_,rfl,e,td,r.2,kvs,f,rfl,Ze,.inl FK,JJ,?_⟩;refine‹8›;obtain⟨t1,t2,t3⟩:=Il gf fA hX;refine⟨_,rfl,_,rfl,_,rfl,d,.ref e,rfl,gd Sk,_,rfl,e,td,r.2,kvs,f,rfl,Ze,.inl FK,JJ,hX,by have:=gf.el r fA;omega,λq5 us5 H5 hq5 rt5 s5=>?_⟩;refine⟨r.1,q5,us5,dZ (iI f) r.2,rfl,hq5,rt5,t3,by omega,by omega,hord r fA,λq6 m H6 hm ht s6=>?_⟩;refine⟨_,rfl,_,rfl,td,_,rfl,zQ.k (k:=.inr r.1) ((s5.trans s6) td _ FK) ‹21›,?_⟩;exact Zf q6 H6 _ (s5.trans s6) (ht.f gf fA hX hm)
  ·rintro σ H4 ⟨kvs,v3,v4,rfl,FK,⟨kl,ki⟩,uk,BY⟩;rw [aa] at kl uk;rw [ay (af _)] at uk
   have plx:pl.length<=7:=by
    have h1:=fK T.nd (m:=iq f) T.sub;have h2:(iq f).length=f.length:=aa _;omega
   exact⟨_,rfl,k td kvs H4 SW FK (λx hx=>uk x (SY x hx)) ki ‹21› λb u e=>BY b u (aD e SW) (xE b u e)⟩
def Q6:ga->Str
 |.inr x=>x
 |.inl _=> ""
inductive yF (vs:LV) (H:Hp) (Q:VK) (E_:XK):Prop
 |mk (e d:ax) (es:LS) (kvs:sg) (f:rh):vs=[.ref e,.ref d]->H e=some (.lst (es.map V.str))->Rd H d (.dK kvs)->pK H kvs f (·∈es)->Q .non H->yF vs H Q E_
theorem Ed(D:Defs K mg t):aW P w K mg base bm 1 t.dH.1 t.dH.2 ["kinds","told"] yF:=by
 refine D.dH.fn.ok jL ‹4› ‹3›
 ·obtain⟨e,d,es,kvs,f,rfl,_⟩:=h;rfl
 ·obtain ⟨e,d,es,kvs,f,rfl,he,hd,uk,k1⟩:=h
  refine⟨_,(au (fG di rfl (iB (pv 0)) (aO (i:=2) jL.nd rfl (uv rfl))
   (aF (bL (aV cO (bf bB (oA (lF hr) (pv 1) (pv 2) ‹20›) aG ‹20›) aP (aR _))
   (aF (aM (oA (lF hr) (pv 1) (pv 2) ‹20›)))
   aX)))
   (aF (aM jz))),?_⟩
  refine⟨_,rfl,e,rfl,⟨_,XQ he⟩,vW (K:=N0) (a:=e) (xs:=es.map V.str) (λi σ H2=>∃v2:OV,σ=[some (.ref e),some (.ref d),v2]/\H2=H)
   ⟨_,rfl,rfl⟩ (λi σ H2 _ ⟨_,_,e2⟩=>by rw[e2];exact XQ he) ?_ ?_⟩
  ·rintro i v σ H2 hi ⟨v2,rfl,rfl⟩
   have lb:i<es.length:=by
    have:=(bo.mp hi).1
    rwa[aa]at this
   have ev:v=.str es[i]:=by
    rw[bS,ac lb]at hi;exact(cS hi).symm
   subst ev;have hm:es[i]∈es:=bX lb;obtain⟨q,hv,ht⟩:=uk es[i] hm;have gd:uO H2 d (.str es[i]) (some (.ref q)):=.inl ⟨kvs,.inr es[i],hd,rfl,hv.symm⟩;obtain⟨o,qo,h1,h2,h3⟩:=ht;exact⟨_,rfl,_,rfl,d,.ref q,rfl,gd,q,_,_,_,rfl,rfl,XR h2,rfl,rfl,_,rfl,aL (by rw[cw (by intro h;injection h with h;exact yI h)];exact az) ⟨_,rfl,rfl⟩⟩
  ·rintro σ H2 ⟨v2,rfl,rfl⟩;exact k1
inductive Mf (vs:LV) (H:Hp) (Q:VK) (E_:XK):Prop
 |mk (d:ax) (kvs:sg) (f:rh):vs=[.ref d]->H d=some (.dK kvs)->pK H kvs f (·∈iq f)->KIn kvs f->(∀H',Same H H'->Q (.bl false) H')->Mf vs H Q E_
theorem QC(D:Defs K mg t):aW P w K mg base bm 2 t.jA.1 t.jA.2 ["told"] Mf:=by
 have Gbb:=@Ed P w K mg base t D;refine D.jA.fn.ok za ‹4› ‹3›
 ·obtain⟨d,kvs,f,rfl,_⟩:=h;rfl
 ·obtain ⟨d,kvs,f,rfl,hd,uk,ki,k⟩:=h;have y8:∀ kv∈kvs,∃ x∈iq f,kv.1=By x:=fun kv S0=>ki kv.1 (nC.mpr (nE S0))
  have ek:(kvs.map λkv=>kV kv.1)=(kvs.map λkv=>Q6 kv.1).map V.str:=by
   rw[kQ];refine kz λkv S0=>?_;obtain⟨x,_,e⟩:=y8 kv S0;show kV kv.1=V.str (Q6 kv.1);rw[e];rfl
  have sub:∀x∈(kvs.map λkv=>Q6 kv.1),x∈iq f:=λx hx=>by
   obtain⟨kv,S0,rfl⟩:=bE.mp hx;obtain⟨x,hx,e⟩:=y8 kv S0;rw[e];exact hx
  refine⟨_,(aF (aM (cL Iu (aH D.dH Gbb ‹2› (by rfl) (aj (aY (G7 rfl) (by rfl) D.lO ji ‹15›) ‹15›)) jz (aR _)))),?_⟩;refine⟨_,rfl,d,kvs,rfl,.inl hd,λl hl=>?_⟩;have s1:Same H (upd H l (.lst (kvs.map λkv=>kV kv.1))):=X6 hl;have fq:(upd H l (.lst (kvs.map λkv=>kV kv.1))) l=some (.lst ((kvs.map λkv=>Q6 kv.1).map V.str)):=by rw[ak,ek]
  generalize upd H l (.lst (kvs.map λkv=>kV kv.1))=H1 at s1 fq;refine⟨_,rfl,l,d,_,kvs,f,rfl,fq,.inl (s1 d _ hd),(λx hx=>(uk.mono (XX s1)) x (sub x hx)),⟨rfl,?_⟩⟩;show Q (V.bl !decide (V.non=V.non)) H1;rw[aw rfl];exact k H1 s1
end
end K26.F
end
section
namespace L2
open PySem PySem.Spec PyProof.Rows
variable {X:Cx}
noncomputable def Gd:ga->Xw
 |.inl i=>.int i
 |.inr x=>.str x
inductive Ws (x:V) (y:V) (H:Hp) (Q:VK):Prop
 |mk (c j:_):x=.str ⟨#[c]⟩->y=.str j->Q (.bl (decide (c∈j.cps.toList))) H->Ws x y H Q
theorem Od:OpR X (yo .In) Ws:=by
 intro ag s σ H x y v u Q I rx ry h;obtain⟨c,j,rfl,rfl,q⟩:=h;obtain⟨t,rfl⟩:=rx;obtain⟨t',rfl⟩:=ry;refine in_str ⟨.bl _,H,I,rfl,?_⟩;rw[PySem.StrLaws.found_one];exact q
def Asc(x:Str):Prop:=x.cps.all (· <128)=true
theorem Asc.of{x:Str}(h:∀c∈x.cps.toList,c<128):Asc x:=Array.all_eq_true_iff_forall_mem.mpr λc hc=>aw (h c (mi.mpr hc))
mutual
def gd:Xw->Prop
 |.none|.bool _=>True
 |.int i=>(0<=i/\i<1000000000)\/i=-1\/i=-3
 |.str x=>x.length<=4000/\Asc x
 |.list xs|.tuple xs=>gdA xs
 |.dict kvs=>gdK kvs
def gdA:LP->Prop
 |[]=>True
 |d::ds=>gd d/\gdA ds
def gdK:List (Xw×Xw)->Prop
 |[]=>True
 |(k,v)::r=>gd k/\gd v/\gdK r
end
mutual
def wt:Xw->Nat
 |.none|.bool _|.int _=>1
 |.str x=>x.length+1
 |.list xs|.tuple xs=>1+wtA xs
 |.dict kvs=>1+wtK kvs
def wtA:LP->Nat
 |[]=>0
 |d::ds=>wt d+wtA ds
def wtK:List (Xw×Xw)->Nat
 |[]=>0
 |(k,v)::r=>wt k+wt v+wtK r
end
end L2
end
section
namespace K26
open PySem PyProof.Rows L2 F
variable {ks:List KR}
structure zo (mg:MG):Prop where
 Lh:∃tk,mg "LETTERS" =some (.str abc tk)
 JW:∃tk,mg "FIGURES" =some (.str "0123456789" tk)
 zG:∃tk,mg "MOST_LETTERS" =some (.int 6 tk)
 Bv:∃tk,mg "MOST_KINDS" =some (.int 7 tk)
 Dk:∃tk,mg "MOST_NAMES" =some (.int 3 tk)
 zL:∃tk,mg "MOST_NUMBER" =some (.int 999999999 tk)
 Gk:∃tk,mg "MOST_ARGS" =some (.int 3 tk)
 zN:∃tk,mg "MOST_WITHIN" =some (.int 4 tk)
 zM:∃tk,mg "MOST_BLOCKS" =some (.int 3 tk)
 vQ:∃tk,mg "MOST_STATEMENTS" =some (.int 16 tk)
 OJ:∃tk,mg "MOST_X" =some (.int 20 tk)
 Dv:∃tk,mg "MOST_DEEDS" =some (.int 8 tk)
theorem Ez(x:Str):(x.cps.toList.map λc=>decide (c∈abc.cps.toList)).all id=wo (Lw x):=by
 refine wJ ?_;rw[List.all_map,fb];exact⟨λh c hc=>eI (h c hc),λh c hc=>aw (h c hc)⟩
theorem Zg{α:Type}{F:V->α->Prop}:∀{vs:LV} {ah:List α},Paired F vs ah->∀{i:Nat} (h:i<ah.length),∃v,vs[i]?=some v/\F v ah[i]
 |_,_,.nil,i,h=>absurd h (oq _)
 |_,_,.cons a r,0,_=>⟨_,rfl,a⟩
 |_,_,.cons a r,i+1,h=>by
  obtain⟨v,e,q⟩:=Zg r (i:=i) (Nat.lt_of_succ_lt_succ h);exact⟨v,e,q⟩
section
variable {P:vy}{w:xm}{K:PySem.W.Frag}{mg:MG}{base:Heap}{t:tT}
inductive Ir (vs:LV) (H:Hp) (Q:VK) (E_:XK):Prop
 |mk (a:ax) (xs:LV) (n:Nat):vs=[.ref a,.int n]->H a=some (.tup xs)->Q (.bl (decide ((xs.length:Int)=n))) H->Ir vs H Q E_
theorem Gu(D:Defs K mg t):aW P w K mg base bm 1 t.iD.1 t.iD.2 ["thing","many"] Ir:=by
 refine D.iD.fn.ok zf ‹4› ‹3›
 ·obtain⟨a,xs,n,rfl,_⟩:=h;rfl
 ·obtain⟨a,xs,n,rfl,ha,k⟩:=h;refine⟨_,(aF (aM (rK (aN eX (by rfl) D.cH cD (aj (pv 0) (aj (iz (v:=V.ty "tuple") rfl D.dB cP rfl) aq))) (rH (cL cO (aN bJ (by rfl) D.cW cg ‹15›) (pv 1) (aR _)))))),?_⟩;refine⟨_,rfl,_,_,_,true,rfl,.tup ha,gG N0 "tuple",_,rfl,jq ⟨_,rfl,a,_,rfl,.inr (XR ha),_,rfl,rfl,?_⟩⟩;have e:decide (V.int xs.length=V.int n)=decide ((xs.length:Int)=n):=decide_eq_decide.mpr ⟨fun z=>by injection z,fun z=>by rw[z]⟩;rw[e];exact k
inductive Gp (vs:LV) (H:Hp) (Q:VK) (E_:XK):Prop
 |mk (x:Str) (q:ax) (ks:LS):vs=[.str x,.ref q]->H q=some (.tup (ks.map V.str))->Q (.bl (decide (x∈ks))) H->Gp vs H Q E_
theorem Ak(D:Defs K mg t):aW P w K mg base bm 1 t.pU.1 t.pU.2 ["thing","kinds"] Gp:=by
 refine D.pU.fn.ok Ii ‹4› ‹3›
 ·obtain⟨x,q,ks,rfl,_⟩:=h;rfl
 ·obtain⟨x,q,ks,rfl,hq,k⟩:=h;refine⟨_,(aF (aM (rK (aN eX (by rfl) D.cH cD (aj (pv 0) (aj (iz (v:=V.ty "str") rfl D.pQ lM rfl) aq))) (rH (cL Cm (pv 0) (pv 1) (by with_unfolding_all rfl)))))),?_⟩;refine⟨_,rfl,_,_,_,true,rfl,.str x,gG N0 "str",_,rfl,jq ⟨_,rfl,_,rfl,q,_,rfl,.inr (XR hq),rfl,lY _,?_⟩⟩;show Q (.bl (Iy (.str x) (ks.map V.str))) H;rw[pH];exact k
inductive R6 (vs:LV) (H:Hp) (Q:VK) (E_:XK):Prop
 |mk (b a:ax) (es ks:LS):vs=[.ref b,.ref a]->H b=some (.tup (es.map V.str))->H a=some (.tup (ks.map V.str))->ks.length<=100->(∀e∈es,e∈ks)->es.Nodup->(∀H',Same H H'->Q (.bl true) H')->R6 vs H Q E_
theorem Oj(D:Defs K mg t):aW P w K mg base bm 2 t.lB.1 t.lB.2 ["thing","kinds"] R6:=by
 have Gaz:=@Ak P w K mg base t D;have hz:ab=16777216:=cn;refine D.lB.fn.ok Dy ‹4› ‹3›
 ·obtain⟨b,a,es,ks,rfl,_⟩:=h;rfl
 ·obtain ⟨b,a,es,ks,rfl,kD,ha,hk,sub,nd,k⟩:=h
  refine⟨_,(au (bL (XN (kZ (gH (fB (aN eX (by rfl) D.cH cD (aj (pv 0) (aj (iz (v:=V.ty "tuple") rfl D.dB cP rfl) aq))))) (je (aV qO (aN bJ (by rfl) D.cW cg ‹15›) (aN bJ (by rfl) D.cW cg ‹14›) (aR _)))))
   (aF (aM jP))
   aX)
   (au (bL (gH (fB (aN (iV rfl) (by rfl) D.sY oW (aj (cI rfl (X7 ["part"] [1] ["part","kinds"] (aJ (top 10)) ["thing","kinds"] rfl rfl ‹1›) ⟨fun _ _ _ _ _=>(aO (i:=0) (show List.Nodup [("part":Str),("kinds":Str)]by decide +kernel) rfl ‹16› ‹13›),fun _ _ _ _ _=>cJ,fun _ _ _ _ _=>(aH D.pU Gaz ‹2› (by rfl) (aj (pv 0) ‹14›))⟩ (dg (pv 0))) aq))))
   (aF (aM jP))
   aX)
   (aF (aM (cL cO (aN qx (by rfl) D.cW cg (aj (aY (wV rfl) (by rfl) D.M5 Hi ‹15›) aq)) (aN bJ (by rfl) D.cW cg ‹15›) (aR _)))))),?_⟩
  have el:=fK nd (m:=ks) sub;refine⟨_,rfl,_,_,_,true,rfl,.tup kD,gG N0 "tuple",_,rfl,iu ⟨_,rfl,b,_,rfl,.inr (XR kD),_,rfl,a,_,rfl,.inr (XR ha),_,_,rfl,rfl,_,rfl,?_⟩⟩;rw[aa,aa];refine aL (by rw[cw (show¬((es.length:Int) >(ks.length:Int))by omega)];exact az) ?_;refine⟨_,rfl,b,rfl,⟨_,XR kD⟩,fun Dd hD=>?_⟩;have sD:∀o,Same H (upd H Dd o):=fun o=>X6 hD;refine bN (n:=(es.map V.str).length) (fun i ys H2=>ys=(List.replicate i true).map V.bl/\H2=upd H Dd (.lst ys)) ⟨rfl,rfl⟩ ?_ ?_
  ·rintro ys H2 ⟨rfl,rfl⟩;have s2:=sD (.lst ((List.replicate (es.map V.str).length true).map V.bl));refine⟨⟨_,XR (s2 b _ kD),af _⟩,Dd,_,rfl,XQ ak,_,rfl,?_⟩;have hX:(List.replicate (es.map V.str).length true).all id=true:=by simp
   rw[hX];generalize upd H Dd (.lst ((List.replicate (es.map V.str).length true).map V.bl))=H2 at s2;refine iu ⟨_,rfl,b,es,rfl,.inr (XR (s2 b _ kD)),by omega,λsd S1=>?_⟩;refine⟨sd,_,rfl,ak,_,rfl,b,_,rfl,.inr (XR (X6 S1 b _ (s2 b _ kD))),rfl,?_⟩;rw[aa,aw (by rw[(HW es).mpr nd])];exact k _ (s2.trans (X6 S1))
  ·rintro i ys H2 hi ⟨rfl,rfl⟩;have lb:i < es.length:=by rw [aa] at hi; exact hi
   have ey:(es.map V.str)[i]?=some (.str es[i]):=by rw[bS,ac lb];rfl
   have s2:=sD (.lst ((List.replicate i true).map V.bl));refine⟨⟨_,_,XR (s2 b _ kD),ey⟩,?_⟩;rintro z H3 ⟨rfl,yy⟩ gi ho;obtain⟨o,rfl⟩:=eP ho;have ez:=yy _ (XR (s2 b _ kD));rw[ey]at ez;cases ez;refine⟨‹9›,dh ⟨_,rfl,_,rfl,es[i],a,ks,rfl,s2 a _ ha,by rw[aa,eL];omega,ak,bG hi ⟨?_,by rw[gM]⟩⟩⟩;rw[iF,av,aw (sub _ (bX lb))];rfl
inductive Np (vs:LV) (H:Hp) (Q:VK) (E_:XK):Prop
 |mk (x:Str):vs=[.str x]->Nm x->(∀H',Same H H'->Q (.bl true) H')->Np vs H Q E_
theorem BR(D:Defs K mg t)(G2:zo mg):aW P w K mg base bm 1 t.oM.1 t.oM.2 ["thing"] Np:=by
 obtain⟨Zh,JO⟩:=G2.Lh;obtain⟨Yr,AY⟩:=G2.zG;have hz:ab=16777216:=cn;refine D.oM.fn.ok Hg ‹4› ‹3›
 ·obtain⟨x,rfl,_⟩:=h;rfl
 ·obtain ⟨x,rfl,⟨h1,h6,lw⟩,k⟩:=h
  refine⟨_,(au (bL (XN (kZ (gH (fB (aN eX (by rfl) D.cH cD (aj (pv 0) (aj (iz (v:=V.ty "str") rfl D.pQ lM rfl) aq))))) (je (gH (Gq xG xG aG (aN rY (by rfl) D.cW cg ‹15›) (eZ (v:=V.int 6) (by rfl) AY ⟨_,rfl⟩))))))
   (aF (aM jP))
   aX)
   (aF (aM (aN (iV rfl) (by rfl) D.sY oW (aj (cI rfl (X7 ["sign"] [] ["sign"] (aJ (top 8)) ["thing"] rfl rfl ‹1›) ⟨fun _ _ _ _ _=>(aO (i:=0) (show List.Nodup [("sign":Str)]by decide +kernel) rfl ‹16› ‹13›),fun _ _ _ _ _=>cJ,fun _ _ _ _ _=>(cL Od (pv 0) (eZ (v:=V.str abc) (by rfl) JO ⟨_,rfl⟩) (by with_unfolding_all rfl))⟩ (G4 (pv 0))) aq))))),?_⟩
  refine⟨_,rfl,_,_,_,true,rfl,.str x,gG N0 "str",_,rfl,iu ⟨_,rfl,x,rfl,by omega,_,_,rfl,rfl,_,rfl,?_⟩⟩;refine bR (aw ‹21›) ⟨_,_,rfl,rfl,_,rfl,?_⟩;refine aL (by rw[aw (show(x.length:Int)<=6 by omega)];exact az) ?_;refine⟨_,rfl,x,rfl,by rw[<- Array.all_toList,fb];exact fun c hc=>aw (by have:=Tr c (lw c hc);omega),fun Dd hD=>?_⟩;refine bN (n:=x.length) (fun i ys H2=>ys=((x.cps.toList.take i).map fun c=>decide (c∈abc.cps.toList)).map V.bl/\H2=upd H Dd (.lst ys)) ⟨rfl,rfl⟩ ?_ ?_
  ·rintro ys H2 ⟨rfl,rfl⟩;rw[ay (by rw[ir];exact af _)];refine⟨af _,Dd,_,rfl,XQ ak,?_⟩;rw[Ez,wB lw];exact k _ (X6 (o:=.lst ((x.cps.toList.map λc=>decide (c∈abc.cps.toList)).map V.bl)) hD)
  ·rintro i ys H2 hi ⟨rfl,rfl⟩;refine⟨hi,?_⟩;rintro y H3 ⟨rfl,c,ec,rfl⟩ gi ho;obtain⟨o,rfl⟩:=eP ho;have YE:x.cps[i]?=some c:=ec;refine⟨‹9›,dh ⟨_,rfl,c,abc,rfl,rfl,by rw[aa,aa,bj];omega,ak,bG hi ⟨?_,by rw[gM]⟩⟩⟩;rw[li,kF,YE,av,av];rfl
inductive zW (vs:LV) (H:Hp) (Q:VK) (E_:XK):Prop
 |mk (a:ax) (xs:LV) (ks:LS):vs=[.ref a]->H a=some (.tup xs)->xs.length<=1000->Paired (λ(v:V) (k:Str)=>∃q ba,v=.ref q/\H q=some (.tup (.str k::ba))) xs ks->(∀(q:ax) H',H' q=some (.tup (ks.map V.str))->Same H H'->Q (.ref q) H')->zW vs H Q E_
theorem yR(D:Defs K mg t):aW P w K mg base bm 1 t.kinds_of.1 t.kinds_of.2 ["rows"] zW:=by
 have hz:ab=16777216:=cn;refine D.kinds_of.fn.ok Gf ‹4› ‹3›
 ·obtain⟨a,xs,ks,rfl,_⟩:=h;rfl
 ·obtain ⟨a,xs,ks,rfl,ha,hx,pr,k⟩:=h;have G1:=cE pr;refine⟨_,(aF (aM (aY dM (by rfl) D.dB cP (aj (cI rfl (X7 ["row"] [] ["row"] (aJ (top 11)) ["rows"] rfl rfl ‹1›) ⟨fun _ _ _ _ _=>(aO (i:=0) (show List.Nodup [("row" : Str)] by decide +kernel) rfl ‹16› ‹13›),fun _ _ _ _ _=>cJ,fun _ _ _ _ _=>‹5›⟩ (dg (pv 0))) aq)))),?_⟩;refine⟨_,rfl,a,rfl,⟨_,XR ha⟩,fun D1 hC=>?_⟩;have s1:∀ u,Same H (upd H D1 u):=fun u=>X6 hC;refine bN (n:=xs.length) (fun i ys H2=>ys=(ks.take i).map V.str/\H2=upd H D1 (.lst ys)) ⟨rfl,rfl⟩ ?_ ?_;rotate_left
  ·rintro i ys H2 hi ⟨rfl,rfl⟩;have sv:i < ks.length:=by omega
   obtain⟨y,ei,q,ba,rfl,hq⟩:=Zg pr sv;have hai:=s1 (.lst ((ks.take i).map V.str)) a _ ha;refine⟨⟨_,_,XR hai,ei⟩,?_⟩;rintro v H3 ⟨rfl,yy⟩ gi ho;obtain⟨oo,rfl⟩:=eP ho;have ev:=yy _ (XR hai);rw[ei]at ev;cases ev;refine⟨‹9›,dh ⟨_,rfl,q,_,_,_,rfl,rfl,XR (s1 _ q _ hq),aK (j:=0) rfl,by rw[aa,bj];omega,ak,bG hi ⟨?_,by rw[gM]⟩⟩⟩;rw[take_snoc sv,av];rfl
  rintro ys H2 ⟨rfl,rfl⟩;rw[ay ‹21›];refine⟨⟨_,XR (s1 _ a _ ha),af _⟩,D1,_,rfl,.inl ⟨XQ ak,λq hq=>?_⟩⟩;exact k q _ ak ((s1 _).trans (X6 hq))
inductive RW (vs:LV) (H:Hp) (Q:VK) (E_:XK):Prop
 |mk (b:ax) (es:LS):vs=[.ref b]->H b=some (.tup (es.map V.str))->es.length<=3->(∀x∈es,Nm x)->es.Nodup->(∀H',Same H H'->Q (.bl true) H')->RW vs H Q E_
theorem Ph(D:Defs K mg t)(G2:zo mg):aW P w K mg base bm 2 t.fW.1 t.fW.2 ["thing"] RW:=by
 obtain⟨Zh,CU⟩:=G2.Dk;have Zi:=@BR P w K mg base t D G2;have hz:ab=16777216:=cn;refine D.fW.fn.ok wN ‹4› ‹3›
 ·obtain⟨b,es,rfl,_⟩:=h;rfl
 ·obtain ⟨b,es,rfl,kD,h3,hn,nd,k⟩:=h
  refine⟨_,(au (bL (XN (kZ (gH (fB (aN eX (by rfl) D.cH cD (aj (pv 0) (aj (iz (v:=V.ty "tuple") rfl D.dB cP rfl) aq))))) (je (aV qO (aN bJ (by rfl) D.cW cg ‹15›) (eZ (v:=V.int 3) (by rfl) CU ⟨_,rfl⟩) (aR _)))))
   (aF (aM jP))
   aX)
   (aF (aM (rK (aN (iV rfl) (by rfl) D.sY oW (aj (cI rfl (X7 ["part"] [] ["part"] (aJ (top 34)) ["thing"] rfl rfl ‹1›) ⟨fun _ _ _ _ _=>(aO (i:=0) (show List.Nodup [("part":Str)]by decide +kernel) rfl ‹16› ‹13›),fun _ _ _ _ _=>cJ,fun _ _ _ _ _=>(aH D.oM Zi ‹2› (by rfl) ‹15›)⟩ (dg (pv 0))) aq)) (rH (cL cO (aN qx (by rfl) D.cW cg (aj (aY (wV rfl) (by rfl) D.M5 Hi ‹15›) aq)) (aN bJ (by rfl) D.cW cg ‹15›) (aR _))))))),?_⟩
  refine⟨_,rfl,_,_,_,true,rfl,.tup kD,gG N0 "tuple",_,rfl,iu ⟨_,rfl,b,_,rfl,.inr (XR kD),_,_,rfl,rfl,_,rfl,?_⟩⟩;rw[aa];refine aL (by rw[cw (show¬((es.length:Int) >3)by omega)];exact az) ?_;refine⟨_,rfl,b,rfl,⟨_,XR kD⟩,fun Dd hD=>?_⟩;refine bN (n:=(es.map V.str).length) (fun i ys H2=>ys=(List.replicate i true).map V.bl/\H2 Dd=some (.lst ys)/\Same H H2) ⟨rfl,ak,X6 hD⟩ ?_ ?_
  ·rintro ys H2 ⟨rfl,nv,s2⟩;refine⟨⟨_,XR (s2 b _ kD),af _⟩,Dd,_,rfl,XQ nv,_,rfl,?_⟩;have hX:(List.replicate (es.map V.str).length true).all id=true:=by simp
   rw[hX];refine jq ⟨_,rfl,b,es,rfl,.inr (XR (s2 b _ kD)),by omega,λsd S1=>?_⟩;refine⟨sd,_,rfl,ak,_,rfl,b,_,rfl,.inr (XR (X6 S1 b _ (s2 b _ kD))),rfl,?_⟩;rw[aa,aw (by rw[(HW es).mpr nd])];exact k _ (s2.trans (X6 S1))
  ·rintro i ys H2 hi ⟨rfl,nv,s2⟩;have lb:i < es.length:=by rw [aa] at hi; exact hi
   have ey:(es.map V.str)[i]?=some (.str es[i]):=by rw[bS,ac lb];rfl
   refine⟨⟨_,_,XR (s2 b _ kD),ey⟩,?_⟩;rintro z H3 ⟨rfl,yy⟩ gi ho;obtain⟨o,rfl⟩:=eP ho;have ez:=yy _ (XR (s2 b _ kD));rw[ey]at ez;cases ez;refine⟨‹9›,dh ⟨_,rfl,es[i],rfl,hn _ (bX lb),λH4 s4=>?_⟩⟩;refine⟨by rw[aa,eL];omega,s4 Dd _ nv,bG hi ⟨?_,ak,λc o e=>by rw[aB (aD e hD)];exact s4 c o (s2 c o e)⟩⟩;rw[iF,av];rfl
inductive Iz (vs:LV) (H:Hp) (Q:VK) (E_:XK):Prop
 |mk (v:V) (ks:List KR):vs=[v]->Dp H (.tup (ks.map yB)) v->ks.length<=1000->(∀(u:V) H',Dp H' (Qf (pL ks)) u->Same H H'->Q u H')->Iz vs H Q E_
theorem Ow(D:Defs K mg t):aW P w K mg base bm 1 t.mH.1 t.mH.2 ["table"] Iz:=by
 have hz:ab=16777216:=cn;refine D.mH.fn.ok CV ‹4› ‹3›
 ·obtain⟨v,ks,rfl,_⟩:=h;rfl
 ·obtain ⟨v,ks,rfl,dv,eC,k⟩:=h;obtain ⟨a,xs,rfl,ha,dl⟩:=L2.Dp.cR dv;have G1:xs.length=ks.length:=by have:=dl.length; rwa [aa] at this
  refine⟨_,(aF (aM (aY dM (by rfl) D.dB cP (aj (cI rfl (X7 ["row"] [] ["row"] (aJ (top 33)) ["table"] rfl rfl ‹1›) ⟨fun _ _ _ _ _=>(aO (i:=0) (show List.Nodup [("row":Str)]by decide +kernel) rfl ‹16› ‹13›),fun _ _ _ _ _=>cJ,fun _ _ _ _ _=>(bW (aj ‹5› (aj ‹5› aq)))⟩ (dg (pv 0))) aq)))),?_⟩;refine⟨_,rfl,a,rfl,⟨_,XR ha⟩,fun D1 hC=>?_⟩;refine bN (n:=xs.length) (fun i ys H2=>DpL H2 ((pL (ks.take i)).map wH) ys/\H2 D1=some (.lst ys)/\Same H H2) ⟨.nil,ak,X6 hC⟩ ?_ ?_
  ·rintro ys H2 ⟨dy,nv,s2⟩;rw[ay ‹21›]at dy;refine⟨⟨_,XR (s2 a _ ha),af _⟩,D1,_,rfl,.inl ⟨XQ nv,λq hq=>?_⟩⟩;exact k _ _ (L2.Dp.tup ak (dy.mono (XX (X6 hq)))) (s2.trans (X6 hq))
  ·rintro i ys H2 hi ⟨dy,nv,s2⟩;have He:i < ks.length:=by omega
   obtain⟨x,ex,dx⟩:=dl.get (i:=i) (t:=yB ks[i]) (by rw[bS,ac He];rfl);refine⟨⟨_,_,XR (s2 a _ ha),ex⟩,?_⟩;rintro v H3 ⟨rfl,yy⟩ gi ho;obtain⟨oo,rfl⟩:=eP ho;have ev:=yy _ (XR (s2 a _ ha));rw[ex]at ev;cases ev;obtain⟨q,e,f,rfl,hq,he,hf⟩:=K26.Dp.Aa (dx.mono (XX s2));refine⟨‹9›,dh ⟨_,rfl,q,_,_,_,rfl,rfl,XR hq,aK (j:=0) rfl,_,rfl,q,_,_,_,rfl,rfl,XR hq,aK (j:=1) rfl,by show 2<=ab;decide,λp hp=>?_⟩⟩;have pD:D1≠p:=aD nv hp
   have yl:ys.length<=1000:=by
    have:=dy.length;unfold pL at this;rw[aa,aa,bj]at this;omega
   refine⟨by omega,by rw[aB pD];exact nv,bG hi ⟨?_,ak,λc o z=>?_⟩⟩
   ·have tu:fH H3 (upd (upd H3 p (.tup [.str ks[i].kind,.ref e])) D1 (.lst (ys++[.ref p]))):=λc zs z=>by
     rw[aB (bV z nv (λy=>nomatch y)),aB (aD z hp)];exact z
    rw[take_snoc He];unfold pL;rw[av,av];refine(dy.mono tu).append (.cons (K26.F.Dp.row (e:=e) ?_ (tu e _ he)) .nil);rw[aB pD.symm,ak]
   ·rw[aB (aD z hC),aB (aD (s2 c _ z) hp)];exact s2 c _ z
end
section
variable {P:vy}{w:xm}{K:PySem.W.Frag}{mg:MG}{base:Heap}{t:tT}
inductive Gy (vs:LV) (H:Hp) (Q:VK) (E_:XK):Prop
 |mk (v:V) (f:rh):vs=[v]->Dp H (Qf f) v->ud f->1<=f.length->(∀r∈f,Nm r.1/\r.2.Nodup)->(∀H',Same H H'->Q (.bl true) H')->Gy vs H Q E_
theorem Ky(D:Defs K mg t)(G2:zo mg):aW P w K mg base bm 3 t.mC.1 t.mC.2 ["thing"] Gy:=by
 have Gbd:=@Gu P w K mg base t D;have Zi:=@BR P w K mg base t D G2;have Gbg:=@Oj P w K mg base t D;have Gbh:=@yR P w K mg base t D;have Gav:=@Bd P w K mg base t D;obtain⟨tk3,CY⟩:=G2.Bv;have hz:ab=16777216:=cn;refine D.mC.fn.ok vL ‹4› ‹3›
 ·obtain⟨v,f,rfl,_⟩:=h;rfl
 ·obtain ⟨v,f,rfl,dv,gf,f1,fn,k⟩:=h;obtain ⟨b,xs,rfl,kD,dl⟩:=L2.Dp.cR dv;have G1:xs.length=f.length:=by have:=dl.length; rwa [aa] at this
  have f7:=gf.len
  have at':∀{i:Nat} (h:i<f.length),∃q e,xs[i]?=some (.ref q)/\H q=some (.tup [.str f[i].1,.ref e])/\H e=some (.tup (f[i].2.map V.str)):=λ{i} hi=>by
   obtain⟨y,ey,dy⟩:=dl.get (i:=i) (t:=wH f[i]) (by rw[bS,ac hi];rfl);obtain⟨q,e,rfl,hq,he⟩:=F.Dp.xg dy;exact⟨q,e,ey,hq,he⟩
  refine⟨_,(au (bL (XN (kZ (gH (fB (aN eX (by rfl) D.cH cD (aj (pv 0) (aj (iz (v:=V.ty "tuple") rfl D.dB cP rfl) aq))))) (je (gH (Gq xG xG aG (aN bJ (by rfl) D.cW cg ‹15›) (eZ (v:=V.int 7) (by rfl) CY ⟨_,rfl⟩))))))
   (aF (aM jP))
   aX)
   (au (bL (gH (fB (aN (iV rfl) (by rfl) D.sY oW (aj (cI rfl (X7 ["pair"] [] ["pair"] (aJ (top 12)) ["thing","kinds"] rfl rfl ‹1›) ⟨fun _ _ _ _ _=>(aO (i:=0) (show List.Nodup [("pair":Str)]by decide +kernel) rfl ‹16› ‹13›),fun _ _ _ _ _=>cJ,fun _ _ _ _ _=>(rK (aH D.iD Gbd ‹2› (by rfl) (aj (pv 0) (aj aG aq))) (rH (aH D.oM Zi ‹2› (by rfl) (aj ‹5› aq))))⟩ (dg (pv 0))) aq))))
   (aF (aM jP))
   aX)
   (au (aU (i:=1) vL.nd rfl (MT rfl) (aH D.kinds_of Gbh ‹2› (by rfl) ‹15›))
   (au (bL (aV vd (aN qx (by rfl) D.cW cg (aj (aY (wV rfl) (by rfl) D.M5 Hi ‹14›) aq)) (aN bJ (by rfl) D.cW cg ‹14›) (aR _))
   (aF (aM jP))
   aX)
   (au (bL (gH (fB (aN (iV rfl) (by rfl) D.sY oW (aj (cI rfl (X7 ["pair"] [1] ["pair","kinds"] (aJ (top 12)) ["thing","kinds"] rfl rfl ‹1›) ⟨fun _ _ _ _ _=>(aO (i:=0) (show List.Nodup [("pair":Str),("kinds":Str)]by decide +kernel) rfl ‹16› ‹13›),fun _ _ _ _ _=>cJ,fun _ _ _ _ _=>(aH D.lB Gbg ‹2› (by rfl) (aj ‹5› ‹14›))⟩ (dg (pv 0))) aq))))
   (aF (aM jP))
   aX)
   (aF (aM (cL cO (aN bJ (by rfl) D.cW cg (aj (aH D.ig Gav ‹2› (by rfl) ‹15›) aq)) (aN bJ (by rfl) D.cW cg ‹15›) (aR _))))))))),?_⟩
  simp only[jm,Cx.nox];refine⟨_,rfl,_,_,_,true,rfl,.tup kD,gG N0 "tuple",_,rfl,iu ⟨_,rfl,b,_,rfl,.inr (XR kD),_,_,rfl,rfl,_,rfl,?_⟩⟩;refine bR (aw ‹21›) ⟨_,_,rfl,rfl,_,rfl,?_⟩;refine aL (by rw[aw (show(xs.length:Int)<=7 by omega)];exact az) ?_;refine⟨_,rfl,b,rfl,⟨_,XR kD⟩,fun Dd hD=>?_⟩;refine bN (n:=xs.length) (fun i ys H2=>ys=(List.replicate i true).map V.bl/\H2 Dd=some (.lst ys)/\Same H H2) ⟨rfl,ak,X6 hD⟩ ?_ ?_;rotate_left
  ·rintro i ys H2 hi ⟨rfl,nv,s2⟩;have lb:i < f.length:=by omega
   obtain⟨q,e,ey,hq,he⟩:=at' lb;refine⟨⟨_,_,XR (s2 b _ kD),ey⟩,?_⟩;rintro z H3 ⟨rfl,yy⟩ gi ho;obtain⟨o,rfl⟩:=eP ho;have ez:=yy _ (XR (s2 b _ kD));rw[ey]at ez;cases ez;refine⟨‹9›,dh ⟨_,rfl,q,_,2,rfl,s2 q _ hq,_,rfl,jq ⟨_,rfl,q,_,_,_,rfl,rfl,XR (s2 q _ hq),aK (j:=0) rfl,f[i].1,rfl,(fn _ (bX lb)).1,λH4 s4=>?_⟩⟩⟩;refine⟨by rw[aa,eL];omega,s4 Dd _ nv,bG hi ⟨?_,ak,λc o e=>by rw[aB (aD e hD)];exact s4 c o (s2 c o e)⟩⟩;rw[iF,av];rfl
  rintro ys H2 ⟨rfl,nv,s2⟩;refine⟨⟨_,XR (s2 b _ kD),af _⟩,Dd,_,rfl,XQ nv,_,rfl,?_⟩;have hX:∀n,(List.replicate n true).all id=true:=λn=>by simp
  rw[hX]
  have prs:Paired (λ(v:V) (k:Str)=>∃q ba,v=.ref q/\H2 q=some (.tup (.str k::ba))) xs (iq f):=by
   have y8:∀{g:rh} {zs:LV},DpL H (g.map wH) zs->Paired (λ(v:V) (k:Str)=>∃q ba,v=.ref q/\H2 q=some (.tup (.str k::ba))) zs (iq g):=λ{g}=>by
    induction g with
    |nil=>
     intro zs d;have e:=d.eO;subst e;exact .nil
    |cons r g ih=>
     intro zs d;obtain⟨z,zs',rfl,d1,d2⟩:=DpL.cases d;obtain⟨q,e,rfl,hq,_⟩:=F.Dp.xg d1;exact .cons ⟨q,_,rfl,s2 q _ hq⟩ (ih d2)
   exact y8 dl
  refine iu ⟨_,rfl,b,xs,iq f,rfl,s2 b _ kD,by omega,prs,λka H3 CS s3=>?_⟩;have s13:=s2.trans s3;have kl:(iq f).length=f.length:=aa _;refine⟨_,rfl,ka,_,rfl,.inr (XR CS),by omega,λsd S1=>?_⟩;have s4:∀o,Same H3 (upd H3 sd o):=λo=>X6 S1;refine⟨sd,_,rfl,ak,_,rfl,ka,_,rfl,.inr (XR (s4 _ ka _ CS)),_,_,rfl,rfl,_,rfl,?_⟩;have Zj:∀o,Same H (upd H3 sd o):=λo=>s13.trans (s4 o);have B0:=λo=>s4 o ka _ CS;rw[(HW (iq f)).mpr gf.nd];refine aL (by rw[cw (by have:((iq f).map V.str).length=(iq f).length:=aa _;omega)];exact az) ?_;show RX _ _ _;have Zk:∀o,(upd H3 sd o) ka=some (.tup ((iq f).map V.str)):=B0;clear B0;generalize hH4:upd H3 sd _=H4;have Zj:Same H H4:=by rw[<- hH4];exact Zj _
  have B0:H4 ka=some (.tup ((iq f).map V.str)):=by rw[<- hH4];exact Zk _
  clear hH4 Zk;refine⟨_,rfl,b,rfl,⟨_,XR (Zj b _ kD)⟩,λD2 nv=>?_⟩;refine bN (n:=xs.length) (λi ys H5=>ys=(List.replicate i true).map V.bl/\H5 D2=some (.lst ys)/\Same H4 H5) ⟨rfl,ak,X6 nv⟩ ?_ ?_;rotate_left
  ·rintro i ys H5 hi ⟨rfl,i0,s5⟩;have lb:i < f.length:=by omega
   obtain⟨q,e,ey,hq,he⟩:=at' lb;have CM:=Zj.trans s5;refine⟨⟨_,_,XR (CM b _ kD),ey⟩,?_⟩;rintro z H6 ⟨rfl,yy⟩ gi ho;obtain⟨o,rfl⟩:=eP ho;have ez:=yy _ (XR (CM b _ kD));rw[ey]at ez;cases ez;refine⟨‹9›,dh ⟨_,rfl,q,_,_,_,rfl,rfl,XR (CM q _ hq),aK (j:=1) rfl,_,rfl,e,ka,f[i].2,iq f,rfl,CM e _ he,s5 ka _ B0,by omega,gf.sub _ (bX lb),(fn _ (bX lb)).2,λH7 s7=>?_⟩⟩;refine⟨by rw[aa,eL];omega,s7 D2 _ i0,bG hi ⟨?_,ak,λc o e=>by rw[aB (aD e nv)];exact s7 c o (s5 c o e)⟩⟩;rw[iF,av];rfl
  rintro ys H5 ⟨rfl,i0,s5⟩;have CM:=Zj.trans s5;refine⟨⟨_,XR (CM b _ kD),af _⟩,D2,_,rfl,XQ i0,_,rfl,?_⟩;rw[hX];refine iu ⟨_,rfl,.ref b,f,rfl,dv.mono (XX CM),gf,λq pl H6 hq T SY s6=>⟨q,_,rfl,.inr (XR hq),_,rfl,b,_,rfl,.inr (XR (s6 b _ (CM b _ kD))),rfl,?_⟩⟩;have e1:=fK T.nd (m:=iq f) T.sub;have e2:=fK gf.nd (m:=pl) SY;have:=k H6 (CM.trans s6);rw[aa,show decide (V.int (pl.length:Int)=V.int (xs.length:Int))=true from aw (by rw[show pl.length=xs.length by omega])];exact this
inductive IW (vs:LV) (H:Hp) (Q:VK) (E_:XK):Prop
 |mk (v:V) (f:rh):vs=[v]->Dp H (Qf f) v->f.length<=7->(iq f).Nodup->(∀i (h:i<f.length),(∀e∈f[i].2,e∈(iq f).take i)/\f[i].2.length<=7)->(∀H',Same H H'->Q (.bl true) H')->IW vs H Q E_
theorem Mq(D:Defs K mg t):aW P w K mg base bm 1 t.dJ.1 t.dJ.2 ["family"] IW:=by
 have hz:ab=16777216:=cn;refine D.dJ.fn.ok gO ‹4› ‹3›
 ·obtain⟨v,f,rfl,_⟩:=h;rfl
 ·obtain ⟨v,f,rfl,dv,f7,nd,el,k⟩:=h;obtain ⟨a,xs,rfl,ha,dl⟩:=L2.Dp.cR dv;have G1:xs.length=f.length:=by have:=dl.length; rwa [aa] at this
  have kl:(iq f).length=f.length:=aa _
  refine⟨_,(au (aU (i:=1) gO.nd rfl (MT rfl) qQ)
   (au (fG di rfl (dg (pv 0)) (jX rfl (cu (aO (i:=2) gO.nd rfl (uv rfl)) (cu (aO (i:=3) gO.nd rfl (uv rfl)) jJ)))
   (au (bL (gH (fB (aN (iV rfl) (by rfl) D.sY oW (aj (cI rfl (X7 ["elder"] [1] ["elder","ahead"] (aJ (top 38)) ["family","ahead","kind","elders"] rfl rfl ‹1›) ⟨fun _ _ _ _ _=>(aO (i:=0) (show List.Nodup [("elder":Str),("ahead":Str)]by decide +kernel) rfl ‹16› ‹13›),fun _ _ _ _ _=>cJ,fun _ _ _ _ _=>(Pn (Qk (lF hr) (pv 0) (pv 1)))⟩ (dg (pv 3))) aq))))
   (aF (aM jP))
   aX)
   (aF (rB (lF hr) (pv 1) (pv 2) jP rfl))))
   (aF (aM jP)))),?_⟩
  simp only[jm,Cx.nox];intro pd Si;have s1:Same H (upd H pd (.dK [])):=X6 Si
  refine⟨_,rfl,a,rfl,⟨_,XR (s1 a _ ha)⟩,nq (K:=N0) (a:=a) (xs:=xs) (λi σ H2=>∃(v2 v3:OV),σ=[some (.ref a),some (.ref pd),v2,v3]/\H2 pd=some (.dK (jo ((iq f).take i)))/\Same H H2)
   ⟨_,_,rfl,ak,s1⟩ (λi σ H2 _ ⟨_,_,_,_,s⟩=>XR (s a _ ha)) ?_ ?_⟩
  ·rintro i x σ H2 hi ⟨v2,v3,rfl,UU,s2⟩
   have lb:i<f.length:=by
    have:=(bo.mp hi).1;omega
   obtain⟨y,ey,dy⟩:=dl.get (i:=i) (t:=wH f[i]) (by rw[bS,ac lb];rfl);rw[hi]at ey;cases ey;obtain⟨q,e,rfl,hq,he⟩:=F.Dp.xg (dy.mono (XX s2));refine⟨q,_,rfl,XR hq,rfl,_,_,rfl,_,_,rfl,rfl,?_⟩;refine⟨_,rfl,e,rfl,⟨_,XR he⟩,λDd hD=>?_⟩;have pD:pd≠Dd:=aD UU hD;refine bN (n:=(f[i].2.map V.str).length) (λj ys H3=>ys=(List.replicate j true).map V.bl/\H3=upd H2 Dd (.lst ys)) ⟨rfl,rfl⟩ ?_ ?_
   ·rintro ys H3 ⟨rfl,rfl⟩;have s3:Same H2 (upd H2 Dd (.lst ((List.replicate (f[i].2.map V.str).length true).map V.bl))):=X6 hD;refine⟨⟨_,XR (s3 e _ he),af _⟩,Dd,_,rfl,XQ ak,_,rfl,?_⟩;have hX:∀ n,(List.replicate n true).all id=true:=fun n=>by simp
    rw[hX];refine iu ?_;refine⟨_,rfl,_,rfl,pd,_,rfl,zQ.k (k:=.inr f[i].1) (s3 pd _ UU) (by unfold jo;rw[aa,bj];omega),?_⟩
    have NU:¬f[i].1∈(iq f).take i:=λh=>by
     have e1:(iq f)[i]'‹21›=f[i].1:=nk _;rw[<- e1]at h;have NN:=nd;rw[<- fz i (iq f)]at NN;exact(iA.mp NN).2.2 _ h _ (by rw[cK ‹21›];exact aS) rfl
    rw[tW NU];refine⟨_,_,rfl,?_,λc o e=>?_⟩
    ·rw[ak,take_snoc (by omega:i<(iq f).length)];show _=some (HO.dK (jo ((iq f).take i++[(iq f)[i]'‹21›])));rw[show(iq f)[i]'‹21›=f[i].1 from nk _]
    ·rw[aB (aD e Si)];exact s3 c o (s2 c o e)
   ·rintro j ys H3 hj ⟨rfl,rfl⟩;have E1:j < f[i].2.length:=by rw [aa] at hj; exact hj
    have ej:(f[i].2.map V.str)[j]?=some (.str f[i].2[j]):=by rw[bS,ac E1];rfl
    have s3:∀u,Same H2 (upd H2 Dd u):=λu=>X6 hD;refine⟨⟨_,_,XR (s3 _ e _ he),ej⟩,?_⟩;rintro z H4 ⟨rfl,yy⟩ gi ho;obtain⟨o,rfl⟩:=eP ho;have ez:=yy _ (XR (s3 _ e _ he));rw[ej]at ez;cases ez;have hx:=(el i lb).1 _ (bX E1);have h7:=(el i lb).2;refine⟨‹9›,dh ⟨_,rfl,_,rfl,pd,_,rfl,uO.k (k:=.inr f[i].2[j]) (s3 _ pd _ UU),by rw[aa,eL];omega,ak,bG hj ⟨?_,by rw[gM]⟩⟩⟩;rw[(oV _ _).mpr hx,iF,av];rfl
  ·rintro σ H2 ⟨v2,v3,rfl,UU,s2⟩;exact k H2 s2
end
section
variable {P:vy}{w:xm}{K:PySem.W.Frag}{mg:MG}{base:Heap}{t:tT}
inductive Dj (vs:LV) (H:Hp) (Q:VK) (E_:XK):Prop
 |mk (v:V) (ks:List KR):vs=[v]->Dp H (.tup (ks.map yB)) v->sH ks->1<=ks.length->(∀r∈ks,Nn r)->(∀H',Same H H'->Q (.bl true) H')->Dj vs H Q E_
theorem Nt(D:Defs K mg t)(G2:zo mg):aW P w K mg base bm 5 t.eV.1 t.eV.2 ["thing"] Dj:=by
 have Gbd:=@Gu P w K mg base t D;have Gcf:=@Ow P w K mg base t D;have Gbo:=@Ky P w K mg base t D G2;have Gch:=@Mq P w K mg base t D;have Gbn:=@Q8 P w K mg base t D;have Gbr:=@QC P w K mg base t D;have Gbc:=@Ph P w K mg base t D G2;have hz:ab=16777216:=cn;refine D.eV.fn.ok qY ‹4› ‹3›
 ·obtain⟨v,ks,rfl,_⟩:=h;rfl
 ·obtain ⟨v,ks,rfl,dv,gk,k1,ko,k⟩:=h;obtain ⟨b,xs,rfl,kD,dl⟩:=L2.Dp.cR dv;have G1:xs.length=ks.length:=by have:=dl.length; rwa [aa] at this
  have k7:=gk.len;have fl:(pL ks).length=ks.length:=aa _
  have at':∀{i:Nat} (h:i<ks.length),∃q e f,xs[i]?=some (.ref q)/\H q=some (.tup [.str ks[i].kind,.ref e,.ref f])/\H e=some (.tup (ks[i].bx.map V.str))/\H f=some (.tup (ks[i].fields.map V.str)):=λ{i} hi=>by
   obtain⟨y,ey,dy⟩:=dl.get (i:=i) (t:=yB ks[i]) (by rw[bS,ac hi];rfl);obtain⟨q,e,f,rfl,hq,he,hf⟩:=K26.Dp.Aa dy;exact⟨q,e,f,ey,hq,he,hf⟩
  have hX:∀n,(List.replicate n true).all id=true:=λn=>by simp
  refine⟨_,(au (bL (XN (kZ (gH (fB (aN eX (by rfl) D.cH cD (aj (pv 0) (aj (iz (v:=V.ty "tuple") rfl D.dB cP rfl) aq))))) (je (gH (fB (aN (iV rfl) (by rfl) D.sY oW (aj (cI rfl (X7 ["row"] [] ["row"] (aJ (top 37)) ["thing","family"] rfl rfl ‹1›) ⟨fun _ _ _ _ _=>(aO (i:=0) (show List.Nodup [("row":Str)]by decide +kernel) rfl ‹16› ‹13›),fun _ _ _ _ _=>cJ,fun _ _ _ _ _=>(aH D.iD Gbd ‹2› (by rfl) (aj (pv 0) (aj aG aq)))⟩ (dg (pv 0))) aq)))))))
   (aF (aM jP))
   aX)
   (au (aU (i:=1) qY.nd rfl (uv rfl) (aH D.mH Gcf ‹2› (by rfl) ‹15›))
   (au (bL (XN (kZ (gH (fB (aH D.mC Gbo ‹2› (by rfl) ‹14›))) (kZ (gH (fB (aH D.dJ Gch ‹2› (by rfl) ‹14›))) (je (fB (aH D.jA Gbr ‹2› (by rfl) (aj (aH D.jx Gbn ‹2› (by rfl) ‹14›) aq)))))))
   (aF (aM jP))
   aX)
   (aF (aM (aN (iV rfl) (by rfl) D.sY oW (aj (cI rfl (X7 ["row"] [] ["row"] (aJ (top 37)) ["thing","family"] rfl rfl ‹1›) ⟨fun _ _ _ _ _=>(aO (i:=0) (show List.Nodup [("row":Str)]by decide +kernel) rfl ‹16› ‹13›),fun _ _ _ _ _=>cJ,fun _ _ _ _ _=>(aH D.fW Gbc ‹2› (by rfl) (aj ‹5› aq))⟩ (dg (pv 0))) aq))))))),?_⟩
  refine⟨_,rfl,_,_,_,true,rfl,.tup kD,gG N0 "tuple",_,rfl,iu ⟨_,rfl,b,rfl,⟨_,XR kD⟩,fun Dd hD=>?_⟩⟩;refine bN (n:=xs.length) (fun i ys H2=>ys=(List.replicate i true).map V.bl/\H2=upd H Dd (.lst ys)) ⟨rfl,rfl⟩ ?_ ?_;rotate_left
  ·rintro i ys H2 hi ⟨rfl,rfl⟩;have lb:i < ks.length:=by omega
   obtain⟨q,e,f,ey,hq,he,hf⟩:=at' lb;have s2:∀u,Same H (upd H Dd u):=λu=>X6 hD;refine⟨⟨_,_,XR (s2 _ b _ kD),ey⟩,?_⟩;rintro z H3 ⟨rfl,yy⟩ gi ho;obtain⟨o,rfl⟩:=eP ho;have ez:=yy _ (XR (s2 _ b _ kD));rw[ey]at ez;cases ez;refine⟨‹9›,dh ⟨_,rfl,q,_,3,rfl,s2 _ q _ hq,by rw[aa,eL];omega,ak,bG hi ⟨?_,by rw[gM]⟩⟩⟩;rw[iF,av];rfl
  rintro ys H2 ⟨rfl,rfl⟩;exists 1,s2,hDd,H,Dd,(.lst ((List.replicate xs.length true).map V.bl)),hD,H2;refine⟨⟨_,XR (s2 b _ kD),af _⟩,Dd,_,rfl,XQ hDd,_,rfl,?_⟩;rw[hX];refine iu ?_;refine⟨_,rfl,.ref b,ks,rfl,dv.mono (XX s2),by omega,λfv H3 df s3=>?_⟩;refine⟨_,rfl,fv,pL ks,rfl,df,gk.fam,by omega,?_,λH4 s4=>⟨_,rfl,iu ?_⟩⟩
  ·intro r fA;obtain⟨r0,h0,rfl⟩:=bE.mp fA;obtain⟨i,hi,rfl⟩:=fc h0;exact⟨(ko _ h0).1,(gk.el i _ (ac hi)).2.2⟩
  refine⟨_,rfl,fv,pL ks,rfl,df.mono (XX s4),by omega,by rw[tQ];exact gk.nd,λi hi=>?_,λH5 s5=>⟨_,rfl,iu ?_⟩⟩
  ·have ET:i < ks.length:=by omega
   have e:(pL ks)[i]=(ks[i].kind,ks[i].bx):=nk _;rw[e,tQ];exact⟨(gk.el i _ (ac ET)).1,(gk.el i _ (ac ET)).2.1⟩
  refine⟨_,rfl,fv,pL ks,rfl,df.mono (XX (s4.trans s5)),gk.fam,?_,λd kvs H6 hdn hd uk ki kl s6=>⟨d,kvs,pL ks,rfl,hd,uk,ki,λH7 s7=>⟨_,rfl,iu ?_⟩⟩⟩
  ·intro r fA;obtain⟨r0,h0,rfl⟩:=bE.mp fA;obtain⟨os,_,h⟩:=gk.ord r0 h0;exact⟨os,h⟩
  have s07:=s2.trans (s3.trans (s4.trans (s5.trans (s6.trans s7))));refine⟨_,rfl,b,rfl,⟨_,XR (s07 b _ kD)⟩,λD2 nv=>?_⟩;refine bN (n:=xs.length) (λi ys H8=>ys=(List.replicate i true).map V.bl/\H8 D2=some (.lst ys)/\Same H7 H8) ⟨rfl,ak,X6 nv⟩ ?_ ?_;rotate_left
  ·rintro i ys H8 hi ⟨rfl,IP,s8⟩;have lb:i < ks.length:=by omega
   obtain⟨q,e,f,ey,hq,he,hf⟩:=at' lb;have s08:=s07.trans s8;refine⟨⟨_,_,XR (s08 b _ kD),ey⟩,?_⟩;rintro z H9 ⟨rfl,yy⟩ gi ho;obtain⟨o,rfl⟩:=eP ho;have ez:=yy _ (XR (s08 b _ kD));rw[ey]at ez;cases ez;have P5:=ko _ (bX lb);refine⟨‹9›,dh ⟨_,rfl,q,_,_,_,rfl,rfl,XR (s08 q _ hq),aK (j:=2) rfl,f,ks[i].fields,rfl,s08 f _ hf,P5.2.2.1,P5.2.2.2.2,(gk.fl _ (bX lb)).2,λHa sa=>?_⟩⟩;refine⟨by rw[aa,eL];omega,sa D2 _ IP,bG hi ⟨?_,ak,λc o e=>by rw[aB (aD e nv)];exact sa c o (s8 c o e)⟩⟩;rw[iF,av];rfl
  rintro ys H8 ⟨rfl,IP,s8⟩;refine⟨⟨_,XR (s07.trans s8 b _ kD),af _⟩,D2,_,rfl,XQ IP,?_⟩;rw[hX];exact k H8 (s07.trans s8)
theorem sH.take(G:sH ks)(n:Nat):sH (ks.take n):=by
 have ek:knd (ks.take n)=(knd ks).take n:=by unfold knd;rw[qi]
 obtain⟨g,hg⟩:=G.Vj;refine⟨by rw[ek];exact G.nd.sublist (pe _ _),by rw[bj];have:=G.len;omega,λi r hi=>?_,λr hr=>G.fl r (ib hr),g,λr hr=>hg r (ib hr)⟩
 have Ap:i<n:=by
  have:=(bo.mp hi).1;rw[bj]at this;omega
 rw[ku Ap]at hi;obtain⟨h1,h2⟩:=G.el i r hi;refine⟨?_,h2⟩;rw[ek,List.take_take,Nat.min_eq_left ‹21›];exact h1
noncomputable def uW:List Int:=[0,1,2,3,4,5,6,7,999999999]
def Gh:Str:= "0123456789"
def V4(x:Str):Prop:=¬x="" /\ x.length<=9/\(∀c∈x.cps.toList,c∈Gh.cps.toList)/\1<=x.length/\(x="0" \/ ∃c,x.cps[0]?=some c/\¬(⟨#[c]⟩:Str)="0")
theorem Oi:∀n∈uW,PySem.intText? (nS n)=some n/\(nS n).length<=9:=by decide +kernel
theorem MP:∀n∈uW,V4 (nS n):=by
 have h:∀n∈uW,(¬nS n="")/\(nS n).length<=9/\(∀c∈(nS n).cps.toList,c∈Gh.cps.toList)/\1<=(nS n).length/\(nS n="0" \/ (((nS n).cps[0]?).map fun c=>decide ((⟨#[c]⟩:Str)="0"))=some false):=by decide +kernel
 intro n hn;obtain⟨h1,h2,h3,h4,h5⟩:=h n hn;refine⟨h1,h2,h3,h4,h5.imp id λe=>?_⟩;cases q:(nS n).cps[0]? with
 |none=>rw[q]at e;cases e
 |some c=>
  rw[q]at e;injection e with e;exact⟨c,rfl,of_decide_eq_false e⟩
theorem O8{x:Str}(h:∀c∈x.cps.toList,c∈Gh.cps.toList):(x.cps.toList.map λc=>decide (c∈Gh.cps.toList)).all id=true:=by
 rw[List.all_map,fb];exact λc hc=>aw (h c hc)
section
variable {P:vy}{w:xm}{K:PySem.W.Frag}{mg:MG}{base:Heap}{t:tT}{c:pR}
inductive Og (vs:LV) (H:Hp) (Q:VK) (E_:XK):Prop
 |mk (x:Str):vs=[.str x]->V4 x->(∀H',Same H H'->Q (.bl true) H')->Og vs H Q E_
theorem Rg(D:Defs K mg t)(G2:zo mg):aW P w K mg base bm 1 t.gD.1 t.gD.2 ["word"] Og:=by
 obtain⟨Zh,JU⟩:=G2.JW;obtain⟨Yr,B1⟩:=G2.zL;have hz:ab=16777216:=cn;refine D.gD.fn.ok vX ‹4› ‹3›
 ·obtain⟨x,rfl,_⟩:=h;rfl
 ·obtain ⟨x,rfl,⟨h0,h9,hf,h1,hl⟩,k⟩:=h
  refine⟨_,(au (bL (XN (kZ (aV cO (pv 0) aP (aR _)) (kZ (aV qO (aN rY (by rfl) D.cW cg ‹15›) (aN rY (by rfl) D.cW cg (aj (aY fP (by rfl) D.pQ lM (aj (eZ (v:=V.int 999999999) (by rfl) B1 ⟨_,rfl⟩) aq)) aq)) (aR _)) (je (gH (fB (aN (iV rfl) (by rfl) D.sY oW (aj (cI rfl (X7 ["sign"] [] ["sign"] (aJ (top 51)) ["word"] rfl rfl ‹1›) ⟨fun _ _ _ _ _=>(aO (i:=0) (show List.Nodup [("sign":Str)]by decide +kernel) rfl ‹16› ‹13›),fun _ _ _ _ _=>cJ,fun _ _ _ _ _=>(cL Od (pv 0) (eZ (v:=V.str "0123456789") (by rfl) JU ⟨_,rfl⟩) (by with_unfolding_all rfl))⟩ (G4 (pv 0))) aq))))))))
   (aF (aM jP))
   aX)
   (aF (aM (VL (cL cO (pv 0) aP (aR _)) (rH (cL Fo (bf Qh (pv 0) aG ‹20›) aP (aR _))))))),?_⟩
  have hS:((io (999999999:Int):String):Str).length=9:=by decide +kernel
  refine⟨_,rfl,rfl,_,rfl,aL (ne_str h0) ?_⟩;refine⟨_,rfl,x,rfl,by omega,_,rfl,lg ‹11› ‹11›,_,rfl,by omega,_,_,rfl,rfl,_,rfl,aL (by rw[cw ‹21›];exact az) ?_⟩;refine⟨_,rfl,x,rfl,Asc.of λc hc=>(by decide +kernel:∀c∈Gh.cps.toList,c<128) c (hf c hc),λDd hD=>?_⟩;refine bN (n:=x.length) (λi ys H2=>ys=((x.cps.toList.take i).map λc=>decide (c∈Gh.cps.toList)).map V.bl/\H2=upd H Dd (.lst ys)) ⟨rfl,rfl⟩ ?_ ?_
  ·rintro ys H2 ⟨rfl,rfl⟩;rw [ay (by rw [ir]; exact af _)];refine⟨af _,Dd,_,rfl,XQ ak,_,rfl,?_⟩;rw [O8 hf];refine iu ?_;have hJ:=k _ (X6 (o:=.lst ((x.cps.toList.map fun c=>decide (c∈Gh.cps.toList)).map V.bl)) hD);refine⟨_,rfl,rfl,_,rfl,?_⟩;rcases hl with rfl | ⟨c,hc,hn⟩
   ·exact bR (aw rfl) hJ
   ·by_cases hx:x = "0"
    ·exact bR (aw (by rw[hx])) hJ
    ·refine aL (ne_str hx) ?_;refine⟨_,rfl,x,_,c,rfl,rfl,by omega,aK (j:=0) (by rw[kF];exact hc),rfl,?_⟩;show Q (V.bl (!decide (V.str ⟨#[c]⟩=V.str "0"))) _;rw[cw (fun z=>by injection z with z;exact hn z)];exact hJ
  ·rintro i ys H2 hi ⟨rfl,rfl⟩;refine⟨hi,?_⟩;rintro y H3 ⟨rfl,c,ec,rfl⟩ gi ho;obtain⟨o,rfl⟩:=eP ho;have YE:x.cps[i]?=some c:=ec;refine⟨‹9›,dh ⟨_,rfl,c,Gh,rfl,rfl,by rw[aa,aa,bj];omega,ak,bG hi ⟨?_,by rw[gM]⟩⟩⟩;rw[li,kF,YE,av,av];rfl
inductive vJ (C:ax) (vs:LV) (H:Hp) (Q:VK) (E_:XK):Prop
 |mk (ra r:ax) (ah ba:LL) (w:Str) (ws:LS) (kk:KW) (s:Nat):vs=[.ref ra]->RT H r ah->Rs C H ra r ah ((w::ws)::ba) kk s->Nm w->(∀H',Rs C H' ra r ah (ws::ba) kk s->LT H H'->Q (.str w) H')->vJ C vs H Q E_
theorem jR(D:Defs K mg t)(S:xS K mg c)(G2:zo mg):aW P w K mg base bm 4 c.gP.1 c.gP.2 ["self"] (vJ c.C):=by
 have ub:aW P w K mg base bm 1 c.need.1 c.need.2 _ gK:=bU S;have Ga:aW P w K mg base bm 3 c.take.1 c.take.2 _ (nZ c.C):=gq D S;have Zi:=@BR P w K mg base t D G2;refine S.uo.ok nW ‹4› ‹3›
 ·obtain⟨ra,r,ah,ba,w,ws,kk,s,rfl,_⟩:=h;rfl
 ·obtain ⟨ra,r,ah,ba,w,ws,kk,s,rfl,rt,rs,nm,k⟩:=h;obtain ⟨dx,ka,nd,kvs,i,p,gt,_⟩:=id rs
  refine⟨_,(au (aU (i:=1) nW.nd rfl (uv rfl) (cG (pv 0) S.cl S.uh Ga ‹2› S.sV .nil cN))
   (au (bH (dW (pv 0) S.cl S.jf ub ‹2› S.jg .nil cN (aj (aH D.oM Zi ‹2› (by rfl) ‹14›) aq)))
   (aF (aM (pv 1))))),?_⟩
  refine⟨_,rfl,ra,dx,_,rfl,gt,cF _ _ _ _ _ _ ‹1›,ra,r,ah,ba,w,ws,kk,s,rfl,rt,rs,λH1 oy rp=>?_⟩;obtain⟨mP,sF,wb,om,i1,p1,gc,_⟩:=id oy;refine⟨_,rfl,ra,mP,_,rfl,gc,cF _ _ _ _ _ _ ‹1›,_,rfl,w,rfl,nm,λH2 s2=>⟨ra,rfl,_,rfl,k H2 (oy.same s2) (rp.trans (LT.same s2))⟩⟩
inductive zq (C:ax) (vs:LV) (H:Hp) (Q:VK) (E_:XK):Prop
 |mk (ra r:ax) (ah ba:LL) (n:Int) (ws:LS) (kk:KW) (s:Nat):vs=[.ref ra]->RT H r ah->Rs C H ra r ah ((nS n::ws)::ba) kk s->n∈uW->(∀H',Rs C H' ra r ah (ws::ba) kk s->LT H H'->Q (.int n) H')->zq C vs H Q E_
theorem jh(D:Defs K mg t)(S:xS K mg c)(G2:zo mg):aW P w K mg base bm 4 c.eF.1 c.eF.2 ["self"] (zq c.C):=by
 have ub:aW P w K mg base bm 1 c.need.1 c.need.2 _ gK:=bU S;have Ga:aW P w K mg base bm 3 c.take.1 c.take.2 _ (nZ c.C):=gq D S;have Gcd:=@Rg P w K mg base t D G2;refine S.pY.ok lW ‹4› ‹3›
 ·obtain⟨ra,r,ah,ba,n,ws,kk,s,rfl,_⟩:=h;rfl
 ·obtain ⟨ra,r,ah,ba,n,ws,kk,s,rfl,rt,rs,hn,k⟩:=h;obtain ⟨dx,ka,nd,kvs,i,p,gt,_⟩:=id rs;obtain ⟨in1,in2⟩:=Oi n hn
  refine⟨_,(au (aU (i:=1) lW.nd rfl (uv rfl) (cG (pv 0) S.cl S.uh Ga ‹2› S.sV .nil cN))
   (au (bH (dW (pv 0) S.cl S.jf ub ‹2› S.jg .nil cN (aj (aH D.gD Gcd ‹2› (by rfl) ‹14›) aq)))
   (aF (aM (aY Le (by rfl) D.zV wL ‹14›))))),?_⟩
  refine⟨_,rfl,ra,dx,_,rfl,gt,cF _ _ _ _ _ _ ‹1›,ra,r,ah,ba,nS n,ws,kk,s,rfl,rt,rs,λH1 oy rp=>?_⟩;obtain⟨mP,sF,wb,om,i1,p1,gc,_⟩:=id oy;exact⟨_,rfl,ra,mP,_,rfl,gc,cF _ _ _ _ _ _ ‹1›,_,rfl,nS n,rfl,MP n hn,λH2 s2=>⟨ra,rfl,_,rfl,nS n,n,rfl,in1,by omega,k H2 (oy.same s2) (rp.trans (LT.same s2))⟩⟩
end
end
end K26
end
section
namespace L2
open PySem PySem.Spec PyProof.Rows
variable {td ty:TE}
section
variable {X:Cx}
def WM(P:vy)(w:xm)(K:PySem.W.Frag)(ty td:TE):TE:=λσ H Q=>ty σ H λy H1=>td σ H1 λx H2=>∃a kvs k,x=.ref a/\xX P w K a kvs/\y=kV k/\Q (.bl (eU kvs k).isSome) H2
theorem Tf{i o:Expr}(hi:PE X i ty)(ho:PE X o td):PC X .In i o (WM X.prog X.w X.K ty td):=by
 intro ag s σ H Q I h;refine cb (hi ag s σ H _ I h) λiv s1 ⟨y,H1,I1,ry,q1⟩=>cb (ho ag s1 σ H1 _ I1 q1) λu s2 ⟨x,H2,I2,rx,a,kvs,k,ex,kd,ey,q2⟩=>?_;subst ex ey;obtain rfl:u=xn a:=rx;obtain⟨hd,⟨vs,so,dd⟩,_⟩:=xX.at I2 kd;refine wpAny_in_of (tD ry) hd dd.mapOf ?_;rw[<- (so.val k).mY];exact⟨.bl (eU kvs k).isSome,H2,I2.tok _,rfl,q2⟩
end
section
variable {X:Cx}
inductive Fe (P:vy) (w:xm) (K:PySem.W.Frag) (Q:VK) (y:V) (x:V) (H2:Hp):Prop
 |mk (a kvs k:_):x=.ref a->xX P w K a kvs->y=kV k->Q (.bl (!(eU kvs k).isSome)) H2->Fe P w K Q y x H2
def QD(P:vy)(w:xm)(K:PySem.W.Frag)(ty td:TE):TE:=λσ H Q=>ty σ H λy H1=>td σ H1 λx H2=>Fe P w K Q y x H2
theorem K3{i o:Expr}(hi:PE X i ty)(ho:PE X o td):PC X .NotIn i o (QD X.prog X.w X.K ty td):=by
 intro ag s σ H Q I h;refine cb (hi ag s σ H _ I h) λiv s1 ⟨y,H1,I1,ry,q1⟩=>cb (ho ag s1 σ H1 _ I1 q1) λu s2 ⟨x,H2,I2,rx,a,kvs,k,ex,kd,ey,q2⟩=>?_;subst ex ey;obtain rfl:u=xn a:=rx;obtain⟨hd,⟨vs,so,dd⟩,_⟩:=xX.at I2 kd;refine wpAny_notIn_of (tD ry) hd dd.mapOf ?_;rw[<- (so.val k).mY];exact⟨.bl (!(eU kvs k).isSome),H2,I2.tok _,rfl,q2⟩
theorem zR:vT (.type "tuple") (dunderI "add")=Hb none:=by rw[typeLookup_type,sB];kernel_rfl
inductive Oz (x:V) (y:V) (H:Hp) (Q:VK):Prop
 |mk (a b:ax) (xs ys:LV):x=.ref a->y=.ref b->H a=some (.tup xs)->H b=some (.tup ys)->ys≠[]->xs.length+ys.length<=ab->(xs=[]->Q (.ref b) H)->(xs≠[]->∀p,H p=none->Q (.ref p) (upd H p (.tup (xs++ys))))->Oz x y H Q
theorem JD:PIp X .Add Oz:=by
 intro ag s σ H x y v u Q I rx ry h;obtain⟨a,b,xs,ys,rfl,rfl,ha,hb,hy,hz,q1,q2⟩:=h;cases rx;cases ry;obtain⟨its,r,p,_⟩:=I.tuple (XR (K:=X.K) ha);obtain⟨fi,r2,p2,_⟩:=I.tuple (XR (K:=X.K) hb)
 have ic:∀{S:PySem.Spec} {Q:ES},Meets (xf.«tuple.__add__» ⟨[.ref a,.ref b],[]⟩) S->S X.A (wants Q X.xe) s->wpAny ‹7› X.A (xB .Add (.ref a) (.ref b)) Q X.xe s:=λg h=>by
  obtain⟨⟨cls,dd,data,sl⟩,ho,hc,n,hd⟩:=id p;obtain⟨⟨Rl,Pm,data2,DZ⟩,DI,Cn,n2,y6⟩:=id p2;simp only at hc hd Cn y6;subst hc hd Cn y6;exact wpAny_inplaceOp_concat ⟨_,ho,rfl⟩ ⟨_,DI,rfl⟩ zR pV sj (lz ly ⟨_,ho,rfl⟩ k6 (kT _ _) g h)
 obtain⟨⟨cls,dd,data,sl⟩,ho,hc,n,hd⟩:=id p;obtain⟨⟨Rl,Pm,data2,DZ⟩,DI,Cn,n2,y6⟩:=id p2;simp only at hc hd Cn y6;subst hc hd Cn y6
 by_cases hx:xs=[]
 ·have e0:its=[]:=r.lG.mpr hx;subst e0;exact ic (tuple_addW0 a b [].toArray fi.toArray n n2 dd Pm sl DZ rfl) ⟨ho,DI,⟨.ref b,H,I,rfl,q1 hx⟩⟩
 ·refine ic (tuple_addW2 a b its.toArray fi.toArray n n2 dd Pm sl DZ (by simpa using λz=>hx (r.lG.mp z)) (by simpa using λz=>hy (r2.lG.mp z)) (by rw[bz,bz,<- r.length,<- r2.length];exact hz)) ⟨ho,DI,?_⟩;rw[show its.toArray++fi.toArray=(its++fi).toArray by simp];refine⟨.ref s.heap.objs.size,_,I.laid (t':=s.toks) (o:=.tup (xs++ys)) (λb ob q=>am _ q) (af _) ?_,rfl,q2 hx _ (I.hok.fresh (af _))⟩;exact⟨⟨by rw[ai];exact hz,qR _ _⟩,_,r.append r2,sq _ _⟩
end
end L2
end
section
namespace K26
open PySem PyProof.Rows L2 F
variable {c d m n:Nat}{kvs:sg}{kk:KW}{ss ts:List T}{init DT ah rr wp:LL}{js kb ws ww:LS}{B:lU}{ds:List DR}{dt hG:List LL}{run t:T}{ks:List KR}
inductive VD (C:ax) (vs:LV) (H:Hp) (Q:VK) (E_:XK):Prop
 |mk (ra r:ax) (ah ba:LL) (w:Str) (ws:LS) (kk:KW) (s:Nat):vs=[.ref ra]->RT H r ah->Rs C H ra r ah ((w::ws)::ba) kk s->Nx kk w->(∀H',Rs C H' ra r ah (ws::ba) kk s->LT H H'->Q (.str w) H')->VD C vs H Q E_
inductive M6 (C:ax) (n:Nat) (vs:LV) (H:Hp) (Q:VK) (E_:XK):Prop
 |mk (ra r:ax) (ah ba:LL) (t:T) (ws:LS) (kk:KW) (s:Nat):vs=[.ref ra,.int n]->RT H r ah->Rs C H ra r ah ((be t++ws)::ba) kk s->bK n kk t->(∀v H',Dp H' t v->Rs C H' ra r ah (ws::ba) kk s->LT H H'->Q v H')->M6 C n vs H Q E_
inductive S5 (C:ax) (n:Nat) (vs:LV) (H:Hp) (Q:VK) (E_:XK):Prop
 |mk (ra r:ax) (ah ba:LL) (as:List T) (ws:LS) (kk:KW) (s:Nat):vs=[.ref ra,.int n]->RT H r ah->Rs C H ra r ah ((nS as.length::((as.map be).flatten++ws))::ba) kk s->(∀a∈as,bK n kk a)->as.length<=3->(∀v H',Dp H' (.tup as) v->Rs C H' ra r ah (ws::ba) kk s->LT H H'->Q v H')->S5 C n vs H Q E_
inductive Om (C:ax) (n:Nat) (vs:LV) (H:Hp) (Q:VK) (E_:XK):Prop
 |mk (ra r:ax) (ah ba:LL) (f:Str) (t:T) (w0 ws:LS) (kk:KW) (s:Nat):vs=[.ref ra,.str f,.int n]->RT H r ah->Rs C H ra r ah ((w0++ws)::ba) kk s->pG n kk f t w0->(f="elders" ->ws=[])->(∀v H',Dp H' t v->Rs C H' ra r ah (ws::ba) kk s->LT H H'->Q v H')->Om C n vs H Q E_
section
variable {P:vy}{w:xm}{K:PySem.W.Frag}{mg:MG}{base:Heap}{t:tT}{c:pR}
theorem Wf(D:Defs K mg t)(S:xS K mg c)(G2:zo mg):aW P w K mg base bm 5 t.vp.1 t.vp.2 ["reader"] (VD c.C):=by
 have ub:aW P w K mg base bm 1 c.need.1 c.need.2 _ gK:=bU S;have Zl:aW P w K mg base bm 4 c.gP.1 c.gP.2 _ (vJ c.C):=jR D S G2;obtain⟨tk,NV⟩:=G2.OJ;have hz:ab=16777216:=cn;refine D.vp.fn.ok Az ‹4› ‹3›
 ·obtain⟨ra,r,ah,ba,w,ws,kk,s,rfl,_⟩:=h;rfl
 ·obtain ⟨ra,r,ah,ba,w,ws,kk,s,rfl,rt,rs,⟨nm,nw⟩,k⟩:=h;obtain ⟨dx,ka,nd,kvs,i,p,gt,_⟩:=id rs
  refine⟨_,(au (aU (i:=1) Az.nd rfl (uv rfl) (cG (pv 0) S.cl S.tL Zl ‹2› S.sZ .nil cN))
   (au (rB (lF hr) (jT (pv 0) rfl) (pv 1) jP rfl)
   (au (bH (dW (pv 0) S.cl S.jf ub ‹2› S.jg .nil cN (aj (cL xG (aN K9 (by rfl) D.cW cg (aj (jT (pv 0) rfl) aq)) (eZ (v:=V.int 20) (by rfl) NV ⟨_,rfl⟩) (aR _)) aq)))
   (aF (aM (pv 1)))))),?_⟩
  simp only[jm,Cx.nox];refine⟨_,rfl,ra,dx,_,rfl,gt,cF _ _ _ _ _ _ ‹1›,ra,r,ah,ba,w,ws,kk,s,rfl,rt,rs,nm,λH1 oy rp=>?_⟩;obtain⟨mP,sF,wb,om,i1,p1,gc,yY,AZ,S2,h5,h6,h7⟩:=id oy
  have hl0:om.length<=20:=by
   obtain⟨hk7,hm,AX,rfl,rn,rm⟩:=S2;unfold jo;rw[aa];exact dq (fK rn rm) hm
  refine⟨_,rfl,ra,c.C,mP,_,_,rfl,gc,S.cl,S.nN,VR _ _ _ _ _ _,_,rfl,wb,_,rfl,zQ.k (k:=.inr w) AZ ‹21›,?_⟩;have ndra:ra≠wb:=bV gc AZ ‹6›;have mh:(upd H1 wb (.dK (db om (.inr w) (.bl true)))) ra=some (.ins c.C mP (fL r i1 p1 sF wb s)):=by rw[aB ndra];exact gc
  have FL:(upd H1 wb (.dK (db om (.inr w) (.bl true)))) wb=some (.dK (db om (.inr w) (.bl true))):=ak;have JY:(upd H1 wb (.dK (db om (.inr w) (.bl true)))) sF=some (.tup (kk.1.map V.str)):=by rw[aB (bV yY AZ ‹6›)];exact yY
  have on:LT H1 (upd H1 wb (.dK (db om (.inr w) (.bl true)))):=⟨λb xs e=>by rw[aB (bV e AZ ‹6›)];exact e,λb xs e=>by rw[aB (bV e AZ ‹6›)];exact e,λb o u e=>by rw[aB (bV e AZ ‹6›)];exact e⟩
  have cx:((db om (.inr w) (.bl true)).length<=20)/\Kn kk (db om (.inr w) (.bl true)):=by
   obtain⟨hk7,hm,AX,rfl,rn,rm⟩:=S2
   by_cases Ap:w∈AX
   ·rw[FJ Ap];exact⟨by unfold jo;rw[aa];exact dq (fK rn rm) hm,hk7,hm,AX,rfl,rn,rm⟩
   ·rw [tW Ap];have rn2:=uG rn Ap;have rm2:∀ x∈AX++[w],x∈kk.2:=fun x hx=>(bu.mp hx).elim (rm x) fun e=>by rw [bg.mp e]; exact nw
    exact⟨by unfold jo;rw[aa];exact dq (fK rn2 rm2) hm,hk7,hm,_,rfl,rn2,rm2⟩
  generalize upd H1 wb (.dK (db om (.inr w) (.bl true)))=H2 at mh FL JY on;have oi:Rs c.C H2 ra r ah (ws::ba) kk s:=⟨mP,sF,wb,_,i1,p1,mh,JY,FL,cx.2,h5,h6,h7⟩;refine⟨_,rfl,ra,mP,_,rfl,mh,cF _ _ _ _ _ _ ‹1›,⟨_,rfl,ra,c.C,mP,_,_,rfl,mh,S.cl,S.nN,VR _ _ _ _ _ _,wb,_,rfl,FL,_,_,rfl,rfl,ra,?_,_,rfl,k H2 oi (rp.trans on)⟩⟩;show[V.ref ra,V.bl (decide (((db om (.inr w) (.bl true)).length:Int)<=20))]=_;rw[aw (by have:=cx.1;omega)]
theorem Vx(D:Defs K mg t)(S:xS K mg c)(G2:zo mg){k:Nat}(hk:4<=k)(Gat:aW P w K mg base bm k t.bO.1 t.bO.2 ["reader","within"] (M6 c.C n)):aW P w K mg base bm (k+1) t.jO.1 t.jO.2 ["reader","within"] (S5 c.C n):=by
 have ub:aW P w K mg base bm 1 c.need.1 c.need.2 _ gK:=bU S;have Zm:aW P w K mg base bm 4 c.eF.1 c.eF.2 _ (zq c.C):=jh D S G2;obtain⟨tk,EC⟩:=G2.Gk;have hz:ab=16777216:=cn;refine D.jO.fn.ok wu ‹4› ‹3›
 ·obtain⟨ra,r,ah,ba,as,ws,kk,s,rfl,_⟩:=h;rfl
 ·obtain ⟨ra,r,ah,ba,as,ws,kk,s,rfl,rt,rs,ex,al,q⟩:=h;obtain ⟨dx,ka,nd,kvs,i,p,gt,_⟩:=id rs
  refine⟨_,(au (aU (i:=2) wu.nd rfl (uv rfl) (cG (pv 0) S.cl S.ql Zm ‹2› S.pZ .nil cN))
   (au (bH (dW (pv 0) S.cl S.jf ub ‹2› S.jg .nil cN (aj (cL xG (pv 2) (eZ (v:=V.int 3) (by rfl) EC ⟨_,rfl⟩) (aR _)) aq)))
   (aF (aM (aY dM (by rfl) D.dB cP (aj (cI rfl (X7 ["place"] [0,1] ["place","reader","within"] (aJ (top 61)) ["reader","within","many"] rfl rfl ‹1›) ⟨fun _ _ _ _ _=>(aO (i:=0) (show List.Nodup [("place":Str),("reader":Str),("within":Str)]by decide +kernel) rfl ‹16› ‹13›),fun _ _ _ _ _=>cJ,fun _ _ _ _ _=>(aH D.bO Gat ‹2› (by rfl) (aj (pv 1) (aj (pv 2) aq)))⟩ (iY rfl D.ni (aj (pv 2) aq))) aq)))))),?_⟩
  have hnw:(as.length:Int)∈uW:=by
   rcases(by omega:as.length=0\/as.length=1\/as.length=2\/as.length=3)with h|h|h|h <;>rw[h] <;>decide +kernel
  refine⟨_,rfl,ra,dx,_,rfl,gt,cF _ _ _ _ _ _ ‹1›,ra,r,ah,ba,as.length,_,kk,s,rfl,rt,rs,hnw,λH1 oy rp=>?_⟩;obtain⟨mP,sF,wb,om,i1,p1,gc,_⟩:=id oy;refine⟨_,rfl,ra,mP,_,rfl,gc,cF _ _ _ _ _ _ ‹1›,⟨_,rfl,_,_,rfl,rfl,ra,by show[V.ref ra,V.bl (decide ((as.length:Int)<=3))]=_;rw[aw ‹21›],?_⟩⟩;refine⟨_,rfl,as.length,rfl,by omega,by omega,λD1 hC=>?_⟩;refine bN (n:=as.length) (λi ys H2=>DpL H2 (as.take i) ys/\H2 D1=some (.lst ys)/\Rs c.C H2 ra r ah ((((as.drop i).map be).flatten++ws)::ba) kk s/\LT H1 H2) ⟨.nil,ak,oy.same (X6 hC),LT.same (X6 hC)⟩ ?_ ?_;rotate_left
  ·rintro i ys H2 hi ⟨dy,nv,oi,on⟩;refine⟨hi,?_⟩;rintro x H3 ⟨rfl,rfl⟩ gi ho;obtain ⟨oo,rfl⟩:=eP ho;rw [cK hi,ci,eK,dE] at oi;refine⟨‹9›,dh ⟨_,rfl,_,rfl,ra,r,ah,ba,as[i],_,kk,s,rfl,(rt.lt rp).lt on,oi,ex _ (bX hi),fun v H4 dv ED AQ=>?_⟩⟩;have VO:=AQ.1 D1 _ nv;have yl:=dy.length;rw [bj] at yl
   have tu:fH H4 (upd H4 D1 (.lst (ys++[v]))):=λb zs e=>by
    rw[aB (bV e VO ‹6›)];exact e
   refine⟨by omega,VO,bG hi ⟨?_,ak,ED.lst VO,(on.trans AQ).own hC⟩⟩;rw[take_snoc hi];exact(dy.mono (AQ.tups.trans tu)).append (.cons (dv.mono tu) .nil)
  rintro ys H2 ⟨dy,nv,oi,on⟩;rw[ay (af _)]at dy;rw[fh (af _)]at oi;refine⟨af _,D1,_,rfl,.inl ⟨XQ nv,λz pi=>?_⟩⟩;have s3:=X6 (o:=.tup ys) pi;exact q _ _ (L2.Dp.tup ak (dy.mono (XX s3))) (oi.same s3) (rp.trans (on.trans (LT.same s3)))
theorem N6(D:Defs K mg t)(S:xS K mg c)(G2:zo mg){k:Nat}(hk:5<=k)(Gat:aW P w K mg base bm k t.bO.1 t.bO.2 ["reader","within"] (M6 c.C n)):aW P w K mg base bm (k+2) t.eN.1 t.eN.2 ["reader","form","within"] (Om c.C n):=by
 have Gci:aW P w K mg base bm (k+1) t.jO.1 t.jO.2 _ (S5 c.C n):=Vx D S G2 ‹21› Gat;have Gcj:=@Wf P w K mg base t c D S G2;have ub:aW P w K mg base bm 1 c.need.1 c.need.2 _ gK:=bU S;have Ga:aW P w K mg base bm 3 c.take.1 c.take.2 _ (nZ c.C):=gq D S;have Zn:aW P w K mg base bm 1 c.gQ.1 c.gQ.2 _ (vP c.C):=jQ D S;have Zl:aW P w K mg base bm 4 c.gP.1 c.gP.2 _ (vJ c.C):=jR D S G2;have Gaz:=@Ak P w K mg base t D;have Gbg:=@Oj P w K mg base t D;refine D.eN.fn.ok rG ‹4› ‹3›
 ·obtain⟨ra,r,ah,ba,f,t0,w0,ws,kk,s,rfl,_⟩:=h;rfl
 ·obtain ⟨ra,r,ah,ba,f,t0,w0,ws,kk,s,rfl,rt,rs,pw,fe,q⟩:=h;obtain ⟨dx,ka,nd,kvs,i,p,gt,CS,_,⟨k7,_⟩,_⟩:=id rs
  refine⟨_,(au (bL (aV cO (pv 1) aP (aR _))
   (aF (aM (aH D.bO Gat ‹2› (by rfl) (aj (pv 0) (aj (pv 2) aq)))))
   aX)
   (au (bL (aV cO (pv 1) aP (aR _))
   (aF (aM (aH D.jO Gci ‹2› (by rfl) (aj (pv 0) (aj (pv 2) aq)))))
   aX)
   (au (bL (aV cO (pv 1) aP (aR _))
   (aF (aM (aH D.vp Gcj ‹2› (by rfl) ‹15›)))
   aX)
   (au (bL (aV cO (pv 1) aP (aR _))
   (au (aU (i:=3) rG.nd rfl (uv rfl) (cG (pv 0) S.cl S.uh Ga ‹2› S.sV .nil cN))
   (au (bH (dW (pv 0) S.cl S.jf ub ‹2› S.jg .nil cN (aj (aH D.pU Gaz ‹2› (by rfl) (aj (pv 3) (aj (jT (pv 0) rfl) aq))) aq)))
   (aF (aM (pv 3)))))
   aX)
   (au (bL (aV cO (pv 1) aP (aR _))
   (au (aU (i:=4) rG.nd rfl (uv rfl) (cG (pv 0) S.cl S.uf Zn ‹2› S.uq .nil cN))
   (au (bH (dW (pv 0) S.cl S.jf ub ‹2› S.jg .nil cN (aj (aH D.lB Gbg ‹2› (by rfl) (aj (pv 4) (aj (jT (pv 0) rfl) aq))) aq)))
   (aF (aM (pv 4)))))
   aX)
   (aF (aM (cG (pv 0) S.cl S.tL Zl ‹2› S.sZ .nil cN)))))))),?_⟩
  simp only[jm,Cx.nox];rcases pw with⟨rfl,ex,rfl⟩|⟨rfl,as,rfl,ex,ma,rfl⟩|⟨rfl,ks,rfl,hk,⟨nd0,hkd⟩,rfl⟩|⟨x,hf,nx,rfl,rfl⟩
  ·exact⟨_,rfl,rfl,_,rfl,bR (aw rfl) ⟨_,rfl,_,rfl,ra,r,ah,ba,t0,ws,kk,s,rfl,rt,rs,ex,q⟩⟩
  ·rw[pO (λa h=>⟨_,ex a h⟩),eM]at rs;refine‹18›;exact⟨_,rfl,rfl,_,rfl,bR (aw rfl) ⟨_,rfl,_,rfl,ra,r,ah,ba,as,ws,kk,s,rfl,rt,rs,ex,ma,q⟩⟩
  ·have ew:=fe rfl;subst ew;rw[dm]at rs;refine‹18›;refine‹18›;refine‹18›;refine‹18›;refine‹8›;refine⟨_,rfl,ra,dx,_,rfl,gt,cF _ _ _ _ _ _ ‹1›,ra,r,ah,ba,_,kk,s,rfl,rt,rs,λz H1 hz oy rp=>?_⟩;obtain⟨mP,sF,wb,om,i1,p1,gc,yY,_⟩:=id oy;refine⟨_,rfl,ra,mP,_,rfl,gc,cF _ _ _ _ _ _ ‹1›,⟨_,rfl,_,rfl,ra,c.C,mP,_,_,rfl,gc,S.cl,S.nK,V7 _ _ _ _ _ _,z,sF,w0,kk.1,rfl,hz,yY,by omega,λe he=>(hkd e he).2,nd0,λH2 s2=>⟨ra,rfl,_,rfl,q _ _ (L2.Dp.tup (s2 z _ hz) (X3 _)) (oy.same s2) (rp.trans (LT.same s2))⟩⟩⟩
  ·have n1:¬ f = "e" := by rcases hf with ⟨rfl,_⟩ | rfl | ⟨rfl,_⟩ <;> decide +kernel
   have n2:¬f="args":= by rcases hf with⟨rfl,_⟩|rfl|⟨rfl,_⟩ <;>decide +kernel
   refine⟨_,rfl,rfl,_,rfl,aL (ne_str n1) ?_⟩;refine⟨_,rfl,rfl,_,rfl,aL (ne_str n2) ?_⟩;rcases hf with⟨rfl,hxw⟩|rfl|⟨rfl,hxk⟩
   ·exact⟨_,rfl,rfl,_,rfl,bR (aw rfl) ⟨_,rfl,ra,r,ah,ba,x,ws,kk,s,rfl,rt,rs,⟨nx,hxw⟩,λH1 oy rp=>q _ H1 ‹12› oy rp⟩⟩
   ·refine‹18›;refine‹18›;refine‹18›;exact⟨_,rfl,ra,dx,_,rfl,gt,cF _ _ _ _ _ _ ‹1›,ra,r,ah,ba,x,ws,kk,s,rfl,rt,rs,nx,λH1 oy rp=>q _ H1 ‹12› oy rp⟩
   ·refine‹18›;refine‹8›;refine⟨_,rfl,ra,dx,_,rfl,gt,cF _ _ _ _ _ _ ‹1›,ra,r,ah,ba,x,ws,kk,s,rfl,rt,rs,λH1 oy rp=>?_⟩;obtain⟨mP,sF,wb,om,i1,p1,gc,yY,_⟩:=id oy;refine⟨_,rfl,ra,mP,_,rfl,gc,cF _ _ _ _ _ _ ‹1›,⟨_,rfl,_,rfl,ra,c.C,mP,_,_,rfl,gc,S.cl,S.nK,V7 _ _ _ _ _ _,x,sF,kk.1,rfl,yY,ra,by show[V.ref ra,V.bl (decide (x∈kk.1))]=_;rw[aw hxk],_,rfl,q _ H1 ‹12› oy rp⟩⟩
end
theorem JT:∀i∈AW,∀p∈exprs,¬p.1=nS i:=by decide +kernel
theorem J3:∀i∈AW,¬nS i="none":= by decide +kernel
theorem TJ:∀i∈AW,i∈uW:=by decide +kernel
theorem Hq:∀p∈exprs,¬p.1="none":= by decide +kernel
theorem Eb:∀p∈exprs,∀f∈p.2,¬f="elders":= by decide +kernel
theorem CN{k:ga}(h:∀p∈kvs,¬p.1=k):eU kvs k=none:=by
 cases e:eU kvs k with
 |none=>rfl
 |some v=>
  have:(eU kvs k).isSome=true:=by rw[e];rfl
  obtain⟨kv,S0,ek⟩:=bE.mp (nC.mp this);exact absurd ek (h kv S0)
section
variable {P:vy}{w:xm}{K:PySem.W.Frag}{mg:MG}{base:Heap}{t:tT}{c:pR}
theorem Ie(D:Defs K mg t)(S:xS K mg c)(G2:zo mg)(GL:BN P w K mg t){k:Nat}(hk:4<=k)(Zo:aW P w K mg base bm k t.eN.1 t.eN.2 ["reader","form","within"] (Om c.C n)):aW P w K mg base bm (k+1) t.bO.1 t.bO.2 ["reader","within"] (M6 c.C (n+1)):=by
 have ub:aW P w K mg base bm 1 c.need.1 c.need.2 _ gK:=bU S;have Jn:aW P w K mg base bm 2 c.ahead.1 c.ahead.2 _ (nG c.C):=gR D S;have Ga:aW P w K mg base bm 3 c.take.1 c.take.2 _ (nZ c.C):=gq D S;have Zm:aW P w K mg base bm 4 c.eF.1 c.eF.2 _ (zq c.C):=jh D S G2;have hz:ab=16777216:=cn;refine D.bO.fn.ok jZ ‹4› ‹3›
 ·obtain⟨ra,r,ah,ba,t0,ws,kk,s,rfl,_⟩:=h;rfl
 ·obtain ⟨ra,r,ah,ba,t0,ws,kk,s,rfl,rt,rs,ex,q⟩:=h;obtain ⟨dx,ka,nd,kvs,i,p,gt,CS,_⟩:=id rs
  refine⟨_,(au (bH (dW (pv 0) S.cl S.jf ub ‹2› S.jg .nil cN (aj (cL qO (pv 1) aG (aR _)) aq)))
   (au (aU (i:=2) jZ.nd rfl (uv rfl) (cG (pv 0) S.cl S.uw Jn ‹2› S.uz .nil cN))
   (au (bL (aV cO (pv 2) aP (aR _))
   (au (bH (cG (pv 0) S.cl S.uh Ga ‹2› S.sV .nil cN))
   (aF (aM jz)))
   aX)
   (au (bL (CW (K3 (pv 2) (eZ (v:=V.ref t.cQ) (by rfl) GL.qg rfl)))
   (aF (aM (cG (pv 0) S.cl S.ql Zm ‹2› S.pZ .nil cN)))
   aX)
   (au (bH (cG (pv 0) S.cl S.uh Ga ‹2› S.sV .nil cN))
   (aF (aM (bh Gn (bW (aj (pv 2) aq)) (aY mZ (by rfl) D.dB cP (aj (cI rfl (X7 ["form"] [0,1] ["form","reader","within"] (aJ (top 63)) ["reader","within","word"] rfl rfl ‹1›) ⟨fun _ _ _ _ _=>(aO (i:=0) (show List.Nodup [("form":Str),("reader":Str),("within":Str)]by decide +kernel) rfl ‹16› ‹13›),fun _ _ _ _ _=>cJ,fun _ _ _ _ _=>(aH D.eN Zo ‹2› (by rfl) (aj (pv 1) (aj (pv 0) (aj (bh mW (pv 2) aG) aq))))⟩ (Hy (yd (eZ (v:=V.ref t.cQ) (by rfl) GL.qg rfl) (pv 2) ‹20›))) aq)))))))))),?_⟩
  simp only[jm,Cx.nox];refine⟨_,rfl,ra,dx,_,rfl,gt,cF _ _ _ _ _ _ ‹1›,⟨_,rfl,_,_,rfl,rfl,ra,by show[V.ref ra,V.bl (decide (((n+1:Nat):Int) >0))]=_;rw[aw ‹21›],?_⟩⟩;rcases ex.cls with rfl|⟨i,hi,rfl⟩|⟨wd,ts,fs,rfl,hm,pw,ze⟩
  ·rw[be,eM,gy]at rs;refine⟨_,rfl,ra,dx,_,rfl,gt,cF _ _ _ _ _ _ ‹1›,ra,r,ah,ba,_,kk,s,rfl,rt,rs,?_⟩;refine‹8›;exact⟨_,rfl,ra,dx,_,rfl,gt,cF _ _ _ _ _ _ ‹1›,ra,r,ah,ba,_,ws,kk,s,rfl,rt,rs,λH1 oy rp=>q .non H1 (by rw[Dp]) oy rp⟩
  ·rw [be,eM,gy] at rs;refine⟨_,rfl,ra,dx,_,rfl,gt,cF _ _ _ _ _ _ ‹1›,ra,r,ah,ba,_,kk,s,rfl,rt,rs,?_⟩;refine⟨_,rfl,rfl,_,rfl,aL (ne_str (J3 i hi)) ?_⟩
   have hv:eU (exprs.map fun p=>((By p.1:ga),V.ref (t.ad "e" p.1))) (.inr (nS i))=none:=CN fun p hp=>by
    obtain⟨p0,h0,rfl⟩:=bE.mp hp;exact λz=>JT i hi p0 h0 (by injection z)
   refine⟨_,rfl,t.cQ,_,.inr (nS i),rfl,GL.cZ.d,rfl,_,rfl,?_⟩;rw[hv];refine jq ?_;exact⟨_,rfl,ra,dx,_,rfl,gt,cF _ _ _ _ _ _ ‹1›,ra,r,ah,ba,i,ws,kk,s,rfl,rt,rs,TJ i hi,λH1 oy rp=>q _ H1 (L2.Dp.int i) oy rp⟩
  ·rw [iG,eM] at rs;refine⟨_,rfl,ra,dx,_,rfl,gt,cF _ _ _ _ _ _ ‹1›,ra,r,ah,ba,_,kk,s,rfl,rt,rs,?_⟩;refine⟨_,rfl,rfl,_,rfl,aL (ne_str (Hq _ hm)) ?_⟩;refine⟨_,rfl,t.cQ,_,.inr wd,rfl,GL.cZ.d,rfl,_,rfl,?_⟩;rw [pP GL.cZ hm];refine iu ?_;refine⟨_,rfl,ra,dx,_,rfl,gt,cF _ _ _ _ _ _ ‹1›,ra,r,ah,ba,_,_,kk,s,rfl,rt,rs,fun H1 oy rp=>?_⟩;obtain ⟨pl1,Nw⟩:=pw.len;refine⟨_,rfl,by show 1<=ab; omega,fun a1 Nl=>?_⟩;have s1:Same H1 (upd H1 a1 (.tup [Ai (wd::((List.map be ts).flatten++ws))])):=X6 Nl;have Zp:(upd H1 a1 (.tup [Ai (wd::((List.map be ts).flatten++ws))])) a1=some (.tup [.str wd]):=ak;generalize upd H1 a1 (.tup [Ai (wd::((List.map be ts).flatten++ws))])=H2 at s1 Zp;refine⟨_,rfl,t.cQ,_,.inr wd,_,rfl,GL.cZ.d,rfl,pP GL.cZ hm,t.ad "e" wd,rfl,⟨_,GL.cZ.s (wd,fs) hm H2⟩,fun D1 hC=>?_⟩;refine bN (n:=ts.length) (fun i ys H3=>DpL H3 (ts.take i) ys/\H3 D1=some (.lst ys)/\Rs c.C H3 ra r ah ((((ts.drop i).map be).flatten++ws)::ba) kk s/\LT H2 H3) ⟨.nil,ak,(oy.same s1).same (X6 hC),LT.same (X6 hC)⟩ ?_ ?_;rotate_left
   ·rintro i ys H3 hi ⟨dy,DS,zt,x6⟩;have zd:i < fs.length:=by omega
    have ei:(fs.map V.str)[i]?=some (.str fs[i]):=by rw[bS,ac zd];rfl
    refine⟨⟨_,_,GL.cZ.s (wd,fs) hm H3,ei⟩,?_⟩;rintro v H4 ⟨rfl,yy⟩ gi ho;obtain⟨oo,rfl⟩:=eP ho;have ev:=yy _ (GL.cZ.s (wd,fs) hm H4);rw[ei]at ev;cases ev;rw[cK hi,ci,eK,dE]at zt;have YO:=pw.get i zd hi (by rw[aa];exact hi);rw[nk]at YO;refine⟨‹9›,dh ⟨_,rfl,_,rfl,_,rfl,_,_,rfl,rfl,ra,r,ah,ba,fs[i],ts[i],be ts[i],_,kk,s,?_,((rt.lt rp).lt (LT.same s1)).lt x6,zt,YO,λe=>absurd e (Eb _ hm _ (bX zd)),λv H5 dv HL xv=>?_⟩⟩
    ·show[V.ref ra,V.str fs[i],V.int (((n+1:Nat):Int) - 1)]=[V.ref ra,V.str fs[i],V.int n];rw[show(((n+1:Nat):Int) - 1)=(n:Int)by omega]
    have i0:=xv.1 D1 _ DS;have yl:=dy.length;rw[bj]at yl
    have tu:fH H5 (upd H5 D1 (.lst (ys++[v]))):=λb zs e=>by
     rw[aB (bV e i0 ‹6›)];exact e
    refine⟨by omega,i0,bG hi ⟨?_,ak,HL.lst i0,(x6.trans xv).own hC⟩⟩;rw[take_snoc hi];exact(dy.mono (xv.tups.trans tu)).append (.cons (dv.mono tu) .nil)
   rintro ys H3 ⟨dy,DS,zt,x6⟩;rw[ay (af _)]at dy;rw[fh (af _)]at zt;have yl:=dy.length;refine⟨⟨_,GL.cZ.s (wd,fs) hm H3,by show(fs.map V.str).length<=ts.length;rw[aa];omega⟩,D1,_,rfl,.inl ⟨XQ DS,λz pi=>?_⟩⟩;exists 1,s4,ME,H3,z,(.tup ys),pi,H4;have Zq:=s4 _ _ (x6.2 _ _ Zp);have AQ:=rp.trans ((LT.same s1).trans (x6.trans (LT.same s4)));refine .inl ⟨a1,z,_,_,rfl,rfl,XR Zq,XR ME,bc _ _,by show 1+_<=ab;omega,λen=>?_,λ_ p hp=>?_⟩
   ·subst en;cases ts with
    |cons=>exact absurd yl (by rw[aI,lP];omega)
    |nil=>exact q _ _ (L2.Dp.tup Zq (.cons ‹12› .nil)) (zt.same s4) AQ
   ·have s5:Same H4 (upd H4 p (.tup ([.str wd]++ys))):=X6 hp;exact q _ _ (L2.Dp.tup ak (.cons ‹12› ((dy.mono (XX s4)).mono (XX s5)))) ((zt.same s4).same s5) (AQ.trans (LT.same s5))
theorem O1(D:Defs K mg t)(S:xS K mg c)(G2:zo mg)(GL:BN P w K mg t):∀(n:Nat),n<=4->aW P w K mg base bm (5+3*n) t.bO.1 t.bO.2 ["reader","within"] (M6 c.C n)
 |0,_=>by
  refine(D.bO.fn.ok jZ ‹4› (λxh A outer s H vs Q E hr h=>?_):aW P w K mg base bm (4+1) _ _ _ _)
  ·obtain⟨ra,r,ah,ba,t0,ws,kk,s,rfl,_⟩:=h;rfl
  ·obtain⟨ra,r,ah,ba,t0,ws,kk,s,rfl,rt,rs,ex,q⟩:=h;exact ex.elim
 |n+1,hn=>by
  have h5:5<=5+3*n:=k9 _ _;have h4:4<=5+3*n+2:=by omega
  exact Ie D S G2 GL h4 (N6 D S G2 h5 (O1 D S G2 GL n ‹21›))
theorem Uo(D:Defs K mg t)(S:xS K mg c)(G2:zo mg)(GL:BN P w K mg t):aW P w K mg base bm 19 t.eN.1 t.eN.2 ["reader","form","within"] (Om c.C 4):=N6 D S G2 ‹11› (O1 D S G2 GL 4 ‹11›)
end
inductive S3 (B:sI) (kk:KW):LS->List T->LS->LS->LL->Nat->Prop
 |nil {js:LS}:S3 B kk [] [] js [] [] 0
 |part {f:Str} {t:T} {w0 ws:LS} {fs:LS} {ts:List T} {js:LS} {oa:LL} {d:Nat}:pG 4 kk f t w0->¬f=("block":Str)->S3 B kk fs ts js ws oa d->S3 B kk (f::fs) (t::ts) js (w0++ws) oa d
 |block {b:T} {r:LL} {c d:Nat} {ws:LS} {fs:LS} {ts:List T} {jj:Str} {js:LS} {oa:LL}:B b r c->(∀q∈stats,¬q.1=jj)->S3 B kk fs ts js ws oa d->S3 B kk (("block":Str)::fs) (b::ts) (jj::js) [] (r++(jj::ws)::oa) (c+d)
theorem Stp.rdp{B:sI}{fs:LS}(h:Stp B kk fs ts init kb js DT d):(∀j∈js,∀q∈stats,¬q.1=j)->∃ws oa,DT=init++(kb++ws)::oa/\S3 B kk fs ts js ws oa d:=by
 induction h with
 |nil=>exact λ_=>⟨[],[],by rw[dm],.nil⟩
 |block hb _ _ ih=>
  intro hj;obtain⟨ws,oa,e,r⟩:=ih (λj h=>hj j (cf _ h));exact⟨[],_,by rw[e,dm];simp only[dE,eM,gy],.block hb (hj _ aS) r⟩
 |part pw nb _ ih=>
  intro hj;obtain⟨ws,oa,e,r⟩:=ih hj;exact⟨_,oa,by rw[e,dE],.part pw nb r⟩
theorem Bm:∀p∈mj,∀j∈p.2,∀q∈stats,¬q.1=j:=by decide +kernel
theorem JQ:∀p∈stats,p.2.length<=4/\∀i∈List.range 4,p.2[i]?=some ("elders":Str)->i+1=p.2.length:=by decide +kernel
inductive Kp (C:ax) (B:lU) (b:Int) (vs:LV) (H:Hp) (Q:VK) (E_:XK):Prop
 |mk (ra r:ax) (ah rs ba:LL) (stop:Str) (ws:LS) (t:T) (kk:KW) (s c:Nat):vs=[.ref ra,.int b]->RT H r ah->Rs C H ra r ah (rs++(stop::ws)::ba) kk s->B kk t rs c->(∀q∈stats,¬q.1=stop)->s+c<=16->(∀v H',Dp H' t v->Rs C H' ra r ah ((stop::ws)::ba) kk (s+c)->LT H H'->Q v H')->Kp C B b vs H Q E_
inductive Um (C:ax) (B:lU) (n:Nat) (vs:LV) (H:Hp) (Q:VK) (E_:XK):Prop
 |mk (ra r:ax) (ah rs ba:LL) (t:T) (kk:KW) (s c:Nat):vs=[.ref ra,.int n]->RT H r ah->Rs C H ra r ah (rs++ba) kk s->BB B kk t rs c->s+c<=16->(∀v H',Dp H' t v->Rs C H' ra r ah ba kk (s+c)->LT H H'->Q v H')->Um C B n vs H Q E_
section
variable {P:vy}{w:xm}{K:PySem.W.Frag}{mg:MG}{base:Heap}{t:tT}{c:pR}
theorem Vo(D:Defs K mg t)(S:xS K mg c)(G2:zo mg)(GL:BN P w K mg t){k:Nat}(hn:∀kk t r d,B kk t r d->0<n)(hk:19<=k)(Gaw:aW P w K mg base bm k t.cY.1 t.cY.2 ["reader","blocks"] (Kp c.C B ((n:Int) - 1))):aW P w K mg base bm (k+1) t.dX.1 t.dX.2 ["reader","blocks"] (Um c.C B n):=by
 have ub:aW P w K mg base bm 1 c.need.1 c.need.2 _ gK:=bU S;have Ga:aW P w K mg base bm 3 c.take.1 c.take.2 _ (nZ c.C):=gq D S;have NW:aW P w K mg base bm 4 c.eE.1 c.eE.2 _ (rO c.C):=fM D S;have S4:aW P w K mg base bm 3 c.iJ.1 c.iJ.2 _ (zm c.C):=lJ D S;have Zo:=@Uo P w K mg base t c D S G2 GL;obtain⟨Zh,xw⟩:=G2.vQ;obtain⟨Yr,B2⟩:=G2.zN;have hz:ab=16777216:=cn;refine D.dX.fn.ok gY ‹4› ‹3›
 ·obtain⟨ra,r,ah,rs,ba,t0,kk,s,d,rfl,_⟩:=h;rfl
 ·obtain ⟨ra,r,ah,rr,ba,t0,kk,s,d,rfl,rt,rs,mN,h16,q⟩:=h;obtain ⟨wd,ps,fs,js,d0,rfl,rfl,hm,EZ,MA,VX⟩:=yx ‹21› mN
  obtain⟨w0,oa,rfl,rdp⟩:=MA.rdp (by
   rcases EZ with h|⟨rfl,_⟩
   ·exact Bm _ h
   ·exact λj h=>by cases h)
  refine⟨_,(au (aU (i:=2) gY.nd rfl (uv rfl) (cG (pv 0) S.cl S.uh Ga ‹2› S.sV .nil cN))
   (au (uI (pv 0) aG BP)
   (au (bH (dW (pv 0) S.cl S.jf ub ‹2› S.jg .nil cN (aj (cL xG (jT (pv 0) rfl) (eZ (v:=V.int 16) (by rfl) xw ⟨_,rfl⟩) (aR _)) aq)))
   (au (aU (i:=3) gY.nd rfl (uv rfl) (aY rA (by rfl) D.lO ji (aj (Gs (eZ (v:=V.ref t.jY) (by rfl) GL.Gr rfl) (pv 2) (bW aq) ⟨by rfl,by rfl,by rfl,by rfl⟩) aq)))
   (au (aU (i:=4) gY.nd rfl (uv rfl) (bw (aj (pv 2) aq)))
   (au (fG di rfl (Hy (yd (eZ (v:=V.ref t.cV) (by rfl) GL.rE rfl) (pv 2) ‹20›)) (aO (i:=5) gY.nd rfl (uv rfl))
   (aF (bL (aV cO (pv 5) aP (aR _))
   (au (bH (dW (pv 0) S.cl S.jf ub ‹2› S.jg .nil cN (aj (cL qO (pv 1) aG (aR _)) aq)))
   (au (bH (cG (pv 0) S.cl S.qP S4 ‹2› S.qN .nil cN))
   (au (bH (gb cz eQ eR fY (pv 4) (aj (aH D.cY Gaw ‹2› (by rfl) (aj (pv 0) (aj (bh mW (pv 1) aG) aq))) aq)))
   (aF (bH (dW (pv 0) S.cl S.nA NW ‹2› S.nF .nil cN (aj (gb cz PySem.F.slot_list_pop PySem.F.type_list_pop FT (pv 3) (aj aG aq)) aq)))))))
   (aF (bH (gb cz eQ eR fY (pv 4) (aj (aH D.eN Zo ‹2› (by rfl) (aj (pv 0) (aj (pv 5) (aj (eZ (v:=V.int 4) (by rfl) B2 ⟨_,rfl⟩) aq)))) aq)))))))
   (au (bH (cG (pv 0) S.cl S.qP S4 ‹2› S.qN .nil cN))
   (aF (aM (aY mZ (by rfl) D.dB cP (aj (pv 4) aq))))))))))),?_⟩
  simp only[jm,Cx.nox];have rs0:Rs c.C H ra r ah ((wd::w0)::(oa++ba)) kk s:=rs;clear rs;obtain⟨dx,ka,nd,kvs,i,p,gt,CS,_⟩:=id rs0;refine⟨_,rfl,ra,dx,_,rfl,gt,cF _ _ _ _ _ _ ‹1›,ra,r,ah,_,wd,w0,kk,s,rfl,rt,rs0,λH1 oy rp=>?_⟩;obtain⟨mP,sF,wb,om,i1,p1,gc,yY,AZ,h5⟩:=id oy;refine⟨_,rfl,ra,c.C,mP,_,_,rfl,gc,S.cl,S.nS,Wm _ _ _ _ _ _,_,_,rfl,rfl,mP,_,gc,(by show 6<1000;decide),?_⟩;rw[Jd];have on:=LT.ins (H:=H1) (gs:=fL r i1 p1 sF wb ((s:Int)+1)) gc;have mh:(upd H1 ra (.ins c.C mP (fL r i1 p1 sF wb ((s:Int)+1)))) ra=some (.ins c.C mP (fL r i1 p1 sF wb ((s+1:Nat):Int))):=ak;have JY:(upd H1 ra (.ins c.C mP (fL r i1 p1 sF wb ((s:Int)+1)))) sF=some (.tup (kk.1.map V.str)):=by rw[aB (bV yY gc ‹6›)];exact yY
  have FL:(upd H1 ra (.ins c.C mP (fL r i1 p1 sF wb ((s:Int)+1)))) wb=some (.dK om):=by rw[aB (bV AZ gc ‹6›)];exact AZ
  generalize upd H1 ra (.ins c.C mP (fL r i1 p1 sF wb ((s:Int)+1)))=H2 at on mh JY FL;have oi:Rs c.C H2 ra r ah (w0::(oa++ba)) kk (s+1):=⟨mP,sF,wb,om,i1,p1,mh,JY,FL,h5⟩;have Zr:=rp.trans on;refine⟨_,rfl,ra,mP,_,rfl,mh,cF _ _ _ _ _ _ ‹1›,⟨_,rfl,ra,c.C,mP,_,_,rfl,mh,S.cl,S.nS,Wm _ _ _ _ _ _,_,_,rfl,rfl,ra,by show[V.ref ra,V.bl (decide (((s+1:Nat):Int)<=16))]=_;rw[aw ‹21›],?_⟩⟩;refine⟨t.jY,_,rfl,GL.qK.d,_,rfl,ck _,λe0 VI=>⟨.inr wd,rfl,?_⟩⟩;exists 1,s2,xi,H2,e0,(.tup []),VI,H3
  obtain⟨jt,hjt,hjv⟩:∃jt:ax,((eU (mj.map fun p=>((.inr p.1:ga),V.ref (t.ad "j" p.1))) (.inr wd)).getD (.ref e0))=V.ref jt/\SqT K H3 jt (js.map V.str):=by
   rcases EZ with EZ|⟨rfl,AR⟩
   ·exact⟨t.ad "j" wd,by rw[pP GL.qK EZ];rfl,GL.qK.s _ EZ H3⟩
   ·refine⟨e0,?_,XR xi⟩
    rw[CN λp hp=>by
     obtain⟨p0,h0,rfl⟩:=bE.mp hp;exact λz=>AR p0 h0 (by injection z)]
    rfl
  rw[hjt];refine⟨jt,_,rfl,.inr hjv,fun jl E1=>?_⟩;have s3:Same H3 (upd H3 jl (.lst (js.map V.str))):=X6 E1;have Ta:(upd H3 jl (.lst (js.map V.str))) jl=some (.lst (js.map V.str)):=ak;have jlH2:H2 jl=none:=dN s2 E1;generalize upd H3 jl (.lst (js.map V.str))=H4 at s3 Ta;refine⟨_,rfl,by show 1<=ab;decide,fun la NI=>?_⟩;have s4:Same H4 (upd H4 la (.lst [.str wd])):=X6 NI;have FD:(upd H4 la (.lst [.str wd])) la=some (.lst (V.str wd::[])):=ak;have xt:la≠jl:=(aD Ta NI).symm;have Zs:H2 la=none:=dN (s2.trans s3) NI;have IX:=s4 jl _ Ta;generalize upd H4 la (.lst [.str wd])=H5 at s4 FD IX;have s25:Same H2 H5:=(s2.trans s3).trans s4;have HL:=oi.same s25;have lt25:=LT.same s25;have FO:=rt.lt Zr;obtain⟨fl4,fel⟩:=JQ _ hm;obtain⟨fl,_⟩:=MA.len;clear MA mN;refine⟨_,rfl,t.cV,_,.inr wd,_,rfl,GL.dR.d,rfl,pP GL.dR hm,t.ad "s" wd,rfl,⟨_,GL.dR.s (wd,fs) hm H5⟩,?_⟩
  refine nq (K:=K) (xs:=fs.map V.str) (λi σ H6=>∃(ys:LV) (Zt ws:LS) (tl:LL) (si d:Nat) (v5:OV),σ=[some (.ref ra),some (.int n),some (.str wd),some (.ref jl),some (.ref la),v5]/\H6 la=some (.lst (.str wd::ys))/\DpL H6 (ps.take i) ys/\H6 jl=some (.lst (Zt.map V.str))/\Rs c.C H6 ra r ah (ws::(tl++ba)) kk si/\S3 (B kk) kk (fs.drop i) (ps.drop i) Zt ws tl d/\si+d=s+(1+d0)/\LT H2 H6)
   ⟨[],js,w0,oa,s+1,d0,_,rfl,FD,.nil,IX,HL,by rw[r8,r8];exact rdp,by omega,lt25⟩ (λi σ H6 _ _=>GL.dR.s (wd,fs) hm H6) ?_ ?_
  ·rintro i x σ H6 hx ⟨ys,Zt,ws,tl,si,d,v5,rfl,BO,dy,EA,A0,rd,Kb,B3⟩
   have zd:i<fs.length:=by
    have:=(bo.mp hx).1
    rwa[aa]at this
   have sv:i<ps.length:=by omega
   rw[bS,ac zd]at hx;have hx:=(cS hx).symm;subst hx;rw[cK zd,cK sv]at rd;have fei:=fel i (iE.mpr ‹21›);have yl:=dy.length;rw[bj]at yl;obtain⟨HM,ka6,nd6,NY,i6,p6,uu,_⟩:=id A0;have Ki:=take_snoc (l:=ps) sv;generalize VY:fs[i]=ff at rd;generalize hte:ps[i]=tt at rd Ki;cases rd with
   | @block bb rr cc d' HP _ _ jj Cs tl' hb AR Zu=>
    have h0n:=hn _ _ _ _ hb;refine‹8›;refine⟨_,rfl,ra,HM,_,rfl,uu,cF _ _ _ _ _ _ ‹1›,⟨_,rfl,_,_,rfl,rfl,ra,by show[V.ref ra,V.bl (decide ((0:Int)<(n:Int)))]=_;rw[aw ‹21›],?_⟩⟩
    have rs6':Rs c.C H6 ra r ah ([]::(rr++(jj::HP)::(tl'++ba))) kk si:=by
     rw[dE,eM]at A0;exact A0
    refine⟨_,rfl,ra,HM,_,rfl,uu,cF _ _ _ _ _ _ ‹1›,ra,r,ah,_,kk,si,rfl,FO.lt B3,rs6',λH7 Zv HU=>?_⟩;have BQ:=HU.1 la _ BO;have NL:=HU.1 jl _ EA;refine⟨_,rfl,.inl ⟨rfl,_,XQ BQ⟩,_,rfl,_,rfl,_,_,rfl,rfl,ra,r,ah,rr,_,jj,HP,tt,kk,si,cc,rfl,(FO.lt B3).lt HU,Zv,hb,AR,by omega,λv H8 dv N1 BC=>?_⟩;have BS:=BC.1 la _ BQ;have FE:=BC.1 jl _ NL;refine⟨la,_,v,rfl,rfl,BS,by rw[aI];omega,?_⟩
    have C0:fH H8 (upd H8 la (.lst (.str wd::ys++[v]))):=λb zs e=>by
     rw[aB (bV e BS ‹6›)];exact e
    have lt9:=((B3.trans HU).trans BC).own (o:=.lst (.str wd::ys++[v])) Zs;have rs9:=N1.lst (ys:=.str wd::ys++[v]) BS;have SI:(upd H8 la (.lst (.str wd::ys++[v]))) la=some (.lst (.str wd::(ys++[v]))):=ak;have BU:(upd H8 la (.lst (.str wd::ys++[v]))) jl=_:=(aB xt.symm).trans FE;generalize upd H8 la (.lst (.str wd::ys++[v]))=H9 at C0 lt9 rs9 SI BU;obtain⟨dx9,ka9,nd9,Tb,i9,p9,hra9,_⟩:=id rs9;refine⟨_,rfl,ra,dx9,_,rfl,hra9,cF _ _ _ _ _ _ ‹1›,⟨_,rfl,.inl ⟨rfl,_,XQ BU⟩,jl,_,0,0,.str jj,rfl,rfl,BU,by decide,by decide,?_,rfl,?_⟩⟩
    ·rw[ci,aI];unfold tN;simp
    have ejs:((jj::Cs).map V.str).eraseIdx 0=Cs.map V.str:=rfl;rw[ejs]
    have Zw:fH H9 (upd H9 jl (.lst (Cs.map V.str))):=λb zs e=>by
     rw[aB (bV e BU ‹6›)];exact e
    have Tk:=lt9.own (o:=.lst (Cs.map V.str)) jlH2;have Zx:=rs9.lst (ys:=Cs.map V.str) BU;have P6:(upd H9 jl (.lst (Cs.map V.str))) la=_:=(aB xt).trans SI;have P7:(upd H9 jl (.lst (Cs.map V.str))) jl=some (.lst (Cs.map V.str)):=ak;generalize upd H9 jl (.lst (Cs.map V.str))=AU at Zw Tk Zx P6 P7;refine⟨ra,r,ah,_,jj,HP,kk,si+cc,rfl,FO.lt Tk,Zx,λUZ rs11 N2=>?_⟩;refine⟨ys++[v],Cs,HP,tl',si+cc,d',_,rfl,N2.1 la _ P6,?_,N2.1 jl _ P7,rs11,Zu,by omega,Tk.trans N2⟩;rw[Ki];have MH:=(C0.trans Zw).trans N2.tups;exact(dy.mono ((HU.trans BC).tups.trans MH)).append (.cons (dv.mono MH) .nil)
   | @part _ _ w1 HP _ _ _ _ d' pw nb Zu=>
    refine⟨_,rfl,rfl,_,rfl,aL (ne_str nb) ?_⟩
    have HV:ff=("elders":Str)->HP=[]:=fun e=>by
     have h1:i+1=fs.length:=fei (by rw[ac zd,VY,e]);have h2:fs.drop (i+1)=[]:=fh ‹21›;have h3:ps.drop (i+1)=[]:=fh ‹21›;rw[h2,h3]at Zu;cases Zu;rfl
    refine⟨_,rfl,.inl ⟨rfl,_,XQ BO⟩,_,rfl,_,rfl,ra,r,ah,_,ff,tt,w1,HP,kk,si,rfl,FO.lt B3,A0,pw,HV,λv H8 dv N1 BC=>?_⟩;have BS:=BC.1 la _ BO;have FE:=BC.1 jl _ EA;refine⟨la,_,v,rfl,rfl,BS,by rw[aI];omega,?_⟩
    have C0:fH H8 (upd H8 la (.lst (.str wd::ys++[v]))):=λb zs e=>by
     rw[aB (bV e BS ‹6›)];exact e
    refine⟨ys++[v],Zt,HP,tl,si,d,_,rfl,ak,?_,(aB xt.symm).trans FE,N1.lst BS,Zu,Kb,(B3.trans BC).own Zs⟩;rw[Ki];exact(dy.mono (BC.tups.trans C0)).append (.cons (dv.mono C0) .nil)
  ·rintro σ H6 ⟨ys,Zt,ws,tl,si,d,v5,rfl,BO,dy,EA,A0,rd,Kb,B3⟩;rw[aa]at dy rd;rw[ay ‹21›]at dy;rw[fh (af _),fh ‹21›]at rd;cases rd;obtain⟨HM,ka6,nd6,NY,i6,p6,uu,_⟩:=id A0;refine⟨_,rfl,ra,HM,_,rfl,uu,cF _ _ _ _ _ _ ‹1›,ra,r,ah,_,kk,si,rfl,FO.lt B3,A0,λH7 Zv HU=>?_⟩;refine⟨_,rfl,la,_,rfl,.inl ⟨XQ (HU.1 la _ BO),λz pi=>?_⟩⟩;have s8:=X6 (o:=.tup (.str wd::ys)) pi;refine q _ _ (L2.Dp.tup ak (.cons ‹12› ((dy.mono HU.tups).mono (XX s8)))) ?_ (Zr.trans ((B3.trans HU).trans (LT.same s8)));have es:si=s+(1+d0):=Kb;rw[<- es];exact Zv.same s8
end
section
variable {P:vy}{w:xm}{K:PySem.W.Frag}{mg:MG}{base:Heap}{t:tT}{c:pR}
def BkP(B:lU):lU:=λkk t ah c=>∃ss hG,t=.tup ss/\StL (BB B kk) ss hG c/\ah=hG.flatten
theorem Vk(D:Defs K mg t)(S:xS K mg c)(G2:zo mg)(GL:BN P w K mg t){k:Nat}(hk:2<=k)(Gcg:aW P w K mg base bm k t.dX.1 t.dX.2 ["reader","blocks"] (Um c.C B n)):aW P w K mg base bm (k+1) t.cY.1 t.cY.2 ["reader","blocks"] (Kp c.C (BkP B) n):=by
 have Jn:aW P w K mg base bm 2 c.ahead.1 c.ahead.2 _ (nG c.C):=gR D S;have hz:ab=16777216:=cn;refine D.cY.fn.ok qy ‹4› ‹3›
 ·obtain⟨ra,r,ah,rs,ba,stop,ws,t0,kk,s,d,rfl,_⟩:=h;rfl
 ·obtain ⟨ra,r,ah,rr,ba,stop,ws,t0,kk,s,d,rfl,rt,rs,⟨ss,hG,rfl,mN,rfl⟩,AR,h16,q⟩:=h
  refine⟨_,(au (aU (i:=2) qy.nd rfl (uv rfl) (bw aq))
   (au (qJ di (CW (Tf (cG (pv 0) S.cl S.uw Jn ‹2› S.uz .nil cN) (eZ (v:=V.ref t.cV) (by rfl) GL.rE rfl)))
   (aF (bH (gb cz eQ eR fY (pv 2) (aj (aH D.dX Gcg ‹2› (by rfl) (aj (pv 0) ‹14›)) aq)))))
   (aF (aM (aY mZ (by rfl) D.dB cP (aj (pv 2) aq)))))),?_⟩
  simp only[jm,Cx.nox];refine⟨ck _,λla NI=>?_⟩;exists 1,s1,IT,H,la,(.lst []),NI,H1;have oy:=rs.same s1;have rp:=LT.same s1;refine⟨λm σ H2=>∃(ys:LV) (dn ss2:List T) (Tl:List LL) (sc c2:Nat),σ=[some (.ref ra),some (.int n),some (.ref la)]/\m=ss2.length/\dn++ss2=ss/\H2 la=some (.lst ys)/\DpL H2 dn ys/\ys.length<=sc/\StL (BB B kk) ss2 Tl c2/\sc+c2=s+d/\Rs c.C H2 ra r ah (Tl.flatten++(stop::ws)::ba) kk sc/\LT H H2,⟨ss.length,[],[],ss,hG,s,d,rfl,rfl,rfl,IT,.nil,ck _,mN,rfl,oy,rp⟩,?_⟩;rintro m σ H2 ⟨ys,dn,ss2,Tl,sc,c2,rfl,rfl,rfl,To,dy,yl,CA,Kb,oi,on⟩;obtain⟨N3,ka2,nd2,Ts,i2,p2,mh,_⟩:=id oi;cases CA with
  |nil=>
   refine⟨_,rfl,ra,N3,_,rfl,mh,cF _ _ _ _ _ _ ‹1›,ra,r,ah,ba,stop::ws,kk,sc,rfl,rt.lt on,oi,?_⟩;refine⟨t.cV,_,.inr stop,rfl,GL.dR.d,rfl,_,rfl,?_⟩
   rw[CN λp hp=>by
    obtain⟨p0,h0,rfl⟩:=bE.mp hp;exact λz=>AR p0 h0 (by injection z)]
   refine iu ?_;refine⟨_,rfl,la,_,rfl,.inl ⟨XQ To,λz pi=>?_⟩⟩;have s3:=X6 (o:=.tup ys) pi;rw[dm]at*;refine q _ _ (L2.Dp.tup ak (dy.mono (XX s3))) ?_ (on.trans (LT.same s3));have es:sc=s+d:=Kb;rw[<- es];exact oi.same s3
  | @cons s0 r0 d1 ss3 Zy c3 hs Q1=>
   obtain⟨wd,ps,fs,js,d0,rfl,rfl,hm,EZ,MA,VX⟩:=yx ‹21› hs
   obtain⟨w0,oa,rfl,rdp⟩:=MA.rdp (by
    rcases EZ with h|⟨rfl,_⟩
    ·exact Bm _ h
    ·exact λj h=>by cases h)
   rw[eK,dE]at oi;have N4:Rs c.C H2 ra r ah ((wd::w0)::(oa++(Zy.flatten++(stop::ws)::ba))) kk sc:=oi;refine⟨_,rfl,ra,N3,_,rfl,mh,cF _ _ _ _ _ _ ‹1›,ra,r,ah,_,wd::w0,kk,sc,rfl,rt.lt on,N4,?_⟩;refine⟨t.cV,_,.inr wd,rfl,GL.dR.d,rfl,_,rfl,?_⟩;rw[pP GL.dR hm];refine jq ?_;refine⟨_,λcp H' h=>⟨ss3.length,by show ss3.length<ss3.length+1;omega,h⟩,?_⟩;refine⟨_,rfl,.inl ⟨rfl,_,XQ To⟩,_,rfl,_,rfl,ra,r,ah,_,_,_,kk,sc,1+d0,rfl,rt.lt on,oi,hs,by omega,λv H3 dv zt x6=>?_⟩;have FC:=x6.1 la _ To;refine⟨la,_,v,rfl,rfl,FC,by omega,?_⟩
   have tu:fH H3 (upd H3 la (.lst (ys++[v]))):=λb zs e=>by
    rw[aB (bV e FC ‹6›)];exact e
   refine⟨ys++[v],dn++[_],ss3,Zy,sc+(1+d0),c3,rfl,rfl,by rw[dE];rfl,ak,(dy.mono (x6.tups.trans tu)).append (.cons (dv.mono tu) .nil),by rw[ai,cy];omega,Q1,by omega,zt.lst FC,(on.trans x6).own NI⟩
theorem Ub(D:Defs K mg t):aW P w K mg base bm 1 t.cY.1 t.cY.2 ["reader","blocks"] (Kp c.C (SB 0) (-1)):=by
 refine D.cY.fn.ok qy ‹4› ‹3›
 ·obtain⟨ra,r,ah,rs,ba,stop,ws,t0,kk,s,d,rfl,_⟩:=h;rfl
 ·obtain⟨ra,r,ah,rr,ba,stop,ws,t0,kk,s,d,rfl,rt,rs,hb,_⟩:=h;exact hb.elim
theorem Nu(D:Defs K mg t)(S:xS K mg c)(G2:zo mg)(GL:BN P w K mg t):∀(n:Nat),n<=3->aW P w K mg base bm (19+2*n) t.cY.1 t.cY.2 ["reader","blocks"] (Kp c.C (SB n) ((n:Int) - 1))
 |0,_=>(Ub D).mono ‹11›
 |n+1,hn=>by
  have h1:19<=19+2*n:=k9 _ _;have h2:2<=19+2*n+1:=by omega
  have hs:=Vo (B:=SB n) (n:=n) D S G2 GL (λkk t r d h=>by cases n with |zero=>exact h.elim|succ m=>omega) h1 (Nu D S G2 GL n ‹21›);have hb:=Vk D S G2 GL h2 hs;rw[show(((n+1:Nat):Int) - 1)=(n:Int)by omega];exact hb
end
inductive IK (C:ax) (vs:LV) (H:Hp) (Q:VK) (E_:XK):Prop
 |mk (ra r pa:ax) (ah br ba:LL) (ps:LS) (t:T) (kk:KW) (s c:Nat):vs=[.ref ra,.ref pa]->H pa=some (.tup (ps.map V.str))->RT H r ah->Rs C H ra r ah ([]::(br++[("end":Str)]::ba)) kk s->(∀x∈ps,Nx kk x)->ps.Nodup->ps.length<=3->SB 3 kk t br c->c<=16->(∀v H',Dp H' t v->Rs C H' ra r ah ba kk c->LT H H'->Q v H')->IK C vs H Q E_
section
variable {P:vy}{w:xm}{K:PySem.W.Frag}{mg:MG}{base:Heap}{t:tT}{c:pR}
theorem UG:∀q∈stats,¬q.1=("end":Str):=by decide +kernel
theorem Fd(D:Defs K mg t)(S:xS K mg c)(G2:zo mg)(GL:BN P w K mg t):aW P w K mg base bm 26 t.kO.1 t.kO.2 ["reader","params"] (IK c.C):=by
 have NW:aW P w K mg base bm 4 c.eE.1 c.eE.2 _ (rO c.C):=fM D S;have S4:aW P w K mg base bm 3 c.iJ.1 c.iJ.2 _ (zm c.C):=lJ D S;have Gaw:aW P w K mg base bm 25 t.cY.1 t.cY.2 ["reader","blocks"] (Kp c.C (SB 3) 2):=Nu D S G2 GL 3 ‹11›;obtain⟨Zh,B4⟩:=G2.zM;have hz:ab=16777216:=cn;refine D.kO.fn.ok vY ‹4› ‹3›
 ·obtain⟨ra,r,pa,ah,br,ba,ps,t0,kk,s,d,rfl,_⟩:=h;rfl
 ·obtain ⟨ra,r,pa,ah,br,ba,ps,t0,kk,s,d,rfl,Kj,rt,rs,hx,Kk,ma,hb,h16,q⟩:=h;obtain ⟨dx,ka,nd,kvs,i,p,gt,_⟩:=id rs
  refine⟨_,(au (bH (cG (pv 0) S.cl S.qP S4 ‹2› S.qN .nil cN))
   (au (qD (pv 0) (KC rfl (X7 ["name"] [] ["name"] (aJ (top 57)) ["reader","params","block"] rfl rfl ‹1›) (Hy (pv 1)) (fun _ _ _ _ _=>(aO (i:=0) (show List.Nodup [("name":Str)]by decide +kernel) rfl ‹16› ‹13›)) (fun _ _ _ _ _=>cJ) (fun _ _ _ _ _=>(pv 0)) (fun _ _ _ _ _=>jP)) rfl)
   (au (qD (pv 0) aG rfl)
   (au (aU (i:=2) vY.nd rfl (uv rfl) (aH D.cY Gaw ‹2› (by rfl) (aj (pv 0) (aj (bh mW (eZ (v:=V.int 3) (by rfl) B4 ⟨_,rfl⟩) aG) aq))))
   (au (bH (dW (pv 0) S.cl S.nA NW ‹2› S.nF .nil cN (aj aP aq)))
   (au (bH (cG (pv 0) S.cl S.qP S4 ‹2› S.qN .nil cN))
   (aF (aM (pv 2))))))))),?_⟩
  simp only[jm,Cx.nox];refine⟨_,rfl,ra,dx,_,rfl,gt,cF _ _ _ _ _ _ ‹1›,ra,r,ah,_,kk,s,rfl,rt,rs,λH1 oy rp=>?_⟩;have Zz:=rp.2 pa _ Kj;refine⟨_,rfl,pa,rfl,⟨_,XR Zz⟩,λd1 GU=>?_⟩;refine nq (K:=K) (a:=pa) (xs:=ps.map V.str) (D:=⟨λ_ H=>_,λ_ _=>False,λ_ _=>False,λ_ _=>False⟩) (λi σ H2=>(∃o,σ=[o])/\H2 d1=some (.dK (jo (ps.take i)))/\Same H1 H2) ⟨⟨_,rfl⟩,ak,X6 GU⟩ (λi σ H2 _ ⟨_,_,s2⟩=>XR (s2 pa _ Zz)) ?_ ?_
  ·rintro i x σ H2 hx ⟨⟨o,rfl⟩,y6,s2⟩
   have hi:i<ps.length:=by
    have:=(bo.mp hx).1
    rwa[aa]at this
   rw[bS,ac hi]at hx;have hx:=(cS hx).symm;subst hx
   have NU:¬ps[i]∈ps.take i:=λh=>by
    have h2:=Kk;rw[<- fz i ps,cK hi]at h2;exact absurd rfl ((iA.mp h2).2.2 _ h _ aS)
   show tbU TQ _ _ [some (V.str ps[i])] H2;refine dh (A:=λH3=>_) ⟨_,rfl,_,.inr ps[i],y6,rfl,by unfold jo;rw[aa,bj];omega,⟨_,rfl⟩,?_,λb o e=>?_⟩
   ·rw[ak,tW NU,take_snoc hi]
   ·rw[aB (aD e GU)];exact s2 b o e
  rintro σ H2 ⟨_,y6,s2⟩;rw[aa,ay (af _)]at y6;obtain⟨mP,sF,wb,om,i1,p1,gc,yY,AZ,⟨k71,k72,_⟩,h5⟩:=id (oy.same s2);refine⟨_,rfl,ra,c.C,mP,_,rfl,gc,S.cl,S.nN,(by show 6<1000;decide),?_⟩;rw[QT];have x6:=LT.ins (H:=H2) (gs:=fL r i1 p1 sF d1 s) gc;have nt:(upd H2 ra (.ins c.C mP (fL r i1 p1 sF d1 s))) ra=some (.ins c.C mP (fL r i1 p1 sF d1 s)):=ak;have N9:(upd H2 ra (.ins c.C mP (fL r i1 p1 sF d1 s))) sF=some (.tup (kk.1.map V.str)):=by rw[aB (bV yY gc ‹6›)];exact yY
  have Zb:(upd H2 ra (.ins c.C mP (fL r i1 p1 sF d1 s))) d1=some (.dK (jo ps)):=by rw[aB (bV y6 gc ‹6›)];exact y6
  generalize upd H2 ra (.ins c.C mP (fL r i1 p1 sF d1 s))=H3 at x6 nt N9 Zb;refine⟨_,rfl,ra,c.C,mP,_,rfl,nt,S.cl,S.nS,(by show 6<1000;decide),?_⟩;rw[Jd];have AQ:=LT.ins (H:=H3) (gs:=fL r i1 p1 sF d1 0) nt;have y2:(upd H3 ra (.ins c.C mP (fL r i1 p1 sF d1 0))) ra=some (.ins c.C mP (fL r i1 p1 sF d1 ((0:Nat):Int))):=ak;have B0:(upd H3 ra (.ins c.C mP (fL r i1 p1 sF d1 0))) sF=some (.tup (kk.1.map V.str)):=by rw[aB (bV N9 nt ‹6›)];exact N9
  have Sk:(upd H3 ra (.ins c.C mP (fL r i1 p1 sF d1 0))) d1=some (.dK (jo ps)):=by rw[aB (bV Zb nt ‹6›)];exact Zb
  generalize upd H3 ra (.ins c.C mP (fL r i1 p1 sF d1 0))=H4 at AQ y2 B0 Sk;have ED:Rs c.C H4 ra r ah (br++[("end":Str)]::ba) kk 0:=⟨mP,sF,d1,_,i1,p1,y2,B0,Sk,⟨k71,k72,ps,rfl,Kk,fun x h=>(hx x h).2⟩,h5⟩;have Of:=rp.trans ((LT.same s2).trans (x6.trans AQ));refine⟨_,rfl,_,_,rfl,rfl,ra,r,ah,br,ba,("end":Str),[],t0,kk,0,d,rfl,rt.lt Of,ED,hb,UG,by omega,fun v H5 dv HL xv=>?_⟩;obtain⟨Kt,ka5,nd5,kvs5,i5,p5,FR,_⟩:=id HL;rw[Nat.zero_add]at HL;refine⟨_,rfl,ra,Kt,_,rfl,FR,cF _ _ _ _ _ _ ‹1›,ra,r,ah,ba,("end":Str),[],kk,d,rfl,(rt.lt Of).lt xv,HL,fun H6 A0 B3=>?_⟩;obtain⟨HM,ka6,nd6,NY,i6,p6,uu,_⟩:=id A0;refine⟨_,rfl,ra,HM,_,rfl,uu,cF _ _ _ _ _ _ ‹1›,ra,r,ah,_,kk,d,rfl,((rt.lt Of).lt xv).lt B3,A0,fun H7 Zv HU=>?_⟩;exact⟨_,rfl,q v H7 (dv.mono (B3.trans HU).tups) Zv (Of.trans (xv.trans (B3.trans HU)))⟩
end
inductive Ci (C:ax) (vs:LV) (H:Hp) (Q:VK) (E_:XK):Prop
 |mk (ra r:ax) (ah ba:LL) (d:DR) (kk:KW) (s:Nat):vs=[.ref ra]->RT H r ah->Rs C H ra r ah (iR d::ba) kk s->Kd kk d.kind->Nm d.name->d.params.length<=3->(∀x∈d.params,Nm x)->d.params.Nodup->(∀z pa H',H' z=some (.tup [.str d.kind,.str d.name,.ref pa])->H' pa=some (.tup (d.params.map V.str))->Rs C H' ra r ah ([]::ba) kk s->LT H H'->Q (.ref z) H')->Ci C vs H Q E_
inductive Cv (C:ax) (vs:LV) (H:Hp) (Q:VK) (E_:XK):Prop
 |mk (ra r:ax) (ah ba:LL) (k:KR) (kk:KW) (s:Nat):vs=[.ref ra]->RT H r ah->Rs C H ra r ah (kW k::ba) kk s->k.bx.length<=7->(∀v H',Dp H' (yB k) v->Rs C H' ra r ah ([]::ba) kk s->LT H H'->Q v H')->Cv C vs H Q E_
section
variable {P:vy}{w:xm}{K:PySem.W.Frag}{mg:MG}{base:Heap}{t:tT}{c:pR}
theorem MF(D:Defs K mg t)(S:xS K mg c)(G2:zo mg)(GL:BN P w K mg t):aW P w K mg base bm 8 t.jM.1 t.jM.2 ["reader"] (Ci c.C):=by
 have ub:aW P w K mg base bm 1 c.need.1 c.need.2 _ gK:=bU S;have NW:aW P w K mg base bm 4 c.eE.1 c.eE.2 _ (rO c.C):=fM D S;have Zl:aW P w K mg base bm 4 c.gP.1 c.gP.2 _ (vJ c.C):=jR D S G2;have Zn:aW P w K mg base bm 1 c.gQ.1 c.gQ.2 _ (vP c.C):=jQ D S;have Zo:aW P w K mg base bm 7 t.eN.1 t.eN.2 _ (Om c.C 0):=N6 D S G2 ‹11› (O1 D S G2 GL 0 ‹11›);have Gbc:=@Ph P w K mg base t D G2;have hz:ab=16777216:=cn;refine D.jM.fn.ok oG ‹4› ‹3›
 ·obtain⟨ra,r,ah,ba,d,kk,s,rfl,_⟩:=h;rfl
 ·obtain ⟨ra,r,ah,ba,d,kk,s,rfl,rt,rs,hk,hn,hl,hp,HI,q⟩:=h;obtain ⟨dx,ka,nd,kvs,i,p,gt,_⟩:=id rs
  refine⟨_,(au (bH (dW (pv 0) S.cl S.nA NW ‹2› S.nF .nil cN (aj aP aq)))
   (au (aU (i:=1) oG.nd rfl (uv rfl) (aH D.eN Zo ‹2› (by rfl) (aj (pv 0) (aj aP (aj aG aq)))))
   (au (aU (i:=2) oG.nd rfl (uv rfl) (cG (pv 0) S.cl S.tL Zl ‹2› S.sZ .nil cN))
   (au (aU (i:=3) oG.nd rfl (uv rfl) (cG (pv 0) S.cl S.uf Zn ‹2› S.uq .nil cN))
   (au (bH (dW (pv 0) S.cl S.jf ub ‹2› S.jg .nil cN (aj (aH D.fW Gbc ‹2› (by rfl) (aj (pv 3) aq)) aq)))
   (aF (aM (bW (aj (pv 1) (aj (pv 2) (aj (pv 3) aq))))))))))),?_⟩
  refine⟨_,rfl,ra,dx,_,rfl,gt,cF _ _ _ _ _ _ ‹1›,ra,r,ah,ba,_,_,kk,s,rfl,rt,rs,fun H1 oy rp=>?_⟩;have Tx:Rs c.C H1 ra r ah (([d.kind]++(d.name::d.params))::ba) kk s:=oy;have P8:=rt.lt rp;refine⟨_,rfl,ra,r,ah,ba,("kind":Str),.str d.kind,[d.kind],_,kk,s,rfl,P8,Tx,.inr (.inr (.inr ⟨d.kind,.inr (.inr ⟨rfl,hk.2⟩),hk.1,rfl,rfl⟩)),fun e=>absurd e ‹1›,fun v H2 dv oi on=>?_⟩;have ev:=L2.Dp.eG dv;subst ev;have FO:=P8.lt on;obtain⟨N3,ka2,nd2,Ts,i2,p2,mh,_⟩:=id oi;refine⟨_,rfl,ra,N3,_,rfl,mh,cF _ _ _ _ _ _ ‹1›,ra,r,ah,ba,_,_,kk,s,rfl,FO,oi,hn,fun H3 zt x6=>?_⟩;have rt3:=FO.lt x6;obtain⟨EE,ka3,Kx,FS,i3,p3,nt,_⟩:=id zt;refine⟨_,rfl,ra,EE,_,rfl,nt,cF _ _ _ _ _ _ ‹1›,ra,r,ah,ba,_,kk,s,rfl,rt3,zt,fun pa H4 Kj ED AQ=>?_⟩;obtain⟨dx4,ka4,nd4,kvs4,i4,p4,y2,_⟩:=id ED;refine⟨_,rfl,ra,dx4,_,rfl,y2,cF _ _ _ _ _ _ ‹1›,⟨_,rfl,pa,d.params,rfl,Kj,hl,hp,HI,fun H5 s5=>⟨ra,rfl,?_⟩⟩⟩;refine⟨_,rfl,_,rfl,_,rfl,by show 3<=ab;omega,fun z pi=>?_⟩;have s6:=X6 (o:=.tup [.str d.kind,.str d.name,.ref pa]) pi;exact q z pa _ ak ((s5.trans s6) _ _ Kj) (ED.same (s5.trans s6)) (rp.trans (on.trans (x6.trans (AQ.trans (LT.same (s5.trans s6))))))
theorem Mv(D:Defs K mg t)(S:xS K mg c)(G2:zo mg):aW P w K mg base bm 5 t.jH.1 t.jH.2 ["reader"] (Cv c.C):=by
 have ub:aW P w K mg base bm 1 c.need.1 c.need.2 _ gK:=bU S;have Ga:aW P w K mg base bm 3 c.take.1 c.take.2 _ (nZ c.C):=gq D S;have NW:aW P w K mg base bm 4 c.eE.1 c.eE.2 _ (rO c.C):=fM D S;have Zm:aW P w K mg base bm 4 c.eF.1 c.eF.2 _ (zq c.C):=jh D S G2;have Zn:aW P w K mg base bm 1 c.gQ.1 c.gQ.2 _ (vP c.C):=jQ D S;have hz:ab=16777216:=cn;refine D.jH.fn.ok nY ‹4› ‹3›
 ·obtain⟨ra,r,ah,ba,k,kk,s,rfl,_⟩:=h;rfl
 ·obtain ⟨ra,r,ah,ba,k,kk,s,rfl,rt,rs,hl,q⟩:=h;obtain ⟨dx,ka,nd,kvs,i,p,gt,_⟩:=id rs
  refine⟨_,(au (bH (dW (pv 0) S.cl S.nA NW ‹2› S.nF .nil cN (aj aP aq)))
   (au (aU (i:=1) nY.nd rfl (uv rfl) (cG (pv 0) S.cl S.uh Ga ‹2› S.sV .nil cN))
   (au (aU (i:=2) nY.nd rfl (uv rfl) (cG (pv 0) S.cl S.ql Zm ‹2› S.pZ .nil cN))
   (au (aU (i:=3) nY.nd rfl (uv rfl) (cG (pv 0) S.cl S.uf Zn ‹2› S.uq .nil cN))
   (au (bH (dW (pv 0) S.cl S.jf ub ‹2› S.jg .nil cN (aj (cL xG (pv 2) (aN iK (by rfl) D.cW cg (aj (pv 3) aq)) (aR _)) aq)))
   (aF (aM (bW (aj (pv 1) (aj (gn yh (pv 3) iH (iM (pv 2))) (aj (gn yh (pv 3) (iM (pv 2)) iH) aq))))))))))),?_⟩
  refine⟨_,rfl,ra,dx,_,rfl,gt,cF _ _ _ _ _ _ ‹1›,ra,r,ah,ba,_,_,kk,s,rfl,rt,rs,λH1 oy rp=>?_⟩;have P8:=rt.lt rp;obtain⟨mP,sF,wb,om,i1,p1,gc,_⟩:=id oy;refine⟨_,rfl,ra,mP,_,rfl,gc,cF _ _ _ _ _ _ ‹1›,ra,r,ah,ba,_,_,kk,s,rfl,P8,oy,λH2 oi on=>?_⟩;have FO:=P8.lt on;obtain⟨N3,ka2,nd2,Ts,i2,p2,mh,_⟩:=id oi
  have hnw:((k.bx.length:Nat):Int)∈uW:=by
   have h7:∀i∈List.range 8,((i:Nat):Int)∈uW:=by decide +kernel
   exact h7 _ (iE.mpr ‹21›)
  refine⟨_,rfl,ra,N3,_,rfl,mh,cF _ _ _ _ _ _ ‹1›,ra,r,ah,ba,k.bx.length,_,kk,s,rfl,FO,oi,hnw,λH3 zt x6=>?_⟩;have rt3:=FO.lt x6;obtain⟨EE,ka3,Kx,FS,i3,p3,nt,_⟩:=id zt;refine⟨_,rfl,ra,EE,_,rfl,nt,cF _ _ _ _ _ _ ‹1›,ra,r,ah,ba,_,kk,s,rfl,rt3,zt,λpa H4 Kj ED AQ=>?_⟩;obtain⟨dx4,ka4,nd4,kvs4,i4,p4,y2,_⟩:=id ED;refine⟨_,rfl,ra,dx4,_,rfl,y2,cF _ _ _ _ _ _ ‹1›,⟨_,rfl,_,rfl,pa,_,rfl,.inr (XR Kj),_,_,rfl,rfl,ra,?_,?_⟩⟩
  ·rw[aa,ai];show[V.ref ra,V.bl (decide ((k.bx.length:Int)<=((k.bx.length+k.fields.length:Nat):Int)))]=_;rw[aw ‹21›]
  refine⟨_,rfl,_,rfl,_,rfl,_,rfl,pa,_,rfl,Kj,λe1 H5 CH s5=>?_⟩;rw[yw _ _ (by rw[aa,ai];omega),av,<- aa (f:=V.str) (as:=k.bx),List.take_left]at CH;refine⟨_,rfl,_,rfl,_,rfl,pa,_,rfl,s5 _ _ Kj,λe2 H6 xi s6=>?_⟩;rw[wU _ _ (by rw[aa,ai];omega),av,<- aa (f:=V.str) (as:=k.bx),List.drop_left]at xi;refine⟨by show 3<=ab;omega,λz pi=>?_⟩;have s7:=X6 (o:=.tup [.str k.kind,.ref e1,.ref e2]) pi;refine q _ _ (L2.Dp.tup ak (.cons ‹12› (.cons (L2.Dp.tup ((s6.trans s7) _ _ CH) (X3 _)) (.cons (L2.Dp.tup (s7 _ _ xi) (X3 _)) .nil)))) (ED.same ((s5.trans s6).trans s7)) (rp.trans (on.trans (x6.trans (AQ.trans (LT.same ((s5.trans s6).trans s7))))))
end
inductive EY (C:ax) (vs:LV) (H:Hp) (Q:VK) (E_:XK):Prop
 |mk (ra r:ax) (ah ba:LL) (ks:List KR) (stop:Str) (ws:LS) (kk:KW) (s:Nat):vs=[.ref ra]->RT H r ah->Rs C H ra r ah (ks.map kW++(stop::ws)::ba) kk s->sH ks->1<=ks.length->ks.length<=7->(∀k∈ks,Nn k)->¬stop="kind" ->(∀v H',Dp H' (.tup (ks.map yB)) v->Rs C H' ra r ah ((stop::ws)::ba) kk s->LT H H'->Q v H')->EY C vs H Q E_
theorem VB(k:KR):Lv 5 (yB k):=by
 intro t ht;simp only[aT,dS,iN]at ht;rcases ht with rfl|rfl|rfl
 ·trivial
 ·intro t ht;obtain⟨x,_,rfl⟩:=bE.mp ht;trivial
 ·intro t ht;obtain⟨x,_,rfl⟩:=bE.mp ht;trivial
section
variable {P:vy}{w:xm}{K:PySem.W.Frag}{mg:MG}{base:Heap}{t:tT}{c:pR}
theorem KH(D:Defs K mg t)(S:xS K mg c)(G2:zo mg):aW P w K mg base bm 9 t.j9.1 t.j9.2 ["reader"] (EY c.C):=by
 have ub:aW P w K mg base bm 1 c.need.1 c.need.2 _ gK:=bU S;have Jn:aW P w K mg base bm 2 c.ahead.1 c.ahead.2 _ (nG c.C):=gR D S;have S4:aW P w K mg base bm 3 c.iJ.1 c.iJ.2 _ (zm c.C):=lJ D S;have Gbi:aW P w K mg base bm 5 t.jH.1 t.jH.2 ["reader"] (Cv c.C):=Mv D S G2;have Gbv:aW P w K mg base bm 8 t.eV.1 t.eV.2 _ Dj:=(Nt D G2).mono ‹11›;have hz:ab=16777216:=cn;refine D.j9.fn.ok qj ‹4› ‹3›
 ·obtain⟨ra,r,ah,ba,ks,stop,ws,kk,s,rfl,_⟩:=h;rfl
 ·obtain ⟨ra,r,ah,ba,ks,stop,ws,kk,s,rfl,rt,rs,gk,k1,k7,ko,AR,q⟩:=h;obtain ⟨dx,ka,nd,kvs,i,p,gt,_⟩:=id rs
  refine⟨_,(au (aU (i:=1) qj.nd rfl (uv rfl) (bW aq))
   (au (qJ di (XN (kZ (aV (Td (Te hr)) (pv 1) (bW aq) (aR _)) (je (aV cO (cG (pv 0) S.cl S.uw Jn ‹2› S.uz .nil cN) aP (aR _)))))
   (au (PN (i:=1) qj.nd rfl (uv rfl) (bW (aj (aH D.jH Gbi ‹2› (by rfl) ‹15›) aq)) JD)
   (au (bH (dW (pv 0) S.cl S.jf ub ‹2› S.jg .nil cN (aj (aH D.eV Gbv ‹2› (by rfl) ‹14›) aq)))
   (aF (bH (cG (pv 0) S.cl S.qP S4 ‹2› S.qN .nil cN))))))
   (aF (aM (pv 1))))),?_⟩
  refine⟨ck _,λa0 ha0=>?_⟩;exists 1,s1,Nl,H,a0,(.tup []),ha0,H1;refine⟨λm σ H2=>∃(i:Nat) (a:ax) (xs:LV),σ=[some (.ref ra),some (.ref a)]/\m=ks.length - i/\i<=ks.length/\H2 a=some (.tup xs)/\DpL H2 ((ks.take i).map yB) xs/\Rs c.C H2 ra r ah ((ks.drop i).map kW++(stop::ws)::ba) kk s/\LT H H2,⟨ks.length,0,a0,[],rfl,rfl,ck _,Nl,.nil,rs.same s1,LT.same s1⟩,?_⟩;rintro m σ H2 ⟨i,a,xs,rfl,rfl,He,ha,dl,oi,on⟩;refine⟨_,rfl,ck _,λe he=>?_⟩;exists 1,s3,he3,H2,e,(.tup []),he,H3;refine⟨a,e,xs,[],(ks.take i).map yB,[],rfl,rfl,s3 _ _ ha,he3,dl.mono (XX s3),.nil,λt ht=>?_,?_⟩
  ·obtain⟨k0,_,rfl⟩:=bE.mp ht;exact VB k0
  have yl:=dl.length;rw[aa,bj]at yl;refine⟨_,rfl,?_⟩
  by_cases h0:i=0
  ·rw [wB (by rw [h0]; rfl)];refine jq (jq ?_);have hi:i < ks.length:=by omega
   rw[cK hi,ci,eM]at oi;refine⟨_,λcp H' h=>⟨ks.length - (i+1),by omega,h⟩,?_⟩;refine⟨_,rfl,_,rfl,ra,r,ah,_,ks[i],kk,s,rfl,(rt.lt on).lt (LT.same s3),oi.same s3,(ko _ (bX hi)).2.1,λv H4 dv ED AQ=>?_⟩;refine⟨by show 1<=ab;decide,λz pi=>?_⟩;have xv:LT H2 (upd H4 z (.tup [v])):=((LT.same s3).trans AQ).trans (LT.same (X6 pi));have s5:Same H4 (upd H4 z (.tup [v])):=X6 pi;have ME:(upd H4 z (.tup [v])) z=some (.tup [v]):=ak;generalize upd H4 z (.tup [v])=H5 at xv s5 ME;refine⟨a,z,xs,[v],rfl,rfl,xv.2 a _ ha,ME,bc _ _,by rw[cy];omega,λe=>?_,λne p hp=>?_⟩
   ·subst e;obtain ⟨A6,H6,s6,ZB,eA,eH⟩:∃(A6:ax) (H6:Hp),Same H5 H6/\H6 A6=some (.tup ([]++[v]))/\A6=z/\H6=H5:=⟨z,H5,fun _ _ e=>e,ME,rfl,rfl⟩;rw [<- eA,<- eH];clear eA eH
    have dA:DpL H6 ((ks.take (i+1)).map yB) ([]++[v]):=by
     rw[take_snoc hi,av];exact(dl.mono ((xv.trans (LT.same s6)).tups)).append (.cons (dv.mono ((XX s5).trans (XX s6))) .nil)
    have A0:=ED.same (s5.trans s6);obtain⟨HM,ka6,nd6,NY,i6,p6,uu,_⟩:=id A0;refine⟨_,rfl,ra,HM,_,rfl,uu,cF _ _ _ _ _ _ ‹1›,⟨_,rfl,.ref A6,ks.take (i+1),rfl,L2.Dp.tup ZB dA,gk.take _,by rw[bj];omega,λr hr=>ko r (ib hr),λH7 s7=>⟨ra,rfl,?_⟩⟩⟩;refine⟨_,rfl,ra,HM,_,rfl,s7 _ _ uu,cF _ _ _ _ _ _ ‹1›,ra,r,ah,_,kk,s,rfl,((rt.lt on).lt xv).lt (LT.same (s6.trans s7)),A0.same s7,λH8 N1 BC=>?_⟩;have EF:=(LT.same s7).trans BC;exact⟨i+1,A6,[]++[v],rfl,rfl,hi,EF.2 _ _ ZB,dA.mono EF.tups,N1,on.trans (xv.trans ((LT.same s6).trans EF))⟩
   ·exact absurd (List.length_eq_zero_iff.mp ‹21›) ne
  ·rw[nU (λz=>by
    have:=congrArg List.length z;rw[aa,bj,lP]at this;omega)]
   refine iu ?_;have zt:=oi.same s3;obtain⟨EE,ka3,Kx,FS,i3,p3,nt,_⟩:=id zt
   by_cases hi:i<ks.length
   ·rw [cK hi,ci,eM] at zt;refine⟨_,rfl,ra,EE,_,rfl,nt,cF _ _ _ _ _ _ ‹1›,ra,r,ah,_,_,kk,s,rfl,(rt.lt on).lt (LT.same s3),zt,rfl,_,rfl,?_⟩;refine bR (aw rfl) ?_;rw [cK hi,ci,eM] at oi;refine⟨_,fun cp H' h=>⟨ks.length - (i+1),by omega,h⟩,?_⟩;refine⟨_,rfl,_,rfl,ra,r,ah,_,ks[i],kk,s,rfl,(rt.lt on).lt (LT.same s3),oi.same s3,(ko _ (bX hi)).2.1,fun v H4 dv ED AQ=>?_⟩;refine⟨by show 1<=ab; decide,fun z pi=>?_⟩;have xv:LT H2 (upd H4 z (.tup [v])):=((LT.same s3).trans AQ).trans (LT.same (X6 pi));have s5:Same H4 (upd H4 z (.tup [v])):=X6 pi;have ME:(upd H4 z (.tup [v])) z=some (.tup [v]):=ak;generalize upd H4 z (.tup [v])=H5 at xv s5 ME;refine⟨a,z,xs,[v],rfl,rfl,xv.2 a _ ha,ME,bc _ _,by rw [cy]; omega,fun e=>?_,fun ne p hp=>?_⟩
    ·rw[e]at yl;exact absurd yl (by rw[lP];omega)
    ·exists 1,s6,ZB,H5,p,(.tup (xs++[v])),hp,H6
     have dA:DpL H6 ((ks.take (i+1)).map yB) (xs++[v]):=by
      rw[take_snoc hi,av];exact(dl.mono ((xv.trans (LT.same s6)).tups)).append (.cons (dv.mono ((XX s5).trans (XX s6))) .nil)
     have A0:=ED.same (s5.trans s6);obtain⟨HM,ka6,nd6,NY,i6,p6,uu,_⟩:=id A0;refine⟨_,rfl,ra,HM,_,rfl,uu,cF _ _ _ _ _ _ ‹1›,⟨_,rfl,.ref p,ks.take (i+1),rfl,L2.Dp.tup ZB dA,gk.take _,by rw[bj];omega,λr hr=>ko r (ib hr),λH7 s7=>⟨ra,rfl,?_⟩⟩⟩;refine⟨_,rfl,ra,HM,_,rfl,s7 _ _ uu,cF _ _ _ _ _ _ ‹1›,ra,r,ah,_,kk,s,rfl,((rt.lt on).lt xv).lt (LT.same (s6.trans s7)),A0.same s7,λH8 N1 BC=>?_⟩;have EF:=(LT.same s7).trans BC;exact⟨i+1,p,xs++[v],rfl,rfl,hi,EF.2 _ _ ZB,dA.mono EF.tups,N1,on.trans (xv.trans ((LT.same s6).trans EF))⟩
   ·have ei:i=ks.length:=by omega
    subst ei;rw[fh (af _),kN,gy]at zt;refine⟨_,rfl,ra,EE,_,rfl,nt,cF _ _ _ _ _ _ ‹1›,ra,r,ah,_,_,kk,s,rfl,(rt.lt on).lt (LT.same s3),zt,rfl,_,rfl,?_⟩;refine aL (ne_str AR) ?_;rw[ay (af _)]at dl;exact⟨_,rfl,q _ H3 (L2.Dp.tup (s3 _ _ ha) (dl.mono (XX s3))) zt (on.trans (LT.same s3))⟩
end
def Ej(d:DR):T:=.tup [.str d.kind,.str d.name]
theorem MN{d e:DR}(h:Ej d=Ej e):Gd d=Gd e:=by
 unfold Ej at h;injection h with h;injection h with h1 h2;injection h2 with h2 h3;injection h1 with h1;injection h2 with h2;unfold Gd;rw[h1,h2]
inductive Gi (C:ax) (vs:LV) (H:Hp) (Q:VK) (E_:XK):Prop
 |mk (ra r:ax) (ah ba:LL) (ds:List DR) (dt:List LL) (stop:Str) (ws:LS) (kk:KW) (s:Nat):vs=[.ref ra]->RT H r ah->Rs C H ra r ah (‹10›.flatten++(stop::ws)::ba) kk s->dt.length=ds.length->ds.length<=8->(∀i (h1:i<ds.length) (h2:i<dt.length),VZ kk ds[i] dt[i])->(ds.map Gd).Nodup->¬stop="deed" ->(∀v H' s',Dp H' (.tup (ds.map FF)) v->Rs C H' ra r ah ((stop::ws)::ba) kk s'->LT H H'->Q v H')->Gi C vs H Q E_
section
variable {P:vy}{w:xm}{K:PySem.W.Frag}{mg:MG}{base:Heap}{t:tT}{c:pR}
theorem JZ(D:Defs K mg t)(S:xS K mg c)(G2:zo mg)(GL:BN P w K mg t):aW P w K mg base bm 27 t.j6.1 t.j6.2 ["reader"] (Gi c.C):=by
 have ub:aW P w K mg base bm 1 c.need.1 c.need.2 _ gK:=bU S;have Jn:aW P w K mg base bm 2 c.ahead.1 c.ahead.2 _ (nG c.C):=gR D S;have Gay:aW P w K mg base bm 8 t.jM.1 t.jM.2 ["reader"] (Ci c.C):=MF D S G2 GL;have Gax:=@Fd P w K mg base t c D S G2 GL;obtain⟨Zh,C1⟩:=G2.Dv;have hz:ab=16777216:=cn;refine D.j6.fn.ok iZ ‹4› ‹3›
 ·obtain⟨ra,r,ah,ba,ds,dt,stop,ws,kk,s,rfl,_⟩:=h;rfl
 ·obtain ⟨ra,r,ah,ba,ds,dt,stop,ws,kk,s,rfl,rt,rs,bl,d8,Op,un,AR,q⟩:=h
  refine⟨_,(au (aU (i:=1) iZ.nd rfl (uv rfl) (bW aq))
   (au (qJ di (aV cO (cG (pv 0) S.cl S.uw Jn ‹2› S.uz .nil cN) aP (aR _))
   (au (qw (aH D.jM Gay ‹2› (by rfl) ‹15›) (jX rfl (cu (aO (i:=2) iZ.nd rfl (uv rfl)) (cu (aO (i:=3) iZ.nd rfl (uv rfl)) (cu (aO (i:=4) iZ.nd rfl (uv rfl)) jJ)))))
   (au (bH (dW (pv 0) S.cl S.jf ub ‹2› S.jg .nil cN (aj (rK (cL vd (aN bJ (by rfl) D.cW cg ‹14›) (eZ (v:=V.int 8) (by rfl) C1 ⟨_,rfl⟩) (aR _)) (rH (cL (zX (Te hr)) (bW (aj (pv 2) (aj (pv 3) aq))) (cI rfl (X7 ["row"] [] ["row"] (aJ (top 55)) ["reader","deeds","kind","deed","params"] rfl rfl ‹1›) ⟨fun _ _ _ _ _=>(aO (i:=0) (show List.Nodup [("row":Str)]by decide +kernel) rfl ‹16› ‹13›),fun _ _ _ _ _=>cJ,fun _ _ _ _ _=>(gn wC (pv 0) iH (iM aG))⟩ (dg (pv 1))) (by with_unfolding_all rfl)))) aq)))
   (aF (PN (i:=1) iZ.nd rfl (uv rfl) (bW (aj (bW (aj (pv 2) (aj (pv 3) (aj (pv 4) (aj (aH D.kO Gax ‹2› (by rfl) (aj (pv 0) (aj (pv 4) aq))) aq))))) aq)) JD)))))
   (aF (aM (pv 1))))),?_⟩
  simp only[jm,Cx.nox];refine⟨ck _,λa0 ha0=>?_⟩;exists 1,s1,Nl,H,a0,(.tup []),ha0,H1;refine⟨λm σ H2=>∃(i:Nat) (a:ax) (xs:LV) (s2:Nat) (v2 v3 v4:OV),σ=[some (.ref ra),some (.ref a),v2,v3,v4]/\m=ds.length - i/\i<=ds.length/\H2 a=some (.tup xs)/\DpL H2 ((ds.take i).map FF) xs/\Rs c.C H2 ra r ah ((List.zipWith fO (ds.drop i) (dt.drop i)).flatten++(stop::ws)::ba) kk s2/\LT H H2,⟨ds.length,0,a0,[],s,_,_,_,rfl,rfl,ck _,Nl,.nil,rs.same s1,LT.same s1⟩,?_⟩;rintro m σ H2 ⟨i,a,xs,s2,v2,v3,v4,rfl,rfl,He,ha,dl,oi,on⟩;have yl:=dl.length;rw[aa,bj]at yl;obtain⟨N3,ka2,nd2,Ts,i2,p2,mh,_⟩:=id oi
  by_cases hi:i<ds.length
  ·have Wp:i < dt.length:=by omega
   rw[cK hi,cK Wp,pS,eK,dE]at oi;obtain⟨hk,hn,hp3,⟨hpx,hpn⟩,cc,TB,EU⟩:=Op i hi Wp
   have N4:Rs c.C H2 ra r ah (iR ds[i]::((dt[i]++[("end":Str)]::((List.zipWith fO (ds.drop (i+1)) (dt.drop (i+1))).flatten++(stop::ws)::ba)))) kk s2:=by
    unfold fO at oi;rw[eM,dE]at oi;exact oi
   refine⟨_,rfl,ra,N3,_,rfl,mh,cF _ _ _ _ _ _ ‹1›,ra,r,ah,_,_,kk,s2,rfl,rt.lt on,N4,rfl,_,rfl,?_⟩;refine bR (aw rfl) ?_;refine⟨_,λcp H' h=>⟨ds.length - (i+1),by omega,h⟩,?_⟩;refine⟨_,rfl,ra,r,ah,_,ds[i],kk,s2,rfl,rt.lt on,N4,hk,hn,hp3,λx h=>(hpx x h).1,hpn,λz pa H3 pi Kj zt x6=>?_⟩;refine⟨z,_,rfl,XR pi,rfl,_,_,rfl,_,_,rfl,_,_,rfl,rfl,?_⟩;obtain⟨EE,ka3,Kx,FS,i3,p3,nt,_⟩:=id zt;have YD:=x6.2 a _ ha;have wc:=dl.mono x6.tups;refine⟨_,rfl,ra,EE,_,rfl,nt,cF _ _ _ _ _ _ ‹1›,?_⟩;refine⟨_,rfl,a,_,rfl,.inr (XR YD),_,_,rfl,rfl,_,rfl,?_⟩;refine bR (aw ‹21›) ?_;refine⟨_,rfl,_,rfl,by show 2<=ab;omega,λkq ZC=>?_⟩;exists 1,s4,hkq4,H3,kq,(.tup [.str ds[i].kind,.str ds[i].name]),ZC,H4;have ha4:=s4 _ _ YD;have EG:=wc.mono (XX s4);refine⟨_,rfl,a,rfl,⟨_,XR ha4⟩,λD1 hC=>?_⟩;refine bN (n:=xs.length) (λj ys H5=>DpL H5 ((ds.take j).map Ej) ys/\H5 D1=some (.lst ys)/\Same H4 H5/\ys.length=j) ⟨.nil,ak,X6 hC,rfl⟩ ?_ ?_;rotate_left
   ·rintro j ys H5 hj ⟨dy,i0,s5,yj⟩;have hjd:j < ds.length:=by omega
    have hji:j<i:=by omega
    obtain⟨y,ey,WC⟩:=EG.get (i:=j) (t:=FF ds[j]) (by rw[bS,ku hji,ac hjd];rfl);refine⟨⟨_,_,XR (s5 _ _ ha4),ey⟩,?_⟩;rintro v H6 ⟨rfl,yy⟩ gi ho;obtain⟨oo,rfl⟩:=eP ho;have ev:=yy _ (XR (s5 _ _ ha4));rw[ey]at ev;cases ev;obtain⟨q0,pp,bb,rfl,NH,_,_⟩:=K26.Dp.Oc (WC.mono (XX s5));refine⟨‹9›,dh ⟨_,rfl,_,rfl,q0,_,rfl,NH,λe1 H7 CH s7=>?_⟩⟩;have EW:=s7 _ _ i0
    have tu:fH H7 (upd H7 D1 (.lst (ys++[.ref e1]))):=λb zs e=>by
     rw[aB (bV e EW ‹6›)];exact e
    have he1':H7 e1=some (.tup [.str ds[j].kind,.str ds[j].name]):=CH;refine⟨by omega,EW,bG hj ⟨?_,ak,λb o e=>?_,by rw[ai,cy];omega⟩⟩
    ·rw[take_snoc hjd,av];exact(dy.mono ((XX s7).trans tu)).append (.cons (L2.Dp.tup (tu _ _ he1') (.cons ‹12› (.cons ‹12› .nil))) .nil)
    ·rw[aB (aD e hC)];exact s7 b o (s5 b o e)
   rintro ys H5 ⟨dy,i0,s5,yj⟩;rw[show xs.length=i by omega]at dy
   have hnk:¬Ej ds[i]∈(ds.take i).map Ej:=λh=>by
    obtain⟨d,hd,e⟩:=bE.mp h;have h2:=un;rw[<- fz i ds,cK hi,av,ci]at h2;exact absurd (MN e) ((iA.mp h2).2.2 _ (nE hd) _ aS)
   refine⟨⟨_,XR (s5 _ _ ha4),af _⟩,D1,ys,Ej ds[i],(ds.take i).map Ej,rfl,.inl i0,L2.Dp.tup (s5 _ _ hkq4) (.cons ‹12› (.cons ‹12› .nil)),dy,λt0 h=>?_,ra,?_,?_⟩
   ·obtain⟨d,_,rfl⟩:=bE.mp h;intro t1 h1;simp only[aT,dS,iN]at h1;rcases h1 with rfl|rfl <;>trivial
   ·show[V.ref ra,V.bl (!wo _)]=_;rw[nU hnk];rfl
   have ZD:=s4.trans s5;have HL:=zt.same ZD;have rt5:=((rt.lt on).lt x6).lt (LT.same ZD);refine⟨_,rfl,_,rfl,_,rfl,_,rfl,_,rfl,_,rfl,ra,r,pa,ah,dt[i],_,ds[i].params,ds[i].block,kk,s2,cc,rfl,ZD _ _ Kj,rt5,HL,hpx,hpn,hp3,EU,TB,λv H6 dv A0 B3=>?_⟩;refine⟨by show 4<=ab;omega,λz1 hz1=>⟨by show 1<=ab;omega,λz2 hz2=>?_⟩⟩;have s7:Same H6 (upd H6 z1 (.tup [.str ds[i].kind,.str ds[i].name,.ref pa,v])):=X6 hz1;have ZE:(upd H6 z1 (.tup [.str ds[i].kind,.str ds[i].name,.ref pa,v])) z1=some (.tup [.str ds[i].kind,.str ds[i].name,.ref pa,v]):=ak;generalize upd H6 z1 (.tup [.str ds[i].kind,.str ds[i].name,.ref pa,v])=H7 at s7 ZE hz2;exists 1,s8,ZF,H7,z2,(.tup [.ref z1]),hz2,H8;have ZG:=s7.trans s8;have TC:LT H3 H8:=(LT.same ZD).trans (B3.trans (LT.same ZG));have VS:=TC.2 _ _ YD;have dd:Dp H8 (FF ds[i]) (.ref z1):=L2.Dp.tup (s8 _ _ ZE) (.cons ‹12› (.cons ‹12› (.cons (L2.Dp.tup ((B3.trans (LT.same ZG)).2 _ _ (ZD _ _ Kj)) (X3 _)) (.cons (dv.mono (XX ZG)) .nil))))
   have dl8:DpL H8 ((ds.take (i+1)).map FF) (xs++[.ref z1]):=by
    rw[take_snoc hi,av];exact(wc.mono TC.tups).append (.cons dd .nil)
   have ZH:=on.trans (x6.trans TC);refine⟨a,z2,xs,[.ref z1],rfl,rfl,VS,ZF,bc _ _,by rw[cy];omega,λe=>?_,λ_ p hp=>?_⟩
   ·subst e;exact⟨i+1,z2,_,cc,_,_,_,rfl,rfl,hi,ZF,dl8,A0.same ZG,ZH⟩
   ·have s9:=X6 (o:=.tup (xs++[.ref z1])) hp;exact⟨i+1,p,_,cc,_,_,_,rfl,rfl,hi,ak,dl8.mono (XX s9),(A0.same ZG).same s9,ZH.trans (LT.same s9)⟩
  ·have ei:i=ds.length:=by omega
   subst ei;rw[fh (af _),List.zipWith_nil_left,nh,gy]at oi;refine⟨_,rfl,ra,N3,_,rfl,mh,cF _ _ _ _ _ _ ‹1›,ra,r,ah,_,_,kk,s2,rfl,rt.lt on,oi,rfl,_,rfl,?_⟩;refine aL (ne_str AR) ?_;rw[ay (af _)]at dl;exact⟨_,rfl,q _ H2 s2 (L2.Dp.tup ha dl) oi on⟩
end
structure EH (ah:LL):Prop where
 ne:ah≠[]
 ln:ah.length<=1000/\∀ws∈ah,ws.length<=20000
 ws:∀r∈ah,r≠[]
 sp:∀r∈ah,Up (jn r) " " =r
 nl:Up (uX ah) "\n" =ah.map jn
 sz:(uX ah).length<=16000000/\∀r∈ah,(jn r).length<=16000000
inductive BK (C:ax) (vs:LV) (H:Hp) (Q:VK) (E_:XK):Prop
 |mk (ra dx:ax) (ah:LL) (ww:LS):vs=[.ref ra,.str (uX ah)]->H ra=some (.ins C dx [])->EH ah->ww.length<=20->(∀(r:ax) (H':Hp),RT H' r ah->Rs C H' ra r ah ah ([],ww) 0->LT H H'->Q .non H')->BK C vs H Q E_
section
variable {P:vy}{w:xm}{K:PySem.W.Frag}{mg:MG}{base:Heap}{t:tT}{c:pR}
theorem zp(S:xS K mg c):aW P w K mg base bm 1 c.init.1 c.init.2 ["self","text"] (BK c.C):=by
 have hz:ab=16777216:=cn;refine S.vC.ok vm ‹4› ‹3›
 ·obtain⟨ra,dx,ah,ww,rfl,_⟩:=h;rfl
 ·obtain ⟨ra,dx,ah,ww,rfl,gt,sp,w20,q⟩:=h
  refine⟨_,(au (qD (pv 0) (cI rfl (X7 ["row"] [] ["row"] (aJ jk) ["self","text"] rfl rfl ‹1›) ⟨fun _ _ _ _ _=>(aO (i:=0) (show List.Nodup [("row":Str)]by decide +kernel) rfl ‹16› ‹13›),fun _ _ _ _ _=>cJ,fun _ _ _ _ _=>(Bs (K:=K) rfl eW PySem.F.slot_str_split PySem.F.type_str_split Fx (pv 0) (aj aP aq))⟩ (iB (gb eW PySem.F.slot_str_split PySem.F.type_str_split Fx (pv 1) (aj aP aq)))) rfl)
   (au (qD (pv 0) aG rfl)
   (au (qD (pv 0) aG rfl)
   (au (qD (pv 0) (bW aq) rfl)
   (au (qD (pv 0) qQ rfl)
   (aF (qD (pv 0) aG rfl))))))),?_⟩
  simp only[jm,Cx.nox];refine⟨_,rfl,?_⟩;refine⟨rfl,uX ah,"\n",rfl,rfl,by decide +kernel,sp.sz.1,fun l0 hl0=>?_⟩;rw[sp.nl];exists 1,s1,fq,H,l0,(.lst ((ah.map jn).map V.str)),hl0,H1;refine⟨l0,rfl,⟨_,XQ fq⟩,fun r SH=>?_⟩;refine bN (n:=ah.length) (fun i ys H2=>H2 r=some (.lst ys)/\ys.length=i/\Paired (fun(v:V) (ws:LS)=>∃a,v=.ref a/\a≠r/\H2 a=some (.lst (ws.map V.str))) ys (ah.take i)/\Same H1 H2) ⟨ak,rfl,.nil,X6 SH⟩ ?_ ?_;rotate_left
  ·rintro i ys H2 hi ⟨P4,yl,pr,s2⟩;have ei:((ah.map jn).map V.str)[i]?=some (.str (jn ah[i])):=by rw [bS,bS,ac hi]; rfl
   refine⟨⟨_,_,XQ (s2 _ _ fq),ei⟩,?_⟩;rintro v H3 ⟨rfl,yy⟩ gi ho;obtain⟨oo,rfl⟩:=eP ho;have ev:=yy _ (XQ (s2 _ _ fq));rw[ei]at ev;cases ev;refine⟨‹9›,dh ⟨_,rfl,rfl,jn ah[i]," ",rfl,rfl,by decide +kernel,sp.sz.2 _ (bX hi),fun l hl=>?_⟩⟩;rw[sp.sp _ (bX hi)];have lr:l≠r:=(aD P4 hl).symm;exists 1,s4,Md,H3,l,(.lst (ah[i].map V.str)),hl,H4;have IN:=s4 _ _ P4;have r1000:=sp.ln.1;refine⟨by omega,IN,bG hi ⟨ak,by rw[ai,cy];omega,?_,fun b o e=>?_⟩⟩
   ·rw[take_snoc hi];exact jN (XM pr λv ws ⟨a,e1,e2,e3⟩=>⟨a,e1,e2,by rw[aB e2];exact s4 _ _ e3⟩) (.cons ⟨l,rfl,lr,by rw[aB lr];exact Md⟩ .nil)
   ·rw[aB (aD e SH)];exact s4 b o (s2 b o e)
  rintro ys H2 ⟨P4,yl,pr,s2⟩;rw[ay (af _)]at pr;have FO:RT H2 r ah:=⟨⟨ys,P4,XM pr fun v ws ⟨a,e1,e2,e3⟩=>⟨a,e1,e3⟩⟩,sp.ln⟩;have KA:=s1.trans s2;have mh:=KA _ _ gt;refine⟨⟨_,XQ (s2 _ _ fq),by rw[aa,aa];exact af _⟩,_,rfl,ra,c.C,dx,[],rfl,mh,S.cl,S.nR,(by show 0<1000;decide),?_⟩;refine⟨_,rfl,ra,c.C,dx,_,rfl,ak,S.cl,S.nI,(by show 1<1000;decide),_,rfl,ra,c.C,dx,_,rfl,ak,S.cl,S.nP,(by show 2<1000;decide),?_⟩;have nt:(upd (upd (upd H2 ra (.ins c.C dx (fQ "rows" (.ref r) []))) ra (.ins c.C dx (fQ "row" (.int 0) (fQ "rows" (.ref r) [])))) ra (.ins c.C dx (fQ "place" (.int 0) (fQ "row" (.int 0) (fQ "rows" (.ref r) []))))) ra=some (.ins c.C dx [("rows",.ref r),("row",.int 0),("place",.int 0)]):=ak;have x6:LT H2 (upd (upd (upd H2 ra (.ins c.C dx (fQ "rows" (.ref r) []))) ra (.ins c.C dx (fQ "row" (.int 0) (fQ "rows" (.ref r) [])))) ra (.ins c.C dx (fQ "place" (.int 0) (fQ "row" (.int 0) (fQ "rows" (.ref r) []))))):=(LT.ins mh).trans ((LT.ins ak).trans (LT.ins ak));generalize(upd (upd (upd H2 ra (.ins c.C dx (fQ "rows" (.ref r) []))) ra (.ins c.C dx (fQ "row" (.int 0) (fQ "rows" (.ref r) [])))) ra (.ins c.C dx (fQ "place" (.int 0) (fQ "row" (.int 0) (fQ "rows" (.ref r) [])))))=H3 at nt x6;refine⟨ck _,fun ka hka0=>?_⟩;exists 1,s4,B0,H3,ka,(.tup []),hka0,H4;have y2:=s4 _ _ nt;refine⟨_,rfl,ra,c.C,dx,_,rfl,y2,S.cl,S.nK,(by show 3<1000;decide),fun nd Kk=>?_⟩;have xv:=LT.ins (gs:=fQ "kinds" (.ref ka) [("rows",.ref r),("row",.int 0),("place",.int 0)]) y2;have FR:(upd H4 ra (.ins c.C dx (fQ "kinds" (.ref ka) [("rows",.ref r),("row",.int 0),("place",.int 0)]))) ra=some (.ins c.C dx (fQ "kinds" (.ref ka) [("rows",.ref r),("row",.int 0),("place",.int 0)])):=ak;generalize upd H4 ra (.ins c.C dx (fQ "kinds" (.ref ka) [("rows",.ref r),("row",.int 0),("place",.int 0)]))=H5 at xv FR Kk;exists 1,s6,ZI,H5,nd,(.dK []),Kk,H6;have uu:=s6 _ _ FR;have nra:nd≠ra:=bV ZI uu ‹6›;have hka6:=s6 _ _ (xv.2 _ _ B0);refine⟨_,rfl,ra,c.C,dx,_,rfl,uu,S.cl,S.nN,(by show 4<1000;decide),?_⟩;refine⟨_,rfl,ra,c.C,dx,_,rfl,ak,S.cl,S.nS,(by show 5<1000;decide),?_⟩;have ZJ:LT H2 H6:=x6.trans ((LT.same s4).trans (xv.trans (LT.same s6)));have BC:=(LT.ins (gs:=fQ "names" (.ref nd) (fQ "kinds" (.ref ka) [("rows",.ref r),("row",.int 0),("place",.int 0)])) uu).trans (LT.ins (gs:=fQ "statements" (.int 0) (fQ "names" (.ref nd) (fQ "kinds" (.ref ka) [("rows",.ref r),("row",.int 0),("place",.int 0)]))) ak);refine q r _ (FO.lt (ZJ.trans BC)) ⟨dx,ka,nd,[],0,0,ak,BC.2 _ _ hka6,?_,⟨ck _,w20,[],rfl,j0,fun x h=>by cases h⟩,ck _,ck _,(Al ah 0).symm⟩ ((LT.same KA).trans (ZJ.trans BC));rw[aB nra,aB nra];exact ZI
end
inductive JB (vs:LV) (H:Hp) (Q:VK) (E_:XK):Prop
 |mk (ww:LS) (ks:List KR) (ds:List DR) (run:T) (dt:List LL) (rr:LL):vs=[.str (uX (kY ks ds dt rr))]->GoodW ww ks ds run dt rr->EH (kY ks ds dt rr)->(∀v H',rF H' v ks ds run->LT H H'->Q v H')->JB vs H Q E_
theorem Bf{H:Hp}:∀{ks:List KR} {xs:LV},DpL H (ks.map yB) xs->Paired (λ(v:V) (k:Str)=>∃q ba,v=.ref q/\H q=some (.tup (.str k::ba))) xs (knd ks)
 |[],xs,d=>by
  have e:=d.eO;subst e;exact .nil
 |k::ks,xs,d=>by
  obtain⟨x,r,rfl,d1,dl⟩:=d.cases;obtain⟨q,e,f,rfl,hq,_,_⟩:=K26.Dp.Aa d1;exact .cons ⟨q,_,rfl,hq⟩ (Bf dl)
theorem Dr(rr:LL)(h:dt.length=ds.length):∃(stop:Str) (ws:LS) (ba:LL),‹10›.flatten++Ij rr=(stop::ws)::ba/\¬stop="kind":= by
 cases ds with
 |nil=>exact⟨"run",[],_,by rw[List.zipWith_nil_left,nh,gy];rfl,by decide +kernel⟩
 |cons d ds=>
  cases dt with
  |nil=>cases h
  |cons b dt=>exact⟨"deed",_,_,by rw[pS,eK];rfl,by decide +kernel⟩
section
variable {P:vy}{w:xm}{K:PySem.W.Frag}{mg:MG}{base:Heap}{t:tT}{c:pR}
theorem Qc(D:Defs K mg t)(S:xS K mg c)(G2:zo mg)(GL:BN P w K mg t):aW P w K mg base bm 28 t.gW.1 t.gW.2 ["text"] JB:=by
 have Gcb:aW P w K mg base bm 1 c.init.1 c.init.2 ["self","text"] (BK c.C):=zp S;have Gbs:=Gcb;have ub:aW P w K mg base bm 1 c.need.1 c.need.2 _ gK:=bU S;have NW:aW P w K mg base bm 4 c.eE.1 c.eE.2 _ (rO c.C):=fM D S;have Gc:=@KH P w K mg base t c D S G2;have Gbt:=@JZ P w K mg base t c D S G2 GL;have Gax:=@Fd P w K mg base t c D S G2 GL;have Gbh:=@yR P w K mg base t D;have hz:ab=16777216:=cn;refine D.gW.fn.ok iT ‹4› ‹3›
 ·obtain⟨ww,ks,ds,run,dt,rr,rfl,_⟩:=h;rfl
 ·obtain ⟨ww,ks,ds,run,dt,rr,rfl,G,sp,q⟩:=h
  refine⟨_,(au (bL (gH (fB (aN eX (by rfl) D.cH cD (aj (pv 0) (aj (iz (v:=V.ty "str") rfl D.pQ lM rfl) aq)))))
   (aF DQ)
   aX)
   (au (aU (i:=1) iT.nd rfl (uv rfl) (QX S.mk0 Gbs ‹2› (by rfl) S.gS S.G3 .nil cN ‹15›))
   (au (aU (i:=2) iT.nd rfl (uv rfl) (aH D.j9 Gc ‹2› (by rfl) ‹14›))
   (au (qD (pv 1) (aH D.kinds_of Gbh ‹2› (by rfl) (aj (pv 2) aq)) rfl)
   (au (aU (i:=3) iT.nd rfl (uv rfl) (aH D.j6 Gbt ‹2› (by rfl) ‹14›))
   (au (bH (dW (pv 1) S.cl S.nA NW ‹2› S.nF .nil cN (aj aP aq)))
   (au (aU (i:=4) iT.nd rfl (uv rfl) (aH D.kO Gax ‹2› (by rfl) (aj (pv 1) (aj (bW aq) aq))))
   (au (bH (dW (pv 1) S.cl S.jf ub ‹2› S.jg .nil cN (aj (cL cO (jT (pv 1) rfl) (aN bJ (by rfl) D.cW cg (aj (jT (pv 1) rfl) aq)) (aR _)) aq)))
   (aF (aM (bW (aj (pv 2) (aj (pv 3) (aj (pv 4) aq)))))))))))))),?_⟩
  simp only[jm,Cx.nox];refine⟨_,rfl,_,_,_,true,rfl,.str _,gG N0 "str",_,rfl,iu ?_⟩;refine⟨_,rfl,fun ra dx hra0 hdx0 dxne=>?_⟩;have ZK:(upd H dx (.own ra)) ra=none:=by rw[aB dxne.symm];exact hra0
  have w5:=G.wl;have k7:=G.kl;have hk1:=G.k1;refine⟨ra,dx,_,ww,rfl,ak,sp,by omega,λr H1 P8 oy rp=>⟨rfl,?_⟩⟩;have lt01:=(LT.same ((X6 hdx0).trans (X6 ZK))).trans rp;obtain⟨stop,ws,ba,eb,AR⟩:=Dr (ds:=ds) (dt:=dt) rr G.bl;generalize hR:kY ks ds dt rr=ah at*;have er:ah=ks.map kW++(stop::ws)::ba:=by rw[<- hR,<- eb];unfold kY;rw[dE]
  have Tx:Rs c.C H1 ra r ah (ks.map kW++(stop::ws)::ba) ([],ww) 0:=by rw[<- er];exact oy
  refine⟨_,rfl,ra,r,ah,ba,ks,stop,ws,([],ww),0,rfl,P8,Tx,G.kg,G.k1,G.kl,G.ko,AR,λkv H2 dkv oi on=>?_⟩;obtain⟨a,xs,rfl,ha,dl⟩:=L2.Dp.cR dkv;have xl:=dl.length;rw[aa]at xl;refine⟨_,rfl,a,xs,knd ks,rfl,ha,by omega,Bf dl,λkq H3 ZC s3=>?_⟩;obtain⟨EE,ka3,Kx,FS,i3,p3,nt,N9,ZL,⟨_,w20,AX,ekv,rn,rm⟩,h5⟩:=oi.same s3;refine⟨_,rfl,ra,c.C,EE,_,rfl,nt,S.cl,S.nK,(by show 6<1000;decide),?_⟩;rw[Rc];have AQ:=LT.ins (H:=H3) (gs:=fL r i3 p3 kq Kx (0:Nat)) nt;have y2:(upd H3 ra (.ins c.C EE (fL r i3 p3 kq Kx (0:Nat)))) ra=some (.ins c.C EE (fL r i3 p3 kq Kx (0:Nat))):=ak;have ZM:(upd H3 ra (.ins c.C EE (fL r i3 p3 kq Kx (0:Nat)))) Kx=some (.dK FS):=by rw[aB (bV ZL nt ‹6›)];exact ZL
  generalize upd H3 ra (.ins c.C EE (fL r i3 p3 kq Kx (0:Nat)))=H4 at AQ y2 ZM
  have ED:Rs c.C H4 ra r ah (‹10›.flatten++(("run":Str)::[])::(rr++[("end":Str)]::[])) (knd ks,ww) 0:=⟨EE,kq,Kx,FS,i3,p3,y2,AQ.2 _ _ ZC,ZM,⟨by unfold knd;rw[aa];exact k7,w20,AX,ekv,rn,rm⟩,by
   obtain⟨e1,e2,e3⟩:=h5;exact⟨e1,e2,eb.trans e3⟩⟩
  have ZN:LT H1 H4:=on.trans ((LT.same s3).trans AQ);have rt4:=P8.lt ZN;refine⟨_,rfl,ra,r,ah,_,ds,dt,"run",[],(knd ks,ww),0,rfl,rt4,ED,G.bl,G.dl,G.dk,G.un,by decide +kernel,fun dv H5 s5 ddv HL xv=>?_⟩;obtain⟨Kt,ka5,nd5,kvs5,i5,p5,FR,_⟩:=id HL;refine⟨_,rfl,ra,Kt,_,rfl,FR,cF _ _ _ _ _ _ ‹1›,ra,r,ah,_,"run",[],(knd ks,ww),s5,rfl,rt4.lt xv,HL,fun H6 A0 B3=>?_⟩;refine⟨_,rfl,ck _,fun e he=>?_⟩;have s7:Same H6 (upd H6 e (.tup [])):=X6 he;have he7:(upd H6 e (.tup [])) e=some (.tup (([]:LS).map V.str)):=ak;generalize upd H6 e (.tup [])=H7 at s7 he7;obtain⟨cc,TB,EU⟩:=G.rc;refine⟨ra,r,e,ah,rr,[],[],run,(knd ks,ww),s5,cc,rfl,he7,((rt4.lt xv).lt B3).lt (LT.same s7),A0.same s7,(fun x h=>by cases h),j0,ck _,EU,TB,fun rv H8 drv N1 BC=>?_⟩;have TD:LT H4 H8:=xv.trans (B3.trans ((LT.same s7).trans BC));obtain⟨⟨vs8,YV,pr8⟩,_⟩:=rt4.lt TD;have vl8:=cE pr8;obtain⟨dx8,ka8,nd8,kvs8,i8,p8,TH,_,_,_,hi8,_,e8⟩:=N1
  have ei:i8=ah.length:=by
   by_cases h:i8<ah.length
   ·rw[Cz h]at e8;cases e8
   ·omega
  refine⟨_,rfl,ra,dx8,_,rfl,TH,cF _ _ _ _ _ _ ‹1›,⟨_,rfl,ra,c.C,dx8,_,_,rfl,TH,S.cl,S.nI,Pj _ _ _ _ _ _,_,rfl,ra,c.C,dx8,_,_,rfl,TH,S.cl,S.nR,Rr _ _ _ _ _ _,r,vs8,rfl,.inl (XQ YV),rfl,ra,?_,?_⟩⟩
  ·show[V.ref ra,V.bl (decide (V.int (i8:Int)=V.int (vs8.length:Int)))]=_;rw[aw (by rw[ei,vl8])]
  refine⟨_,rfl,_,rfl,_,rfl,by show 3<=ab;omega,λz pi=>?_⟩;have s9:=X6 (o:=.tup [.ref a,dv,rv]) pi;have lt28:=(LT.same s3).trans (AQ.trans TD);refine q _ _ ⟨z,.ref a,dv,rv,rfl,ak,(dkv.mono lt28.tups).mono (XX s9),(ddv.mono (B3.trans ((LT.same s7).trans BC)).tups).mono (XX s9),drv.mono (XX s9)⟩ (lt01.trans (ZN.trans (TD.trans (LT.same s9))))
end
def Cw(w:Str):Prop:=∀c∈w.cps.toList,c≠32/\c≠10
def Cl(ws:LS):Prop:=∀w∈ws,Cw w
variable {kk:KW}
theorem Uk:∀c∈abc.cps.toList,c≠32/\c≠10:=by decide +kernel
theorem xO{x:Str}(h:Nm x):Cw x:=λc hc=>Uk c (h.2.2 c hc)
theorem Ry:∀i∈AW,∀c∈(nS i).cps.toList,c≠32/\c≠10:=by decide +kernel
theorem LR:∀i∈uW,∀c∈(nS i).cps.toList,c≠32/\c≠10:=by decide +kernel
theorem Ni:∀p∈exprs,∀c∈p.1.cps.toList,c≠32/\c≠10:=by decide +kernel
theorem PB:∀p∈stats,∀c∈p.1.cps.toList,c≠32/\c≠10:=by decide +kernel
theorem Kz:∀p∈mj,∀j∈p.2,∀c∈j.cps.toList,c≠32/\c≠10:=by decide +kernel
theorem Cl.cons{w:Str}{ws:LS}(h:Cw w)(g:Cl ws):Cl (w::ws):=λx hx=>(aT.mp hx).elim (λe=>e ▸ h) (g x)
theorem Cl.app{us:LS}(h:Cl ws)(g:Cl us):Cl (ws++us):=λx hx=>(bu.mp hx).elim (h x) (g x)
theorem Cl.flat(h:∀ws∈wp,Cl ws):Cl wp.flatten:=λx hx=>by
 obtain⟨ws,h1,h2⟩:=List.mem_flatten.mp hx;exact h ws h1 x h2
theorem Cl.nil:Cl []:=λx h=>by cases h
theorem M8(h:n<=7):Cw (nS n):=LR _ ((by decide +kernel:∀i∈List.range 8,((i:Nat):Int)∈uW) _ (iE.mpr ‹21›))
theorem pG.cl(ih:∀t,bK n kk t->Cl (be t)){f:Str}(h:pG n kk f t ws):Cl ws:=by
 rcases h with⟨_,h,rfl⟩|⟨_,as,rfl,h,hl,rfl⟩|⟨_,ks,_,_,⟨_,hk⟩,rfl⟩|⟨x,_,nx,_,rfl⟩
 ·exact ih _ h
 ·rw[pO (λa q=>⟨_,h a q⟩)];refine .cons (M8 ‹21›) (Cl.flat λws hw=>?_);obtain⟨a,ha,rfl⟩:=bE.mp hw;exact ih _ (h a ha)
 ·exact λx hx=>xO (hk x hx).1
 ·exact .cons (xO nx) .nil
theorem bK.cl:∀(n:Nat) (t:T),bK n kk t->Cl (be t)
 |0,_,h=>h.elim
 |n+1,t,h=>by
  rcases h.cls with rfl|⟨i,hi,rfl⟩|⟨wd,ts,fs,rfl,hm,pw,_⟩
  ·rw[be];exact .cons (by unfold Cw;decide +kernel) .nil
  ·rw[be];exact .cons (Ry i hi) .nil
  ·rw [iG];refine .cons (Ni _ hm) (Cl.flat fun ws hw=>?_);obtain ⟨l1,l2⟩:=pw.len;obtain ⟨i,hi,rfl⟩:=fc hw;have h2:i < ts.length:=by rwa [aa] at hi
   exact(pw.get i ‹21› h2 hi).cl (bK.cl n)
theorem Stp.cl{B:sI}(hB:∀t r c,c<=16->B t r c->∀ws∈r,Cl ws){fs:LS}(h:Stp B kk fs ts init kb js DT d):(∀j∈js,Cw j)->(∀ws∈init,Cl ws)->Cl kb->∀ws∈DT,Cl ws:=by
 induction h with
 |nil=>
  intro _ hi hl ws hw;exact(bu.mp hw).elim (hi ws) λh=>by rw[bg.mp h];exact hl
 |block hb hc _ ih=>
  intro hj hi hl;refine ih (λj h=>hj j (cf _ h)) (λws hw=>?_) (.cons (hj _ aS) .nil);rcases bu.mp hw with h|h
  ·exact(bu.mp h).elim (hi ws) λh=>by rw[bg.mp h];exact hl
  ·exact hB _ _ _ hc hb ws h
 |part pw _ _ ih=>exact λhj hi hl=>ih hj hi (hl.app (pw.cl (bK.cl 4)))
theorem Ua(hB:∀t r c,c<=16->B kk t r c->∀ws∈r,Cl ws)(hc:c<=16)(h:BB B kk t ah c):∀ws∈ah,Cl ws:=by
 obtain⟨wd,ps,fs,js,d0,rfl,rfl,hm,EZ,MA,_⟩:=yx hc h;refine MA.cl hB (λj hj=>?_) (λws h=>by cases h) (.cons (PB _ hm) .nil);rcases EZ with h|⟨rfl,_⟩
 ·exact Kz _ h j hj
 ·cases hj
theorem UJ{R:sI}(hR:∀t r c,c<=m->R t r c->∀ws∈r,Cl ws)(h:StL R ss hG c):c<=m->∀ws∈hG.flatten,Cl ws:=by
 induction h with
 |nil=>exact λ_ ws h=>by cases h
 |cons hs _ ih=>
  intro hc ws hw;rw[eK]at hw;exact(bu.mp hw).elim (hR _ _ _ ‹21› hs ws) (ih ‹21› ws)
theorem Nf:∀(n:Nat) (t:T) (ah:LL) (c:Nat),c<=16->SB n kk t ah c->∀ws∈ah,Cl ws
 |0,_,_,_,_,h=>h.elim
 |n+1,t,ah,c,hc,⟨ss,hG,_,h,e⟩=>by
  subst e;exact UJ (m:=16) (λt r c hc h=>Ua (Nf n) hc h) h hc
theorem Ud:∀w∈[("kind":Str),"deed","run","end"],∀c∈w.cps.toList,c≠32/\c≠10:=by decide +kernel
theorem Qx(G:GoodW ww ks ds run dt rr):∀ws∈kY ks ds dt rr,Cl ws:=by
 have fx:∀w∈[("kind":Str),"deed","run","end"],Cw w:=Ud;have E:Cl [("end":Str)]:=.cons (fx _ ‹1›) .nil;intro ws hw;unfold kY at hw;rcases bu.mp hw with h|h
 ·rcases bu.mp h with h | h
  ·obtain⟨r,hr,rfl⟩:=bE.mp h;obtain⟨h1,h2,h3,h4,h5⟩:=G.ko r hr;exact .cons (fx _ ‹1›) (.cons (xO h1) (.cons (M8 h2) (Cl.app (λx hx=>xO (h4 x hx)) (λx hx=>xO (h5 x hx)))))
  ·obtain ⟨l,hl,Mb⟩:=List.mem_flatten.mp h;obtain ⟨i,hi,rfl⟩:=fc hl;rw [kX] at hi;rw [qq] at Mb;obtain ⟨h1,h2,h3,⟨h4,_⟩,c,hc,hb⟩:=G.dk i ‹21› ‹21›;rcases aT.mp Mb with rfl | h
   ·exact .cons (fx _ ‹1›) (.cons (xO h1.1) (.cons (xO h2) (λx hx=>xO (h4 x hx).1)))
   ·rcases bu.mp h with h | h
    ·exact Nf 3 _ _ c hc hb ws h
    ·rw[bg.mp h];exact E
 ·obtain ⟨c,hc,hb⟩:=G.rc;rcases aT.mp h with rfl | h
  ·exact .cons (fx _ ‹1›) .nil
  ·rcases bu.mp h with h | h
   ·exact Nf 3 _ _ c hc hb ws h
   ·rw[bg.mp h];exact E
theorem Jq(a b:Str):(a++b).cps.toList=a.cps.toList++b.cps.toList:=by
 show(a.cps++b.cps).toList=_;rw[qV]
theorem RJ:∀{ws:LS},Cl ws->10∉(jn ws).cps.toList
 |[],_=>by decide +kernel
 |[x],h=>by
  rw[dO];exact λz=>(h x aS 10 z).2 rfl
 |x::y::r,h=>by
  rw[iU x (bc _ _),Jq,Jq];intro z;rcases bu.mp z with z|z
  ·rcases bu.mp z with z | z
   ·exact(h x aS 10 z).2 rfl
   ·exact absurd z ‹1›
  ·exact RJ (λw hw=>h w (cf _ hw)) z
theorem Mj:∀ws:LS,ws.length<=wt ws
 |[]=>ck _
 |x::ws=>by
  have:=Mj ws;rw[bM,aI];omega
theorem Ko(hl:ah.length<=457)(h:∀r∈ah,pN r):(uX ah).length<=16000000:=by
 unfold uX;rw[YG]
 have h1:=Cp (B:=19000) (xs:=ah.map jn) λx hx=>by
  obtain⟨r,hr,rfl⟩:=bE.mp hx;exact dq (Di r) (h r hr).2
 have h2:=StrLaws.join_length_le "\n" (ah.map jn);have e:("\n":Str).length=1:=rfl;rw[e]at h2;rw[aa]at h1 h2;have h3:=fR 19000 hl;omega
theorem DX(G:GoodW ww ks ds run dt rr):EH (kY ks ds dt rr):=by
 obtain⟨l,k⟩:=Dl ⟨ww,G⟩;have cl:=Qx G
 have wn:kY ks ds dt rr≠[]:=λe=>by
  unfold kY Ij at e;exact absurd (List.append_eq_nil_iff.mp e).2 (bc _ _)
 generalize kY ks ds dt rr=ah at*;have e32:(" ":Str)=⟨#[32]⟩:=by decide +kernel
 have e10:("\n":Str)=⟨#[10]⟩:=by decide +kernel
 refine⟨wn,⟨by omega,λws hw=>?_⟩,λr hr=>(k r hr).1,λr hr=>?_,?_,Ko l k,λr hr=>?_⟩
 ·have:=(k ws hw).2;have:=Mj ws;omega
 ·unfold jn;rw[e32];exact yO (k r hr).1 λw hw z=>(cl r hr w hw 32 z).1 rfl
 ·unfold uX;rw[e10];refine yO (λz=>wn (List.map_eq_nil_iff.mp z)) λp hp=>?_;obtain⟨r,hr,rfl⟩:=bE.mp hp;exact RJ (cl r hr)
 ·have:=Di r;have:=(k r hr).2;omega
end K26
end
section
namespace K26
open PySem PyProof.Rows L2
variable {c j m n:Nat}{run t:T}{as ss ts:List T}{B:lU}{kk:KW}{ah rr:LL}{dt hG:List LL}{ps ws ww:LS}{ks:List KR}{ds:List DR}{H H' H1 H2:Hp}{p r:ax}{o:HO}{P:vy}{w:xm}{K:PySem.W.Frag}{mg:MG}{fd:uB}
def jD:Nat->T->Prop
 |0,.tup _=>False
 |n+1,.tup ts=>ts.length<=1000/\∀t∈ts,jD n t
 |_,_=>True
theorem U8(K:PySem.W.Frag):PySem.W.kitOne K (.type "int") (.type "bool")=some false:=rfl
theorem Tw(K:PySem.W.Frag):PySem.W.kitOne K (.type "str") (.type "tuple")=some false:=rfl
theorem kit_is(K:PySem.W.Frag):PySem.W.kitOne K (.type "int") (.type "str")=some false:=rfl
theorem jD.up:∀{n:Nat} {t:T},jD n t->jD (n+1) t
 |0,.tup _,h=>yz h
 |n+1,.tup ts,⟨l,h⟩=>⟨l,λx hx=>jD.up (h x hx)⟩
 |0,.non,_=>trivial
 |0,.int _,_=>trivial
 |0,.str _,_=>trivial
 |_+1,.non,_=>trivial
 |_+1,.int _,_=>trivial
 |_+1,.str _,_=>trivial
theorem jD.le(h:n<=m)(s:jD n t):jD m t:=by
 induction h with
 |refl=>exact s
 |step _ ih=>exact ih.up
theorem jD.str(n:Nat)(x:Str):jD n (.str x):=by cases n <;>trivial
theorem jD.strs(n:Nat){xs:LS}(h:xs.length<=1000):jD (n+1) (.tup (xs.map T.str)):=⟨by rwa[aa],λt ht=>by
 obtain⟨x,_,rfl⟩:=bE.mp ht;exact .str n x⟩
theorem jD.rN{a:T}(ha:jD n a):jD (n+1) (.tup [a]):=⟨by show 1<=1000;decide,λt ht=>by rw[bg.mp ht];exact ha⟩
theorem jD.con{a:T}(ha:jD n a)(h:jD (n+1) (.tup ts))(hl:Nat.ble ts.length 9=true:=by rfl):jD (n+1) (.tup (a::ts)):=⟨by rw[aI];have:=Nat.le_of_ble_eq_true hl;omega,λt ht=>by
 rcases aT.mp ht with rfl|ht
 ·exact ha
 ·exact h.2 t ht⟩
theorem Jj{kk:KW}:∀(n:Nat) (t:T),bK n kk t->jD (2*n) t
 |0,_,h=>yz h
 |n+1,t,h=>by
  have ih:=Jj (kk:=kk) n;have up:∀{e:T},bK n kk e->jD (2*n+1) e:=λh=>(ih _ h).up;have YQ:∀{as:List T},(∀a∈as,bK n kk a)->as.length<=3->jD (2*n+1) (.tup as):=λh l=>⟨by omega,λa ha=>ih a (h a ha)⟩;have s:=λx=>jD.str (2*n+1) x;rw[show 2*(n+1)=2*n+1+1 from rfl];rcases h with rfl|⟨i,_,rfl⟩|rfl|⟨w,x,_,_,rfl⟩|⟨e,x,he,_,rfl⟩|⟨e,x,as,he,_,ha,hl,rfl⟩|⟨x,as,_,ha,hl,rfl⟩|⟨w,e1,e2,_,h1,h2,rfl⟩
  ·trivial
  ·trivial
  ·exact .rN (s _)
  ·exact .con (s _) (.rN (s _))
  ·exact .con (s _) (.con (up he) (.rN (s _)))
  ·exact .con (s _) (.con (up he) (.con (s _) (.rN (YQ ha hl))))
  ·exact .con (s _) (.con (s _) (.rN (YQ ha hl)))
  ·exact .con (s _) (.con (up h1) (.rN (up h2)))
theorem Ql(hm:8<=m)(hB:∀t ah c,c<=16->B kk t ah c->jD m t)(hc:c<=16)(h:BB B kk t ah c):jD (m+1) t/\1<=c:=by
 have e':∀{e:T},bK 4 kk e->jD m e:=λh=>(Jj 4 _ h).le hm;have s:=λx=>jD.str m x;have xD:∀{ks:LS},ks.length<=7->jD m (.tup (ks.map T.str)):=λh=>(jD.strs 0 ‹21›).le ‹21›;rcases h with⟨w,e,_,he,rfl,_,rfl⟩|⟨x,e,_,he,rfl,_,rfl⟩|⟨e,x,e2,he,_,xi,rfl,_,rfl⟩|⟨w,e,x,_,he,_,rfl,_,rfl⟩|⟨a,b,d,f,_,_,_,_,rfl,_,rfl⟩|⟨a,b,_,_,rfl,_,rfl⟩|⟨a,ks,_,hl,_,rfl,_,rfl⟩|⟨e,b1,b2,r1,r2,c1,c2,he,h1,h2,rfl,_,rfl⟩|⟨w,e,b,r,c1,_,he,h1,rfl,_,rfl⟩|⟨b1,b2,x,r1,r2,c1,c2,h1,_,h2,rfl,_,rfl⟩
 ·exact⟨.con (s _) (.rN (e' he)),by omega⟩
 ·exact⟨.con (s _) (.con (s _) (.rN (e' he))),by omega⟩
 ·exact⟨.con (s _) (.con (e' he) (.con (s _) (.rN (e' xi)))),by omega⟩
 ·exact⟨.con (s _) (.con (e' he) (.rN (s _))),by omega⟩
 ·exact⟨.con (s _) (.con (s _) (.con (s _) (.con (s _) (.rN (s _))))),by omega⟩
 ·exact⟨.con (s _) (.con (s _) (.rN (s _))),by omega⟩
 ·exact⟨.con (s _) (.con (s _) (.rN (xD hl))),by omega⟩
 ·exact⟨.con (s _) (.con (e' he) (.con (hB _ _ _ ‹21› h1) (.rN (hB _ _ _ ‹21› h2)))),by omega⟩
 ·exact⟨.con (s _) (.con (e' he) (.rN (hB _ _ _ ‹21› h1))),by omega⟩
 ·exact⟨.con (s _) (.con (hB _ _ _ ‹21› h1) (.con (s _) (.rN (hB _ _ _ ‹21› h2)))),by omega⟩
theorem QV{R:sI}{Z:T->Prop}(hR:∀{t ah c},c<=16->R t ah c->Z t/\1<=c)(hc:c<=16)(h:StL R ss hG c):ss.length<=c/\∀t∈ss,Z t:=by
 induction h with
 |nil=>exact⟨af _,λt h=>nomatch h⟩
 |cons a _ ih=>
  have:=hR ‹21› a;have ih:=ih ‹21›;refine⟨by rw[aI];omega,λt ht=>?_⟩;rcases aT.mp ht with rfl|ht
  ·exact this.1
  ·exact ih.2 t ht
theorem Ce{kk:KW}:∀(n:Nat) (t:T) (ah:LL) (c:Nat),c<=16->SB n kk t ah c->jD (8+2*n) t
 |0,_,_,_,_,h=>yz h
 |n+1,t,ah,c,hc,h=>by
  obtain⟨ss,hG,rfl,h,_⟩:=h;obtain⟨l,k⟩:=QV (λhc h=>Ql ‹21› (Ce n) hc h) hc h;exact⟨by omega,k⟩
theorem K1(G:GoodW ww ks ds run dt rr):jD 18 (.tup [.tup (ks.map yB),.tup (ds.map FF),run]):=by
 have hk:=G.kl;have hd:=G.dl;have sn:=λ{n:Nat} {xs:LS} (h:xs.length<=7)=>(jD.strs 0 (xs:=xs) ‹21›).le (show 1<=n+1 by omega);refine .con (n:=17) ?_ (.con ?_ (.rN ?_))
 ·refine⟨by rw[aa];omega,λt ht=>?_⟩;obtain⟨r,hr,rfl⟩:=bE.mp ht;obtain⟨_,h1,h2,_⟩:=G.ko r hr;exact .con (n:=15) (.str _ _) (.con (sn h1) (.rN (sn ‹21›)))
 ·refine⟨by rw[aa];omega,λt ht=>?_⟩;obtain⟨d,XG,rfl⟩:=bE.mp ht;obtain⟨i,hi,rfl⟩:=fc XG;obtain⟨_,_,h3,_,c,hc,sb⟩:=G.dk i hi (by rw[G.bl];exact hi);exact .con (n:=15) (.str _ _) (.con (.str _ _) (.con (sn ‹21›) (.rN ((Ce 3 _ _ _ hc sb).le ‹11›))))
 ·obtain⟨c,hc,sb⟩:=G.rc;exact(Ce 3 _ _ _ hc sb).le ‹11›
section
variable {P:vy}{w:xm}{K:PySem.W.Frag}{mg:MG}{base:Heap}{t:tT}
inductive Du (n:Nat) (vs:LV) (H:Hp) (Q:VK) (E_:XK):Prop
 |mk (u v:V) (tr:T):vs=[u,v]->jD n tr->Dp H tr u->Dp H tr v->(∀H',Same H H'->Q (.bl true) H')->Du n vs H Q E_
theorem zU(D:Defs K mg t)(n:Nat)(ih:aW P w K mg base bm (n+1) t.fu.1 t.fu.2 ["_law_told","_law_due"] (fun vs H Q E=>match n with |0=>False|m+1=>Du m vs H Q E)):aW P w K mg base bm (n+2) t.fu.1 t.fu.2 ["_law_told","_law_due"] (Du n):=by
 have Gau:=ih;have hz:ab=16777216:=cn;refine D.fu.fn.ok vV ‹4› ‹3›
 ·obtain⟨u,v,tr,rfl,_⟩:=h;rfl
 ·obtain ⟨u,v,tr,rfl,sh,du,dv,k⟩:=h
  refine⟨_,(au (bL (aV tZ (pv 1) jz (aR _))
   (aF (aM (cL tZ (pv 0) jz (aR _))))
   aX)
   (au (bL (fB (aN jG (by rfl) D.cH cD (aj (pv 1) (aj (iz (v:=V.ty "tuple") rfl D.dB cP rfl) aq))))
   (au (bL (XN (kZ (gH (fB (aN jG (by rfl) D.cH cD (aj (pv 0) (aj (iz (v:=V.ty "tuple") rfl D.dB cP rfl) aq))))) (je (aV Fo (aN iK (by rfl) D.cW cg ‹15›) (aN iK (by rfl) D.cW cg ‹14›) (aR _)))))
   (aF (aM jP))
   aX)
   (aF (aM (aN (Ea rfl) (by rfl) D.sY oW (aj (cI rfl (X7 ["_law_k"] [0,1] ["_law_k","_law_told","_law_due"] (aJ (top 81)) ["_law_told","_law_due"] rfl rfl ‹1›) ⟨fun _ _ _ _ _=>(aO (i:=0) (show List.Nodup [("_law_k":Str),("_law_told":Str),("_law_due":Str)]by decide +kernel) rfl ‹16› ‹13›),fun _ _ _ _ _=>cJ,fun _ _ _ _ _=>(aH D.fu Gau ‹2› (by rfl) (aj (bf (Eh (K:=K) rfl) (pv 1) (pv 0) ‹20›) (aj (bf (Eh (K:=K) rfl) (pv 2) (pv 0) ‹20›) aq)))⟩ (iY rfl D.ni (aj (aN iK (by rfl) D.cW cg ‹14›) aq))) aq)))))
   aX)
   (au (bL (fB (aN jG (by rfl) D.cH cD (aj (pv 1) (aj (iz (v:=V.ty "str") rfl D.pQ lM rfl) aq))))
   (aF (aM (rK (aN jG (by rfl) D.cH cD (aj (pv 0) (aj (iz (v:=V.ty "str") rfl D.pQ lM rfl) aq))) (rH (cL cO (pv 0) (pv 1) (aR _))))))
   aX)
   (aF (aM (rK (aN jG (by rfl) D.cH cD (aj (pv 0) (aj (iz (v:=V.ty "int") rfl D.zV wL rfl) aq))) (rK (Ti (aN jG (by rfl) D.cH cD (aj (pv 0) (aj (iz (v:=V.ty "bool") rfl D.S7 Q7 rfl) aq)))) (rH (cL cO (pv 0) (pv 1) (aR _)))))))))),?_⟩
  simp only[jm,Cx.nox];cases tr with
  |non=>
   have eu:u=.non:=by rw[Dp]at du;exact du
   have ev:v=.non:=by rw[Dp]at dv;exact dv
   subst eu ev;refine⟨_,rfl,rfl,_,rfl,jq ⟨_,rfl,rfl,?_⟩⟩;exact k H (XS H)
  |int i=>
   obtain rfl:=du.N5;obtain rfl:=dv.N5;refine⟨_,rfl,rfl,_,rfl,iu ⟨_,rfl,_,_,_,false,rfl,.int i,Ih N0,_,rfl,iu ⟨_,rfl,_,_,_,false,rfl,.int i,kit_is N0,_,rfl,iu ?_⟩⟩⟩;refine⟨_,rfl,_,_,_,true,rfl,.int i,gG N0 "int",_,rfl,jq ⟨_,rfl,_,_,_,false,rfl,.int i,U8 N0,_,rfl,_,rfl,jq ⟨_,rfl,_,rfl,rfl,?_⟩⟩⟩;rw[aw rfl];exact k H (XS H)
  |str x=>
   obtain rfl:=du.eG;obtain rfl:=dv.eG;refine⟨_,rfl,rfl,_,rfl,iu ⟨_,rfl,_,_,_,false,rfl,.str x,Tw N0,_,rfl,iu ⟨_,rfl,_,_,_,true,rfl,.str x,gG N0 "str",_,rfl,jq ?_⟩⟩⟩;refine⟨_,rfl,_,_,_,true,rfl,.str x,gG N0 "str",_,rfl,jq ⟨_,rfl,_,rfl,rfl,?_⟩⟩;rw[aw rfl];exact k H (XS H)
  |tup ts=>
   cases n with
   |zero=>exact yz sh
   |succ n=>
   obtain⟨tl,sh⟩:ts.length<=1000/\∀t∈ts,jD n t:=sh;obtain⟨a,xs,rfl,ha,dx⟩:=L2.Dp.cR du;obtain⟨b,ys,rfl,hb,dy⟩:=L2.Dp.cR dv;have xl:=dx.length;have yl:=dy.length;refine⟨_,rfl,rfl,_,rfl,iu ⟨_,rfl,_,_,_,true,rfl,.tup hb,gG N0 "tuple",_,rfl,jq ?_⟩⟩;refine⟨_,rfl,_,_,_,true,rfl,.tup ha,gG N0 "tuple",_,rfl,iu ⟨_,rfl,a,_,rfl,.inr (XR ha),_,rfl,b,_,rfl,.inr (XR hb),rfl,_,rfl,aL ?_ ?_⟩⟩
   ·rw[aw (by rw[xl,yl])];exact az
   refine⟨_,rfl,b,_,rfl,.inr (XR hb),_,rfl,by omega,by omega,λD1 hC=>?_⟩;have s1:∀u,Same H (upd H D1 u):=λu=>X6 hC;refine bN (n:=ys.length) (λi zs H2=>zs=(List.replicate i true).map V.bl/\H2 D1=some (.lst zs)/\Same H H2) ⟨rfl,ak,s1 _⟩ ?_ ?_
   ·rintro zs H2 ⟨rfl,nv,s2⟩;refine⟨af _,D1,_,rfl,XQ nv,?_⟩;have:(List.replicate ys.length true).all id=true:=by simp
    rw[this];exact k H2 s2
   ·rintro i zs H2 hi ⟨rfl,nv,s2⟩;refine⟨hi,?_⟩;rintro x H3 ⟨rfl,rfl⟩ gi ho;obtain ⟨oo,rfl⟩:=eP ho;have sv:i < ts.length:=by omega
    obtain⟨x1,e1,d1⟩:=dx.get (i:=i) (t:=ts[i]) (ac sv);obtain⟨y1,e2,d2⟩:=dy.get (i:=i) (t:=ts[i]) (ac sv)
    have a1:tS xs (0+(i:Int))=some x1:=by
     rw[Int.zero_add];exact aK (j:=i) e1
    have a2:tS ys (0+(i:Int))=some y1:=by
     rw[Int.zero_add];exact aK (j:=i) e2
    refine⟨‹9›,dh ⟨_,rfl,_,rfl,a,xs,_,x1,rfl,rfl,XR (s2 a _ ha),a1,_,rfl,_,rfl,b,ys,_,y1,rfl,rfl,XR (s2 b _ hb),a2,?_⟩⟩;refine⟨x1,y1,ts[i],rfl,sh _ (bX sv),d1.mono (XX s2),d2.mono (XX s2),λH4 s4=>?_⟩;refine⟨by rw[aa,eL];omega,s4 D1 _ nv,bG hi ⟨?_,ak,λc u z=>?_⟩⟩
    ·rw[iF,av];rfl
    ·rw[aB (aD z hC)];exact s4 c _ (s2 c _ z)
theorem QM(D:Defs K mg t)(n:Nat):aW P w K mg base bm (n+2) t.fu.1 t.fu.2 ["_law_told","_law_due"] (Du n):=by
 induction n with
 |zero=>exact zU D 0 (D.fu.fn.ok vV (λvs H Q E h=>yz h) (λxh A outer s H vs Q E hr h=>yz h))
 |succ n ih=>exact zU D (n+1) ih
theorem be4(hn:n<=4):BE n<=9350:=by
 rcases(by omega:n=0\/n=1\/n=2\/n=3\/n=4)with rfl|rfl|rfl|rfl|rfl <;>decide
theorem qL(hn:n<=4){t:T}(h:bK n kk t):(jn (be t)).length<=9350:=dq (Di _) (dq (bK.wt h).2 (be4 hn))
theorem gC:(" ":Str).length=1:=rfl
theorem rQ{xs:LS}(hl:xs.length<=100)(h:∀x∈xs,x.length<=9350):(xs.map (·.length)).sum+xs.length*(" ":Str).length<=16777216:=by
 have:=Cp h;have:=fR 9350 hl;rw[gC];omega
theorem Dz(as:List T):as.map (λa=>jn (be a))=(as.map be).map jn:=by rw[kQ];rfl
inductive yX (n:Nat) (vs:LV) (H:Hp) (Q:VK) (E_:XK):Prop
 |mk (v:V) (t:T):vs=[v]->Dp H t v->Mo n t->(∀H',Same H H'->Q (.str (jn (be t))) H')->yX n vs H Q E_
theorem Cj(D:Defs K mg t){k:Nat}(hn:n+1<=4)(KG:aW P w K mg base bm k t.bT.1 t.bT.2 ["_law_part"] (yX n)):aW P w K mg base bm (k+1) t.bT.1 t.bT.2 ["_law_part"] (yX (n+1)):=by
 have hz:ab=16777216:=cn;refine D.bT.fn.ok tG ‹4› ‹3›
 ·obtain⟨v,t,rfl,_⟩:=h;rfl
 ·obtain ⟨v,t0,rfl,dv,ex,q⟩:=h
  refine⟨_,(@au _ _ _ _ _ (@bL _ _ _ _ _ _ _ _ (aV tZ (pv 0) jz (aR _))
   (@aF _ _ _ (@aM _ _ _ _ aP))
   aX)
   (@au _ _ _ _ _ (@bL _ _ _ _ _ _ _ _ (gH (fB (@aN _ _ _ _ _ _ _ _ _ eX (by rfl) D.cH cD (@aj _ _ _ _ _ (pv 0) (@aj _ _ _ _ _ (iz (v:=V.ty "tuple") rfl D.dB cP rfl) aq (by rfl)) (by rfl)) ‹11› ‹11› (by rfl) (by rfl))))
   (@aF _ _ _ (@aM _ _ _ _ (aY fP (by rfl) D.pQ lM (@aj _ _ _ _ _ (pv 0) aq (by rfl)))))
   aX)
   (@au _ _ _ _ _ (@bL _ _ _ _ _ _ _ _ (XN (kZ (aV cO (@bf _ _ _ _ _ _ _ bB (pv 0) aG ‹20›) aP (aR _)) (je (aV cO (@bf _ _ _ _ _ _ _ bB (pv 0) aG ‹20›) aP (aR _)))))
   (@aF _ _ _ (@aM _ _ _ _ (@bh _ _ _ _ _ _ _ _ bZ (@bh _ _ _ _ _ _ _ _ bZ (@bf _ _ _ _ _ _ _ bB (pv 0) aG ‹20›) aP) (@bf _ _ _ _ _ _ _ bB (pv 0) aG ‹20›))))
   aX)
   (@au _ _ _ _ _ (@bL _ _ _ _ _ _ _ _ (aV cO (@bf _ _ _ _ _ _ _ bB (pv 0) aG ‹20›) aP (aR _))
   (@aF _ _ _ (@aM _ _ _ _ (@bh _ _ _ _ _ _ _ _ bZ (@bh _ _ _ _ _ _ _ _ bZ (@bh _ _ _ _ _ _ _ _ bZ aP (@aH _ _ _ _ _ _ _ _ _ _ _ _ _ D.bT KG ‹2› (by rfl) (@aj _ _ _ _ _ (@bf _ _ _ _ _ _ _ bB (pv 0) aG ‹20›) aq (by rfl)) ‹11› (by rfl) (by rfl))) aP) (@bf _ _ _ _ _ _ _ bB (pv 0) aG ‹20›))))
   aX)
   (@au _ _ _ _ _ (@bL _ _ _ _ _ _ _ _ (aV cO (@bf _ _ _ _ _ _ _ bB (pv 0) aG ‹20›) aP (aR _))
   (@au _ _ _ _ _ (rD (i:=1) rfl tG.nd rfl (uv rfl) (X7 ["_law_one"] [] ["_law_one"] (aJ (top 77)) ["_law_part","_law_args"] rfl rfl ‹1›) ⟨fun _ _ _ _ _=>(aO (i:=0) (show List.Nodup [("_law_one":Str)]by decide +kernel) rfl ‹16› ‹13›),fun _ _ _ _ _=>cJ,fun _ _ _ _ _=>(@aH _ _ _ _ _ _ _ _ _ _ _ _ _ D.bT KG ‹2› (by rfl) (@aj _ _ _ _ _ (pv 0) aq (by rfl)) ‹11› (by rfl) (by rfl))⟩ (dg (@bf _ _ _ _ _ _ _ bB (pv 0) aG ‹20›)))
   (@aF _ _ _ (@aM _ _ _ _ (gb eW fT gh oN aP (@aj _ _ _ _ _ (@bh _ _ _ _ _ _ _ _ cX (@bw _ _ _ _ (@aj _ _ _ _ _ aP (@aj _ _ _ _ _ (@aH _ _ _ _ _ _ _ _ _ _ _ _ _ D.bT KG ‹2› (by rfl) (@aj _ _ _ _ _ (@bf _ _ _ _ _ _ _ bB (pv 0) aG ‹20›) aq (by rfl)) ‹11› (by rfl) (by rfl)) (@aj _ _ _ _ _ (@bf _ _ _ _ _ _ _ bB (pv 0) aG ‹20›) (@aj _ _ _ _ _ (aY fP (by rfl) D.pQ lM (@aj _ _ _ _ _ (@aN _ _ _ _ _ _ _ _ _ bJ (by rfl) D.cW cg (@aj _ _ _ _ _ (pv 1) aq (by rfl)) ‹11› ‹11› (by rfl) (by rfl)) aq (by rfl))) aq (by rfl)) (by rfl)) (by rfl)) (by rfl))) (pv 1)) aq (by rfl))))))
   aX)
   (@au _ _ _ _ _ (@bL _ _ _ _ _ _ _ _ (aV cO (@bf _ _ _ _ _ _ _ bB (pv 0) aG ‹20›) aP (aR _))
   (@aF _ _ _ (@aM _ _ _ _ (gb eW fT gh oN aP (@aj _ _ _ _ _ (@bh _ _ _ _ _ _ _ _ cX (@bw _ _ _ _ (@aj _ _ _ _ _ aP (@aj _ _ _ _ _ (@bf _ _ _ _ _ _ _ bB (pv 0) aG ‹20›) (@aj _ _ _ _ _ (aY fP (by rfl) D.pQ lM (@aj _ _ _ _ _ (@aN _ _ _ _ _ _ _ _ _ bJ (by rfl) D.cW cg (@aj _ _ _ _ _ (@bf _ _ _ _ _ _ _ bB (pv 0) aG ‹20›) aq (by rfl)) ‹11› ‹11› (by rfl) (by rfl)) aq (by rfl))) aq (by rfl)) (by rfl)) (by rfl))) (cI rfl (X7 ["_law_one"] [] ["_law_one"] (aJ (top 77)) ["_law_part","_law_args"] rfl rfl ‹1›) ⟨fun _ _ _ _ _=>(aO (i:=0) (show List.Nodup [("_law_one":Str)]by decide +kernel) rfl ‹16› ‹13›),fun _ _ _ _ _=>cJ,fun _ _ _ _ _=>(@aH _ _ _ _ _ _ _ _ _ _ _ _ _ D.bT KG ‹2› (by rfl) (@aj _ _ _ _ _ (pv 0) aq (by rfl)) ‹11› (by rfl) (by rfl))⟩ (dg (@bf _ _ _ _ _ _ _ bB (pv 0) aG ‹20›)))) aq (by rfl)))))
   aX)
   (@aF _ _ _ (@aM _ _ _ _ (gb eW fT gh oN aP (@aj _ _ _ _ _ (@bh _ _ _ _ _ _ _ _ cX (@bw _ _ _ _ (@aj _ _ _ _ _ (@bf _ _ _ _ _ _ _ bB (pv 0) aG ‹20›) aq (by rfl))) (cI rfl (X7 ["_law_one"] [] ["_law_one"] (aJ (top 77)) ["_law_part","_law_args"] rfl rfl ‹1›) ⟨fun _ _ _ _ _=>(aO (i:=0) (show List.Nodup [("_law_one":Str)]by decide +kernel) rfl ‹16› ‹13›),fun _ _ _ _ _=>cJ,fun _ _ _ _ _=>(@aH _ _ _ _ _ _ _ _ _ _ _ _ _ D.bT KG ‹2› (by rfl) (@aj _ _ _ _ _ (pv 0) aq (by rfl)) ‹11› (by rfl) (by rfl))⟩ (dg (gn wC (pv 0) (iM aG) iH)))) aq (by rfl))))))))))),?_⟩
  simp only[jm,Cx.nox];obtain⟨kk,ex⟩:=ex;rcases ex with rfl|⟨i,hi,rfl⟩|rfl|⟨wd,x,hw,hx,rfl⟩|⟨e,x,he,hx,rfl⟩|⟨e,x,as,he,hx,hA,hl,rfl⟩|⟨x,as,hx,hA,hl,rfl⟩|⟨wd,e1,e2,hw,h1,h2,rfl⟩
  ·rw[Dp]at dv;subst dv;refine‹8›;have:=q H (XS H);rw[be,dO]at this;exact this
  ·rw[Dp]at dv;subst dv;obtain⟨h0,h1⟩:=Ip i hi;refine⟨_,rfl,rfl,_,rfl,aL (by rw[cw ‹6›];exact az) ?_⟩;refine⟨_,rfl,_,_,_,false,rfl,.int i,Ih N0,_,rfl,jq ?_⟩;refine⟨_,rfl,_,rfl,lg h0 h1,?_⟩;have:=q H (XS H);rw[be,dO]at this;exact this
  all_goals
   obtain⟨a,xs,rfl,ha,dl⟩:=L2.Dp.cR dv;obtain⟨x1,ys,rfl,d1,zh⟩:=dl.cases;have e1:=L2.Dp.eG d1;subst e1;refine⟨_,rfl,rfl,_,rfl,aL (by rw[cw ‹6›];exact az) ?_⟩;refine⟨_,rfl,_,_,_,true,rfl,.tup ha,gG N0 "tuple",_,rfl,iu ?_⟩
  ·skip
   refine‹19›;refine‹19›;refine‹19›;refine‹19›;refine‹19›;refine⟨rfl,_,rfl,a,_,_,_,rfl,rfl,XR ha,aK (j:=0) rfl,by show 1<=ab;decide,fun l1 fq=>?_⟩;exists 1,s1,hW,H,l1,(.lst [.str "me"]),fq,H1;refine⟨_,rfl,_,rfl,a,_,rfl,s1 a _ ha,fun b H2 hb s2=>?_⟩;rw[uF]at hb;have hb:H2 b=some (.tup ys):=hb;have KA:=s1.trans s2;have np:=zh.mono (XX KA);refine⟨b,rfl,⟨_,XR hb⟩,fun D1 hC=>?_⟩;have asl:([]:List T).length<=3:=by show 0<=3;decide
   refine bN (n:=ys.length) (λi zs H5=>zs=((([]:List T).take i).map (λa=>jn (be a))).map V.str/\H5 D1=some (.lst zs)/\Same H2 H5) ⟨rfl,ak,X6 hC⟩ ?_ ?_;rotate_left
   ·rintro i zs H5 hi ⟨rfl,i0,s5⟩;have DL:i < ([]:List T).length:=by have:=np.length; omega
    obtain⟨x5,KI,Kt⟩:=np.get (ac DL);refine⟨⟨_,_,XR (s5 b _ hb),KI⟩,?_⟩;rintro v5 H6 ⟨rfl,yy⟩ gi ho;obtain⟨oo,rfl⟩:=eP ho;have ev:=yy _ (XR (s5 b _ hb));rw[KI]at ev;cases ev;refine⟨‹9›,dh ⟨_,rfl,x5,([]:List T)[i],rfl,Kt.mono (XX s5),(λx (h:x∈([]:List T))=>(nomatch h:Mo n x)) _ (bX DL),λH7 s7=>?_⟩⟩;refine⟨by rw[aa,aa,bj];omega,s7 D1 _ i0,bG hi ⟨?_,ak,λb o e=>by rw[aB (aD e hC)];exact s7 b o (s5 b o e)⟩⟩;rw[take_snoc DL,av,av];rfl
   rintro zs H5 ⟨rfl,i0,s5⟩;rw[ay (by have:=np.length;omega)]at i0;refine⟨⟨_,XR (s5 b _ hb),af _⟩,?_⟩;have CM:=KA.trans s5;refine⟨l1,D1,_,_,rfl,rfl,(s2.trans s5) l1 _ hW,i0,by rw[aa,aa];show 1+0<=ab;omega,λl3 ma=>?_⟩
   have el:([V.str "me"]++(([]:List T).map (fun a=>jn (be a))).map V.str:LV)=(([[("me":Str)]]++([]:List T).map be).map jn).map V.str:=by
    rw[Dz,av,av];show _=[V.str (jn ["me"])]++_;rw[dO]
   refine⟨" ",l3,([[("me":Str)]]++([]:List T).map be).map jn,rfl,rfl,.inl (XQ (by rw[ak,el])),rQ (by rw[aa,ai,aa];show 1+0<=100;omega) ?_,?_⟩
   ·intro x hx;obtain ⟨r,fA,rfl⟩:=bE.mp hx;rcases bu.mp fA with fA | fA
    ·rw[bg.mp fA,dO];exact by decide +kernel
    ·obtain⟨b,hb,rfl⟩:=bE.mp fA;exact qL ‹21› ((λx (h:x∈([]:List T))=>(nomatch h:bK n kk x)) b hb)
   ·have:=q _ (CM.trans (X6 (o:=.lst ([V.str "me"]++(([]:List T).map (fun a=>jn (be a))).map V.str)) ma));show Q (.str (jn (([[("me" : Str)]]++([]:List T).map be).map jn))) _
    rw[yN (by
     intro l hl;rcases bu.mp hl with hl|hl
     ·rw[bg.mp hl];exact bc _ _
     ·obtain⟨b,hb,rfl⟩:=bE.mp hl;exact(bK.wt ((λx (h:x∈([]:List T))=>(nomatch h:bK n kk x)) b hb)).1)]
    rw[iG]at this;exact this
  ·have PV:=hx.2.1;obtain ⟨x2,r2,rfl,d2,wc⟩:=zh.cases;have e2:=L2.Dp.eG d2;have e3:=wc.eO;subst e2 e3
   have hJ:Q (.str (wd++ " " ++ x)) H:=by
    have:=q H (XS H);rw[iG]at this
    have e:([T.str x].map be).flatten=[x]:=by
     show be (.str x)++[]=_;rw[oK];rfl
    rw[e,vK,dO]at this;exact this
   have wl:wd.length<=4:=by rcases hw with⟨rfl,_⟩|⟨rfl,_⟩ <;>decide +kernel
   rcases hw with⟨rfl,_⟩|⟨rfl,_⟩
   ·refine⟨_,rfl,a,_,_,_,rfl,rfl,XR ha,aK (j:=0) rfl,rfl,_,rfl,bR (aw rfl) (jq ?_)⟩;refine⟨_,rfl,a,_,_,_,rfl,rfl,XR ha,aK (j:=0) rfl,_,_,rfl,rfl,by rw[gC];omega,_,rfl,a,_,_,_,rfl,rfl,XR ha,aK (j:=1) rfl,_,_,rfl,rfl,by rw[bD,gC];omega,hJ⟩
   ·refine‹19›;refine⟨_,rfl,a,_,_,_,rfl,rfl,XR ha,aK (j:=0) rfl,rfl,_,rfl,bR (aw rfl) ?_⟩;refine⟨_,rfl,a,_,_,_,rfl,rfl,XR ha,aK (j:=0) rfl,_,_,rfl,rfl,by rw[gC];omega,_,rfl,a,_,_,_,rfl,rfl,XR ha,aK (j:=1) rfl,_,_,rfl,rfl,by rw[bD,gC];omega,hJ⟩
  ·have PV:=hx.2.1;refine‹19›;refine‹19›;refine⟨_,rfl,a,_,_,_,rfl,rfl,XR ha,aK (j:=0) rfl,rfl,_,rfl,bR (aw rfl) ?_⟩;obtain ⟨x2,r2,rfl,d2,wc⟩:=zh.cases;obtain ⟨x3,r3,rfl,d3,EG⟩:=wc.cases;have e3:=L2.Dp.eG d3;have e4:=EG.eO;subst e3 e4;have el:=qL ‹21› he;refine⟨_,rfl,a,_,_,_,rfl,rfl,XR ha,aK (j:=1) rfl,x2,e,rfl,d2,⟨_,he⟩,fun H1 s1=>?_⟩;have e5:("get " : Str).length=4:=rfl;refine⟨_,_,rfl,rfl,by rw [e5]; omega,_,_,rfl,rfl,by rw [bD,e5,gC]; omega,_,rfl,a,_,_,_,rfl,rfl,XR (s1 a _ ha),aK (j:=2) rfl,_,_,rfl,rfl,by rw [bD,bD,e5,gC]; omega,?_⟩;have:=q H1 s1;rw [iG] at this
   have e6:([e,T.str x].map be).flatten=be e++[x]:=by
    show be e++(be (.str x)++[])=_;rw[oK];rfl
   have e7:("get ":Str)="get" ++ " ":= by decide +kernel
   rw[e6,iU _ (by simp),Dm (bK.wt he).1 (bc _ _),dO]at this;rw[e7];simp only[mS]at this⊢;exact this
  ·have PV:=hx.2.1;refine‹19›;refine‹19›;refine‹19›;refine⟨_,rfl,a,_,_,_,rfl,rfl,XR ha,aK (j:=0) rfl,rfl,_,rfl,bR (aw rfl) ?_⟩;obtain ⟨x2,r2,rfl,d2,wc⟩:=zh.cases;obtain ⟨x3,r3,rfl,d3,EG⟩:=wc.cases;obtain ⟨x4,r4,rfl,d4,ZO⟩:=EG.cases;have e3:=L2.Dp.eG d3;have e4:=ZO.eO;subst e3 e4;obtain ⟨b,zs,rfl,hb,WE⟩:=L2.Dp.cR d4;have el:=qL ‹21› he;refine⟨_,rfl,a,_,_,_,rfl,rfl,XR ha,aK (j:=3) rfl,b,rfl,⟨_,XR hb⟩,fun D1 hC=>?_⟩;refine bN (n:=zs.length) (fun i zs H5=>zs=((as.take i).map (fun a=>jn (be a))).map V.str/\H5 D1=some (.lst zs)/\Same H H5) ⟨rfl,ak,X6 hC⟩ ?_ ?_;rotate_left
   ·rintro i zs H5 hi ⟨rfl,i0,s5⟩;have DL:i < as.length:=by have:=WE.length; omega
    obtain⟨x5,KI,Kt⟩:=WE.get (ac DL);refine⟨⟨_,_,XR (s5 b _ hb),KI⟩,?_⟩;rintro v5 H6 ⟨rfl,yy⟩ gi ho;obtain⟨oo,rfl⟩:=eP ho;have ev:=yy _ (XR (s5 b _ hb));rw[KI]at ev;cases ev;refine⟨‹9›,dh ⟨_,rfl,x5,as[i],rfl,Kt.mono (XX s5),⟨_,hA _ (bX DL)⟩,λH7 s7=>?_⟩⟩;refine⟨by rw[aa,aa,bj];omega,s7 D1 _ i0,bG hi ⟨?_,ak,λb o e=>by rw[aB (aD e hC)];exact s7 b o (s5 b o e)⟩⟩;rw[take_snoc DL,av,av];rfl
   rintro zs H5 ⟨rfl,i0,s5⟩;rw[ay (by have:=WE.length;omega)]at i0;refine⟨⟨_,XR (s5 b _ hb),af _⟩,?_⟩;refine⟨rfl,_,rfl,a,_,_,_,rfl,rfl,XR (s5 a _ ha),aK (j:=1) rfl,x2,e,rfl,d2.mono (XX s5),⟨_,he⟩,λH6 s6=>?_⟩;have PZ:=s5.trans s6;have CI:=s6 D1 _ i0;refine⟨_,rfl,a,_,_,_,rfl,rfl,XR (PZ a _ ha),aK (j:=2) rfl,_,rfl,D1,_,rfl,.inl (XQ CI),_,rfl,lg ‹21› (by rw[aa,aa];omega),by show 4<=ab;decide,λl1 fq=>?_⟩;have ew:((io (((((as.map (λa=>jn (be a))).map V.str).length:Nat)):Int):String):Str)=nS as.length:=by rw[aa,aa];rfl
   rw[ew];exists 1,s7,hW,H6,l1,(.lst [.str "ask",.str (jn (be e)),.str x,.str (nS as.length)]),fq,H7;refine⟨_,rfl,l1,D1,_,_,rfl,rfl,hW,s7 D1 _ CI,by rw[aa,aa];show 4+as.length<=ab;omega,fun l3 ma=>?_⟩
   have we:([V.str "ask",V.str (jn (be e)),V.str x,V.str (nS as.length)]++(as.map (fun a=>jn (be a))).map V.str:LV)=(([[("ask":Str)],be e,[x],[nS as.length]]++as.map be).map jn).map V.str:=by
    rw[Dz,av,av];show _=[V.str (jn [("ask":Str)]),V.str (jn (be e)),V.str (jn [x]),V.str (jn [nS as.length])]++_;rw[dO,dO,dO]
   have KL:∀r∈([[("ask":Str)],be e,[x],[nS as.length]]++as.map be:LL),r≠[]/\(jn r).length<=9350:=fun r fA=>by
    rcases bu.mp fA with fA|fA
    ·rcases aT.mp fA with rfl | fA
     ·exact⟨bc _ _,by rw[dO];decide +kernel⟩
     rcases aT.mp fA with rfl|fA
     ·exact⟨(bK.wt he).1,el⟩
     rcases aT.mp fA with rfl|fA
     ·exact⟨bc _ _,by rw[dO];omega⟩
     ·rw[bg.mp fA];have:=tH as.length ‹21›;exact⟨bc _ _,by rw[dO];omega⟩
    ·obtain⟨b,hb,rfl⟩:=bE.mp fA;exact⟨(bK.wt (hA b hb)).1,qL ‹21› (hA b hb)⟩
   refine⟨" ",l3,([[("ask":Str)],be e,[x],[nS as.length]]++as.map be).map jn,rfl,rfl,.inl (XQ (by rw[ak,we])),rQ (by rw[aa,ai,aa];show 4+as.length<=100;omega) ?_,?_⟩
   ·intro y hy;obtain⟨r,fA,rfl⟩:=bE.mp hy;exact(KL r fA).2
   ·have:=q _ ((PZ.trans s7).trans (X6 (o:=.lst ([V.str "ask",V.str (jn (be e)),V.str x,V.str (nS as.length)]++(as.map (fun a=>jn (be a))).map V.str)) ma));show Q (.str (jn (([[("ask" : Str)],be e,[x],[nS as.length]]++as.map be).map jn))) _;rw [yN fun r fA=>(KL r fA).1]
    have e8:(([[("ask":Str)],be e,[x],[nS as.length]]++as.map be:LL)).flatten=be (.tup [.str "ask",e,.str x,.tup as]):=by
     rw[iG,fE];show([("ask":Str)]++(be e++([x]++([nS as.length]++[]))))++_=("ask":Str)::(be e++(be (.str x)++(be (.tup as)++[])));rw[oK,pO (fun a h=>⟨_,hA a h⟩)];simp
    rw[e8];exact this
  ·have PV:=hx.2.1;refine‹19›;refine‹19›;refine‹19›;refine‹19›;refine⟨_,rfl,a,_,_,_,rfl,rfl,XR ha,aK (j:=0) rfl,rfl,_,rfl,bR (aw rfl) ?_⟩;obtain ⟨x3,r3,rfl,d3,EG⟩:=zh.cases;obtain ⟨x4,r4,rfl,d4,ZO⟩:=EG.cases;have e3:=L2.Dp.eG d3;have e4:=ZO.eO;subst e3 e4;obtain ⟨b,zs,rfl,hb,WE⟩:=L2.Dp.cR d4;have zl:zs.length=as.length:=WE.length;refine⟨rfl,_,rfl,a,_,_,_,rfl,rfl,XR ha,aK (j:=1) rfl,_,rfl,a,_,_,_,rfl,rfl,XR ha,aK (j:=2) rfl,b,_,rfl,.inr (XR hb),_,rfl,lg ‹21› ‹21›,by show 3<=ab; decide,fun l1 fq=>?_⟩;have ew:((io (((zs.length:Nat)):Int):String):Str)=nS as.length:=by rw [zl]; rfl
   rw[ew];exists 1,s1,hW,H,l1,(.lst [.str "up",.str x,.str (nS as.length)]),fq,H1;have Nl:=s1 a _ ha;have hb0:=s1 b _ hb;have TK:=WE.mono (XX s1);clear hb;have hb:=hb0;refine⟨_,rfl,a,_,_,_,rfl,rfl,XR Nl,aK (j:=2) rfl,b,rfl,⟨_,XR hb⟩,fun D1 hC=>?_⟩;refine bN (n:=zs.length) (fun i zs H5=>zs=((as.take i).map (fun a=>jn (be a))).map V.str/\H5 D1=some (.lst zs)/\Same H1 H5) ⟨rfl,ak,X6 hC⟩ ?_ ?_;rotate_left
   ·rintro i zs H5 hi ⟨rfl,i0,s5⟩;have DL:i < as.length:=by have:=TK.length; omega
    obtain⟨x5,KI,Kt⟩:=TK.get (ac DL);refine⟨⟨_,_,XR (s5 b _ hb),KI⟩,?_⟩;rintro v5 H6 ⟨rfl,yy⟩ gi ho;obtain⟨oo,rfl⟩:=eP ho;have ev:=yy _ (XR (s5 b _ hb));rw[KI]at ev;cases ev;refine⟨‹9›,dh ⟨_,rfl,x5,as[i],rfl,Kt.mono (XX s5),⟨_,hA _ (bX DL)⟩,λH7 s7=>?_⟩⟩;refine⟨by rw[aa,aa,bj];omega,s7 D1 _ i0,bG hi ⟨?_,ak,λb o e=>by rw[aB (aD e hC)];exact s7 b o (s5 b o e)⟩⟩;rw[take_snoc DL,av,av];rfl
   rintro zs H5 ⟨rfl,i0,s5⟩;rw[ay (by have:=TK.length;omega)]at i0;refine⟨⟨_,XR (s5 b _ hb),af _⟩,?_⟩;refine⟨l1,D1,_,_,rfl,rfl,s5 l1 _ hW,i0,by rw[aa,aa];show 3+as.length<=ab;omega,λl3 ma=>?_⟩
   have we:([V.str "up",V.str x,V.str (nS as.length)]++(as.map (fun a=>jn (be a))).map V.str:LV)=(([[("up":Str)],[x],[nS as.length]]++as.map be).map jn).map V.str:=by
    rw[Dz,av,av];show _=[V.str (jn [("up":Str)]),V.str (jn [x]),V.str (jn [nS as.length])]++_;rw[dO,dO,dO]
   have KL:∀r∈([[("up":Str)],[x],[nS as.length]]++as.map be:LL),r≠[]/\(jn r).length<=9350:=fun r fA=>by
    rcases bu.mp fA with fA|fA
    ·rcases aT.mp fA with rfl | fA
     ·exact⟨bc _ _,by rw[dO];decide +kernel⟩
     rcases aT.mp fA with rfl|fA
     ·exact⟨bc _ _,by rw[dO];omega⟩
     ·rw[bg.mp fA];have:=tH as.length ‹21›;exact⟨bc _ _,by rw[dO];omega⟩
    ·obtain⟨b,hb,rfl⟩:=bE.mp fA;exact⟨(bK.wt (hA b hb)).1,qL ‹21› (hA b hb)⟩
   refine⟨" ",l3,([[("up":Str)],[x],[nS as.length]]++as.map be).map jn,rfl,rfl,.inl (XQ (by rw[ak,we])),rQ (by rw[aa,ai,aa];show 3+as.length<=100;omega) ?_,?_⟩
   ·intro y hy;obtain⟨r,fA,rfl⟩:=bE.mp hy;exact(KL r fA).2
   ·have:=q _ ((s1.trans s5).trans (X6 (o:=.lst ([V.str "up",V.str x,V.str (nS as.length)]++(as.map (fun a=>jn (be a))).map V.str)) ma));show Q (.str (jn (([[("up" : Str)],[x],[nS as.length]]++as.map be).map jn))) _;rw [yN fun r fA=>(KL r fA).1]
    have e8:(([[("up":Str)],[x],[nS as.length]]++as.map be:LL)).flatten=be (.tup [.str "up",.str x,.tup as]):=by
     rw[iG,fE];show([("up":Str)]++([x]++([nS as.length]++[])))++_=("up":Str)::(be (.str x)++(be (.tup as)++[]));rw[oK,pO (fun a h=>⟨_,hA a h⟩)];simp
    rw[e8];exact this
  ·skip
   have NA:∀x∈[e1,e2],bK n kk x:=λx hx=>by
    rcases aT.mp hx with rfl|hx
    ·exact h1
    ·rw[bg.mp hx];exact h2
   refine⟨_,rfl,a,_,_,_,rfl,rfl,XR ha,aK (j:=0) rfl,rfl,_,rfl,aL (ne_str (fun z=>absurd (z ▸ hw:("name":Str)∈bins) ‹1›)) ?_⟩;refine⟨_,rfl,a,_,_,_,rfl,rfl,XR ha,aK (j:=0) rfl,rfl,_,rfl,aL (ne_str (fun z=>absurd (z ▸ hw:("new":Str)∈bins) ‹1›)) ?_⟩;refine⟨_,rfl,a,_,_,_,rfl,rfl,XR ha,aK (j:=0) rfl,rfl,_,rfl,aL (ne_str (fun z=>absurd (z ▸ hw:("get":Str)∈bins) ‹1›)) ?_⟩;refine⟨_,rfl,a,_,_,_,rfl,rfl,XR ha,aK (j:=0) rfl,rfl,_,rfl,aL (ne_str (fun z=>absurd (z ▸ hw:("ask":Str)∈bins) ‹1›)) ?_⟩;refine⟨_,rfl,a,_,_,_,rfl,rfl,XR ha,aK (j:=0) rfl,rfl,_,rfl,aL (ne_str (fun z=>absurd (z ▸ hw:("up":Str)∈bins) ‹1›)) ?_⟩;refine⟨rfl,_,rfl,a,_,_,_,rfl,rfl,XR ha,aK (j:=0) rfl,by show 1<=ab;decide,fun l1 fq=>?_⟩;exists 1,s1,hW,H,l1,(.lst [.str wd]),fq,H1;refine⟨_,rfl,_,rfl,a,_,rfl,s1 a _ ha,fun b H2 hb s2=>?_⟩;rw[uF]at hb;have hb:H2 b=some (.tup ys):=hb;have KA:=s1.trans s2;have np:=zh.mono (XX KA);refine⟨b,rfl,⟨_,XR hb⟩,fun D1 hC=>?_⟩;have asl:[e1,e2].length<=3:=by show 2<=3;decide
   refine bN (n:=ys.length) (λi zs H5=>zs=(([e1,e2].take i).map (λa=>jn (be a))).map V.str/\H5 D1=some (.lst zs)/\Same H2 H5) ⟨rfl,ak,X6 hC⟩ ?_ ?_;rotate_left
   ·rintro i zs H5 hi ⟨rfl,i0,s5⟩;have DL:i < [e1,e2].length:=by have:=np.length; omega
    obtain⟨x5,KI,Kt⟩:=np.get (ac DL);refine⟨⟨_,_,XR (s5 b _ hb),KI⟩,?_⟩;rintro v5 H6 ⟨rfl,yy⟩ gi ho;obtain⟨oo,rfl⟩:=eP ho;have ev:=yy _ (XR (s5 b _ hb));rw[KI]at ev;cases ev;refine⟨‹9›,dh ⟨_,rfl,x5,[e1,e2][i],rfl,Kt.mono (XX s5),⟨_,NA _ (bX DL)⟩,λH7 s7=>?_⟩⟩;refine⟨by rw[aa,aa,bj];omega,s7 D1 _ i0,bG hi ⟨?_,ak,λb o e=>by rw[aB (aD e hC)];exact s7 b o (s5 b o e)⟩⟩;rw[take_snoc DL,av,av];rfl
   rintro zs H5 ⟨rfl,i0,s5⟩;rw[ay (by have:=np.length;omega)]at i0;refine⟨⟨_,XR (s5 b _ hb),af _⟩,?_⟩;have CM:=KA.trans s5;refine⟨l1,D1,_,_,rfl,rfl,(s2.trans s5) l1 _ hW,i0,by rw[aa,aa];show 1+2<=ab;omega,λl3 ma=>?_⟩
   have el:([V.str wd]++([e1,e2].map (λa=>jn (be a))).map V.str:LV)=(([[wd]]++[e1,e2].map be).map jn).map V.str:=by
    rw[Dz,av,av];show _=[V.str (jn [wd])]++_;rw[dO]
   refine⟨" ",l3,([[wd]]++[e1,e2].map be).map jn,rfl,rfl,.inl (XQ (by rw[ak,el])),rQ (by rw[aa,ai,aa];show 1+2<=100;omega) ?_,?_⟩
   ·intro x hx;obtain ⟨r,fA,rfl⟩:=bE.mp hx;rcases bu.mp fA with fA | fA
    ·rw[bg.mp fA,dO];exact dq (Ei wd hw) ‹11›
    ·obtain⟨b,hb,rfl⟩:=bE.mp fA;exact qL ‹21› (NA b hb)
   ·have:=q _ (CM.trans (X6 (o:=.lst ([V.str wd]++([e1,e2].map (fun a=>jn (be a))).map V.str)) ma));show Q (.str (jn (([[wd]]++[e1,e2].map be).map jn))) _
    rw[yN (by
     intro l hl;rcases bu.mp hl with hl|hl
     ·rw[bg.mp hl];exact bc _ _
     ·obtain⟨b,hb,rfl⟩:=bE.mp hl;exact(bK.wt (NA b hb)).1)]
    rw[iG]at this;exact this
theorem Jk(D:Defs K mg t):∀n,n<=4->aW P w K mg base bm n t.bT.1 t.bT.2 ["_law_part"] (yX n)
 |0,_=>xT λvs H Q E ⟨v,t,_,_,⟨_,ex⟩,_⟩=>ex
 |n+1,hn=>Cj D hn (Jk D n ‹21›)
end
section
variable {P:vy}{w:xm}{K:PySem.W.Frag}{mg:MG}{base:Heap}{t:tT}
inductive wZ (B:lU) (vs:LV) (H:Hp) (Q:VK) (E_:XK):Prop
 |mk (v:V) (t:T) (ah:LL) (c:Nat):vs=[v]->Dp H t v->(∃kk,B kk t ah c)->c<=16->(∀(l:ax) H',H l=none->H' l=some (.lst ((ah.map jn).map V.str))->Same H H'->Q (.ref l) H')->wZ B vs H Q E_
theorem Fi(D:Defs K mg t)(hB:VW B){k:Nat}(hj:j<=k)(hk4:4<=k)(P9:aW P w K mg base bm j t.cM.1 t.cM.2 ["_law_block"] (wZ B)):aW P w K mg base bm (k+1) t.gV.1 t.gV.2 ["_law_part"] (wZ (BB B)):=by
 have KG:aW P w K mg base bm 4 t.bT.1 t.bT.2 _ (yX 4):=Jk D 4 ‹11›;have hz:ab=16777216:=cn;refine D.gV.fn.ok pI ‹4› ‹3›
 ·obtain⟨v,t,ah,c,rfl,_⟩:=h;rfl
 ·obtain ⟨v,t0,ah,c,rfl,dv,mN,hc,q⟩:=h
  refine⟨_,(au (aU (i:=1) pI.nd rfl (uv rfl) ‹5›)
   (au (bL (aV cO (pv 1) aP (aR _))
   (aF (aM (bw (aj (bh bZ (bh bZ (bh bZ aP ‹5›) aP) (aH D.bT KG ‹2› (by rfl) (aj ‹5› aq))) aq))))
   aX)
   (au (bL (aV cO (pv 1) aP (aR _))
   (aF (aM (bw (aj (bh bZ (bh bZ (bh bZ (bh bZ (bh bZ aP (aH D.bT KG ‹2› (by rfl) (aj ‹5› aq))) aP) ‹5›) aP) (aH D.bT KG ‹2› (by rfl) (aj ‹5› aq))) aq))))
   aX)
   (au (bL (XN (kZ (aV cO (pv 1) aP (aR _)) (je (aV cO (pv 1) aP (aR _)))))
   (aF (aM (bw (aj (bh bZ (bh bZ (bh bZ (bh bZ (pv 1) aP) (aH D.bT KG ‹2› (by rfl) (aj ‹5› aq))) aP) ‹5›) aq))))
   aX)
   (au (bL (XN (kZ (aV cO (pv 1) aP (aR _)) (je (aV cO (pv 1) aP (aR _)))))
   (aF (aM (bw (aj (gb eW fT gh oN aP ‹15›) aq))))
   aX)
   (au (bL (aV cO (pv 1) aP (aR _))
   (aF (aM (bw (aj (gb eW fT gh oN aP (aj (bh cX (bw (aj (pv 1) (aj ‹5› aq))) (aY gB (by rfl) D.lO ji (aj ‹5› aq))) aq)) aq))))
   aX)
   (au (bL (aV cO (pv 1) aP (aR _))
   (aF (aM (bh cX (bh cX (bh cX (bh cX (bw (aj aP aq)) (aH D.cM P9 ‹2› (by rfl) (aj ‹5› aq))) (bw (aj (bh bZ aP ‹5›) aq))) (aH D.cM P9 ‹2› (by rfl) (aj ‹5› aq))) (bw (aj aP aq)))))
   aX)
   (au (aU (i:=2) pI.nd rfl (uv rfl) (bw (aj (bh bZ (bh bZ (pv 1) aP) (aH D.bT KG ‹2› (by rfl) (aj ‹5› aq))) aq)))
   (au (bL (aV cO (pv 1) aP (aR _))
   (aF (aM (bh cX (bh cX (bh cX (bh cX (pv 2) (aH D.cM P9 ‹2› (by rfl) (aj ‹5› aq))) (bw (aj aP aq))) (aH D.cM P9 ‹2› (by rfl) (aj ‹5› aq))) (bw (aj aP aq)))))
   aX)
   (au (bL (XN (kZ (aV cO (pv 1) aP (aR _)) (je (aV cO (pv 1) aP (aR _)))))
   (aF (aM (bh cX (bh cX (pv 2) (aH D.cM P9 ‹2› (by rfl) (aj ‹5› aq))) (bw (aj aP aq)))))
   aX)
   (aF (aM (pv 2))))))))))))),?_⟩
  simp only[jm,Cx.nox];obtain⟨kk,mN⟩:=mN;rcases mN with⟨wd,e,hw,he,rfl,rfl,rfl⟩|⟨x,e,hx,he,rfl,rfl,rfl⟩|⟨e,x,e2,he,hx,xi,rfl,rfl,rfl⟩|⟨wd,e,x,hw,he,hx,rfl,rfl,rfl⟩|⟨x,b,d,f,hx,hb,hd,hf,rfl,rfl,rfl⟩|⟨x,b,hx,hb,rfl,rfl,rfl⟩|⟨x,ks,hx,hl,hk,rfl,rfl,rfl⟩|⟨e,b1,b2,xy,KP,c1,c2,he,h1,h2,rfl,rfl,rfl⟩|⟨wd,e,b,r',c1,hw,he,h1,rfl,rfl,rfl⟩|⟨b1,b2,x,xy,KP,c1,c2,h1,hx,h2,rfl,rfl,rfl⟩
  all_goals
   obtain⟨a,xs,rfl,ha,dl⟩:=L2.Dp.cR dv;obtain⟨x1,ys,rfl,d1,zh⟩:=dl.cases;have e1:=L2.Dp.eG d1;subst e1;refine⟨_,rfl,a,_,_,_,rfl,rfl,XR ha,aK (j:=0) rfl,?_⟩
  ·skip
   obtain⟨x2,r2,rfl,d2,np⟩:=zh.cases;have n2e:=np.eO;subst n2e;have wl:=Fq wd hw;have N:∀x:Str,¬x∈ones->¬wd=x:=fun x hx z=>hx (z ▸ hw);refine⟨_,rfl,rfl,_,rfl,aL (ne_str (N _ ‹1›)) ?_⟩;refine⟨_,rfl,rfl,_,rfl,aL (ne_str (N _ ‹1›)) ?_⟩;refine⟨_,rfl,rfl,_,rfl,aL (ne_str (N _ ‹1›)) ?_⟩;refine⟨_,rfl,rfl,_,rfl,aL (ne_str (N _ ‹1›)) ?_⟩;refine⟨_,rfl,rfl,_,rfl,aL (ne_str (N _ ‹1›)) ?_⟩;refine⟨_,rfl,rfl,_,rfl,aL (ne_str (N _ ‹1›)) ?_⟩;refine⟨_,rfl,rfl,_,rfl,aL (ne_str (N _ ‹1›)) ?_⟩;refine⟨_,rfl,rfl,_,rfl,aL (ne_str (N _ ‹1›)) ?_⟩;have el:=qL ‹11› he;refine⟨_,rfl,_,_,rfl,rfl,by rw[gC];omega,_,rfl,a,_,_,_,rfl,rfl,XR ha,aK (j:=1) rfl,x2,e,rfl,d2,⟨_,he⟩,fun H0 s0=>?_⟩;refine⟨_,_,rfl,rfl,by rw[bD,gC];omega,by show 1<=ab;decide,fun l1 fq=>?_⟩;have ef:wd++ " " ++ jn (be e)=jn (wd::be e):=(iU _ (bK.wt he).1).symm;rw[ef];have s1:Same H (upd H0 l1 (.lst [.str (jn (wd::be e))])):=s0.trans (X6 fq);have hW:(upd H0 l1 (.lst [.str (jn (wd::be e))])) l1=some (.lst [.str (jn (wd::be e))]):=ak;have l1H:H l1=none:=dN s0 fq;generalize upd H0 l1 (.lst [.str (jn (wd::be e))])=H1 at s1 hW;refine⟨_,rfl,rfl,_,rfl,aL (ne_str (N _ ‹1›)) ?_⟩;refine⟨_,rfl,rfl,_,rfl,aL (ne_str (N _ ‹1›)) ?_⟩;refine⟨_,rfl,rfl,_,rfl,aL (ne_str (N _ ‹1›)) ?_⟩;refine⟨_,rfl,q l1 H1 l1H ?_ s1⟩;rw[hW];rfl
  ·have PV:=hx.1.2.1;refine‹8›;obtain ⟨x2,r2,rfl,d2,np⟩:=zh.cases;obtain ⟨x3,r3,rfl,d3,wc⟩:=np.cases;have TL:=L2.Dp.eG d2;subst TL;have Oy:=wc.eO;subst Oy;have el:=qL ‹11› he;have e5:("let " : Str).length=4:=rfl;refine⟨_,rfl,a,_,_,_,rfl,rfl,XR ha,aK (j:=1) rfl,_,_,rfl,rfl,by rw [e5]; omega,_,_,rfl,rfl,by rw [bD,e5,gC]; omega,_,rfl,a,_,_,_,rfl,rfl,XR ha,aK (j:=2) rfl,x3,e,rfl,d3,⟨_,he⟩,fun H1 s1=>?_⟩;refine⟨_,_,rfl,rfl,by rw [bD,bD,e5,gC]; omega,?_⟩;have e7:("let " : Str) = "let" ++ " " := by decide +kernel
   have eq:("let ":Str)++x++ " " ++ jn (be e)=jn ("let"::x::be e):=by
    rw[vK,iU _ (bK.wt he).1,e7];simp only[mS]
   refine⟨by show 1<=ab;decide,λl hl=>?_⟩;refine q l _ (dN s1 hl) ?_ (s1.trans (X6 hl));rw[ak];show some (HO.lst [V.str _])=some (HO.lst [V.str (jn _)]);rw[eq]
  ·have PV:=hx.2.1;refine‹18›;refine‹8›;obtain ⟨x2,r2,rfl,d2,np⟩:=zh.cases;obtain ⟨x3,r3,rfl,d3,wc⟩:=np.cases;obtain ⟨x4,r4,rfl,d4,EG⟩:=wc.cases;have OA:=L2.Dp.eG d3;subst OA;have ZP:=EG.eO;subst ZP;have el:=qL ‹11› he;have we:=qL ‹11› xi;have e5:("put " : Str).length=4:=rfl;refine⟨_,rfl,a,_,_,_,rfl,rfl,XR ha,aK (j:=1) rfl,x2,e,rfl,d2,⟨_,he⟩,fun H1 s1=>?_⟩;refine⟨_,_,rfl,rfl,by rw [e5]; omega,_,_,rfl,rfl,by rw [bD,e5,gC]; omega,_,rfl,a,_,_,_,rfl,rfl,XR (s1 a _ ha),aK (j:=2) rfl,_,_,rfl,rfl,by rw [bD,bD,e5,gC]; omega,_,_,rfl,rfl,by rw [bD,bD,bD,e5,gC]; omega,?_⟩;refine⟨_,rfl,a,_,_,_,rfl,rfl,XR (s1 a _ ha),aK (j:=3) rfl,x4,e2,rfl,d4.mono (XX s1),⟨_,xi⟩,fun H2 s2=>?_⟩;refine⟨_,_,rfl,rfl,by rw [bD,bD,bD,bD,e5,gC]; omega,?_⟩;have e7:("put " : Str) = "put" ++ " " := by decide +kernel
   have KA:=s1.trans s2
   have eq:("put ":Str)++jn (be e)++ " " ++ x++ " " ++ jn (be e2)=jn ("put"::(be e++x::be e2)):=by
    rw[iU _ (by simp),Dm (bK.wt he).1 (bc _ _),iU _ (bK.wt xi).1,e7];simp only[mS]
   refine⟨by show 1<=ab;decide,λl hl=>?_⟩;refine q l _ (dN KA hl) ?_ (KA.trans (X6 hl));rw[ak];show some (HO.lst [V.str _])=some (HO.lst [V.str (jn _)]);rw[eq]
  ·have hw:wd=("drop" : Str)\/wd=("become" : Str):=hw.imp id And.left;have PV:=hx.2.1;obtain ⟨x2,r2,rfl,d2,np⟩:=zh.cases;obtain ⟨x3,r3,rfl,d3,wc⟩:=np.cases;have OA:=L2.Dp.eG d3;subst OA;have Oy:=wc.eO;subst Oy;have el:=qL ‹11› he;have wl:wd.length<=6:=by rcases hw with rfl | rfl <;> decide +kernel
   have eq:wd++ " " ++ jn (be e)++ " " ++ x=jn (wd::(be e++[x])):=by
    rw[iU _ (by simp),Dm (bK.wt he).1 (bc _ _),dO];simp only[mS]
   have n1:¬wd="let":= by rcases hw with rfl|rfl <;>decide +kernel
   have n2:¬wd="put":= by rcases hw with rfl|rfl <;>decide +kernel
   refine⟨_,rfl,rfl,_,rfl,aL (ne_str n1) ?_⟩;refine⟨_,rfl,rfl,_,rfl,aL (ne_str n2) ?_⟩;apply uH (λH'=>H=H')
   case use=>
    intro rest;rcases hw with hw|hw
    ·refine⟨_,rfl,rfl,_,rfl,bR (by rw[hw];exact aw rfl) (jq ?_)⟩;exact rest H rfl
    ·refine⟨_,rfl,rfl,_,rfl,aL (ne_str (by rw[hw];decide +kernel)) ?_⟩;refine⟨_,rfl,rfl,_,rfl,bR (by rw[hw];exact aw rfl) ?_⟩;exact rest H rfl
   case rest=>
   rintro _ rfl;refine⟨_,rfl,_,_,rfl,rfl,by rw[gC];omega,_,rfl,a,_,_,_,rfl,rfl,XR ha,aK (j:=1) rfl,x2,e,rfl,d2,⟨_,he⟩,λH1 s1=>?_⟩;refine⟨_,_,rfl,rfl,by rw[bD,gC];omega,_,_,rfl,rfl,by rw[bD,bD,gC];omega,_,rfl,a,_,_,_,rfl,rfl,XR (s1 a _ ha),aK (j:=2) rfl,_,_,rfl,rfl,by rw[bD,bD,bD,gC];omega,?_⟩;refine⟨by show 1<=ab;decide,λl hl=>?_⟩;refine q l _ (dN s1 hl) ?_ (s1.trans (X6 hl));rw[ak];show some (HO.lst [V.str _])=some (HO.lst [V.str (jn _)]);rw[eq]
  ·have hx:=hx.1.2.1;have hb:=hb.2.1;have hd:=hd.1.2.1;have hf:=hf.2.1;refine‹18›;refine‹18›;refine‹18›;refine‹18›;refine⟨_,rfl,rfl,_,rfl,bR (aw rfl) (jq ?_)⟩;obtain ⟨x2,r2,rfl,d2,np⟩:=zh.cases;obtain ⟨x3,r3,rfl,d3,wc⟩:=np.cases;obtain ⟨x4,r4,rfl,d4,EG⟩:=wc.cases;obtain ⟨x5,r5,rfl,d5,ZO⟩:=EG.cases;have TL:=L2.Dp.eG d2;subst TL;have OA:=L2.Dp.eG d3;subst OA;have s4e:=L2.Dp.eG d4;subst s4e;have s5e:=L2.Dp.eG d5;subst s5e;have n5e:=ZO.eO;subst n5e;refine⟨rfl,_,rfl," ",a,(["turn",x,b,d,f]:LS),rfl,rfl,.inr (XR ha),?_,?_⟩
   ·refine rQ (by show 5<=100; decide) fun y hy=>?_;simp only [aT,dS,iN] at hy;rcases hy with rfl | rfl | rfl | rfl | rfl
    ·decide +kernel
    all_goals omega
   refine⟨by show 1<=ab;decide,λl hl=>?_⟩;refine q l _ (hl) ?_ ((XS H).trans (X6 hl));rw[ak];rfl
  ·have hx:=hx.1.2.1;have hb:=hb.2.1;refine‹18›;refine‹18›;refine‹18›;refine‹18›;refine‹18›;refine‹8›;obtain ⟨x2,r2,rfl,d2,np⟩:=zh.cases;obtain ⟨x3,r3,rfl,d3,wc⟩:=np.cases;have TL:=L2.Dp.eG d2;subst TL;have OA:=L2.Dp.eG d3;subst OA;have Oy:=wc.eO;subst Oy;refine⟨rfl,_,rfl," ",a,(["strip",x,b]:LS),rfl,rfl,.inr (XR ha),?_,?_⟩
   ·refine rQ (by show 3<=100; decide) fun y hy=>?_;simp only [aT,dS,iN] at hy;rcases hy with rfl | rfl | rfl
    ·decide +kernel
    all_goals omega
   refine⟨by show 1<=ab;decide,λl hl=>?_⟩;refine q l _ (hl) ?_ ((XS H).trans (X6 hl));rw[ak];rfl
  ·have hx:=hx.1.2.1;have hk:=fun x h=>(hk.2 x h).1;refine‹18›;refine‹18›;refine‹18›;refine‹18›;refine‹18›;refine‹18›;refine‹8›;obtain ⟨x2,r2,rfl,d2,np⟩:=zh.cases;obtain ⟨x3,r3,rfl,d3,wc⟩:=np.cases;have TL:=L2.Dp.eG d2;subst TL;have Oy:=wc.eO;subst Oy;obtain ⟨b,ys2,rfl,hb,dlb⟩:=L2.Dp.cR d3;rw [DpL.rR dlb] at hb;refine⟨rfl,_,rfl,_,rfl,a,_,_,_,rfl,rfl,XR ha,aK (j:=1) rfl,by show 2<=ab; decide,fun l1 fq=>?_⟩;exists 1,s1,hW,H,l1,(.lst [.str "elders",.str x]),fq,H1;refine⟨_,rfl,a,_,_,_,rfl,rfl,XR (s1 a _ ha),aK (j:=2) rfl,b,_,rfl,.inr (XR (s1 b _ hb)),fun l2 cx=>?_⟩;exists 1,s2,IY,H1,l2,(.lst (ks.map V.str)),cx,H2;refine⟨l1,l2,_,_,rfl,rfl,s2 l1 _ hW,IY,by rw [aa]; show 2+_<=ab; omega,fun l3 ma=>?_⟩;have s3:=(s1.trans s2).trans (X6 (o:=.lst ([.str "elders",.str x]++ks.map V.str)) ma);refine⟨" ",l3,(("elders" : Str)::x::ks),rfl,rfl,.inl (XQ (by rw [ak]; rfl)),?_,?_⟩
   ·refine rQ (by rw [aI,aI]; omega) fun y hy=>?_;rcases aT.mp hy with rfl | hy
    ·decide +kernel
    rcases aT.mp hy with rfl|hy
    ·omega
    ·have:=(hk y hy).2.1;omega
   refine⟨by show 1<=ab;decide,λl hl=>?_⟩;refine q l _ (dN s3 hl) ?_ (s3.trans (X6 hl));rw[ak];rfl
  ·skip
   refine‹18›;refine‹18›;refine‹18›;refine‹18›;refine‹18›;refine‹18›;refine‹18›;refine‹18›;obtain⟨x2,r2,rfl,d2,np⟩:=zh.cases;obtain⟨x3,r3,rfl,d3,wc⟩:=np.cases;obtain⟨x4,r4,rfl,d4,EG⟩:=wc.cases;have ZP:=EG.eO;subst ZP;have wl:("if":Str).length<=6:=by decide +kernel
   have el:=qL ‹11› he;refine⟨_,rfl,_,_,rfl,rfl,by rw[gC];omega,_,rfl,a,_,_,_,rfl,rfl,XR ha,aK (j:=1) rfl,x2,e,rfl,d2,⟨_,he⟩,fun H0 s0=>?_⟩;refine⟨_,_,rfl,rfl,by rw[bD,gC];omega,by show 1<=ab;decide,fun l1 fq=>?_⟩;have ef: "if" ++ " " ++ jn (be e)=jn ("if"::be e):=(iU _ (bK.wt he).1).symm;rw[ef];have s1:Same H (upd H0 l1 (.lst [.str (jn ("if"::be e))])):=s0.trans (X6 fq);have hW:(upd H0 l1 (.lst [.str (jn ("if"::be e))])) l1=some (.lst [.str (jn ("if"::be e))]):=ak;have l1H:H l1=none:=dN s0 fq;generalize upd H0 l1 (.lst [.str (jn ("if"::be e))])=H1 at s1 hW;refine‹8›;have WG:c1<=16:=by omega
   have Cn:c2<=16:=by omega
   have k1:=(hB _ _ _ _ h1).1;have k2:=(hB _ _ _ _ h2).1;refine⟨_,rfl,_,rfl,a,_,_,_,rfl,rfl,XR (s1 a _ ha),aK (j:=2) rfl,x3,b1,xy,c1,rfl,d3.mono (XX s1),⟨_,h1⟩,WG,fun l2 H2 _ cx s2=>?_⟩;refine⟨l1,l2,_,_,rfl,rfl,s2 l1 _ hW,cx,by rw[aa,aa];show 1+_<=ab;omega,fun l3 ma=>?_⟩;have s3:=(s1.trans s2).trans (X6 (o:=.lst ([.str (jn ("if"::be e))]++(xy.map jn).map V.str)) ma);have yT:(upd H2 l3 (.lst ([.str (jn ("if"::be e))]++(xy.map jn).map V.str))) l3=some (.lst ([.str (jn ("if"::be e))]++(xy.map jn).map V.str)):=ak;generalize upd H2 l3 (.lst ([.str (jn ("if"::be e))]++(xy.map jn).map V.str))=H3 at s3 yT;refine⟨by show 1<=ab;decide,fun l4 ze=>?_⟩;exists 1,s4,IZ,H3,l4,(.lst [.str "else"]),ze,H4;refine⟨l3,l4,_,_,rfl,rfl,s4 l3 _ yT,IZ,by rw[ai,aa,aa];show 1+_+1<=ab;omega,fun l5 xI=>?_⟩;have s5:=(s3.trans s4).trans (X6 (o:=.lst ([.str (jn ("if"::be e))]++(xy.map jn).map V.str++[.str "else"])) xI);have KS:(upd H4 l5 (.lst ([.str (jn ("if"::be e))]++(xy.map jn).map V.str++[.str "else"]))) l5=some (.lst ([.str (jn ("if"::be e))]++(xy.map jn).map V.str++[.str "else"])):=ak;generalize upd H4 l5 (.lst ([.str (jn ("if"::be e))]++(xy.map jn).map V.str++[.str "else"]))=H5 at s5 KS;refine⟨_,rfl,a,_,_,_,rfl,rfl,XR (s5 a _ ha),aK (j:=3) rfl,x4,b2,KP,c2,rfl,d4.mono (XX s5),⟨_,h2⟩,Cn,fun l6 H6 _ FG s6=>?_⟩;refine⟨l5,l6,_,_,rfl,rfl,s6 l5 _ KS,FG,by rw[ai,ai,aa,aa,aa,aa];show 1+_+1+_<=ab;omega,fun l7 FH=>?_⟩;have s7:=(s5.trans s6).trans (X6 (o:=.lst ([.str (jn ("if"::be e))]++(xy.map jn).map V.str++[.str "else"]++(KP.map jn).map V.str)) FH);have KU:(upd H6 l7 (.lst ([.str (jn ("if"::be e))]++(xy.map jn).map V.str++[.str "else"]++(KP.map jn).map V.str))) l7=some (.lst ([.str (jn ("if"::be e))]++(xy.map jn).map V.str++[.str "else"]++(KP.map jn).map V.str)):=ak;generalize upd H6 l7 (.lst ([.str (jn ("if"::be e))]++(xy.map jn).map V.str++[.str "else"]++(KP.map jn).map V.str))=H7 at s7 KU;refine⟨by show 1<=ab;decide,fun l8 CO=>?_⟩;exists 1,s8,K0,H7,l8,(.lst [.str "end"]),CO,H8;refine⟨l7,l8,_,_,rfl,rfl,s8 l7 _ KU,K0,by rw[ai,ai,ai,aa,aa,aa,aa];show 1+_+1+_+1<=ab;omega,fun l hl=>?_⟩;have s9:=s7.trans s8;refine q l _ (dN s9 hl) ?_ (s9.trans (X6 hl));rw[ak];simp only[ci,av,kN,dO,dE,eM,gy]
  ·skip
   have wl:wd.length<=6:=by rcases hw with rfl|rfl <;>decide +kernel
   have N:∀x:Str,¬x="while" -> ¬x="repeat" -> ¬wd=x:=fun x n1 n2 z=>by
    rcases hw with h|h
    ·exact n1 (z ▸ h)
    ·exact n2 (z ▸ h)
   refine⟨_,rfl,rfl,_,rfl,aL (ne_str (N _ ‹1› ‹1›)) ?_⟩;refine⟨_,rfl,rfl,_,rfl,aL (ne_str (N _ ‹1› ‹1›)) ?_⟩;refine⟨_,rfl,rfl,_,rfl,aL (ne_str (N _ ‹1› ‹1›)) ?_⟩;refine⟨_,rfl,rfl,_,rfl,aL (ne_str (N _ ‹1› ‹1›)) ?_⟩;refine⟨_,rfl,rfl,_,rfl,aL (ne_str (N _ ‹1› ‹1›)) ?_⟩;refine⟨_,rfl,rfl,_,rfl,aL (ne_str (N _ ‹1› ‹1›)) ?_⟩;refine⟨_,rfl,rfl,_,rfl,aL (ne_str (N _ ‹1› ‹1›)) ?_⟩;refine⟨_,rfl,rfl,_,rfl,aL (ne_str (N _ ‹1› ‹1›)) ?_⟩;obtain⟨x2,r2,rfl,d2,np⟩:=zh.cases;obtain⟨x3,r3,rfl,d3,wc⟩:=np.cases;have Oy:=wc.eO;subst Oy;have el:=qL ‹11› he;refine⟨_,rfl,_,_,rfl,rfl,by rw[gC];omega,_,rfl,a,_,_,_,rfl,rfl,XR ha,aK (j:=1) rfl,x2,e,rfl,d2,⟨_,he⟩,fun H0 s0=>?_⟩;refine⟨_,_,rfl,rfl,by rw[bD,gC];omega,by show 1<=ab;decide,fun l1 fq=>?_⟩;have ef:wd++ " " ++ jn (be e)=jn (wd::be e):=(iU _ (bK.wt he).1).symm;rw[ef];have s1:Same H (upd H0 l1 (.lst [.str (jn (wd::be e))])):=s0.trans (X6 fq);have hW:(upd H0 l1 (.lst [.str (jn (wd::be e))])) l1=some (.lst [.str (jn (wd::be e))]):=ak;have l1H:H l1=none:=dN s0 fq;generalize upd H0 l1 (.lst [.str (jn (wd::be e))])=H1 at s1 hW;refine⟨_,rfl,rfl,_,rfl,aL (ne_str (N _ ‹1› ‹1›)) ?_⟩;have WG:c1<=16:=by omega
   have k1:=(hB _ _ _ _ h1).1;apply uH (λH'=>H1=H')
   case use=>
    intro rest;rcases hw with hw|hw
    ·refine⟨_,rfl,rfl,_,rfl,bR (by rw[hw];exact aw rfl) (jq ?_)⟩;exact rest H1 rfl
    ·refine⟨_,rfl,rfl,_,rfl,aL (ne_str (by rw[hw];decide +kernel)) ?_⟩;refine⟨_,rfl,rfl,_,rfl,bR (by rw[hw];exact aw rfl) ?_⟩;exact rest H1 rfl
   case rest=>
   rintro _ rfl;refine⟨_,rfl,_,rfl,a,_,_,_,rfl,rfl,XR (s1 a _ ha),aK (j:=2) rfl,x3,b,r',c1,rfl,d3.mono (XX s1),⟨_,h1⟩,WG,fun l2 H2 _ cx s2=>?_⟩;refine⟨l1,l2,_,_,rfl,rfl,s2 l1 _ hW,cx,by rw[aa,aa];show 1+_<=ab;omega,fun l3 ma=>?_⟩;have s3:=(s1.trans s2).trans (X6 (o:=.lst ([.str (jn (wd::be e))]++(r'.map jn).map V.str)) ma);have yT:(upd H2 l3 (.lst ([.str (jn (wd::be e))]++(r'.map jn).map V.str))) l3=some (.lst ([.str (jn (wd::be e))]++(r'.map jn).map V.str)):=ak;generalize upd H2 l3 (.lst ([.str (jn (wd::be e))]++(r'.map jn).map V.str))=H3 at s3 yT;refine⟨by show 1<=ab;decide,fun l8 CO=>?_⟩;exists 1,s8,K0,H3,l8,(.lst [.str "end"]),CO,H8;refine⟨l3,l8,_,_,rfl,rfl,s8 l3 _ yT,K0,by rw[ai,aa,aa];show 1+_+1<=ab;omega,fun l hl=>?_⟩;have s9:=s3.trans s8;refine q l _ (dN s9 hl) ?_ (s9.trans (X6 hl));rw[ak];simp only[ci,av,kN,dO,dE,eM,gy]
  ·have PV:=hx.1.2.1;refine‹18›;refine‹18›;refine‹18›;refine‹18›;refine‹18›;refine‹18›;refine‹18›;refine‹8›;obtain ⟨x2,r2,rfl,d2,np⟩:=zh.cases;obtain ⟨x3,r3,rfl,d3,wc⟩:=np.cases;obtain ⟨x4,r4,rfl,d4,EG⟩:=wc.cases;have OA:=L2.Dp.eG d3;subst OA;have ZP:=EG.eO;subst ZP;have WG:c1<=16:=by omega
   have Cn:c2<=16:=by omega
   have k1:=(hB _ _ _ _ h1).1;have k2:=(hB _ _ _ _ h2).1;refine⟨by show 1<=ab;decide,fun l1 fq=>?_⟩;exists 1,s1,hW,H,l1,(.lst [.str "try"]),fq,H1;refine⟨_,rfl,a,_,_,_,rfl,rfl,XR (s1 a _ ha),aK (j:=1) rfl,x2,b1,xy,c1,rfl,d2.mono (XX s1),⟨_,h1⟩,WG,fun l2 H2 _ cx s2=>?_⟩;refine⟨l1,l2,_,_,rfl,rfl,s2 l1 _ hW,cx,by rw[aa,aa];show 1+_<=ab;omega,fun l3 ma=>?_⟩;have s3:=(s1.trans s2).trans (X6 (o:=.lst ([.str "try"]++(xy.map jn).map V.str)) ma);have yT:(upd H2 l3 (.lst ([.str "try"]++(xy.map jn).map V.str))) l3=some (.lst ([.str "try"]++(xy.map jn).map V.str)):=ak;generalize upd H2 l3 (.lst ([.str "try"]++(xy.map jn).map V.str))=H3 at s3 yT;have e5:("catch ":Str).length=6:=rfl;refine⟨_,rfl,a,_,_,_,rfl,rfl,XR (s3 a _ ha),aK (j:=2) rfl,_,_,rfl,rfl,by rw[e5];omega,by show 1<=ab;decide,fun l4 ze=>?_⟩;exists 1,s4,IZ,H3,l4,(.lst [.str ("catch " ++ x)]),ze,H4;refine⟨l3,l4,_,_,rfl,rfl,s4 l3 _ yT,IZ,by rw[ai,aa,aa];show 1+_+1<=ab;omega,fun l5 xI=>?_⟩;have s5:=(s3.trans s4).trans (X6 (o:=.lst ([.str "try"]++(xy.map jn).map V.str++[.str ("catch " ++ x)])) xI);have KS:(upd H4 l5 (.lst ([.str "try"]++(xy.map jn).map V.str++[.str ("catch " ++ x)]))) l5=some (.lst ([.str "try"]++(xy.map jn).map V.str++[.str ("catch " ++ x)])):=ak;generalize upd H4 l5 (.lst ([.str "try"]++(xy.map jn).map V.str++[.str ("catch " ++ x)]))=H5 at s5 KS;refine⟨_,rfl,a,_,_,_,rfl,rfl,XR (s5 a _ ha),aK (j:=3) rfl,x4,b2,KP,c2,rfl,d4.mono (XX s5),⟨_,h2⟩,Cn,fun l6 H6 _ FG s6=>?_⟩;refine⟨l5,l6,_,_,rfl,rfl,s6 l5 _ KS,FG,by rw[ai,ai,aa,aa,aa,aa];show 1+_+1+_<=ab;omega,fun l7 FH=>?_⟩;have s7:=(s5.trans s6).trans (X6 (o:=.lst ([.str "try"]++(xy.map jn).map V.str++[.str ("catch " ++ x)]++(KP.map jn).map V.str)) FH);have KU:(upd H6 l7 (.lst ([.str "try"]++(xy.map jn).map V.str++[.str ("catch " ++ x)]++(KP.map jn).map V.str))) l7=some (.lst ([.str "try"]++(xy.map jn).map V.str++[.str ("catch " ++ x)]++(KP.map jn).map V.str)):=ak;generalize upd H6 l7 (.lst ([.str "try"]++(xy.map jn).map V.str++[.str ("catch " ++ x)]++(KP.map jn).map V.str))=H7 at s7 KU;refine⟨by show 1<=ab;decide,fun l8 CO=>?_⟩;exists 1,s8,K0,H7,l8,(.lst [.str "end"]),CO,H8;refine⟨l7,l8,_,_,rfl,rfl,s8 l7 _ KU,K0,by rw[ai,ai,ai,aa,aa,aa,aa];show 1+_+1+_+1<=ab;omega,fun l hl=>?_⟩;have s9:=s7.trans s8;refine q l _ (dN s9 hl) ?_ (s9.trans (X6 hl))
   have ec:jn [("catch":Str),x]="catch " ++ x:=by
    rw[vK,dO,show("catch ":Str)="catch" ++ " "by decide +kernel]
   rw[ak];simp only[ci,av,kN,dO,ec,dE,eM,gy]
end
section
variable {P:vy}{w:xm}{K:PySem.W.Frag}{mg:MG}{base:Heap}{t:tT}
theorem uY(D:Defs K mg t){k:Nat}(Gbw:aW P w K mg base bm k t.gV.1 t.gV.2 ["_law_part"] (wZ (BB (SB n)))):aW P w K mg base bm (k+1) t.cM.1 t.cM.2 ["_law_block"] (wZ (SB (n+1))):=by
 have hz:ab=16777216:=cn;refine D.cM.fn.ok lH ‹4› ‹3›
 ·obtain⟨v,t,ah,c,rfl,_⟩:=h;rfl
 ·obtain ⟨v,t0,ah,c,rfl,dv,⟨kk,ss,hG,rfl,mN,rfl⟩,hc,q⟩:=h;obtain ⟨a,xs,rfl,ha,dl⟩:=L2.Dp.cR dv;have G1:xs.length=ss.length:=dl.length;have AN:=mN.len;obtain ⟨fl,_⟩:=Hu (Br (pW n)) mN
  refine⟨_,(au (aU (i:=1) lH.nd rfl (uv rfl) (bw aq))
   (au (fG di rfl (dg (pv 0)) (aO (i:=2) lH.nd rfl (uv rfl))
   (aF (aU (i:=1) lH.nd rfl (uv rfl) (bh cX (pv 1) (aH D.gV Gbw ‹2› (by rfl) (aj (pv 2) aq))))))
   (aF (aM (pv 1))))),?_⟩
  refine⟨ck _,λl hl=>?_⟩;exists 1,s1,fq,H,l,(.lst []),hl,H1
  have pre:∀i,((hG.take i).flatten).length<=48:=λi=>by
   have:((hG.take i).flatten).length<=(hG.flatten).length:=by
    conv=>rhs;rw[<- fz i hG]
    rw[fE,ai];omega
   omega
  refine⟨_,rfl,a,rfl,⟨_,XR (s1 a _ ha)⟩,nq (K:=N0) (a:=a) (xs:=xs) (λi σ H2=>∃(l:ax) (v2:OV),σ=[some (.ref a),some (.ref l),v2]/\H l=none/\H2 l=some (.lst ((((hG.take i).flatten).map jn).map V.str))/\Same H H2)
   ⟨l,_,rfl,hl,fq,s1⟩ (λi σ H2 _ ⟨_,_,_,_,_,s⟩=>XR (s a _ ha)) ?_ ?_⟩
  ·rintro i x σ H2 hi ⟨l,v2,rfl,hlH,cx,s2⟩;have hix:i < xs.length:=(bo.mp hi).1;have YY:i < ss.length:=by omega
   have sL:i<hG.length:=by omega
   obtain⟨x',ex,dx⟩:=dl.get (ac YY);rw[ex]at hi;cases hi;obtain⟨d,hd,hs⟩:=mN.get i YY sL;refine⟨_,rfl,_,rfl,x,ss[i],hG[i],d,rfl,dx.mono (XX s2),⟨kk,hs⟩,by omega,λl2 H3 Fk ua s3=>?_⟩
   have ew:(hG.take (i+1)).flatten=(hG.take i).flatten++hG[i]:=by
    rw[take_snoc sL,fE];show _++(hG[i]++[])=_;rw[dm]
   have p2:=pre (i+1);rw[ew,ai]at p2;refine⟨l,l2,_,_,rfl,rfl,s3 l _ cx,ua,by rw[aa,aa,aa,aa];omega,λl3 ma=>?_⟩;have s23:=s2.trans s3;exact⟨l3,_,rfl,dN s23 ma,by rw[ak,ew,av,av],s23.trans (X6 ma)⟩
  ·rintro σ H2 ⟨l,v2,rfl,hlH,cx,s2⟩;rw[ay ‹21›]at cx;exact⟨_,rfl,q l H2 hlH cx s2⟩
theorem DW(D:Defs K mg t):∀n,aW P w K mg base bm (6+2*n) t.cM.1 t.cM.2 ["_law_block"] (wZ (SB (n+1)))
 |0=>uY D (Fi D (pW 0) (j:=0) (k:=4) ‹21› ‹21› (xT λvs H Q E ⟨v,t,r,c,_,_,⟨_,h⟩,_,_⟩=>h))
 |n+1=>by
  have h:=uY D (Fi D (pW (n+1)) (j:=6+2*n) (k:=6+2*n) ‹21› ‹21› (DW D n));exact h
inductive Jv (vs:LV) (H:Hp) (Q:VK) (E_:XK):Prop
 |mk (v:V) (ks:List KR) (ds:List DR) (run:T) (dt:List LL) (rr:LL):vs=[v]->rF H v ks ds run->Jb ks ds run dt rr->(∀H',Same H H'->Q (.str (uX (kY ks ds dt rr))) H')->Jv vs H Q E_
theorem Mi(D:Defs K mg t):aW P w K mg base bm 11 t.mG.1 t.mG.2 ["_law_program"] Jv:=by
 have P9:=@DW P w K mg base t D 2;have hz:ab=16777216:=cn;refine D.mG.fn.ok oE ‹4› ‹3›
 ·obtain⟨v,ks,ds,run,dt,rr,rfl,_⟩:=h;rfl
 ·obtain ⟨v,ks,ds,run,dt,rr,rfl,⟨p0,kv,dv,rv,rfl,Y1,dk,dd,dr⟩,G,k⟩:=h;obtain ⟨ww,G⟩:=G;have k7:=G.kl;have d8:=G.dl;have b8:=G.bl;obtain ⟨a,xs,rfl,ha,dl⟩:=L2.Dp.cR dk;obtain ⟨da,SK,rfl,Y2,Y3⟩:=L2.Dp.cR dd;have G1:xs.length=ks.length:=by have:=dl.length; rwa [aa] at this
  have hdl:SK.length=ds.length:=by have:=Y3.length;rwa[aa]at this
  obtain⟨zl,zk⟩:=Cy G.bl G.dk;have h8:=fR 50 d8
  refine⟨_,(au (rD (i:=1) rfl oE.nd rfl (uv rfl) (X7 ["_law_row"] [] ["_law_row"] (aJ (top 80)) ["_law_program","_law_rows","_law_row"] rfl rfl ‹1›) ⟨fun _ _ _ _ _=>(aO (i:=0) (show List.Nodup [("_law_row":Str)]by decide +kernel) rfl ‹16› ‹13›),fun _ _ _ _ _=>cJ,fun _ _ _ _ _=>(Bs (K:=K) rfl eW fT gh (Ae (K:=K) rfl) aP (aj (bh cX (bh cX (bw (aj aP (aj ‹5› (aj (aY fP (by rfl) D.pQ lM (aj (aN bJ (by rfl) D.cW cg (aj ‹5› aq)) aq)) aq)))) (aY gB (by rfl) D.lO ji (aj ‹5› aq))) (aY gB (by rfl) D.lO ji (aj ‹5› aq))) aq))⟩ (dg ‹5›))
   (au (fG di rfl (dg ‹5›) (aO (i:=2) oE.nd rfl (uv rfl))
   (aF (aU (i:=1) oE.nd rfl (uv rfl) (bh cX (bh cX (bh cX (pv 1) (bw (aj (gb eW fT gh oN aP (aj (bh cX (bw (aj aP (aj (bf bB (pv 2) aG ‹20›) (aj (bf bB (pv 2) aG ‹20›) aq)))) (aY gB (by rfl) D.lO ji (aj (bf bB (pv 2) aG ‹20›) aq))) aq)) aq))) (aH D.cM P9 ‹2› (by rfl) (aj (bf bB (pv 2) aG ‹20›) aq))) (bw (aj aP aq))))))
   (aF (aM (gb eW fT gh oN aP (aj (bh cX (bh cX (bh cX (pv 1) (bw (aj aP aq))) (aH D.cM P9 ‹2› (by rfl) (aj ‹5› aq))) (bw (aj aP aq))) aq)))))),?_⟩
  refine⟨_,rfl,p0,_,_,_,rfl,rfl,XR Y1,aK (j:=0) rfl,a,rfl,⟨_,XR ha⟩,λl hl=>?_⟩;refine bN (n:=xs.length) (λi ys H2=>ys=(((ks.take i).map kW).map jn).map V.str/\H2 l=some (.lst ys)/\Same H H2) ⟨rfl,ak,X6 hl⟩ ?_ ?_;rotate_left
  ·rintro i ys H2 hi ⟨rfl,cx,s2⟩;have He:i < ks.length:=by omega
   obtain⟨x,ex,dx⟩:=dl.get (i:=i) (t:=yB ks[i]) (by rw[bS,ac He];rfl);refine⟨⟨_,_,XR (s2 a _ ha),ex⟩,?_⟩;rintro v H3 ⟨rfl,yy⟩ gi ho;obtain⟨oo,rfl⟩:=eP ho;have ev:=yy _ (XR (s2 a _ ha));rw[ex]at ev;cases ev;obtain⟨q,e,f,rfl,hq,he,hf⟩:=K26.Dp.Aa (dx.mono (XX s2));have P5:=G.ko _ (bX He);obtain⟨_,e7,f7,_,_⟩:=id P5;refine⟨‹9›,dh ⟨rfl,_,rfl,q,_,_,_,rfl,rfl,XR hq,aK (j:=0) rfl,_,rfl,q,_,_,_,rfl,rfl,XR hq,aK (j:=1) rfl,e,_,rfl,.inr (XR he),_,rfl,lg ‹21› (by rw[aa];omega),by show 3<=ab;decide,λl1 fq=>?_⟩⟩;have ew:((io (((ks[i].bx.map V.str).length:Nat):Int):String):Str)=nS ks[i].bx.length:=by rw[aa];rfl
   rw[ew];exists 1,Qb,K2,H3,l1,(.lst ([.str "kind",.str ks[i].kind,.str (nS ks[i].bx.length)])),fq,H4;refine⟨_,rfl,q,_,_,_,rfl,rfl,XR (Qb q _ hq),aK (j:=1) rfl,e,_,rfl,.inr (XR (Qb e _ he)),fun l2 ua=>?_⟩;have cx:=cx;have hl0:=Qb l _ cx;clear cx;have cx:=ua;exists 1,DZ,Lc,H4,l2,(.lst (ks[i].bx.map V.str)),cx,H5;refine⟨l1,l2,_,_,rfl,rfl,DZ l1 _ K2,Lc,by rw[aa];show 3+_<=ab;omega,fun l3 ma=>?_⟩;exists 1,sl3,Ll,H5,l3,(.lst ([.str "kind",.str ks[i].kind,.str (nS ks[i].bx.length)]++ks[i].bx.map V.str)),ma,H6;have MD:=(Qb.trans DZ).trans sl3;refine⟨_,rfl,q,_,_,_,rfl,rfl,XR (MD q _ hq),aK (j:=2) rfl,f,_,rfl,.inr (XR (MD f _ hf)),fun l4 ze=>?_⟩;exists 1,Qr,C2,H6,l4,(.lst (ks[i].fields.map V.str)),ze,H7;refine⟨l3,l4,_,_,rfl,rfl,Qr l3 _ Ll,C2,by rw[ai,aa,aa];show 3+_+_<=ab;omega,fun l5 xI=>?_⟩;exists 1,WH,BD,H7,l5,(.lst ([.str "kind",.str ks[i].kind,.str (nS ks[i].bx.length)]++ks[i].bx.map V.str++ks[i].fields.map V.str)),xI,H8;have OB:=(MD.trans Qr).trans WH
   have el:([.str "kind",.str ks[i].kind,.str (nS ks[i].bx.length)]++ks[i].bx.map V.str++ks[i].fields.map V.str:LV)=(kW ks[i]).map V.str:=by
    unfold kW;rw[ci,ci,ci,av];rfl
   rw[el]at BD;have CO:=((DZ.trans sl3).trans (Qr.trans WH)) l _ hl0;refine⟨" ",l5,kW ks[i],rfl,rfl,.inl (XQ BD),yM (Fg P5),by rw[aa,aa,aa,bj];omega,CO,bG hi ⟨?_,ak,fun b o e=>by rw[aB (aD e hl)];exact OB b o (s2 b o e)⟩⟩;rw[take_snoc He,av,av,av];rfl
  rintro ys H2 ⟨rfl,cx,s2⟩;rw[ay ‹21›]at cx;refine⟨⟨_,XR (s2 a _ ha),af _⟩,?_⟩
  refine⟨_,rfl,p0,_,_,_,rfl,rfl,XR (s2 p0 _ Y1),aK (j:=1) rfl,da,rfl,⟨_,XR (s2 da _ Y2)⟩,nq (K:=N0) (a:=da) (xs:=SK) (λi σ H3=>∃(l:ax) (v2:OV),σ=[some (.ref p0),some (.ref l),v2]/\H3 l=some (.lst (((ks.map kW++(‹10›.take i).flatten).map jn).map V.str))/\Same H H3)
   ⟨l,_,rfl,by rw[List.take_zero,nh,dm];exact cx,s2⟩ (λi σ H3 _ ⟨_,_,_,_,s⟩=>XR (s da _ Y2)) ?_ ?_⟩
  ·rintro i x σ H3 hi ⟨l,v2,rfl,vS,s3⟩;have hix:i < SK.length:=(bo.mp hi).1;have Nd:i < ds.length:=by omega
   have Wp:i<dt.length:=by omega
   obtain⟨x',ex,dx⟩:=Y3.get (i:=i) (t:=FF ds[i]) (by rw[bS,ac Nd];rfl);rw[ex]at hi;cases hi;obtain⟨q,pp,bv,rfl,hq,hpp,SO⟩:=K26.Dp.Oc (dx.mono (XX s3));have Op:=G.dk i Nd Wp;obtain⟨_,_,p7,_,c,hc,sb⟩:=id Op;have drow:=(Ay Op).2 (iR ds[i]) aS;have hzw:i< ‹10›.length:=by rw[kX];omega
   have ezw:‹10›[i]=fO ds[i] dt[i]:=qq
   have ptl:(‹10›.take i).flatten.length<=‹10›.flatten.length:=by
    conv=>rhs;rw[<- fz i ‹10›]
    rw[fE,ai];omega
   have rl:=(pW 3 _ _ _ _ sb).1;generalize AS:ks.map kW++(‹10›.take i).flatten=pre at vS;have prl:pre.length<=407:=by rw[<- AS,ai,aa];omega
   refine⟨_,rfl,rfl,_,rfl,q,_,_,_,rfl,rfl,XR hq,aK (j:=0) rfl,_,rfl,q,_,_,_,rfl,rfl,XR hq,aK (j:=1) rfl,by show 3<=ab;decide,fun l1 fq=>?_⟩;exists 1,Qb,K2,H3,l1,(.lst ([.str "deed",.str ds[i].kind,.str ds[i].name])),fq,H4;refine⟨_,rfl,q,_,_,_,rfl,rfl,XR (Qb q _ hq),aK (j:=2) rfl,pp,_,rfl,.inr (XR (Qb pp _ hpp)),fun l2 cx=>?_⟩;exists 1,DZ,Lc,H4,l2,(.lst (ds[i].params.map V.str)),cx,H5;refine⟨l1,l2,_,_,rfl,rfl,DZ l1 _ K2,Lc,by rw[aa];show 3+_<=ab;omega,fun l3 ma=>?_⟩;exists 1,sl3,Ll,H5,l3,(.lst ([.str "deed",.str ds[i].kind,.str ds[i].name]++ds[i].params.map V.str)),ma,H6;have hw3:H6 l3=some (.lst ((iR ds[i]).map V.str)):=Ll;have MD:=(Qb.trans DZ).trans sl3;refine⟨" ",l3,iR ds[i],rfl,rfl,.inl (XQ hw3),yM drow,by show 1<=ab;decide,fun l4 ze=>?_⟩;rw[show We " " (iR ds[i])=jn (iR ds[i])from rfl];exists 1,Qr,C2,H6,l4,(.lst ([.str (jn (iR ds[i]))])),ze,H7;have s37:=MD.trans Qr;refine⟨l,l4,_,_,rfl,rfl,s37 l _ vS,C2,by rw[aa,aa];show _+1<=ab;omega,fun l5 xI=>?_⟩;exists 1,WH,BD,H7,l5,(.lst ((pre.map jn).map V.str++[.str (jn (iR ds[i]))])),xI,H8;have OB:=s37.trans WH;refine⟨_,rfl,q,_,_,_,rfl,rfl,XR (OB q _ hq),aK (j:=3) rfl,bv,ds[i].block,dt[i],c,rfl,SO.mono (XX OB),⟨_,sb⟩,hc,fun l6 H9 _ FG s9=>?_⟩;refine⟨l5,l6,_,_,rfl,rfl,s9 l5 _ BD,FG,by rw[ai,aa,aa,aa,aa];show _+1+_<=ab;omega,fun l7 FH=>?_⟩;exists 1,sl7,Lm,H9,l7,(.lst ((pre.map jn).map V.str++[.str (jn (iR ds[i]))]++(dt[i].map jn).map V.str)),FH,AU;refine⟨by show 1<=ab;decide,fun l8 CO=>?_⟩;exists 1,ZQ,Lo,AU,l8,(.lst ([.str "end"])),CO,UZ;refine⟨l7,l8,_,_,rfl,rfl,ZQ l7 _ Lm,Lo,by rw[ai,ai,aa,aa,aa,aa];show _+1+_+1<=ab;omega,fun l9 E3=>?_⟩;have sT:=(s3.trans OB).trans ((s9.trans sl7).trans ZQ);refine⟨l9,_,rfl,?_,sT.trans (X6 E3)⟩
   have e9:ks.map kW++(‹10›.take (i+1)).flatten=pre++(iR ds[i]::(dt[i]++[[("end":Str)]])):=by
    rw[take_snoc hzw,ezw,fE,<- dE,AS];show pre++(fO ds[i] dt[i]++[])=_;rw[dm];rfl
   rw[ak,e9];simp only[ci,av,kN,dO,dE,eM,gy]
  ·rintro σ H3 ⟨l,v2,rfl,vS,s3⟩;rw [ay (by rw [kX]; omega)] at vS;obtain ⟨c,hc,sb⟩:=G.rc;have rl:=(pW 3 _ _ _ _ sb).1;generalize AS:ks.map kW++‹10›.flatten=pre at vS;have prl:pre.length<=407:=by rw [<- AS,ai,aa]; omega
   refine⟨rfl,_,rfl,by show 1<=ab;decide,fun l4 ze=>?_⟩;exists 1,Qr,C2,H3,l4,(.lst ([.str "run"])),ze,H7;refine⟨l,l4,_,_,rfl,rfl,Qr l _ vS,C2,by rw[aa,aa];show _+1<=ab;omega,fun l5 xI=>?_⟩;exists 1,WH,BD,H7,l5,(.lst ((pre.map jn).map V.str++[.str "run"])),xI,H8;have OB:=s3.trans (Qr.trans WH);refine⟨_,rfl,p0,_,_,_,rfl,rfl,XR (OB p0 _ Y1),aK (j:=2) rfl,rv,run,rr,c,rfl,dr.mono (XX OB),⟨_,sb⟩,hc,fun l6 H9 _ FG s9=>?_⟩;refine⟨l5,l6,_,_,rfl,rfl,s9 l5 _ BD,FG,by rw[ai,aa,aa,aa,aa];show _+1+_<=ab;omega,fun l7 FH=>?_⟩;exists 1,sl7,Lm,H9,l7,(.lst ((pre.map jn).map V.str++[.str "run"]++(rr.map jn).map V.str)),FH,AU;refine⟨by show 1<=ab;decide,fun l8 CO=>?_⟩;exists 1,ZQ,Lo,AU,l8,(.lst ([.str "end"])),CO,UZ;refine⟨l7,l8,_,_,rfl,rfl,ZQ l7 _ Lm,Lo,by rw[ai,ai,aa,aa,aa,aa];show _+1+_+1<=ab;omega,fun l9 E3=>?_⟩;have sT:=OB.trans ((s9.trans sl7).trans ZQ);obtain⟨pl,pk⟩:=Dl ⟨ww,G⟩
   have el:((pre.map jn).map V.str++[.str "run"]++(rr.map jn).map V.str++[.str "end"]:LV)=((kY ks ds dt rr).map jn).map V.str:=by
    unfold kY Ij;rw[AS];simp only[ci,av,kN,dO,dE,eM,gy]
   exact⟨"\n",l9,_,rfl,rfl,.inl (XQ (by rw[ak,el])),Ag pl pk,k _ (sT.trans (X6 E3))⟩
structure Tls (H:Hp) (tl kl wl:ax) (ks ws:LS):Prop where
 t:H tl=some (.tup [.ref kl,.ref wl])
 k:H kl=some (.lst (ks.map V.str))
 w:H wl=some (.lst (ws.map V.str))
 k1:1<=ks.length/\ks.length<=7
 w1:1<=ws.length/\ws.length<=100
 kx:∀x∈ks,Kd (ks,ws) x
 wx:∀x∈ws,Nm x
theorem Tls.off{tl kl wl:ax}{ks:LS}(h:Tls H tl kl wl ks ws)(hp:Pu H p)(o:Off p H H'):Tls H' tl kl wl ks ws:=by
 refine⟨?_,o kl _ (hp.ne h.k) h.k,o wl _ (hp.ne h.w) h.w,h.k1,h.w1,h.kx,h.wx⟩;obtain⟨x1,x2,x3,ep⟩:=hp;exact o tl _ (bV h.t ep ‹6›) h.t
theorem sU(hp:Pu H p)(o:Off p H H'):fH H H':=λc zs e=>by
 obtain⟨x1,x2,x3,ep⟩:=hp;exact o c _ (bV e ep ‹6›) e
variable {kk:KW}
theorem bK.non(n:Nat):bK (n+1) kk .non:=.inl rfl
theorem bK.int{i:Int}(h:i∈AW):bK (n+1) kk (.int i):=.inr (.inl ⟨i,h,rfl⟩)
theorem bK.me(n:Nat):bK (n+1) kk (.tup [.str "me"]):=.inr (.inr (.inl rfl))
theorem bK.nm{x:Str}(h:Nm x)(w:Str)(hw:(w="name" /\ x∈kk.2)\/(w="new" /\ x∈kk.1)):bK (n+1) kk (.tup [.str w,.str x]):=.inr (.inr (.inr (.inl ⟨w,x,hw,h,rfl⟩)))
theorem bK.get{n:Nat}{e:T}{x:Str}(he:bK n kk e)(h:Nm x):bK (n+1) kk (.tup [.str "get",e,.str x]):=.inr (.inr (.inr (.inr (.inl ⟨e,x,he,h,rfl⟩))))
theorem bK.ask{e:T}{x:Str}(he:bK n kk e)(h:Nm x)(ha:∀a∈as,bK n kk a)(hl:as.length<=3):bK (n+1) kk (.tup [.str "ask",e,.str x,.tup as]):=.inr (.inr (.inr (.inr (.inr (.inl ⟨e,x,as,he,h,ha,hl,rfl⟩)))))
theorem bK.up{x:Str}(h:Nm x)(ha:∀a∈as,bK n kk a)(hl:as.length<=3):bK (n+1) kk (.tup [.str "up",.str x,.tup as]):=.inr (.inr (.inr (.inr (.inr (.inr (.inl ⟨x,as,h,ha,hl,rfl⟩))))))
theorem bK.bin{w:Str}{e1 e2:T}(hw:w∈bins)(h1:bK n kk e1)(h2:bK n kk e2):bK (n+1) kk (.tup [.str w,e1,e2]):=.inr (.inr (.inr (.inr (.inr (.inr (.inr ⟨w,e1,e2,hw,h1,h2,rfl⟩))))))
inductive ZR (n:Nat) (vs:LV) (H:Hp) (Q:VK) (E_:XK):Prop
 |mk (p tl kl wl:ax) (ks ws:LS):vs=[.ref p,.int n,.ref tl]->Pu H p->Tls H tl kl wl ks ws->1<=n->(∀(v:V) (t:T) H',Dp H' t v->bK n (ks,ws) t->Off p H H'->Pu H' p->Q v H')->ZR n vs H Q E_
theorem Kf(D:Defs K mg t){k:Nat}(hk:1<=k)(hn:n+1<=4)(TM:aW P w K mg base bm k t.gA.1 t.gA.2 ["_law_purse_here","_law_deep","_law_tools"] (ZR n)):aW P w K mg base bm (k+1) t.gA.1 t.gA.2 ["_law_purse_here","_law_deep","_law_tools"] (ZR (n+1)):=by
 have tI:=@rP P w K mg base t D;have hz:ab=16777216:=cn;refine D.gA.fn.ok jc ‹4› ‹3›
 ·obtain⟨p,tl,kl,wl,ks,ws,rfl,_⟩:=h;rfl
 ·obtain ⟨p,tl,kl,wl,ks,ws,rfl,hp,ht,_,q⟩:=h;obtain ⟨k1a,k1b⟩:=ht.k1;obtain ⟨w1a,w1b⟩:=ht.w1
  refine⟨_,(@au _ _ _ _ _ (qw (pv 2) (jX rfl (cu (aO (i:=3) jc.nd rfl (uv rfl)) (cu (aO (i:=4) jc.nd rfl (uv rfl)) jJ))))
   (@au _ _ _ _ _ (aU (i:=5) jc.nd rfl (uv rfl) (@aH _ _ _ _ _ _ _ _ _ _ _ _ _ D.bI tI ‹2› (by rfl) (@aj _ _ _ _ _ (pv 0) (@aj _ _ _ _ _ aG aq (by rfl)) (by rfl)) ‹11› (by rfl) (by rfl)))
   (@au _ _ _ _ _ (aU (i:=6) jc.nd rfl (uv rfl) (@bf _ _ _ _ _ _ _ bF (pv 4) (@aH _ _ _ _ _ _ _ _ _ _ _ _ _ D.bI tI ‹2› (by rfl) (@aj _ _ _ _ _ (pv 0) (@aj _ _ _ _ _ (@aN _ _ _ _ _ _ _ _ _ bJ (by rfl) D.cW cg (@aj _ _ _ _ _ (pv 4) aq (by rfl)) ‹11› ‹11› (by rfl) (by rfl)) aq (by rfl)) (by rfl)) ‹11› (by rfl) (by rfl)) ‹20›))
   (@au _ _ _ _ _ (@bL _ _ _ _ _ _ _ _ (XN (kZ (aV vd (pv 1) aG (aR _)) (je (aV vd (pv 5) aG (aR _)))))
   (@au _ _ _ _ _ (aU (i:=7) jc.nd rfl (uv rfl) (@bf _ _ _ _ _ _ _ bF (@bw _ _ _ _ (@aj _ _ _ _ _ aG (@aj _ _ _ _ _ aG (@aj _ _ _ _ _ aG (@aj _ _ _ _ _ aG aq (by rfl)) (by rfl)) (by rfl)) (by rfl))) (@aH _ _ _ _ _ _ _ _ _ _ _ _ _ D.bI tI ‹2› (by rfl) (@aj _ _ _ _ _ (pv 0) (@aj _ _ _ _ _ aG aq (by rfl)) (by rfl)) ‹11› (by rfl) (by rfl)) ‹20›))
   (@au _ _ _ _ _ (aU (i:=8) jc.nd rfl (uv rfl) (@bf _ _ _ _ _ _ _ bF (pv 3) (@aH _ _ _ _ _ _ _ _ _ _ _ _ _ D.bI tI ‹2› (by rfl) (@aj _ _ _ _ _ (pv 0) (@aj _ _ _ _ _ (@aN _ _ _ _ _ _ _ _ _ bJ (by rfl) D.cW cg (@aj _ _ _ _ _ (pv 3) aq (by rfl)) ‹11› ‹11› (by rfl) (by rfl)) aq (by rfl)) (by rfl)) ‹11› (by rfl) (by rfl)) ‹20›))
   (@aF _ _ _ (@aM _ _ _ _ (@bf _ _ _ _ _ _ _ bF (@bw _ _ _ _ (@aj _ _ _ _ _ jz (@aj _ _ _ _ _ (pv 7) (@aj _ _ _ _ _ (@bW _ _ _ _ _ (@aj _ _ _ _ _ aP aq (by rfl))) (@aj _ _ _ _ _ (@bW _ _ _ _ _ (@aj _ _ _ _ _ aP (@aj _ _ _ _ _ (pv 6) aq (by rfl)) (by rfl))) (@aj _ _ _ _ _ (@bW _ _ _ _ _ (@aj _ _ _ _ _ aP (@aj _ _ _ _ _ (pv 8) aq (by rfl)) (by rfl))) aq (by rfl)) (by rfl)) (by rfl)) (by rfl)) (by rfl))) (@aH _ _ _ _ _ _ _ _ _ _ _ _ _ D.bI tI ‹2› (by rfl) (@aj _ _ _ _ _ (pv 0) (@aj _ _ _ _ _ aG aq (by rfl)) (by rfl)) ‹11› (by rfl) (by rfl)) ‹20›)))))
   aX)
   (@au _ _ _ _ _ (@bL _ _ _ _ _ _ _ _ (XN (kZ (aV cO (pv 5) aG (aR _)) (je (aV cO (pv 5) aG (aR _)))))
   (@au _ _ _ _ _ (aU (i:=9) jc.nd rfl (uv rfl) (aY dM (by rfl) D.dB cP (@aj _ _ _ _ _ (cI rfl (X7 ["_law_k"] [0,2,1] ["_law_k","_law_purse_here","_law_tools","_law_deep"] (aJ (top 73)) ["_law_purse_here","_law_deep","_law_tools","_law_kinds_here","_law_words_here","_law_pick","_law_word_here","_law_number","_law_kind","_law_args","_law_one"] rfl rfl ‹1›) ⟨fun _ _ _ _ _=>(aO (i:=0) (show List.Nodup [("_law_k":Str),("_law_purse_here":Str),("_law_tools":Str),("_law_deep":Str)]by decide +kernel) rfl ‹16› ‹13›),fun _ _ _ _ _=>cJ,fun _ _ _ _ _=>(@aH _ _ _ _ _ _ _ _ _ _ _ _ _ D.gA TM ‹2› (by rfl) (@aj _ _ _ _ _ (pv 1) (@aj _ _ _ _ _ (@bh _ _ _ _ _ _ _ _ mW (pv 3) aG) (@aj _ _ _ _ _ (pv 2) aq (by rfl)) (by rfl)) (by rfl)) ‹11› (by rfl) (by rfl))⟩ (iY rfl D.ni (@aj _ _ _ _ _ (@aH _ _ _ _ _ _ _ _ _ _ _ _ _ D.bI tI ‹2› (by rfl) (@aj _ _ _ _ _ (pv 0) (@aj _ _ _ _ _ aG aq (by rfl)) (by rfl)) ‹11› (by rfl) (by rfl)) aq (by rfl)))) aq (by rfl))))
   (@aF _ _ _ (@aM _ _ _ _ (@bf _ _ _ _ _ _ _ bF (@bw _ _ _ _ (@aj _ _ _ _ _ (@bW _ _ _ _ _ (@aj _ _ _ _ _ aP (@aj _ _ _ _ _ (@aH _ _ _ _ _ _ _ _ _ _ _ _ _ D.gA TM ‹2› (by rfl) (@aj _ _ _ _ _ (pv 0) (@aj _ _ _ _ _ (@bh _ _ _ _ _ _ _ _ mW (pv 1) aG) (@aj _ _ _ _ _ (pv 2) aq (by rfl)) (by rfl)) (by rfl)) ‹11› (by rfl) (by rfl)) (@aj _ _ _ _ _ (pv 6) (@aj _ _ _ _ _ (pv 9) aq (by rfl)) (by rfl)) (by rfl)) (by rfl))) (@aj _ _ _ _ _ (@bW _ _ _ _ _ (@aj _ _ _ _ _ aP (@aj _ _ _ _ _ (pv 6) (@aj _ _ _ _ _ (pv 9) aq (by rfl)) (by rfl)) (by rfl))) aq (by rfl)) (by rfl))) (@bh _ _ _ _ _ _ _ _ mW (pv 5) aG) ‹20›))))
   aX)
   (@au _ _ _ _ _ (aU (i:=10) jc.nd rfl (uv rfl) (@aH _ _ _ _ _ _ _ _ _ _ _ _ _ D.gA TM ‹2› (by rfl) (@aj _ _ _ _ _ (pv 0) (@aj _ _ _ _ _ (@bh _ _ _ _ _ _ _ _ mW (pv 1) aG) (@aj _ _ _ _ _ (pv 2) aq (by rfl)) (by rfl)) (by rfl)) ‹11› (by rfl) (by rfl)))
   (@au _ _ _ _ _ (@bL _ _ _ _ _ _ _ _ (aV cO (pv 5) aG (aR _))
   (@aF _ _ _ (@aM _ _ _ _ (@bW _ _ _ _ _ (@aj _ _ _ _ _ aP (@aj _ _ _ _ _ (pv 10) (@aj _ _ _ _ _ (pv 6) aq (by rfl)) (by rfl)) (by rfl)))))
   aX)
   (@aF _ _ _ (@aM _ _ _ _ (@bW _ _ _ _ _ (@aj _ _ _ _ _ (@bf _ _ _ _ _ _ _ bF (@bw _ _ _ _ (yC ["plus","minus","less","alike","or"] (by rfl))) (@bh _ _ _ _ _ _ _ _ lV (pv 5) aG) ‹20›) (@aj _ _ _ _ _ (pv 10) (@aj _ _ _ _ _ (@aH _ _ _ _ _ _ _ _ _ _ _ _ _ D.gA TM ‹2› (by rfl) (@aj _ _ _ _ _ (pv 0) (@aj _ _ _ _ _ (@bh _ _ _ _ _ _ _ _ mW (pv 1) aG) (@aj _ _ _ _ _ (pv 2) aq (by rfl)) (by rfl)) (by rfl)) ‹11› (by rfl) (by rfl)) aq (by rfl)) (by rfl)) (by rfl)))))))))))),?_⟩
  refine⟨_,rfl,tl,_,rfl,XR ht.t,rfl,_,_,rfl,_,_,rfl,rfl,?_⟩;refine⟨_,rfl,p,14,rfl,hp,by decide,by decide,λfI a1 b1 c1 l1 u1=>?_⟩;exists 2,TN,WI,p,H,H,a1,b1,c1,(Off.refl p H).trans X4,H1;have t1:=ht.off hp TN;refine⟨_,rfl,_,rfl,_,rfl,wl,_,rfl,.inl (XQ t1.w),p,_,rfl,WI,by rw[aa];omega,by rw[aa];omega,λr2 a2 b2 c2 l2 u2=>?_⟩;rw[aa]at u2;obtain⟨x,hx,QA,_⟩:=jw (ns:=ws) l2 u2;have sM:=ht.wx x QA;exists 2,MI,ML,p,H,H1,a2,b2,c2,TN.trans X4,H2;have t2:=ht.off hp MI;refine⟨wl,_,_,_,rfl,rfl,XQ t2.w,hx,?_⟩
  by_cases Lu:(n:Int)+1<2\/fI<4
  ·apply uH (fun H'=>H2=H')
   case use=>
    intro rest;rcases Lu with hd|hd
    ·refine⟨_,rfl,_,_,rfl,rfl,_,rfl,bR (by show decide (((n+1:Nat):Int)<2)=true;exact aw ‹21›) (jq ?_)⟩;exact rest H2 rfl
    ·refine⟨_,rfl,_,_,rfl,rfl,_,rfl,rJ (fun _=>jq ?_) (fun _=>?_)⟩
     ·exact rest H2 rfl
     ·refine⟨_,rfl,_,_,rfl,rfl,_,rfl,bR (aw hd) ?_⟩;exact rest H2 rfl
   case rest=>
   rintro _ rfl;refine⟨by show 4<=ab;decide,λm hm=>?_⟩;exists 1,sm,HK,H2,m,(.lst [.int 0,.int 1,.int 7,.int 999999999]),hm,H3;have LB:Pu H3 p:=ML.same sm;have mp:m≠p:=(ML.neN hm).symm;refine⟨_,rfl,p,4,rfl,LB,by decide,by decide,λr4 a4 b4 c4 l4 u4=>?_⟩;have DV:Off p H H3:=MI.trans sm.off;have ZS:(upd H3 p (.lst [.int a4,.int b4,.int c4])) m=some (.lst [.int 0,.int 1,.int 7,.int 999999999]):=by rw[aB mp];exact HK
   have QE:Off p H (upd H3 p (.lst [.int a4,.int b4,.int c4])):=DV.trans X4;have LD:Pu (upd H3 p (.lst [.int a4,.int b4,.int c4])) p:=X8;generalize upd H3 p (.lst [.int a4,.int b4,.int c4])=H4 at QE LD ZS
   obtain⟨nu,hnu,nuM⟩:∃nu:Int,tS [V.int 0,V.int 1,V.int 7,V.int 999999999] r4=some (.int nu)/\nu∈AW:=by
    rcases(by omega:r4=0\/r4=1\/r4=2\/r4=3)with rfl|rfl|rfl|rfl
    ·exact⟨_,aK (j:=0) rfl,by decide +kernel⟩
    ·exact⟨_,aK (j:=1) rfl,by decide +kernel⟩
    ·exact⟨_,aK (j:=2) rfl,by decide +kernel⟩
    ·exact⟨_,aK (j:=3) rfl,by decide +kernel⟩
   refine⟨m,_,_,_,rfl,rfl,XQ ZS,hnu,?_⟩;have t4:=ht.off hp QE;refine⟨_,rfl,_,rfl,_,rfl,kl,_,rfl,.inl (XQ t4.k),p,_,rfl,LD,by rw[aa];omega,by rw[aa];omega,fun r5 a5 b5 c5 l5 u5=>?_⟩;rw[aa]at u5;obtain⟨y,hy,ZT,_⟩:=jw (ns:=ks) l5 u5;have BF:=ht.kx y ZT;exists 2,LF,LG,p,H,H4,a5,b5,c5,QE.trans X4,H5;have t5:=ht.off hp LF;refine⟨kl,_,_,_,rfl,rfl,XQ t5.k,hy,?_⟩;refine⟨_,rfl,by show 1<=ab;decide,fun e1 CH=>?_⟩;exists 1,se1,ZU,H5,e1,(.tup [.str "me"]),CH,H6;refine⟨_,rfl,by show 2<=ab;decide,fun e2 xi=>?_⟩;exists 1,se2,ZV,H6,e2,(.tup [.str "name",.str x]),xi,H7;refine⟨_,rfl,by show 2<=ab;decide,fun e3 he3=>?_⟩;exists 1,se3,ZW,H7,e3,(.tup [.str "new",.str y]),he3,H8;refine⟨by show 5<=ab;decide,fun m5 hm5=>?_⟩;exists 1,pz,ZX,H8,m5,(.lst [.non,.int nu,.ref e1,.ref e2,.ref e3]),hm5,H9;have s59:=((se1.trans se2).trans se3).trans pz;have OC:=LG.same s59;have m5p:m5≠p:=(((LG.same se1).same (se2.trans se3)).neN hm5).symm;refine⟨_,rfl,p,5,rfl,OC,by decide,by decide,fun r6 a6 b6 c6 l6 u6=>?_⟩;have WJ:(upd H9 p (.lst [.int a6,.int b6,.int c6])) m5=some (.lst [.non,.int nu,.ref e1,.ref e2,.ref e3]):=by rw[aB m5p];exact ZX
   have tu:fH H9 (upd H9 p (.lst [.int a6,.int b6,.int c6])):=sU OC X4;have oF:Off p H (upd H9 p (.lst [.int a6,.int b6,.int c6])):=(LF.trans s59.off).trans X4;have pF:Pu (upd H9 p (.lst [.int a6,.int b6,.int c6])) p:=X8;generalize upd H9 p (.lst [.int a6,.int b6,.int c6])=HF at WJ tu oF pF
   obtain⟨v,tt,hv,dv,ev⟩:∃(v:V) (tt:T),tS [V.non,V.int nu,V.ref e1,V.ref e2,V.ref e3] r6=some v/\Dp HF tt v/\bK (n+1) (ks,ws) tt:=by
    rcases(by omega:r6=0\/r6=1\/r6=2\/r6=3\/r6=4)with rfl|rfl|rfl|rfl|rfl
    ·exact⟨_,.non,aK (j:=0) rfl,by rw[Dp],bK.non n⟩
    ·exact⟨_,.int nu,aK (j:=1) rfl,L2.Dp.int nu,bK.int nuM⟩
    ·exact⟨_,_,aK (j:=2) rfl,L2.Dp.tup (tu e1 _ (((se2.trans se3).trans pz) e1 _ ZU)) (.cons ‹12› .nil),bK.me n⟩
    ·exact⟨_,_,aK (j:=3) rfl,L2.Dp.tup (tu e2 _ ((se3.trans pz) e2 _ ZV)) (.cons ‹12› (.cons ‹12› .nil)),bK.nm sM _ (.inl ⟨rfl,QA⟩)⟩
    ·exact⟨_,_,aK (j:=4) rfl,L2.Dp.tup (tu e3 _ (pz e3 _ ZW)) (.cons ‹12› (.cons ‹12› .nil)),bK.nm BF.1 _ (.inr ⟨rfl,ZT⟩)⟩
   exact⟨m5,_,_,_,rfl,rfl,XQ WJ,hv,q v tt HF dv ev oF pF⟩
  ·have y6:¬ ((n:Int)+1 < 2):=fun z=>Lu (.inl z);have VX:¬ fI < 4:=fun z=>Lu (.inr z);have NO:1<=n:=by omega
   have AA:((n+1:Nat):Int) - 1=(n:Int):=by omega
   refine⟨_,rfl,_,_,rfl,rfl,_,rfl,aL (by show¬decide (((n+1:Nat):Int)<2)=true;rw[cw ‹21›];exact az) ?_⟩;refine⟨_,rfl,_,_,rfl,rfl,_,rfl,aL (by rw[cw VX];exact az) ?_⟩
   by_cases h56:fI=5\/fI=6
   ·apply uH (fun H'=>H2=H')
    case use=>
     intro rest;rcases h56 with h5|h5
     ·refine⟨_,rfl,rfl,_,rfl,bR (by rw[h5];exact aw rfl) (jq ?_)⟩;exact rest H2 rfl
     ·refine⟨_,rfl,rfl,_,rfl,aL (by rw[h5];simp) ?_⟩;refine⟨_,rfl,rfl,_,rfl,bR (by rw[h5];exact aw rfl) ?_⟩;exact rest H2 rfl
    case rest=>
    rintro _ rfl;refine⟨_,rfl,p,4,rfl,ML,by decide,by decide,λm a3 b3 c3 l3 u3=>⟨m,rfl,by omega,by omega,λD1 hC=>?_⟩⟩;have DV:Off p H (upd H2 p (.lst [.int a3,.int b3,.int c3])):=MI.trans X4;have LB:Pu (upd H2 p (.lst [.int a3,.int b3,.int c3])) p:=X8;generalize upd H2 p (.lst [.int a3,.int b3,.int c3])=H3 at DV LB hC;have t3:=ht.off hp DV;have pD:p≠D1:=LB.neN hC
    have D1H:H D1=none:=by
     cases e:H D1 with
     |none=>rfl
     |some o=>rw[DV D1 o pD.symm e]at hC;cases hC
    refine bN (n:=m.toNat) (λi ys H5=>∃ts:List T,DpL H5 ts ys/\ts.length=i/\(∀a∈ts,bK n (ks,ws) a)/\H5 D1=some (.lst ys)/\Off p H H5/\Pu H5 p)
     ⟨[],.nil,rfl,by simp,ak,DV.trans (X5 hC),LB.aB pD⟩ ?_ ?_
    rotate_left
    ·rintro i ys H5 hi ⟨ts,dl,hl,NA,i0,o5,p5⟩;refine⟨hi,?_⟩;rintro v H6 ⟨rfl,rfl⟩ gi ho;obtain ⟨oo,rfl⟩:=eP ho;refine⟨‹9›,dh ⟨_,rfl,_,rfl,_,_,rfl,rfl,_,rfl,p,tl,kl,wl,ks,ws,by show [V.ref p,V.int (((n+1:Nat):Int) - 1),V.ref tl]=_; rw [AA],p5,ht.off hp o5,NO,fun v tt H7 dv ev o7 p7=>?_⟩⟩;have yl:=dl.length;have EW:=o7 D1 _ pD.symm i0
     have tu:fH H7 (upd H7 D1 (.lst (ys++[v]))):=λc zs e=>by
      rw[aB (bV e EW ‹6›)];exact e
     refine⟨by omega,EW,bG hi ⟨ts++[tt],(dl.mono ((sU p5 o7).trans tu)).append (.cons (dv.mono tu) .nil),by rw[ai,hl];rfl,λa ha=>?_,ak,λb o hb e=>?_,p7.aB pD⟩⟩
     ·rcases bu.mp ha with h | h
      ·exact NA a h
      ·rw[bg.mp h];exact ev
     ·rw[aB (aD e D1H)];exact o7 b o hb (o5 b o hb e)
    rintro ys H5 ⟨as,dl,hl,hA,i0,o5,p5⟩;refine⟨af _,D1,_,rfl,.inl ⟨XQ i0,fun qa hqa=>?_⟩⟩;exists 1,sqa,ZY,H5,qa,(.tup ys),hqa,H6;have o6:Off p H H6:=o5.trans sqa.off;have p6:Pu H6 p:=p5.same sqa;refine⟨_,rfl,_,rfl,_,_,rfl,rfl,_,rfl,p,tl,kl,wl,ks,ws,by show[V.ref p,V.int (((n+1:Nat):Int) - 1),V.ref tl]=_;rw[AA],p6,ht.off hp o6,NO,fun v tt H7 dv ev o7 p7=>?_⟩;have ZZ:=sU p6 o7;refine⟨_,rfl,_,rfl,by show 4<=ab;decide,fun q1 sw=>?_⟩;exists 1,OE,wq,H7,q1,(.tup [.str "ask",v,.str x,.ref qa]),sw,H8;refine⟨_,rfl,_,rfl,by show 3<=ab;decide,fun q2 E4=>?_⟩;exists 1,C3,sN,H8,q2,(.tup [.str "up",.str x,.ref qa]),E4,H9;refine⟨by show 2<=ab;decide,fun m2 GV=>?_⟩;exists 1,AO,Z0,H9,m2,(.lst [.ref q1,.ref q2]),GV,HA;have Z1:=(OE.trans C3).trans AO;have dA:DpL HA as ys:=dl.mono ((XX sqa).trans (ZZ.trans (XX Z1)));have Z2:=Z1 qa _ (ZZ qa _ ZY);have al3:as.length<=3:=by omega
    obtain⟨vr,tr,OF,OG,evr⟩:∃(vr:V) (tr:T),tS [V.ref q1,V.ref q2] (fI - 5)=some vr/\Dp HA tr vr/\bK (n+1) (ks,ws) tr:=by
     rcases h56 with rfl|rfl
     ·exact⟨_,_,aK (j:=0) rfl,L2.Dp.tup ((C3.trans AO) q1 _ wq) (.cons ‹12› (.cons (dv.mono (XX Z1)) (.cons ‹12› (.cons (L2.Dp.tup Z2 dA) .nil)))),bK.ask ev sM hA al3⟩
     ·exact⟨_,_,aK (j:=1) rfl,L2.Dp.tup (AO q2 _ sN) (.cons ‹12› (.cons ‹12› (.cons (L2.Dp.tup Z2 dA) .nil))),bK.up sM hA al3⟩
    exact⟨_,rfl,_,_,rfl,rfl,m2,_,_,_,rfl,rfl,XQ Z0,OF,q vr tr HA OG evr ((o6.trans o7).trans Z1.off) (p7.same Z1)⟩
   ·have n5:¬ fI=5:=fun z=>h56 (.inl z);have n6:¬ fI=6:=fun z=>h56 (.inr z);refine⟨_,rfl,rfl,_,rfl,aL (by rw [cw (by intro z; injection z with z; exact n5 z)]; exact az) ?_⟩;refine⟨_,rfl,rfl,_,rfl,aL (by rw [cw (by intro z; injection z with z; exact n6 z)]; exact az) ?_⟩;refine⟨_,rfl,_,rfl,_,_,rfl,rfl,_,rfl,p,tl,kl,wl,ks,ws,by show [V.ref p,V.int (((n+1:Nat):Int) - 1),V.ref tl]=_; rw [AA],ML,t2,NO,fun v tt H3 dv ev o3 p3=>?_⟩;have DV:Off p H H3:=MI.trans o3
    by_cases h4:fI=4
    ·subst h4;refine‹8›;refine⟨_,rfl,_,rfl,by show 3<=ab;decide,λq1 sw=>?_⟩;exact q _ _ _ (L2.Dp.tup ak (.cons ‹12› (.cons (dv.mono (XX (X6 sw))) (.cons ‹12› .nil)))) (bK.get ev sM) (DV.trans (X5 sw)) (p3.aB (p3.neN sw))
    ·refine⟨_,rfl,rfl,_,rfl,aL (by rw[cw (by intro z;injection z with z;exact h4 z)];exact az) ?_⟩;refine⟨by show 5<=ab;decide,λm hm=>?_⟩;have sm:Same H3 (upd H3 m (.lst (bins.map V.str))):=X6 hm;have HK:(upd H3 m (.lst (bins.map V.str))) m=some (.lst (bins.map V.str)):=ak;obtain⟨wd,hwd,hwm,_⟩:=jw (ns:=bins) (i:=fI % 5) ‹21› (by show fI % 5<5;omega);refine⟨_,rfl,_,_,rfl,rfl,(show(0:Int)<5 by decide),m,_,_,_,rfl,rfl,XQ HK,hwd,?_⟩;have p4:=p3.same sm;refine⟨_,rfl,_,rfl,_,rfl,_,_,rfl,rfl,_,rfl,p,tl,kl,wl,ks,ws,by show[V.ref p,V.int (((n+1:Nat):Int) - 1),V.ref tl]=_;rw[AA],p4,ht.off hp (DV.trans sm.off),NO,λv2 t2' H4 Pw Z3 o4 Z4=>?_⟩;refine⟨by show 3<=ab;decide,λq1 sw=>?_⟩;have d1:=dv.mono ((XX sm).trans ((sU p4 o4).trans (XX (X6 (o:=.tup [.str wd,v,v2]) sw))));exact q _ _ _ (L2.Dp.tup ak (.cons ‹12› (.cons d1 (.cons (Pw.mono (XX (X6 sw))) .nil)))) (bK.bin hwm ev Z3) (((DV.trans sm.off).trans o4).trans (X5 sw)) (Z4.aB (Z4.neN sw))
theorem Wi(D:Defs K mg t):∀n,n<=4->aW P w K mg base bm (n+1) t.gA.1 t.gA.2 ["_law_purse_here","_law_deep","_law_tools"] (ZR n)
 |0,_=>by
  have h0:aW P w K mg base bm 0 t.gA.1 t.gA.2 ["_law_purse_here","_law_deep","_law_tools"] (fun _ _ _ _=>False):=xT fun _ _ _ _ h=>h;exact D.gA.fn.ok jc (fun vs H Q E ⟨_,_,_,_,_,_,_,_,_,h,_⟩=>absurd h ‹21›) (fun xh A outer s H vs Q E hr ⟨_,_,_,_,_,_,_,_,_,h,_⟩=>absurd h ‹21›)
 |n+1,hn=>Kf D ‹21› hn (Wi D n ‹21›)
def dU(p r:ax)(H H':Hp):Prop:=∀b o,b≠p->b≠r->H b=some o->H' b=some o
theorem dU.refl(p r:ax)(H:Hp):dU p r H H:=λ_ _ _ _ e=>e
theorem dU.trans(a:dU p r H H1)(b:dU p r H1 H2):dU p r H H2:=λc o n m e=>b c o n m (a c o n m e)
theorem dU.BW:dU p r H (upd H p o):=λc u n _ e=>by rw[aB n];exact e
theorem dU.W9:dU p r H (upd H r o):=λc u _ n e=>by rw[aB n];exact e
theorem dU.off(h:Off p H H'):dU p r H H':=λb o n _ e=>h b o n e
theorem dU.same(h:Same H H'):dU p r H H':=λb o _ _ e=>h b o e
def Rm(H:Hp)(r:ax)(n:Int):Prop:=H r=some (.lst [.int n])
theorem Rm.ne{n:Int}(h:Rm H r n)(hp:Pu H p):r≠p:=by
 obtain⟨a,b,c,e⟩:=hp;exact bV h e (λz=>by injection z with z;injection z with _ z;injection z)
theorem Jy{n:Int}(hp:Pu H p)(hr:Rm H r n)(o:dU p r H H'):fH H H':=λc zs e=>by
 obtain⟨x1,x2,x3,ep⟩:=hp;exact o c _ (bV e ep ‹6›) (bV e hr ‹6›) e
theorem Tls.off2{tl kl wl:ax}{n:Int}{ks:LS}(h:Tls H tl kl wl ks ws)(hp:Pu H p)(hr:Rm H r n)(o:dU p r H H'):Tls H' tl kl wl ks ws:=by
 have ne:∀{l:ax} {xs:LS},H l=some (.lst (xs.map V.str))->l≠r:=λ{l xs} e=>bV e hr (λz=>by
  injection z with z;cases xs with
  |nil=>cases z
  |cons x xs=>
   injection z with z _;cases z)
 exact⟨Jy hp hr o tl _ h.t,o kl _ (hp.ne h.k) (ne h.k) h.k,o wl _ (hp.ne h.w) (ne h.w) h.w,h.k1,h.w1,h.kx,h.wx⟩
variable {kk:KW}
theorem bK.succ:∀{n:Nat} {t:T},bK n kk t->bK (n+1) kk t
 |0,_,h=>h.elim
 |n+1,t,h=>by
  rcases h with rfl|⟨i,hi,rfl⟩|rfl|⟨w,x,hw,hx,rfl⟩|⟨e,x,he,hx,rfl⟩|⟨e,x,as,he,hx,ha,hl,rfl⟩|⟨x,as,hx,ha,hl,rfl⟩|⟨w,e1,e2,hw,h1,h2,rfl⟩
  ·exact bK.non _
  ·exact bK.int hi
  ·exact bK.me _
  ·exact bK.nm hx w hw
  ·exact bK.get (bK.succ he) hx
  ·exact bK.ask (bK.succ he) hx (λa h=>bK.succ (ha a h)) hl
  ·exact bK.up hx (λa h=>bK.succ (ha a h)) hl
  ·exact bK.bin hw (bK.succ h1) (bK.succ h2)
theorem bK.mono{t:T}(h:bK n kk t)(hm:n<=m):bK m kk t:=by
 induction hm with
 |refl=>exact h
 |step _ ih=>exact ih.succ
theorem VJ{base:Heap}{k:Nat}{f:ax}{sp:Nat->Sp}(F:∀n,aW P w K mg base bm k f fd ps (sp n)):aW P w K mg base bm k f fd ps (λvs H Q E=>∃n,sp n vs H Q E):=
 ⟨λvs H Q E h=>by obtain⟨n,h⟩:=h;exact(F n).len vs H Q E h,λA outer s H args us vs Q E hr he hb hv hs=>by obtain⟨n,hs⟩:=hs;exact(F n).run A outer s H args us vs Q E hr he hb hv hs⟩
inductive V0 (vs:LV) (H:Hp) (Q:VK) (E_:XK):Prop
 |mk (p tl kl wl:ax) (ks ws:LS) (d:Int):vs=[.ref p,.int d,.ref tl]->Pu H p->Tls H tl kl wl ks ws->1<=d->d<=4->(∀(v:V) (t:T) H',Dp H' t v->bK 4 (ks,ws) t->Off p H H'->Pu H' p->Q v H')->V0 vs H Q E_
theorem Wg(D:Defs K mg t):aW P w K mg base bm 5 t.gA.1 t.gA.2 ["_law_purse_here","_law_deep","_law_tools"] V0:=by
 have F:∀n:Nat,aW P w K mg base bm 5 t.gA.1 t.gA.2 ["_law_purse_here","_law_deep","_law_tools"] (fun vs H Q E=>n<=4/\ZR n vs H Q E):=fun n=>by
  by_cases hn:n<=4
  ·exact((Wi D n hn).mono ‹21›).imp λvs H Q E h=>h.2
  ·exact(xT λvs H Q E h=>hn h.1).mono ‹21›
 refine(VJ F).imp λvs H Q E ⟨p,tl,kl,wl,ks,ws,d,e,hp,ht,d1,d4,q⟩=>?_;refine⟨d.toNat,by omega,p,tl,kl,wl,ks,ws,by rw[e,show((d.toNat:Nat):Int)=d by omega],hp,ht,by omega,λv t H' dv ev o p'=>q v t H' dv (ev.mono ‹21›) o p'⟩
inductive spS (B:lU) (m:Nat) (n:Nat) (vs:LV) (H:Hp) (Q:VK) (E_:XK):Prop
 |mk (p rm tl kl wl:ax) (ks ws:LS) (r:Int):vs=[.ref p,.int n,.ref rm,.ref tl]->Pu H p->Tls H tl kl wl ks ws->Rm H rm r->0<=r->r<=16->(∀(v:V) (t:T) (ah:LL) (c:Nat) (r':Int) H',Dp H' t v->B (ks,ws) t ah c->(c:Int)<=m+(r - r')->0<=r'->r'<=r->Rm H' rm r'->dU p rm H H'->Pu H' p->Q v H')->spS B m n vs H Q E_
theorem V8(D:Defs K mg t){k:Nat}(hj:j<=k)(hk:5<=k)(Z5:aW P w K mg base bm j t.lN.1 t.lN.2 ["_law_purse_here","_law_deep","_law_room","_law_tools"] (fun vs H Q E=>∃m,n=m+1/\spS (SB n) 0 m vs H Q E)):aW P w K mg base bm (k+1) t.rZ.1 t.rZ.2 ["_law_purse_here","_law_deep","_law_room","_law_tools"] (spS (BB (SB n)) 1 n):=by
 have tI:=@rP P w K mg base t D;have WO:=@Bp P w K mg base t D;have TM:=@Wg P w K mg base t D;have hz:ab=16777216:=cn;refine D.rZ.fn.ok gU ‹4› ‹3›
 ·obtain⟨p,rm,tl,kl,wl,ks,ws,r,rfl,_⟩:=h;rfl
 ·obtain ⟨p,rm,tl,kl,wl,ks,ws,r,rfl,hp,ht,AB,r0,r16,q⟩:=h;obtain ⟨k1a,k1b⟩:=ht.k1;obtain ⟨w1a,w1b⟩:=ht.w1;have E5:=AB.ne hp
  refine⟨_,(@au _ _ _ _ _ (qw (pv 3) (jX rfl (cu (aO (i:=4) gU.nd rfl (uv rfl)) (cu (aO (i:=5) gU.nd rfl (uv rfl)) jJ))))
   (@au _ _ _ _ _ (aU (i:=6) gU.nd rfl (uv rfl) (@aH _ _ _ _ _ _ _ _ _ _ _ _ _ D.bI tI ‹2› (by rfl) (@aj _ _ _ _ _ (pv 0) (@aj _ _ _ _ _ aG aq (by rfl)) (by rfl)) ‹11› (by rfl) (by rfl)))
   (@au _ _ _ _ _ (aU (i:=7) gU.nd rfl (uv rfl) (@aH _ _ _ _ _ _ _ _ _ _ _ _ _ D.gA TM ‹2› (by rfl) (@aj _ _ _ _ _ (pv 0) (@aj _ _ _ _ _ (@bh _ _ _ _ _ _ _ _ nJ aG (@aH _ _ _ _ _ _ _ _ _ _ _ _ _ D.bI tI ‹2› (by rfl) (@aj _ _ _ _ _ (pv 0) (@aj _ _ _ _ _ aG aq (by rfl)) (by rfl)) ‹11› (by rfl) (by rfl))) (@aj _ _ _ _ _ (pv 3) aq (by rfl)) (by rfl)) (by rfl)) ‹11› (by rfl) (by rfl)))
   (@au _ _ _ _ _ (aU (i:=8) gU.nd rfl (uv rfl) (@bf _ _ _ _ _ _ _ bF (pv 5) (@aH _ _ _ _ _ _ _ _ _ _ _ _ _ D.bI tI ‹2› (by rfl) (@aj _ _ _ _ _ (pv 0) (@aj _ _ _ _ _ (@aN _ _ _ _ _ _ _ _ _ bJ (by rfl) D.cW cg (@aj _ _ _ _ _ (pv 5) aq (by rfl)) ‹11› ‹11› (by rfl) (by rfl)) aq (by rfl)) (by rfl)) ‹11› (by rfl) (by rfl)) ‹20›))
   (@au _ _ _ _ _ (@bL _ _ _ _ _ _ _ _ (XN (Hw (aV vd (pv 6) aG (aR _)) (Dt (aV qO (pv 1) aG (aR _)))))
   (@au _ _ _ _ _ (aU (i:=9) gU.nd rfl (uv rfl) (@aH _ _ _ _ _ _ _ _ _ _ _ _ _ D.lN Z5 ‹2› (by rfl) (@aj _ _ _ _ _ (pv 0) (@aj _ _ _ _ _ (@bh _ _ _ _ _ _ _ _ mW (pv 1) aG) (@aj _ _ _ _ _ (pv 2) (@aj _ _ _ _ _ (pv 3) aq (by rfl)) (by rfl)) (by rfl)) (by rfl)) ‹11› (by rfl) (by rfl)))
   (@au _ _ _ _ _ (aU (i:=10) gU.nd rfl (uv rfl) (@aH _ _ _ _ _ _ _ _ _ _ _ _ _ D.lN Z5 ‹2› (by rfl) (@aj _ _ _ _ _ (pv 0) (@aj _ _ _ _ _ (@bh _ _ _ _ _ _ _ _ mW (pv 1) aG) (@aj _ _ _ _ _ (pv 2) (@aj _ _ _ _ _ (pv 3) aq (by rfl)) (by rfl)) (by rfl)) (by rfl)) ‹11› (by rfl) (by rfl)))
   (@aF _ _ _ (@aM _ _ _ _ (@bf _ _ _ _ _ _ _ bF (@bw _ _ _ _ (@aj _ _ _ _ _ (@bW _ _ _ _ _ (@aj _ _ _ _ _ aP (@aj _ _ _ _ _ (pv 7) (@aj _ _ _ _ _ (pv 9) (@aj _ _ _ _ _ (pv 10) aq (by rfl)) (by rfl)) (by rfl)) (by rfl))) (@aj _ _ _ _ _ (@bW _ _ _ _ _ (@aj _ _ _ _ _ aP (@aj _ _ _ _ _ (pv 7) (@aj _ _ _ _ _ (pv 9) aq (by rfl)) (by rfl)) (by rfl))) (@aj _ _ _ _ _ (@bW _ _ _ _ _ (@aj _ _ _ _ _ aP (@aj _ _ _ _ _ (pv 7) (@aj _ _ _ _ _ (pv 9) aq (by rfl)) (by rfl)) (by rfl))) (@aj _ _ _ _ _ (@bW _ _ _ _ _ (@aj _ _ _ _ _ aP (@aj _ _ _ _ _ (pv 9) (@aj _ _ _ _ _ (pv 8) (@aj _ _ _ _ _ (pv 10) aq (by rfl)) (by rfl)) (by rfl)) (by rfl))) aq (by rfl)) (by rfl)) (by rfl)) (by rfl))) (pv 6) ‹20›)))))
   aX)
   (@au _ _ _ _ _ (aU (i:=11) gU.nd rfl (uv rfl) (@bf _ _ _ _ _ _ _ bF (pv 4) (@aH _ _ _ _ _ _ _ _ _ _ _ _ _ D.bI tI ‹2› (by rfl) (@aj _ _ _ _ _ (pv 0) (@aj _ _ _ _ _ (@aN _ _ _ _ _ _ _ _ _ bJ (by rfl) D.cW cg (@aj _ _ _ _ _ (pv 4) aq (by rfl)) ‹11› ‹11› (by rfl) (by rfl)) aq (by rfl)) (by rfl)) ‹11› (by rfl) (by rfl)) ‹20›))
   (@au _ _ _ _ _ (aU (i:=12) gU.nd rfl (uv rfl) (@bf _ _ _ _ _ _ _ bF (pv 4) (@aH _ _ _ _ _ _ _ _ _ _ _ _ _ D.bI tI ‹2› (by rfl) (@aj _ _ _ _ _ (pv 0) (@aj _ _ _ _ _ (@aN _ _ _ _ _ _ _ _ _ bJ (by rfl) D.cW cg (@aj _ _ _ _ _ (pv 4) aq (by rfl)) ‹11› ‹11› (by rfl) (by rfl)) aq (by rfl)) (by rfl)) ‹11› (by rfl) (by rfl)) ‹20›))
   (@au _ _ _ _ _ (aU (i:=13) gU.nd rfl (uv rfl) (@aH _ _ _ _ _ _ _ _ _ _ _ _ _ D.iW WO ‹2› (by rfl) (@aj _ _ _ _ _ (pv 0) (@aj _ _ _ _ _ (pv 4) (@aj _ _ _ _ _ (@bf _ _ _ _ _ _ _ bF (@bw _ _ _ _ (@aj _ _ _ _ _ aG (@aj _ _ _ _ _ aG aq (by rfl)) (by rfl))) (@aH _ _ _ _ _ _ _ _ _ _ _ _ _ D.bI tI ‹2› (by rfl) (@aj _ _ _ _ _ (pv 0) (@aj _ _ _ _ _ aG aq (by rfl)) (by rfl)) ‹11› (by rfl) (by rfl)) ‹20›) aq (by rfl)) (by rfl)) (by rfl)) ‹11› (by rfl) (by rfl)))
   (@au _ _ _ _ _ (aU (i:=14) gU.nd rfl (uv rfl) (@aH _ _ _ _ _ _ _ _ _ _ _ _ _ D.gA TM ‹2› (by rfl) (@aj _ _ _ _ _ (pv 0) (@aj _ _ _ _ _ (@bh _ _ _ _ _ _ _ _ nJ aG (@aH _ _ _ _ _ _ _ _ _ _ _ _ _ D.bI tI ‹2› (by rfl) (@aj _ _ _ _ _ (pv 0) (@aj _ _ _ _ _ aG aq (by rfl)) (by rfl)) ‹11› (by rfl) (by rfl))) (@aj _ _ _ _ _ (pv 3) aq (by rfl)) (by rfl)) (by rfl)) ‹11› (by rfl) (by rfl)))
   (@au _ _ _ _ _ (@bL _ _ _ _ _ _ _ _ (aV qO (@bh _ _ _ _ _ _ _ _ lV (pv 6) aG) aG (aR _))
   (@aF _ _ _ (@aM _ _ _ _ (@bf _ _ _ _ _ _ _ bF (@bw _ _ _ _ (@aj _ _ _ _ _ (@bW _ _ _ _ _ (@aj _ _ _ _ _ aP (@aj _ _ _ _ _ (pv 11) (@aj _ _ _ _ _ (pv 8) (@aj _ _ _ _ _ (pv 12) (@aj _ _ _ _ _ (@bf _ _ _ _ _ _ _ bF (pv 5) aG ‹20›) aq (by rfl)) (by rfl)) (by rfl)) (by rfl)) (by rfl))) (@aj _ _ _ _ _ (@bW _ _ _ _ _ (@aj _ _ _ _ _ aP (@aj _ _ _ _ _ (pv 11) (@aj _ _ _ _ _ (pv 8) aq (by rfl)) (by rfl)) (by rfl))) (@aj _ _ _ _ _ (@bW _ _ _ _ _ (@aj _ _ _ _ _ aP (@aj _ _ _ _ _ (pv 11) (@aj _ _ _ _ _ (pv 13) aq (by rfl)) (by rfl)) (by rfl))) aq (by rfl)) (by rfl)) (by rfl))) (@bh _ _ _ _ _ _ _ _ mW (@bh _ _ _ _ _ _ _ _ lV (pv 6) aG) aG) ‹20›)))
   aX)
   (@au _ _ _ _ _ (@bL _ _ _ _ _ _ _ _ (aV qO (@bh _ _ _ _ _ _ _ _ lV (pv 6) aG) aG (aR _))
   (@aF _ _ _ (@aM _ _ _ _ (@bf _ _ _ _ _ _ _ bF (@bw _ _ _ _ (@aj _ _ _ _ _ (@bW _ _ _ _ _ (@aj _ _ _ _ _ aP (@aj _ _ _ _ _ (pv 7) (@aj _ _ _ _ _ (pv 8) (@aj _ _ _ _ _ (pv 14) aq (by rfl)) (by rfl)) (by rfl)) (by rfl))) (@aj _ _ _ _ _ (@bW _ _ _ _ _ (@aj _ _ _ _ _ aP (@aj _ _ _ _ _ (pv 7) (@aj _ _ _ _ _ (pv 11) aq (by rfl)) (by rfl)) (by rfl))) (@aj _ _ _ _ _ (@bW _ _ _ _ _ (@aj _ _ _ _ _ aP (@aj _ _ _ _ _ (pv 14) aq (by rfl)) (by rfl))) aq (by rfl)) (by rfl)) (by rfl))) (@bh _ _ _ _ _ _ _ _ mW (@bh _ _ _ _ _ _ _ _ lV (pv 6) aG) aG) ‹20›)))
   aX)
   (@au _ _ _ _ _ (@bL _ _ _ _ _ _ _ _ (aV cO (@bh _ _ _ _ _ _ _ _ lV (pv 6) aG) aG (aR _))
   (@aF _ _ _ (@aM _ _ _ _ (@bW _ _ _ _ _ (@aj _ _ _ _ _ (@bf _ _ _ _ _ _ _ bF (@bw _ _ _ _ (yC ["tell","do","give","throw"] (by rfl))) (@aH _ _ _ _ _ _ _ _ _ _ _ _ _ D.bI tI ‹2› (by rfl) (@aj _ _ _ _ _ (pv 0) (@aj _ _ _ _ _ aG aq (by rfl)) (by rfl)) ‹11› (by rfl) (by rfl)) ‹20›) (@aj _ _ _ _ _ (pv 7) aq (by rfl)) (by rfl)))))
   aX)
   (@aF _ _ _ (@aM _ _ _ _ (@bf _ _ _ _ _ _ _ bF (@bw _ _ _ _ (@aj _ _ _ _ _ (@bW _ _ _ _ _ (@aj _ _ _ _ _ aP (@aj _ _ _ _ _ (pv 8) (@aj _ _ _ _ _ (pv 7) aq (by rfl)) (by rfl)) (by rfl))) (@aj _ _ _ _ _ (@bW _ _ _ _ _ (@aj _ _ _ _ _ aP (@aj _ _ _ _ _ (pv 7) (@aj _ _ _ _ _ (pv 8) aq (by rfl)) (by rfl)) (by rfl))) (@aj _ _ _ _ _ (@bW _ _ _ _ _ (@aj _ _ _ _ _ aP (@aj _ _ _ _ _ (pv 7) aq (by rfl)) (by rfl))) (@aj _ _ _ _ _ (@bW _ _ _ _ _ (@aj _ _ _ _ _ aP (@aj _ _ _ _ _ (pv 14) aq (by rfl)) (by rfl))) aq (by rfl)) (by rfl)) (by rfl)) (by rfl))) (@bh _ _ _ _ _ _ _ _ lV (@bh _ _ _ _ _ _ _ _ lV (pv 6) aG) aG) ‹20›))))))))))))))),?_⟩
  simp only[jm,Cx.nox];refine⟨_,rfl,tl,_,rfl,XR ht.t,rfl,_,_,rfl,_,_,rfl,rfl,?_⟩;have oH:dU p rm H H:=dU.refl p rm H;refine⟨_,rfl,p,15,rfl,hp,by decide,by decide,λfI a1 b1 c1 l1 u1=>?_⟩;have rH1:Rm (upd H p (.lst [.int a1,.int b1,.int c1])) rm r:=by unfold Rm;rw[aB E5];exact AB
  have TN:dU p rm H (upd H p (.lst [.int a1,.int b1,.int c1])):=oH.trans dU.BW;have WI:Pu (upd H p (.lst [.int a1,.int b1,.int c1])) p:=X8;generalize upd H p (.lst [.int a1,.int b1,.int c1])=H1 at TN WI rH1;refine⟨_,rfl,_,rfl,p,4,rfl,WI,by decide,by decide,λd2 a2 b2 c2 l2 u2=>⟨_,_,rfl,rfl,?_⟩⟩;have rH2:Rm (upd H1 p (.lst [.int a2,.int b2,.int c2])) rm r:=by unfold Rm;rw[aB E5];exact rH1
  have MI:dU p rm H (upd H1 p (.lst [.int a2,.int b2,.int c2])):=TN.trans dU.BW;have ML:Pu (upd H1 p (.lst [.int a2,.int b2,.int c2])) p:=X8;generalize upd H1 p (.lst [.int a2,.int b2,.int c2])=H2 at MI ML rH2;refine⟨_,rfl,p,tl,kl,wl,ks,ws,1+d2,rfl,ML,ht.off2 hp AB MI,by omega,by omega,λv tv H3 dv ev o3 LB=>?_⟩;have DV:dU p rm H H3:=MI.trans (dU.off o3);have rH3:Rm H3 rm r:=o3 rm _ E5 rH2;have t3:=ht.off2 hp AB DV;refine⟨_,rfl,_,rfl,_,rfl,wl,_,rfl,.inl (XQ t3.w),p,_,rfl,LB,by rw[aa];omega,by rw[aa];omega,λi4 a4 b4 c4 l4 u4=>?_⟩;rw[aa]at u4;obtain⟨x,hx,QA,_⟩:=jw (ns:=ws) l4 u4;have sM:=ht.wx x QA;have tu4:fH H3 (upd H3 p (.lst [.int a4,.int b4,.int c4])):=sU LB X4;have rH4:Rm (upd H3 p (.lst [.int a4,.int b4,.int c4])) rm r:=by unfold Rm;rw[aB E5];exact rH3
  have QE:dU p rm H (upd H3 p (.lst [.int a4,.int b4,.int c4])):=DV.trans dU.BW;have LD:Pu (upd H3 p (.lst [.int a4,.int b4,.int c4])) p:=X8;generalize upd H3 p (.lst [.int a4,.int b4,.int c4])=H4 at QE LD rH4 tu4;have t4:=ht.off2 hp AB QE;have dv4:=dv.mono tu4;refine⟨wl,_,_,_,rfl,rfl,XQ t4.w,hx,?_⟩
  by_cases Z6:fI<4/\(0:Int)<n
  ·obtain ⟨VX,hn0⟩:=Z6;obtain ⟨m,rfl⟩:∃ m,n=m+1:=⟨n - 1,by omega⟩;have AA:(((m+1:Nat)):Int) - 1=(m:Int):=by omega
   refine⟨_,rfl,_,_,rfl,rfl,_,rfl,bR (aw VX) ?_⟩;refine⟨_,rfl,_,_,rfl,rfl,_,rfl,bR (aw hn0) ?_⟩;refine⟨_,rfl,_,rfl,_,_,rfl,rfl,_,rfl,_,rfl,m,rfl,p,rm,tl,kl,wl,ks,ws,r,by show[V.ref p,V.int ((((m+1:Nat)):Int) - 1),V.ref rm,V.ref tl]=_;rw[AA],LD,t4,rH4,r0,r16,fun v1 tv1 E6 c1' r1 H5 dv1 Sj WG r10 r1r FU o5 LG=>?_⟩;have LF:=QE.trans o5;have NJ:=Jy LD rH4 o5;refine⟨_,rfl,_,rfl,_,_,rfl,rfl,_,rfl,_,rfl,m,rfl,p,rm,tl,kl,wl,ks,ws,r1,by show[V.ref p,V.int ((((m+1:Nat)):Int) - 1),V.ref rm,V.ref tl]=_;rw[AA],LG,ht.off2 hp AB LF,FU,r10,by omega,fun v2 WS bp c2' r2 H6 Pw PR Cn Y4 r2r TR o6 Z7=>?_⟩;have Z8:=LF.trans o6;have MB:=Jy LG FU o6;have dv6:=(dv4.mono NJ).mono MB;have dv16:=dv1.mono MB;refine⟨_,rfl,_,rfl,_,rfl,by show 4<=ab;decide,fun q1 sw=>?_⟩;exists 1,OE,wq,H6,q1,(.tup [.str "if",v,v1,v2]),sw,H7;refine⟨_,rfl,_,rfl,by show 3<=ab;decide,fun q2 E4=>?_⟩;exists 1,C3,sN,H7,q2,(.tup [.str "while",v,v1]),E4,H8;refine⟨_,rfl,_,rfl,by show 3<=ab;decide,fun q3 JA=>?_⟩;exists 1,EI,AC,H8,q3,(.tup [.str "repeat",v,v1]),JA,H9;refine⟨_,rfl,_,rfl,_,rfl,by show 4<=ab;decide,fun q4 hq4=>?_⟩;exists 1,OH,LH,H9,q4,(.tup [.str "try",v1,.str x,v2]),hq4,HA;refine⟨by show 4<=ab;decide,fun ml MM=>?_⟩;exists 1,xz,wv,HA,ml,(.lst [.ref q1,.ref q2,.ref q3,.ref q4]),MM,HB;have WU:=(((OE.trans C3).trans EI).trans OH).trans xz;have TW:=dv6.mono (XX WU);have OI:=dv16.mono (XX WU);have Z9:=Pw.mono (XX WU)
   obtain⟨vr,tr,ah,c,OF,OG,mN,hc⟩:∃(vr:V) (tr:T) (ah:LL) (c:Nat),tS [V.ref q1,V.ref q2,V.ref q3,V.ref q4] fI=some vr/\Dp HB tr vr/\BB (SB (m+1)) (ks,ws) tr ah c/\(c:Int)<=1+(r - r2):=by
    rcases(by omega:fI=0\/fI=1\/fI=2\/fI=3)with rfl|rfl|rfl|rfl
    ·exact⟨_,_,_,_,aK (j:=0) rfl,L2.Dp.tup ((((C3.trans EI).trans OH).trans xz) q1 _ wq) (.cons ‹12› (.cons TW (.cons OI (.cons Z9 .nil)))),.inr (.inr (.inr (.inr (.inr (.inr (.inr (.inl ⟨tv,tv1,WS,E6,bp,c1',c2',ev,Sj,PR,rfl,rfl,rfl⟩))))))),by omega⟩
    ·exact⟨_,_,_,_,aK (j:=1) rfl,L2.Dp.tup (((EI.trans OH).trans xz) q2 _ sN) (.cons ‹12› (.cons TW (.cons OI .nil))),.inr (.inr (.inr (.inr (.inr (.inr (.inr (.inr (.inl ⟨"while",tv,tv1,E6,c1',.inl rfl,ev,Sj,rfl,rfl,rfl⟩)))))))),by omega⟩
    ·exact⟨_,_,_,_,aK (j:=2) rfl,L2.Dp.tup ((OH.trans xz) q3 _ AC) (.cons ‹12› (.cons TW (.cons OI .nil))),.inr (.inr (.inr (.inr (.inr (.inr (.inr (.inr (.inl ⟨"repeat",tv,tv1,E6,c1',.inr rfl,ev,Sj,rfl,rfl,rfl⟩)))))))),by omega⟩
    ·exact⟨_,_,_,_,aK (j:=3) rfl,L2.Dp.tup (xz q4 _ LH) (.cons ‹12› (.cons OI (.cons ‹12› (.cons Z9 .nil)))),.inr (.inr (.inr (.inr (.inr (.inr (.inr (.inr (.inr ⟨tv1,WS,x,E6,bp,c1',c2',Sj,⟨sM,QA⟩,PR,rfl,rfl,rfl⟩)))))))),by omega⟩
   exact⟨_,rfl,ml,_,_,_,rfl,rfl,XQ wv,OF,q vr tr ah c r2 HB OG mN hc Y4 ‹21› (WU rm _ TR) (Z8.trans (dU.same WU)) (Z7.same WU)⟩
  ·apply uH (fun H'=>H4=H')
   case use=>
    intro rest;refine⟨_,rfl,_,_,rfl,rfl,_,rfl,rJ (λh1=>?_) (λh1=>iu ?_)⟩
    ·refine⟨_,rfl,_,_,rfl,rfl,_,rfl,aL (λh2=>Z6 ⟨eI h1,eI h2⟩) ?_⟩;exact rest H4 rfl
    ·exact rest H4 rfl
   case rest=>
   rintro _ rfl;refine⟨_,rfl,_,rfl,_,rfl,kl,_,rfl,.inl (XQ t4.k),p,_,rfl,LD,by rw[aa];omega,by rw[aa];omega,λi5 a5 b5 c5 l5 u5=>?_⟩;rw[aa]at u5;obtain⟨y,hy,ZT,_⟩:=jw (ns:=ks) l5 u5;have BF:=ht.kx y ZT;have NJ:fH H4 (upd H4 p (.lst [.int a5,.int b5,.int c5])):=sU LD X4;have FU:Rm (upd H4 p (.lst [.int a5,.int b5,.int c5])) rm r:=by unfold Rm;rw[aB E5];exact rH4
   have LF:dU p rm H (upd H4 p (.lst [.int a5,.int b5,.int c5])):=QE.trans dU.BW;have LG:Pu (upd H4 p (.lst [.int a5,.int b5,.int c5])) p:=X8;generalize upd H4 p (.lst [.int a5,.int b5,.int c5])=H5 at LF LG FU NJ;have t5:=ht.off2 hp AB LF;refine⟨kl,_,_,_,rfl,rfl,XQ t5.k,hy,?_⟩;refine⟨_,rfl,_,rfl,_,rfl,kl,_,rfl,.inl (XQ t5.k),p,_,rfl,LG,by rw[aa];omega,by rw[aa];omega,λi6 a6 b6 c6 l6 u6=>?_⟩;rw[aa]at u6;obtain⟨z,pi,hzm,_⟩:=jw (ns:=ks) l6 u6;have hz100:=ht.kx z hzm;have MB:fH H5 (upd H5 p (.lst [.int a6,.int b6,.int c6])):=sU LG X4;have TR:Rm (upd H5 p (.lst [.int a6,.int b6,.int c6])) rm r:=by unfold Rm;rw[aB E5];exact FU
   have Z8:dU p rm H (upd H5 p (.lst [.int a6,.int b6,.int c6])):=LF.trans dU.BW;have Z7:Pu (upd H5 p (.lst [.int a6,.int b6,.int c6])) p:=X8;generalize upd H5 p (.lst [.int a6,.int b6,.int c6])=H6 at Z8 Z7 TR MB;have t6:=ht.off2 hp AB Z8;refine⟨kl,_,_,_,rfl,rfl,XQ t6.k,pi,?_⟩;refine⟨_,rfl,_,rfl,by show 2<=ab;decide,λm3 WV=>?_⟩;exists 1,xE,hm3m3,H6,m3,(.lst [.int 3,.int 12]),WV,H7;have LI:=Z7.same xE;have m3p:m3≠p:=(Z7.neN WV).symm;refine⟨_,rfl,p,2,rfl,LI,by decide,by decide,λi8 a8 b8 c8 l8 u8=>?_⟩;have oH7:dU p rm H H7:=Z8.trans (dU.same xE);have rH7:Rm H7 rm r:=xE rm _ TR;have hm8:(upd H7 p (.lst [.int a8,.int b8,.int c8])) m3=some (.lst [.int 3,.int 12]):=by rw[aB m3p];exact hm3m3
   have tu8:fH H7 (upd H7 p (.lst [.int a8,.int b8,.int c8])):=sU LI X4;have rH8:Rm (upd H7 p (.lst [.int a8,.int b8,.int c8])) rm r:=by unfold Rm;rw[aB E5];exact rH7
   have oH8:dU p rm H (upd H7 p (.lst [.int a8,.int b8,.int c8])):=oH7.trans dU.BW;have QI:Pu (upd H7 p (.lst [.int a8,.int b8,.int c8])) p:=X8;generalize upd H7 p (.lst [.int a8,.int b8,.int c8])=H8 at oH8 QI rH8 tu8 hm8
   obtain⟨zn,hzn,zn12⟩:∃zn:Nat,tS [V.int 3,V.int 12] i8=some (.int (zn:Nat))/\zn<=12:=by
    rcases(by omega:i8=0\/i8=1)with rfl|rfl
    ·exact⟨3,aK (j:=0) rfl,by decide⟩
    ·exact⟨12,aK (j:=1) rfl,by decide⟩
   have t8:=ht.off2 hp AB oH8;refine⟨m3,_,_,_,rfl,rfl,XQ hm8,hzn,p,kl,ks,zn,rfl,QI,t8.k,by omega,by omega,λqm es H9 hqm sub OL _ o9 OC=>?_⟩;have oH9:dU p rm H H9:=oH8.trans (dU.off o9);have rH9:Rm H9 rm r:=o9 rm _ E5 rH8;have C0:=sU QI o9;have es7:es.length<=7:=dq (fK OL (m:=ks) sub) k1b;have dv9:=((((dv4.mono NJ).mono MB).mono (XX xE)).mono tu8).mono C0;refine⟨_,rfl,_,rfl,p,4,rfl,OC,by decide,by decide,λdA aA bA cA lA uA=>⟨_,_,rfl,rfl,?_⟩⟩;have MH:fH H9 (upd H9 p (.lst [.int aA,.int bA,.int cA])):=sU OC X4;have rHA:Rm (upd H9 p (.lst [.int aA,.int bA,.int cA])) rm r:=by unfold Rm;rw[aB E5];exact rH9
   have oHA:dU p rm H (upd H9 p (.lst [.int aA,.int bA,.int cA])):=oH9.trans dU.BW;have pHA:Pu (upd H9 p (.lst [.int aA,.int bA,.int cA])) p:=X8;generalize upd H9 p (.lst [.int aA,.int bA,.int cA])=HA at oHA pHA rHA MH;refine⟨_,rfl,p,tl,kl,wl,ks,ws,1+dA,rfl,pHA,ht.off2 hp AB oHA,by omega,by omega,λv2 WS HB Pw Z3 oB pHB=>?_⟩;have oHB:dU p rm H HB:=oHA.trans (dU.off oB);have rHB:Rm HB rm r:=oB rm _ E5 rHA;have tuB:=sU pHA oB;have TW:=(dv9.mono MH).mono tuB;have hqmB:=tuB qm _ (MH qm _ hqm);have tB:=ht.off2 hp AB oHB;have A1:(0:Int)<11:=by decide
   have pm0:=qB fI (show(11:Int)≠0 by decide);have pm1:=oQ fI A1;have hJ:∀(vr:V) (tr:T) (ah:LL) (HC:Hp),Dp HC tr vr->BB (SB n) (ks,ws) tr ah 1->Same HB HC->Q vr HC:=λvr tr ah HC d hs sC=>q vr tr ah 1 r HC d hs (by show(1:Int)<=1+(r - r);omega) r0 (Int.le_refl _) (sC rm _ rHB) (oHB.trans (dU.same sC)) (pHB.same sC)
   by_cases h7:7<fI % 11
   ·refine⟨_,rfl,_,_,rfl,rfl,A1,_,_,rfl,rfl,_,rfl,bR (aw h7) ?_⟩;obtain ⟨w0,HP,ews⟩:∃ w0 HP,ws=w0::HP:=List.exists_cons_of_ne_nil (fun e=>by rw [e] at w1a; exact absurd w1a ‹11›);have hw0:Nm w0:=ht.wx w0 (by rw [ews]; exact aS);have a0:tS (ws.map V.str) 0=some (.str w0):=by rw [ews]; exact aK (j:=0) rfl
    refine⟨_,rfl,_,rfl,_,rfl,_,rfl,wl,_,_,_,rfl,rfl,XQ tB.w,a0,by show 5<=ab;decide,fun q1 sw=>?_⟩;exists 1,OE,wq,HB,q1,(.tup [.str "turn",.str y,.str x,.str z,.str w0]),sw,HC;refine⟨_,rfl,_,rfl,by show 3<=ab;decide,fun q2 E4=>?_⟩;exists 1,C3,sN,HC,q2,(.tup [.str "strip",.str y,.str x]),E4,HD;refine⟨_,rfl,_,rfl,by show 3<=ab;decide,fun q3 JA=>?_⟩;exists 1,EI,AC,HD,q3,(.tup [.str "elders",.str y,.ref qm]),JA,HE;refine⟨by show 3<=ab;decide,fun ml MM=>?_⟩;exists 1,xz,wv,HE,ml,(.lst [.ref q1,.ref q2,.ref q3]),MM,HF;have WZ:=((OE.trans C3).trans EI).trans xz
    obtain⟨vr,tr,ah,OF,OG,mN⟩:∃(vr:V) (tr:T) (ah:LL),tS [V.ref q1,V.ref q2,V.ref q3] (fI % 11 - 8)=some vr/\Dp HF tr vr/\BB (SB n) (ks,ws) tr ah 1:=by
     rcases(by omega:fI % 11 - 8=0\/fI % 11 - 8=1\/fI % 11 - 8=2)with e|e|e <;>rw[e]
     ·exact⟨_,_,_,aK (j:=0) rfl,L2.Dp.tup (((C3.trans EI).trans xz) q1 _ wq) (.cons ‹12› (.cons ‹12› (.cons ‹12› (.cons ‹12› (.cons ‹12› .nil))))),.inr (.inr (.inr (.inr (.inl ⟨y,x,z,w0,BF,sM,hz100,hw0,rfl,rfl,rfl⟩))))⟩
     ·exact⟨_,_,_,aK (j:=1) rfl,L2.Dp.tup ((EI.trans xz) q2 _ sN) (.cons ‹12› (.cons ‹12› (.cons ‹12› .nil))),.inr (.inr (.inr (.inr (.inr (.inl ⟨y,x,BF,sM,rfl,rfl,rfl⟩)))))⟩
     ·exact⟨_,_,_,aK (j:=2) rfl,L2.Dp.tup (xz q3 _ AC) (.cons ‹12› (.cons ‹12› (.cons (L2.Dp.tup (WZ qm _ hqmB) (X3 es)) .nil))),.inr (.inr (.inr (.inr (.inr (.inr (.inl ⟨y,es,BF,es7,⟨OL,λe he=>ht.kx e (sub e he)⟩,rfl,rfl,rfl⟩))))))⟩
    exact⟨_,rfl,_,_,rfl,rfl,A1,_,_,rfl,rfl,ml,_,_,_,rfl,rfl,XQ wv,OF,hJ vr tr ah HF OG mN WZ⟩
   refine⟨_,rfl,_,_,rfl,rfl,A1,_,_,rfl,rfl,_,rfl,aL (by rw[cw h7];exact az) ?_⟩
   by_cases h4:4<fI % 11
   ·refine⟨_,rfl,_,_,rfl,rfl,A1,_,_,rfl,rfl,_,rfl,bR (aw h4) ?_⟩;refine⟨_,rfl,_,rfl,_,rfl,by show 4<=ab; decide,fun q1 sw=>?_⟩;exists 1,OE,wq,HB,q1,(.tup [.str "put",v,.str x,v2]),sw,HC;refine⟨_,rfl,_,rfl,by show 3<=ab; decide,fun q2 E4=>?_⟩;exists 1,C3,sN,HC,q2,(.tup [.str "become",v,.str y]),E4,HD;refine⟨_,rfl,by show 2<=ab; decide,fun q3 JA=>?_⟩;exists 1,EI,AC,HD,q3,(.tup [.str "do",v2]),JA,HE;refine⟨by show 3<=ab; decide,fun ml MM=>?_⟩;exists 1,xz,wv,HE,ml,(.lst [.ref q1,.ref q2,.ref q3]),MM,HF;have WZ:=((OE.trans C3).trans EI).trans xz;have dvF:=TW.mono (XX WZ);have dv2F:=Pw.mono (XX WZ)
    obtain⟨vr,tr,ah,OF,OG,mN⟩:∃(vr:V) (tr:T) (ah:LL),tS [V.ref q1,V.ref q2,V.ref q3] (fI % 11 - 5)=some vr/\Dp HF tr vr/\BB (SB n) (ks,ws) tr ah 1:=by
     rcases(by omega:fI % 11 - 5=0\/fI % 11 - 5=1\/fI % 11 - 5=2)with e|e|e <;>rw[e]
     ·exact⟨_,_,_,aK (j:=0) rfl,L2.Dp.tup (((C3.trans EI).trans xz) q1 _ wq) (.cons ‹12› (.cons dvF (.cons ‹12› (.cons dv2F .nil)))),.inr (.inr (.inl ⟨tv,x,WS,ev,sM,Z3,rfl,rfl,rfl⟩))⟩
     ·exact⟨_,_,_,aK (j:=1) rfl,L2.Dp.tup ((EI.trans xz) q2 _ sN) (.cons ‹12› (.cons dvF (.cons ‹12› .nil))),.inr (.inr (.inr (.inl ⟨"become",tv,y,.inr ⟨rfl,ZT⟩,ev,BF.1,rfl,rfl,rfl⟩)))⟩
     ·exact⟨_,_,_,aK (j:=2) rfl,L2.Dp.tup (xz q3 _ AC) (.cons ‹12› (.cons dv2F .nil)),.inl ⟨"do",WS,by decide +kernel,Z3,rfl,rfl,rfl⟩⟩
    exact⟨_,rfl,_,_,rfl,rfl,A1,_,_,rfl,rfl,ml,_,_,_,rfl,rfl,XQ wv,OF,hJ vr tr ah HF OG mN WZ⟩
   refine⟨_,rfl,_,_,rfl,rfl,A1,_,_,rfl,rfl,_,rfl,aL (by rw[cw h4];exact az) ?_⟩
   by_cases Ze:fI % 11=4
   ·refine⟨_,rfl,_,_,rfl,rfl,A1,rfl,_,rfl,bR (by show decide (V.int (fI % 11)=V.int 4)=true; rw [Ze]; exact aw rfl) ?_⟩;refine⟨by show 4<=ab; decide,fun ml MM=>?_⟩;have xz:Same HB (upd HB ml (.lst (ones.map V.str))):=X6 MM;have wv:(upd HB ml (.lst (ones.map V.str))) ml=some (.lst (ones.map V.str)):=ak;have mlp:ml≠p:=(pHB.neN MM).symm;refine⟨_,rfl,p,4,rfl,pHB.same xz,by decide,by decide,fun iC aC bC cC lC uC=>?_⟩;obtain ⟨wd,hwd,hwm,_⟩:=jw (ns:=ones) (i:=iC) lC (by show iC < 4; exact uC);refine⟨ml,_,_,_,rfl,rfl,XQ (by rw [aB mlp]; exact wv),hwd,_,rfl,by show 2<=ab; decide,fun q1 sw=>?_⟩;have tuC:fH (upd HB ml (.lst (ones.map V.str))) (upd (upd HB ml (.lst (ones.map V.str))) p (.lst [.int aC,.int bC,.int cC])):=sU (pHB.same xz) X4;have rmC:Rm (upd (upd HB ml (.lst (ones.map V.str))) p (.lst [.int aC,.int bC,.int cC])) rm r:=by unfold Rm; rw [aB E5]; exact xz rm _ rHB
    have oC:dU p rm H (upd (upd HB ml (.lst (ones.map V.str))) p (.lst [.int aC,.int bC,.int cC])):=(oHB.trans (dU.same xz)).trans dU.BW;have pC:Pu (upd (upd HB ml (.lst (ones.map V.str))) p (.lst [.int aC,.int bC,.int cC])) p:=X8;have sC:Same (upd (upd HB ml (.lst (ones.map V.str))) p (.lst [.int aC,.int bC,.int cC])) _:=X6 (o:=.tup [.str wd,v]) sw;exact q _ _ _ 1 r _ (L2.Dp.tup ak (.cons ‹12› (.cons (((TW.mono (XX xz)).mono tuC).mono (XX sC)) .nil))) (.inl ⟨wd,tv,hwm,ev,rfl,rfl,rfl⟩) (by show(1:Int)<=1+(r - r);omega) r0 (Int.le_refl _) (sC rm _ rmC) (oC.trans (dU.same sC)) (pC.same sC)
   refine⟨_,rfl,_,_,rfl,rfl,A1,rfl,_,rfl,aL (by rw[cw (by intro z;injection z with z;exact Ze z)];exact az) ?_⟩;refine⟨_,rfl,_,rfl,by show 3<=ab;decide,fun q1 sw=>?_⟩;exists 1,OE,wq,HB,q1,(.tup [.str "let",.str x,v]),sw,HC;refine⟨_,rfl,_,rfl,by show 3<=ab;decide,fun q2 E4=>?_⟩;exists 1,C3,sN,HC,q2,(.tup [.str "drop",v,.str x]),E4,HD;refine⟨_,rfl,by show 2<=ab;decide,fun q3 JA=>?_⟩;exists 1,EI,AC,HD,q3,(.tup [.str "tell",v]),JA,HE;refine⟨_,rfl,by show 2<=ab;decide,fun q4 hq4=>?_⟩;exists 1,OH,LH,HE,q4,(.tup [.str "give",v2]),hq4,HF;refine⟨by show 4<=ab;decide,fun ml MM=>?_⟩;exists 1,xz,wv,HF,ml,(.lst [.ref q1,.ref q2,.ref q3,.ref q4]),MM,HG;have sBG:=(((OE.trans C3).trans EI).trans OH).trans xz;have dvG:=TW.mono (XX sBG);have dv2G:=Pw.mono (XX sBG)
   obtain⟨vr,tr,ah,OF,OG,mN⟩:∃(vr:V) (tr:T) (ah:LL),tS [V.ref q1,V.ref q2,V.ref q3,V.ref q4] (fI % 11 % 4)=some vr/\Dp HG tr vr/\BB (SB n) (ks,ws) tr ah 1:=by
    rcases(by omega:fI % 11 % 4=0\/fI % 11 % 4=1\/fI % 11 % 4=2\/fI % 11 % 4=3)with e|e|e|e <;>rw[e]
    ·exact⟨_,_,_,aK (j:=0) rfl,L2.Dp.tup ((((C3.trans EI).trans OH).trans xz) q1 _ wq) (.cons ‹12› (.cons ‹12› (.cons dvG .nil))),.inr (.inl ⟨x,tv,⟨sM,QA⟩,ev,rfl,rfl,rfl⟩)⟩
    ·exact⟨_,_,_,aK (j:=1) rfl,L2.Dp.tup (((EI.trans OH).trans xz) q2 _ sN) (.cons ‹12› (.cons dvG (.cons ‹12› .nil))),.inr (.inr (.inr (.inl ⟨"drop",tv,x,.inl rfl,ev,sM,rfl,rfl,rfl⟩)))⟩
    ·exact⟨_,_,_,aK (j:=2) rfl,L2.Dp.tup ((OH.trans xz) q3 _ AC) (.cons ‹12› (.cons dvG .nil)),.inl ⟨"tell",tv,by decide +kernel,ev,rfl,rfl,rfl⟩⟩
    ·exact⟨_,_,_,aK (j:=3) rfl,L2.Dp.tup (xz q4 _ LH) (.cons ‹12› (.cons dv2G .nil)),.inl ⟨"give",WS,by decide +kernel,Z3,rfl,rfl,rfl⟩⟩
   exact⟨_,rfl,_,_,rfl,rfl,A1,_,_,rfl,rfl,(show(0:Int)<4 by decide),ml,_,_,_,rfl,rfl,XQ wv,OF,hJ vr tr ah HG OG mN sBG⟩
theorem Bb(D:Defs K mg t){k:Nat}(hk:1<=k)(Gad:aW P w K mg base bm k t.rZ.1 t.rZ.2 ["_law_purse_here","_law_deep","_law_room","_law_tools"] (spS (BB (SB n)) 1 n)):aW P w K mg base bm (k+1) t.lN.1 t.lN.2 ["_law_purse_here","_law_deep","_law_room","_law_tools"] (spS (SB (n+1)) 0 n):=by
 have tI:=@rP P w K mg base t D;have hz:ab=16777216:=cn;refine D.lN.fn.ok wK ‹4› ‹3›
 ·obtain⟨p,rm,tl,kl,wl,ks,ws,r,rfl,_⟩:=h;rfl
 ·obtain ⟨p,rm,tl,kl,wl,ks,ws,r,rfl,hp,ht,AB,r0,r16,q⟩:=h;have E5:=AB.ne hp
  refine⟨_,(au (aU (i:=4) wK.nd rfl (uv rfl) (bw aq))
   (au (fG di rfl (iY rfl D.ni (aj (aH D.bI tI ‹2› (by rfl) (aj (pv 0) (aj (bf bF (bw (aj aG (aj aG aq))) (aY uJ (by rfl) D.zV wL (aj (cL qO (bf bF (pv 2) aG ‹20›) aG (aR _)) aq)) ‹20›) aq))) aq)) (aO (i:=5) wK.nd rfl (uv rfl))
   (aF (bL (aV qO (bf bF (pv 2) aG ‹20›) aG (aR _))
   (au (qw (bh mW (bf bF (pv 2) aG ‹20›) aG) (Dn (pv 2) aG wm))
   (aF (bH (gb cz eQ eR fY (pv 4) (aj (aH D.rZ Gad ‹2› (by rfl) (aj (pv 0) (aj (pv 1) (aj (pv 2) (aj (pv 3) aq))))) aq)))))
   aX)))
   (aF (aM (aY dM (by rfl) D.dB cP (aj (pv 4) aq)))))),?_⟩
  simp only[jm,Cx.nox];refine⟨ck _,λbl hbl=>?_⟩;have sbl:Same H (upd H bl (.lst [])):=X6 hbl;have hbl1:(upd H bl (.lst [])) bl=some (.lst []):=ak;have blp:bl≠p:=(hp.neN hbl).symm;have blr:bl≠rm:=(aD AB hbl).symm;generalize upd H bl (.lst [])=H1 at sbl hbl1;have p1:=hp.same sbl;have r1:Rm H1 rm r:=sbl rm _ AB;refine⟨_,rfl,by show 2<=ab;decide,λm hm=>?_⟩;exists 1,sm,HK,H1,m,(.lst [.int 5,.int 18]),hm,H2;have p2:=p1.same sm;have r2:Rm H2 rm r:=sm rm _ r1;have hbl2:=sm bl _ hbl1
  obtain⟨zz,ME,zz0,zz18⟩:∃zz:Int,tS [V.int 5,V.int 18] (if decide (15<r)=true then 1 else 0)=some (.int zz)/\0<zz/\zz<=18:=by
   by_cases hb:decide (15<r)=true
   ·rw[dL hb];exact⟨18,aK (j:=1) rfl,by decide,by decide⟩
   ·rw[dC hb];exact⟨5,aK (j:=0) rfl,by decide,by decide⟩
  refine⟨_,rfl,rm,_,_,_,rfl,rfl,XQ r2,rfl,_,_,rfl,rfl,.inr ⟨_,rfl,m,_,_,_,rfl,rfl,XQ HK,ME,?_⟩⟩;refine⟨p,zz,rfl,p2,zz0,by omega,λnn a3 b3 c3 l3 u3=>⟨nn,rfl,by omega,by omega,?_⟩⟩;have tu3:fH H2 (upd H2 p (.lst [.int a3,.int b3,.int c3])):=sU p2 X4
  refine mq (lo:=0) (n:=nn.toNat) (λi σ H5=>∃(ys:LV) (ss:List T) (hG:List LL) (c:Nat) (r':Int) (v5:OV),σ=[some (.ref p),some (.int n),some (.ref rm),some (.ref tl),some (.ref bl),v5]/\H5 bl=some (.lst ys)/\DpL H5 ss ys/\StL (BB (SB n) (ks,ws)) ss hG c/\(c:Int)<=r - r'/\0<=r'/\r'<=r/\Rm H5 rm r'/\ys.length<=i/\dU p rm H H5/\Pu H5 p)
   ⟨[],[],[],0,r,_,rfl,by rw[aB blp];exact hbl2,.nil,.nil,by show(0:Int)<=r - r;omega,r0,Int.le_refl _,by unfold Rm;rw[aB E5];exact r2,af _,((dU.same sbl).trans (dU.same sm)).trans dU.BW,X8⟩ ?_ ?_
  ·rintro i σ H5 hi ⟨ys,ss,hG,c,r',v5,rfl,OM,dl,mN,hc,r'0,r'r,FU,yl,o5,p5⟩;refine⟨_,rfl,rm,_,_,_,rfl,rfl,XQ FU,rfl,_,_,rfl,rfl,_,rfl,rJ (fun hb=>?_) (fun hb=>⟨ys,ss,hG,c,r',_,rfl,OM,dl,mN,hc,r'0,r'r,FU,by omega,o5,p5⟩)⟩;have hb:(0:Int) < r':=eI hb;refine⟨_,rfl,rm,_,_,_,rfl,rfl,XQ FU,rfl,_,_,rfl,rfl,_,rfl,rm,_,_,0,rfl,rfl,FU,rfl,?_⟩;have TR:Rm (upd H5 rm (.lst [.int (r' - 1)])) rm (r' - 1):=ak;have o6:dU p rm H (upd H5 rm (.lst [.int (r' - 1)])):=o5.trans dU.W9;have p6:Pu (upd H5 rm (.lst [.int (r' - 1)])) p:=p5.aB E5.symm;have hbl6:(upd H5 rm (.lst [.int (r' - 1)])) bl=some (.lst ys):=by rw [aB blr]; exact OM
   have MB:fH H5 (upd H5 rm (.lst [.int (r' - 1)])):=λc zs e=>by rw[aB (bV e FU ‹6›)];exact e
   refine⟨_,rfl,.inl ⟨rfl,_,XQ hbl6⟩,_,rfl,_,rfl,_,rfl,_,rfl,p,rm,tl,kl,wl,ks,ws,r' - 1,rfl,p6,ht.off2 hp AB o6,TR,by omega,by omega,λv tv ah cs r2 H7 dv hs X9 Y4 r2r rH7 o7 p7=>?_⟩;have hbl7:=o7 bl _ blp blr hbl6;have tu7:=Jy p6 TR o7;refine⟨bl,ys,v,rfl,rfl,hbl7,by omega,?_⟩;have tu8:fH H7 (upd H7 bl (.lst (ys++[v]))):=λc zs e=>by rw[aB (bV e hbl7 ‹6›)];exact e
   refine⟨ys++[v],ss++[tv],hG++[ah],c+cs,r2,_,rfl,ak,(dl.mono (MB.trans (tu7.trans tu8))).append (.cons (dv.mono tu8) .nil),mN.snoc hs,by omega,Y4,by omega,by unfold Rm;rw[aB blr.symm];exact rH7,by rw[ai];show ys.length+1<=i+1;omega,λb o h1 h2 e=>?_,p7.aB blp.symm⟩;rw[aB (aD e hbl)];exact o7 b o h1 h2 (o6 b o h1 h2 e)
  ·rintro σ H5 ⟨ys,ss,hG,c,r',v5,rfl,OM,dl,mN,hc,r'0,r'r,FU,yl,o5,p5⟩;refine⟨_,rfl,bl,_,rfl,.inl ⟨XQ OM,λq1 sw=>?_⟩⟩;have s1:=X6 (o:=.tup ys) sw;exact q _ (.tup ss) hG.flatten c r' _ (L2.Dp.tup ak (dl.mono (XX s1))) ⟨ss,hG,rfl,mN,rfl⟩ (by show(c:Int)<=0+(r - r');omega) r'0 r'r (s1 rm _ FU) (o5.trans (dU.same s1)) (p5.same s1)
theorem Vv(D:Defs K mg t):∀n,aW P w K mg base bm (7+2*n) t.lN.1 t.lN.2 ["_law_purse_here","_law_deep","_law_room","_law_tools"] (spS (SB (n+1)) 0 n)
 |0=>Bb D ‹21› (V8 D (j:=0) (k:=5) ‹21› ‹21› (xT λvs H Q E ⟨m,h,_⟩=>absurd h ‹21›))
 |n+1=>by
  have h:=Bb D (n:=n+1) ‹21› (V8 D (j:=7+2*n) (k:=7+2*n) ‹21› ‹21› ((Vv D n).imp λvs H Q E ⟨m,e,h⟩=>by
   have e:m=n:=by omega
   subst e;exact h))
  exact h
end
end K26
end
section
namespace K26
open PySem PyProof.Rows L2 F
variable {g:Str->LS}{es ns os:LS}{i:Nat}{H:Hp}{q:ax}
structure KO (g:Str->LS) (ns:LS) (i:Nat) (rs:List KR):Prop where
 kn:knd rs=ns.take i
 el:∀j r,rs[j]?=some r->(∀e∈r.bx,e∈ns.take j)/\r.bx.length<=7/\r.bx.Nodup
 fl:∀r∈rs,r.fields.length<=3/\r.fields.Nodup
 mg:∀r∈rs,∃os,g r.kind=r.kind::os/\Mg (bP (lX g r.bx)) (some os)
theorem Iv{x y:Str}{o:LS}(h:¬y=x):zP g x o y=g y:=by
 unfold zP;rw[dC h]
theorem KO.snoc{rs:List KR}(h:KO g ns i rs)(hi:i<ns.length)(NU:¬ns[i]∈ns.take i){fs:LS}(sub:∀e∈es,e∈ns.take i)(HV:es.length<=7/\es.Nodup)(SU:fs.length<=3/\fs.Nodup)(hm:Mg (bP (lX g es)) (some os)):KO (zP g ns[i] (ns[i]::os)) ns (i+1) (rs++[⟨ns[i],es,fs⟩]):=by
 have same:∀Fh:LS,(∀e∈Fh,e∈ns.take i)->lX (zP g ns[i] (ns[i]::os)) Fh=lX g Fh:=λFh hs=>by
  unfold lX;congr 1;exact kz λe he=>Iv λz=>NU (z ▸ hs e he)
 have rl:rs.length=i:=by
  have:=congrArg List.length h.kn;unfold knd at this;rw[aa,bj]at this;omega
 refine⟨?_,λj r hj=>?_,λr hr=>?_,λr hr=>?_⟩
 ·unfold knd;rw[av,take_snoc hi];show knd rs++[ns[i]]=_;rw[h.kn]
 ·by_cases Co:j < rs.length
  ·rw[kG Co]at hj;exact h.el j r hj
  ·rw [kB ‹21›] at hj
   have e0:j - rs.length=0:=by
    have:=(bo.mp hj).1;rw[cy]at this;omega
   rw[e0]at hj;cases hj;have:j=i:=by omega
   rw[this];exact⟨sub,HV⟩
 ·rcases bu.mp hr with h' | h'
  ·exact h.fl r h'
  ·rw[bg.mp h'];exact SU
 ·rcases bu.mp hr with h' | h'
  ·obtain ⟨GH,h1,h2⟩:=h.mg r h';have hk:r.kind∈ns.take i:=by rw [<- h.kn]; exact bE.mpr ⟨r,h',rfl⟩
   have ne:¬r.kind=ns[i]:=λz=>NU (by rw[<- z];exact hk);refine⟨GH,by rw[Iv ne];exact h1,?_⟩;obtain⟨j,hj,rfl⟩:=fc h';rw[same _ λe he=>?_]
   ·exact h2
   ·have h3:=(h.el j _ (ac hj)).1 e he;exact(List.take_subset_take_left ns (by omega:j<=i)) h3
  ·rw[bg.mp h'];refine⟨os,by unfold zP;rw[dL rfl],?_⟩;rw[same _ sub];exact hm
theorem KO.good{rs:List KR}(h:KO g ns ns.length rs)(nd:ns.Nodup)(h7:ns.length<=7):sH rs:=by
 have hk:knd rs=ns:=by rw[h.kn,ay (af _)]
 have hl:rs.length=ns.length:=by rw[<- hk];exact(aa _).symm
 exact⟨by rw[hk];exact nd,by omega,λi r hi=>by rw[hk];exact h.el i r hi,h.fl,λx=>some (g x),λr hr=>by
  obtain⟨os,h1,h2⟩:=h.mg r hr;exact⟨os,congrArg some h1,h2⟩⟩
theorem Dp.kr{e f:ax}{r:KR}(hq:H q=some (.tup [.str r.kind,.ref e,.ref f]))(he:H e=some (.tup (r.bx.map V.str)))(hf:H f=some (.tup (r.fields.map V.str))):Dp H (yB r) (.ref q):=
 L2.Dp.tup hq (.cons ‹12› (.cons (L2.Dp.tup he (X3 _)) (.cons (L2.Dp.tup hf (X3 _)) .nil)))
section
variable {P:vy}{w:xm}{K:PySem.W.Frag}{mg:MG}{base:Heap}{t:tT}
inductive Fz (vs:LV) (H:Hp) (Q:VK) (E_:XK):Prop
 |mk (p u:ax) (n:Int):vs=[.ref p,.int n,.ref u]->Pu H p->H u=some (.lst [])->0<=n->n<=25->(∀(l:ax) (ws:LS) H',H l=none->ws.length=n.toNat->(ws.Nodup/\∀x∈ws,Nm x)->H' l=some (.lst (ws.map V.str))->Off p H H'->Pu H' p->Q (.ref l) H')->Fz vs H Q E_
theorem Bj(D:Defs K mg t):aW P w K mg base bm 3 t.jC.1 t.jC.2 ["_law_purse_here","_law_many","_law_used"] Fz:=by
 have Gas:=@QB P w K mg base t D;have hz:ab=16777216:=cn;refine D.jC.fn.ok qC ‹4› ‹3›
 ·obtain⟨p,u,n,rfl,_⟩:=h;rfl
 ·obtain ⟨p,u,n,rfl,hp,hu,h0,h1,k⟩:=h
  refine⟨_,(au (aU (i:=3) qC.nd rfl (uv rfl) (bw aq))
   (au (fG di rfl (iY rfl D.ni ‹14›) (aO (i:=4) qC.nd rfl (uv rfl))
   (aF (bH (gb cz eQ eR fY (pv 3) (aj (aH D.mL Gas ‹2› (by rfl) (aj (pv 0) (aj (bh cX (pv 2) (pv 3)) aq))) aq)))))
   (aF (aM (pv 3))))),?_⟩
  simp only[jm,Cx.nox];refine⟨ck _,λl hl=>?_⟩;have ul:u≠l:=aD hu hl
  have pl:p≠l:=by
   obtain⟨a,b,c,e⟩:=hp;exact aD e hl
  have up:u≠p:=by
   obtain⟨a,b,c,e⟩:=hp;exact(bV e hu (by intro z;cases z)).symm
  refine⟨_,rfl,n,rfl,by omega,by omega,mq (lo:=0) (n:=n.toNat) (λi σ H2=>∃(ws:LS) (v:OV),σ=[some (.ref p),some (.int n),some (.ref u),some (.ref l),v]/\ws.length=i/\(ws.Nodup/\∀x∈ws,Nm x)/\H2 l=some (.lst (ws.map V.str))/\Off p H H2/\Pu H2 p)
   ⟨[],_,rfl,rfl,⟨j0,by simp⟩,ak,X5 hl,?_⟩ ?_ ?_⟩
  ·obtain⟨a,b,c,e⟩:=hp;exact⟨a,b,c,by rw[aB pl];exact e⟩
  ·rintro i σ H2 hi ⟨ws,v,rfl,hw,nd,cx,o2,p2⟩;have hu2:H2 u=some (.lst []):=o2 u _ up hu;refine⟨_,rfl,.inl ⟨rfl,_,XQ cx⟩,_,rfl,_,rfl,_,rfl,u,l,[],ws.map V.str,rfl,rfl,hu2,cx,by rw [aa]; show 0+ws.length<=ab; omega,fun q hq=>?_⟩
   have pq:p≠q:=by
    obtain⟨a,b,c,e⟩:=p2;exact aD e hq
   have lq:l≠q:=aD cx hq
   have p3:Pu (upd H2 q (.lst ([]++ws.map V.str))) p:=by
    obtain⟨a,b,c,e⟩:=p2;exact⟨a,b,c,by rw[aB pq];exact e⟩
   refine⟨p,q,ws,rfl,p3,ak,by omega,λx H3 hx hn o3 p3=>?_⟩;have ma:H3 l=some (.lst (ws.map V.str)):=o3 l _ pl.symm (by rw[aB lq];exact cx)
   refine⟨l,ws.map V.str,.str x,rfl,rfl,ma,by rw[aa];omega,ws++[x],_,rfl,by rw[ai,hw];rfl,⟨uG nd.1 hn,λy hy=>by
    rcases bu.mp hy with hy|hy
    ·exact nd.2 y hy
    ·rw[bg.mp hy];exact hx⟩,by rw[ak,av];rfl,?_,?_⟩
   ·intro b o hb e;have bl:b≠l:=aD e hl;rw[aB bl];exact o3 b o hb ((X5 hq:Off p H2 _) b o hb (o2 b o hb e))
   ·obtain⟨a,b,c,e⟩:=p3;exact⟨a,b,c,by rw[aB pl];exact e⟩
  ·rintro σ H2 ⟨ws,v,rfl,hw,nd,cx,o2,p2⟩;exact⟨_,rfl,k l ws H2 hl hw nd cx o2 p2⟩
inductive Ji (vs:LV) (H:Hp) (Q:VK) (E_:XK):Prop
 |mk (p u fl:ax) (n:Int) (fs:LS):vs=[.ref p,.int n,.ref u,.ref fl]->Pu H p->H u=some (.lst [])->1<=n->n<=7->H fl=some (.lst (fs.map V.str))->fs.length<=100->(∀x∈fs,Nm x)->(∀(v:V) (ks:List KR) H',Dp H' (.tup (ks.map yB)) v->(sH ks/\∀r∈ks,Nn r)->ks.length=n.toNat->Off p H H'->Pu H' p->Q v H')->Ji vs H Q E_
theorem Pz(D:Defs K mg t):aW P w K mg base bm 4 t.kh.1 t.kh.2 ["_law_purse_here","_law_many","_law_used","_law_fields"] Ji:=by
 have tI:=@rP P w K mg base t D;have Gb:=@Bj P w K mg base t D;have WO:=@Bp P w K mg base t D;have Gbm:=@O6 P w K mg base t D;have hz:ab=16777216:=cn;refine D.kh.fn.ok dG ‹4› ‹3›
 ·obtain⟨p,u,fl,n,fs,rfl,_⟩:=h;rfl
 ·obtain ⟨p,u,fl,n,fs,rfl,hp,hu,NO,hn7,SU,hfs,hfx,k⟩:=h;have flp:fl≠p:=hp.ne SU
  refine⟨_,(au (aU (i:=4) dG.nd rfl (uv rfl) (aH D.jC Gb ‹2› (by rfl) (aj (pv 0) (aj (pv 1) (aj (pv 2) aq)))))
   (au (qw (bW (aj (bw aq) (aj qQ aq))) (jX rfl (cu (aO (i:=5) dG.nd rfl (uv rfl)) (cu (aO (i:=6) dG.nd rfl (MT rfl)) jJ))))
   (au (fG di rfl (Dc rfl D.Ey (aj (pv 4) aq)) (jX rfl (cu (aO (i:=7) dG.nd rfl (uv rfl)) (cu (aO (i:=8) dG.nd rfl (uv rfl)) jJ)))
   (au (aU (i:=9) dG.nd rfl (MT rfl) (aH D.iW WO ‹2› (by rfl) (aj (pv 0) (aj (gn vN (pv 4) iH (iM (pv 7))) (aj (bf bF (bw (aj aG (aj aG aq))) (aY uJ (by rfl) D.zV wL (aj (cL cO (aH D.bI tI ‹2› (by rfl) (aj (pv 0) (aj aG aq))) aG (aR _)) aq)) ‹20›) aq)))))
   (au (aU (i:=10) dG.nd rfl (uv rfl) (aH D.ju Gbm ‹2› (by rfl) (aj (pv 8) (aj (bh cX (cI rfl (X7 ["_law_one"] [6] ["_law_one","_law_orders"] (aJ (top 72)) ["_law_purse_here","_law_many","_law_used","_law_fields","_law_names","_law_kinds_here","_law_orders","_law_k","_law_kind","_law_elders","_law_order","_law_turn"] rfl rfl ‹1›) ⟨fun _ _ _ _ _=>(aO (i:=0) (show List.Nodup [("_law_one":Str),("_law_orders":Str)]by decide +kernel) rfl ‹16› ‹13›),fun _ _ _ _ _=>cJ,fun _ _ _ _ _=>(oA (lF hr) (pv 1) (pv 0) ‹20›)⟩ (dg (pv 9))) (bw (aj (pv 9) aq))) aq))))
   (au (fG di rfl (iY rfl D.ni (aj aG aq)) (aO (i:=11) dG.nd rfl (uv rfl))
   (aF (bL (aV tZ (pv 10) jz (aR _))
   (au (aU (i:=9) dG.nd rfl (MT rfl) (bf bF (bw (aj (aY dM (by rfl) D.dB cP (aj (cI rfl (X7 ["_law_one"] [9] ["_law_one","_law_elders"] (aJ (top 72)) ["_law_purse_here","_law_many","_law_used","_law_fields","_law_names","_law_kinds_here","_law_orders","_law_k","_law_kind","_law_elders","_law_order","_law_turn"] rfl rfl ‹1›) ⟨fun _ _ _ _ _=>(aO (i:=0) (show List.Nodup [("_law_one":Str),("_law_elders":Str)]by decide +kernel) rfl ‹16› ‹13›),fun _ _ _ _ _=>(oJ (aV Cm (pv 0) (pv 1) (by with_unfolding_all rfl))),fun _ _ _ _ _=>(pv 0)⟩ (iB (Uu (gn vN (pv 4) iH (iM (pv 7))) (RP Ml aG)))) aq)) (aj (gn wC (pv 9) iH (iM aG)) aq))) (pv 11) ‹20›))
   (aF (aU (i:=10) dG.nd rfl (uv rfl) (aH D.ju Gbm ‹2› (by rfl) (aj (pv 8) (aj (bh cX (cI rfl (X7 ["_law_one"] [6] ["_law_one","_law_orders"] (aJ (top 72)) ["_law_purse_here","_law_many","_law_used","_law_fields","_law_names","_law_kinds_here","_law_orders","_law_k","_law_kind","_law_elders","_law_order","_law_turn"] rfl rfl ‹1›) ⟨fun _ _ _ _ _=>(aO (i:=0) (show List.Nodup [("_law_one":Str),("_law_orders":Str)]by decide +kernel) rfl ‹16› ‹13›),fun _ _ _ _ _=>cJ,fun _ _ _ _ _=>(oA (lF hr) (pv 1) (pv 0) ‹20›)⟩ (dg (pv 9))) (bw (aj (pv 9) aq))) aq))))))
   aX)))
   (au (rB (lF hr) (pv 6) (pv 8) (pv 10) rfl)
   (aF (bH (gb cz eQ eR fY (pv 5) (aj (bW (aj (pv 8) (aj (pv 9) (aj (aH D.iW WO ‹2› (by rfl) (aj (pv 0) (aj (pv 3) (aj aG aq)))) aq)))) aq)))))))))
   (aF (aM (aY dM (by rfl) D.dB cP (aj (pv 5) aq))))))),?_⟩
  simp only[jm,Cx.nox];refine⟨_,rfl,_,rfl,_,rfl,p,u,n,rfl,hp,hu,by omega,by omega,λl ns H1 _ hns nd0 fq o1 p1=>?_⟩;obtain⟨nd,nx⟩:=nd0;have lp:l≠p:=p1.ne fq;have hns7:ns.length<=7:=by omega
  refine⟨ck _,λrl AN od MO=>⟨by show 2<=ab;decide,λtq TZ=>?_⟩⟩;have p3:=((p1.aB (o:=.lst []) (p1.neN AN)).aB (o:=.dK []) ((p1.aB (p1.neN AN)).neN MO)).aB (o:=.tup [.ref rl,.ref od]) (((p1.aB (p1.neN AN)).aB ((p1.aB (p1.neN AN)).neN MO)).neN TZ);have o3:Off p H (upd (upd (upd H1 rl (.lst [])) od (.dK [])) tq (.tup [.ref rl,.ref od])):=o1.trans ((X5 AN).trans ((X5 MO).trans (X5 TZ)));have rlo:rl≠od:=aD ak MO;have odt:od≠tq:=aD ak TZ;have rlt:rl≠tq:=λe=>by rw[<- e,aB rlo,ak]at TZ;cases TZ
  have Sm:(upd (upd (upd H1 rl (.lst [])) od (.dK [])) tq (.tup [.ref rl,.ref od])) rl=some (.lst []):=by rw[aB rlt,aB rlo,ak]
  have hod3:(upd (upd (upd H1 rl (.lst [])) od (.dK [])) tq (.tup [.ref rl,.ref od])) od=some (.dK []):=by rw[aB odt,ak]
  have lrl:l≠rl:=aD fq AN;have lod:l≠od:=λe=>by rw[<- e,aB lrl,fq]at MO;cases MO
  have ltq:l≠tq:=λe=>by rw[<- e,aB lod,aB lrl,fq]at TZ;cases TZ
  have ma:(upd (upd (upd H1 rl (.lst [])) od (.dK [])) tq (.tup [.ref rl,.ref od])) l=some (.lst (ns.map V.str)):=by rw[aB ltq,aB lod,aB lrl];exact fq
  have nof:∀{b:ax},b≠p->H1 b=none->H b=none:=λ{b} hb hn=>by
   cases q:H b with
   |none=>rfl
   |some o=>rw[o1 b o hb q]at hn;cases hn
  have hrlH:H rl=none:=nof (p1.neN AN).symm AN;have hodH:H od=none:=nof ((p1.aB (p1.neN AN)).neN MO).symm (by rw[aB rlo.symm]at MO;exact MO);have rlp:rl≠p:=(p1.neN AN).symm;have odp:od≠p:=((p1.aB (p1.neN AN)).neN MO).symm;refine⟨tq,_,rfl,XR ak,rfl,_,_,rfl,_,_,rfl,rfl,?_⟩;generalize upd (upd (upd H1 rl (.lst [])) od (.dK [])) tq (.tup [.ref rl,.ref od])=H3 at p3 o3 Sm hod3 ma
  refine⟨_,rfl,l,_,rfl,XQ ma,Nk (K:=K) (a:=l) (xs:=ns.map V.str) (λi σ H2=>∃(rs:List KR) (ys:LV) (kvs:sg) (g:Str->LS) (v7 v8 v9 v10 ON:OV),σ=[some (.ref p),some (.int n),some (.ref u),some (.ref fl),some (.ref l),some (.ref rl),some (.ref od),v7,v8,v9,v10,ON]/\
   (rs.length=i/\KO g ns i rs/\∀r∈rs,Nn r)/\kvs.length<=i/\zc H2 kvs g (ns.take i)/\GOk g (ns.take i)/\H2 rl=some (.lst ys)/\DpL H2 (rs.map yB) ys/\H2 od=some (.dK kvs)/\H2 l=some (.lst (ns.map V.str))/\Off p H H2/\Pu H2 p)
   ⟨[],[],[],λ_=>[],_,_,_,_,_,rfl,⟨rfl,⟨rfl,λj r h=>by simp at h,by simp,by simp⟩,by simp⟩,af _,λx hx=>by simp at hx,λx hx=>by simp at hx,Sm,.nil,hod3,ma,o3,p3⟩ (λi σ H2 _ h=>by
    obtain⟨_,_,_,_,_,_,_,_,_,_,_,_,_,_,_,_,_,e,_⟩:=h;exact XQ e) ?_ ?_⟩
  ·rintro i x σ H2 q0 hi ⟨rs,ys,kvs,g,v7,v8,v9,v10,ON,rfl,ko,hkl,og,gg,T0,np,OO,cx,o2,p2⟩ NH
   have lb:i<ns.length:=by
    have:=(bo.mp hi).1
    rwa[aa]at this
   have ex:x=.str ns[i]:=by
    rw[bS,ac lb]at hi;exact(cS hi).symm
   subst ex
   have NU:¬ns[i]∈ns.take i:=λh=>by
    have NN:=nd;rw[<- fz i ns]at NN;exact(iA.mp NN).2.2 _ h _ (by rw[cK lb];exact aS) rfl
   refine⟨q0,_,rfl,XR ak,rfl,_,_,rfl,_,_,rfl,rfl,?_⟩;have s0:Same H2 (upd H2 q0 (.tup [.int i,.str ns[i]])):=X6 NH;refine⟨_,rfl,_,rfl,_,rfl,_,rfl,l,_,rfl,XQ (s0 l _ cx),λm hm=>?_⟩;have s1:=s0.trans (X6 (o:=.lst (mO (ns.map V.str) none (some (i:Int)))) hm);have S2:(upd (upd H2 q0 (.tup [.int i,.str ns[i]])) m (.lst (mO (ns.map V.str) none (some (i:Int))))) m=some (.lst ((ns.take i).map V.str)):=by rw[ak,yw _ _ (by rw[aa];omega),qi]
   generalize upd (upd H2 q0 (.tup [.int i,.str ns[i]])) m (.lst (mO (ns.map V.str) none (some (i:Int))))=H4 at s1 S2;have hti:(ns.take i).length<=7:=by rw[bj];omega
   refine⟨by show 2<=ab;decide,λm3 WV=>?_⟩;have p4:Pu H4 p:=p2.same s1;have pm3:p≠m3:=p4.neN WV;have mm3:m≠m3:=aD S2 WV;refine⟨_,rfl,p,4,rfl,p4.aB pm3,by decide,by decide,λr a1 b1 c1 l1 u1=>?_⟩;have mp:m≠p:=p4.ne S2;have o4:Off p H2 (upd (upd H4 m3 (.lst [.int 3,.int 12])) p (.lst [.int a1,.int b1,.int c1])):=s1.off.trans ((X5 WV).trans X4);have Z4:Pu (upd (upd H4 m3 (.lst [.int 3,.int 12])) p (.lst [.int a1,.int b1,.int c1])) p:=X8;have hm34:(upd (upd H4 m3 (.lst [.int 3,.int 12])) p (.lst [.int a1,.int b1,.int c1])) m3=some (.lst [.int 3,.int 12]):=by rw[aB pm3.symm,ak]
   have ZS:(upd (upd H4 m3 (.lst [.int 3,.int 12])) p (.lst [.int a1,.int b1,.int c1])) m=some (.lst ((ns.take i).map V.str)):=by rw[aB mp,aB mm3];exact S2
   generalize upd (upd H4 m3 (.lst [.int 3,.int 12])) p (.lst [.int a1,.int b1,.int c1])=H4' at o4 Z4 hm34 ZS
   obtain⟨z,pi,hz12⟩:∃z:Nat,tS [V.int 3,V.int 12] (if decide (V.int r=V.int 1)=true then 1 else 0)=some (.int (z:Nat))/\z<=12:=by
    by_cases hb:decide (V.int r=V.int 1)=true
    ·rw[dL hb];exact⟨12,aK (j:=1) rfl,by decide⟩
    ·rw[dC hb];exact⟨3,aK (j:=0) rfl,by decide⟩
   refine⟨rfl,.inr ⟨_,rfl,m3,_,_,_,rfl,rfl,XQ hm34,pi,?_⟩⟩;refine⟨p,m,ns.take i,z,rfl,Z4,ZS,by omega,by omega,λq es H5 hq sub OL _ o5 p5=>?_⟩;have o5:Off p H2 H5:=o4.trans o5;have hod5:=o5 od _ odp OO
   have NJ:fH H2 H5:=λc zs e=>by
    obtain⟨x1,x2,x3,ep⟩:=p2;exact o5 c _ (bV e ep ‹6›) e
   have og5:=og.mono NJ;have HV:es.length<=7:=dq (fK OL (m:=ns.take i) sub) hti;refine⟨_,rfl,_,rfl,q,rfl,⟨_,XR hq⟩,λD1 hC=>?_⟩;have s4:∀u,Same H5 (upd H5 D1 u):=λu=>X6 hC;refine bN (n:=(es.map V.str).length) (λj ys H6=>oU H5 ys ((es.take j).map g)/\H6=upd H5 D1 (.lst ys)) ⟨.nil,rfl⟩ ?_ ?_;rotate_left
   ·rintro j ys H6 hj ⟨rt,rfl⟩;have Co:j < es.length:=by rw [aa] at hj; exact hj
    have ej:(es.map V.str)[j]?=some (.str es[j]):=by rw[bS,ac Co];rfl
    refine⟨⟨_,_,XR (s4 _ q _ hq),ej⟩,?_⟩;rintro y H7 ⟨rfl,yy⟩ gi ho;obtain⟨oo,rfl⟩:=eP ho;have ey:=yy _ (XR (s4 _ q _ hq));rw[ej]at ey;cases ey;obtain⟨q',h1,h2,_⟩:=og5 es[j] (sub _ (bX Co));refine⟨‹9›,dh ⟨_,rfl,_,rfl,od,.ref q',rfl,.inl ⟨kvs,.inr es[j],.inl (s4 _ od _ hod5),rfl,h1.symm⟩,by rw[cE rt,aa,bj];omega,ak,bG hj ⟨?_,by rw[gM]⟩⟩⟩;rw[take_snoc Co,av];exact iw rt ⟨q',rfl,h2⟩
   rintro us H6 ⟨rt,rfl⟩;rw[aa,ay (af _)]at rt;refine⟨⟨_,XR (s4 _ q _ hq),af _⟩,?_⟩;have EX:us.length=es.length:=by rw[cE rt,aa]
   refine⟨_,rfl,by show 1<=ab;decide,λm2 GV=>?_⟩;have s6:=(s4 (.lst us)).trans (X6 (o:=.lst [.ref q]) GV);have CI:(upd (upd H5 D1 (.lst us)) m2 (.lst [.ref q])) D1=some (.lst us):=by rw[aB (aD ak GV),ak]
   refine⟨D1,m2,us,[.ref q],rfl,rfl,CI,ak,by show us.length+1<=ab;omega,λra gt=>?_⟩;have s7:=s6.trans (X6 (o:=.lst (us++[.ref q])) gt);have LJ:(upd (upd (upd H5 D1 (.lst us)) m2 (.lst [.ref q])) ra (.lst (us++[.ref q]))) ra=some (.lst (us++[.ref q])):=ak;generalize upd (upd (upd H5 D1 (.lst us)) m2 (.lst [.ref q])) ra (.lst (us++[.ref q]))=H7 at s7 LJ;have rt7:oU H7 (us++[.ref q]) (lX g es):=iw (rt.mono (XX s7)) ⟨q,rfl,s7 q _ hq⟩
   have tt:=Ab (g:=g) (es:=es) λx hx=>by
    obtain⟨_,_,_,h⟩:=og5 x (sub x hx);exact h
   refine⟨ns[i],ra,_,lX g es,rfl,LJ,rt7,by omega,by unfold lX;rw[ai,aa,cy];omega,λv r H8 hm res s8=>?_⟩;have s58:=s7.trans s8;have p8:Pu H8 p:=p5.same s58;have o8:Off p H2 H8:=o5.trans s58.off;have hq8:=s58 q _ hq;refine⟨2,rfl,by omega,by omega,?_⟩
   refine mq (lo:=0) (n:=2) (λj σ H3=>∃(q:ax) (es:LS) (vo:V) (r:Option LS) (ON:OV),σ=[some (.ref p),some (.int n),some (.ref u),some (.ref fl),some (.ref l),some (.ref rl),some (.ref od),some (.int i),some (.str ns[i]),some (.ref q),some vo,ON]/\H3 q=some (.tup (es.map V.str))/\Wb H3 ns[i] r vo/\Mg (bP (lX g es)) r/\(∀x∈es,x∈ns.take i)/\(es.length<=7/\es.Nodup)/\(j=2->r≠none)/\Off p H2 H3/\Pu H3 p)
    ⟨q,es,v,r,_,rfl,hq8,res,hm,sub,⟨HV,OL⟩,λz=>absurd z ‹11›,o8,p8⟩ ?_ ?_
   ·clear hq8 o8 p8 s58 hm res HV sub OL hq;rintro j σ HX hj ⟨q,es,vo,r,ON,rfl,hq,res,hm,sub,⟨HV,ndX⟩,_,oX,pX⟩;have hlX:=oX l _ lp cx;have hodX:=oX od _ odp OO
    have tu2X:fH H2 HX:=λc zs e=>by
     obtain⟨x1,x2,x3,ep⟩:=p2;exact oX c _ (bV e ep ‹6›) e
    cases r with
    |some os=>
     have rv:∃a,vo=V.ref a:=by
      obtain⟨a,h,_⟩:=res;exact⟨a,h⟩
     obtain⟨a0,ea0⟩:=rv;subst ea0;refine⟨_,rfl,rfl,_,rfl,aL (by rw[cw ‹6›];exact az) ?_⟩;exact⟨q,es,_,some os,_,rfl,hq,res,hm,sub,⟨HV,ndX⟩,(λ_ z=>by cases z),oX,pX⟩
    |none=>
     have ev:vo=.non:=res;subst ev;refine‹8›;refine⟨_,rfl,_,rfl,_,rfl,l,_,rfl,XQ hlX,λm hm'=>?_⟩;have sm:Same HX (upd HX m (.lst (mO (ns.map V.str) none (some (i:Int))))):=X6 hm';have HK:(upd HX m (.lst (mO (ns.map V.str) none (some (i:Int))))) m=some (.lst ((ns.take i).map V.str)):=by rw[ak,yw _ _ (by rw[aa];omega),qi]
     generalize upd HX m (.lst (mO (ns.map V.str) none (some (i:Int))))=HY at sm HK;refine⟨_,rfl,m,_,_,rfl,rfl,XQ HK,.inr ⟨rfl,λm2 GV=>?_⟩⟩;have AO:Same HY (upd HY m2 (.lst ((ns.take i).map V.str).reverse)):=X6 GV;have FV:(upd HY m2 (.lst ((ns.take i).map V.str).reverse)) m2=some (.lst (((ns.take i).reverse).map V.str)):=by rw[ak,List.map_reverse]
     generalize upd HY m2 (.lst ((ns.take i).map V.str).reverse)=HZ at AO FV;generalize hrv:(ns.take i).reverse=rv at FV;have rvl:rv.length<=7:=by rw[<- hrv,List.length_reverse];exact hti
     have hqZ:=(sm.trans AO) q _ hq;refine⟨m2,rfl,⟨_,XQ FV⟩,λD1 hC=>?_⟩;refine bN (n:=(rv.map V.str).length) (λb ys H6=>ys=((rv.take b).filter (λx=>decide (x∈es))).map V.str/\H6 D1=some (.lst ys)/\Same HZ H6) ⟨rfl,ak,X6 hC⟩ ?_ ?_;rotate_left
     ·rintro b ys H6 hb ⟨rfl,CI,s6⟩;have kD:b < rv.length:=by rw [aa] at hb; exact hb
      have ej:(rv.map V.str)[b]?=some (.str rv[b]):=by rw[bS,ac kD];rfl
      refine⟨⟨_,_,XQ (s6 m2 _ FV),ej⟩,?_⟩;rintro y H7 ⟨rfl,yy⟩ gi ho;obtain⟨oo,rfl⟩:=eP ho;have ey:=yy _ (XQ (s6 m2 _ FV));rw[ej]at ey;cases ey
      have ef:(rv.take (b+1)).filter (λx=>decide (x∈es))=(rv.take b).filter (λx=>decide (x∈es))++(if decide (rv[b]∈es)=true then[rv[b]]else[]):=by
       rw[take_snoc kD,iX,fm];rfl
      have fl':((rv.take b).filter (λx=>decide (x∈es))).length<=7:=dq (eS _ _) (by rw[bj];omega);refine⟨‹9›,_,rfl,_,rfl,q,_,rfl,.inr (XR (s6 q _ hqZ)),rfl,lY es,_,rfl,?_⟩;have ei:Iy (.str rv[b]) (es.map V.str)=decide (rv[b]∈es):=pH ..
      by_cases Ap:rv[b]∈es
      ·refine bR (by rw[ei];exact aw Ap) ?_;refine⟨_,rfl,by rw[aa];omega,CI,bG hb ⟨?_,ak,λc o e=>by rw[aB (aD e hC)];exact s6 c o e⟩⟩;rw[ef,dL (aw Ap),av];rfl
      ·refine aL (by rw[ei,cw Ap];exact az) ?_;refine bG hb ⟨?_,CI,s6⟩;rw[ef,dC (by rw[cw Ap];exact az),dm]
     rintro ys H6 ⟨rfl,CI,s6⟩;rw[aa,ay (af _)]at CI;refine⟨⟨_,XQ (s6 m2 _ FV),af _⟩,D1,_,rfl,.inl ⟨XQ CI,λqt hqt=>?_⟩⟩;generalize VY:rv.filter (λx=>decide (x∈es))=fe at hqt CI;have sqt:Same H6 (upd H6 qt (.tup (fe.map V.str))):=X6 hqt;have hqtt:(upd H6 qt (.tup (fe.map V.str))) qt=some (.tup (fe.map V.str)):=ak;show _;generalize upd H6 qt (.tup (fe.map V.str))=HT at sqt hqtt;have sXT:=((sm.trans AO).trans s6).trans sqt;refine⟨_,rfl,_,rfl,q,_,rfl,sXT q _ hq,λqs HS hqs sS=>?_⟩;rw[Rx,<- qi]at hqs;refine⟨by show 2<=ab;decide,λm5 hm5=>?_⟩;exists 1,s5m,hm55,HS,m5,(.lst [.ref qt,.ref qs]),hm5,I5;have sX5:=(sXT.trans sS).trans s5m
     obtain⟨qb,eb,hvb,W1,OP,helb,ndb,hlb⟩:∃(qb:ax) (eb:LS),tS [V.ref qt,V.ref qs] (0+(j:Int))=some (.ref qb)/\I5 qb=some (.tup (eb.map V.str))/\(∀x∈eb,x∈ns.take i)/\eb.length<=7/\eb.Nodup/\(j+1=2->eb.length<=1):=by
      rcases(by omega:j=0\/j=1)with rfl|rfl
      ·refine⟨qt,fe,aK (j:=0) rfl,(sS.trans s5m) qt _ hqtt,fun x hx=>?_,?_,by rw [<- VY,<- hrv]; exact((List.reverse_perm _).nodup_iff.mpr (nd.sublist (pe _ _))).filter _,fun z=>absurd z ‹11›⟩
       ·rw[<- VY]at hx;have:=(dP.mp hx).1;rw[<- hrv]at this;exact List.mem_reverse.mp this
       ·rw[<- VY];exact dq (eS _ _) rvl
      ·exact⟨qs,es.take 1,aK (j:=1) rfl,s5m qs _ hqs,λx hx=>sub x (ib hx),by rw[bj];omega,ndX.sublist (pe _ _),λ_=>by rw[bj];omega⟩
     refine⟨_,rfl,m5,_,_,_,rfl,rfl,XQ hm55,hvb,?_⟩;have hod6:=sX5 od _ hodX;have og6:=og.mono (tu2X.trans (XX sX5));refine⟨_,rfl,_,rfl,qb,rfl,⟨_,XR W1⟩,λD1 hC=>?_⟩;have s4:∀u,Same I5 (upd I5 D1 u):=λu=>X6 hC;refine bN (n:=(eb.map V.str).length) (λj ys I6=>oU I5 ys ((eb.take j).map g)/\I6=upd I5 D1 (.lst ys)) ⟨.nil,rfl⟩ ?_ ?_;rotate_left
     ·rintro j ys I6 hj ⟨rt,rfl⟩;have Co:j < eb.length:=by rw [aa] at hj; exact hj
      have ej:(eb.map V.str)[j]?=some (.str eb[j]):=by rw[bS,ac Co];rfl
      refine⟨⟨_,_,XR (s4 _ qb _ W1),ej⟩,?_⟩;rintro y I7 ⟨rfl,yy⟩ gi ho;obtain⟨oo,rfl⟩:=eP ho;have ey:=yy _ (XR (s4 _ qb _ W1));rw[ej]at ey;cases ey;obtain⟨q',h1,h2,_⟩:=og6 eb[j] (OP _ (bX Co));refine⟨‹9›,dh ⟨_,rfl,_,rfl,od,.ref q',rfl,.inl ⟨kvs,.inr eb[j],.inl (s4 _ od _ hod6),rfl,h1.symm⟩,by rw[cE rt,aa,bj];omega,ak,bG hj ⟨?_,by rw[gM]⟩⟩⟩;rw[take_snoc Co,av];exact iw rt ⟨q',rfl,h2⟩
     rintro us I6 ⟨rt,rfl⟩;rw[aa,ay (af _)]at rt;refine⟨⟨_,XR (s4 _ qb _ W1),af _⟩,?_⟩;have EX:us.length=eb.length:=by rw[cE rt,aa]
     refine⟨_,rfl,by show 1<=ab;decide,λm2 GV=>?_⟩;have s6:=(s4 (.lst us)).trans (X6 (o:=.lst [.ref qb]) GV);have CI:(upd (upd I5 D1 (.lst us)) m2 (.lst [.ref qb])) D1=some (.lst us):=by rw[aB (aD ak GV),ak]
     refine⟨D1,m2,us,[.ref qb],rfl,rfl,CI,ak,by show us.length+1<=ab;omega,λra gt=>?_⟩;have s7:=s6.trans (X6 (o:=.lst (us++[.ref qb])) gt);have LJ:(upd (upd (upd I5 D1 (.lst us)) m2 (.lst [.ref qb])) ra (.lst (us++[.ref qb]))) ra=some (.lst (us++[.ref qb])):=ak;generalize upd (upd (upd I5 D1 (.lst us)) m2 (.lst [.ref qb])) ra (.lst (us++[.ref qb]))=I7 at s7 LJ;have rt7:oU I7 (us++[.ref qb]) (lX g eb):=iw (rt.mono (XX s7)) ⟨qb,rfl,s7 qb _ W1⟩
     have tt:=Ab (g:=g) (es:=eb) λx hx=>by
      obtain⟨_,_,_,h⟩:=og6 x (OP x hx);exact h
     refine⟨ns[i],ra,_,lX g eb,rfl,LJ,rt7,by omega,by unfold lX;rw[ai,aa,cy];omega,λvb rb I8 hmb resb s8=>?_⟩;have t58:=s7.trans s8;have p9:Pu I8 p:=(pX.same sX5).same t58;have o9:Off p H2 I8:=(oX.trans sX5.off).trans t58.off;refine⟨qb,eb,vb,rb,_,rfl,t58 qb _ W1,resb,hmb,OP,⟨helb,ndb⟩,λh2=>?_,o9,p9⟩;obtain⟨os,GI⟩:=Tn gg OP (.inl (hlb h2));have er:=Mg.det hmb GI;intro z;rw[z]at er;cases er
   ·clear hq8 o8 p8 s58 hm res HV sub OL hq;rintro σ H8 ⟨q,es,vo,r,ON,rfl,hq8,res,GI,sub,⟨HV,OL⟩,wn,o8,p8⟩
    obtain⟨os,rfl⟩:∃os,r=some os:=by
     cases r with
     |none=>exact absurd rfl (wn rfl)
     |some os=>exact⟨os,rfl⟩
    obtain⟨qo,rfl,hqo⟩:∃qo,vo=V.ref qo/\H8 qo=some (.tup ((ns[i]::os).map V.str)):=res;have hod8:=o8 od _ odp OO;have hrl8:=o8 rl _ rlp T0;have CO:=o8 l _ lp cx;obtain⟨ndo,subo⟩:=U5 gg sub GI
    have Me:(ns[i]::os).length<=8:=by
     have:=fK ndo subo;rw[aI];omega
    have uS:fH H2 H8:=λc zs e=>by
     obtain⟨x1,x2,x3,ep⟩:=p2;exact o8 c _ (bV e ep ‹6›) e
    refine⟨_,rfl,_,rfl,_,rfl,od,_,rfl,zQ.k (k:=.inr ns[i]) hod8 ‹21›,?_⟩
    have C0:fH H8 (upd H8 od (.dK (db kvs (.inr ns[i]) (.ref qo)))):=λc zs e=>by
     rw[aB (bV e hod8 ‹6›)];exact e
    have og9:=(og.mono uS).put (x:=ns[i]) C0 (C0 qo _ hqo) Me;have gg9:=gg.put NU ndo subo;have p9:=p8.aB (o:=.dK (db kvs (.inr ns[i]) (.ref qo))) odp.symm;have NM:∀b u,b≠od->H8 b=some u->(upd H8 od (.dK (db kvs (.inr ns[i]) (.ref qo)))) b=some u:=λb u hb e=>by rw[aB hb];exact e
    have T1:(upd H8 od (.dK (db kvs (.inr ns[i]) (.ref qo)))) od=some (.dK (db kvs (.inr ns[i]) (.ref qo))):=ak;have Uf:fH H2 (upd H8 od (.dK (db kvs (.inr ns[i]) (.ref qo)))):=uS.trans C0;have hq9:=C0 q _ hq8;have OQ:=NM rl _ rlo hrl8;have E3:=NM l _ lod CO;have o9:Off p H (upd H8 od (.dK (db kvs (.inr ns[i]) (.ref qo)))):=λb u hb e=>NM b u (aD e hodH) (o8 b u hb (o2 b u hb e));have hkl9:(db kvs (.inr ns[i]) (V.ref qo)).length<=i+1:=dq (jr _ _ _) ‹21›;generalize hk9:db kvs (.inr ns[i]) (V.ref qo)=Tb at og9 p9 T1 Uf hq9 OQ E3 o9 hkl9;generalize upd H8 od (.dK Tb)=H9 at og9 p9 T1 Uf hq9 OQ E3 o9;clear NM C0 hk9;have hfl9:=o9 fl _ flp SU;refine⟨_,rfl,.inl ⟨rfl,_,XQ OQ⟩,_,rfl,_,rfl,_,rfl,_,rfl,p,fl,fs,3,rfl,p9,hfl9,by decide,hfs,λqf Pc H13 hqf subf ndf hfl' o13 p13=>?_⟩;refine⟨by show 3<=ab;decide,λqr Xs=>?_⟩
    have LM:fH H9 H13:=λc zs e=>by
     obtain⟨x1,x2,x3,ep⟩:=p9;exact o13 c _ (bV e ep ‹6›) e
    have LN:=o13 rl _ rlp OQ;have QN:=o13 od _ odp T1;have hl13:=o13 l _ lp E3
    have EX:ys.length=i:=by
     have e1:=np.length;rw[aa]at e1;have:=ko.1;omega
    have qrr:rl≠qr:=aD LN Xs;refine⟨rl,ys,.ref qr,rfl,rfl,by rw[aB qrr];exact LN,by omega,?_⟩
    have OR:fH H13 (upd (upd H13 qr (.tup [.str ns[i],.ref q,.ref qf])) rl (.lst (ys++[.ref qr]))):=λc zs e=>by
     rw[aB (bV e LN ‹6›),aB (aD e Xs)];exact e
    refine⟨rs++[⟨ns[i],es,Pc⟩],ys++[.ref qr],Tb,zP g ns[i] (ns[i]::os),_,_,_,_,_,rfl,⟨by rw[ai,ko.1];rfl,ko.2.1.snoc lb NU sub ⟨HV,OL⟩ ⟨hfl',ndf⟩ GI,λr fA=>?_⟩,hkl9,?_,?_,ak,?_,?_,?_,?_,?_⟩
    ·rcases bu.mp fA with h' | h'
     ·exact ko.2.2 r h'
     ·rw[bg.mp h'];exact⟨nx _ (bX lb),HV,hfl',λx hx=>nx x (ib (sub x hx)),λx hx=>hfx x (subf x hx)⟩
    ·rw[take_snoc lb];exact og9.mono (LM.trans OR)
    ·rw[take_snoc lb];exact gg9
    ·rw[av];refine(np.mono (Uf.trans (LM.trans OR))).append (.cons (K26.Dp.kr (e:=q) (f:=qf) ?_ ((LM.trans OR) q _ hq9) (OR qf _ hqf)) .nil);rw[aB qrr.symm,ak]
    ·rw[aB rlo.symm,aB (aD QN Xs)];exact QN
    ·rw[aB lrl,aB (aD hl13 Xs)];exact hl13
    ·intro b u hb e;rw[aB (aD e hrlH)];exact(X5 Xs:L2.Off p _ _) b u hb (o13 b u hb (o9 b u hb e))
    ·exact(p13.aB (p13.neN Xs)).aB rlp.symm
  ·rintro σ H2 ⟨rs,ys,kvs,g,v7,v8,v9,v10,ON,rfl,ko,hkl,og,gg,T0,np,OO,cx,o2,p2⟩;rw[aa]at ko;refine⟨_,rfl,rl,_,rfl,.inl ⟨XQ T0,λq hq=>?_⟩⟩;have eC:rs.length=ns.length:=ko.1;exact k _ rs _ (L2.Dp.tup ak (np.mono (XX (X6 hq)))) ⟨ko.2.1.good nd hns7,ko.2.2⟩ ‹21› (o2.trans (X5 hq)) (p2.aB (p2.neN hq))
end
end K26
end
section
namespace K26
open PySem PyProof.Rows L2
variable {p:ax}{H H' H1:Hp}
theorem Pg{G:Prop}(S:Int->Prop){NX:Int->Prop}(use:(∀z,S z->NX z)->G)(rest:∀z,S z->NX z):G:=use rest
noncomputable def J8(k:Str×Str):T:=.tup [.str k.1,.str k.2]
theorem dU.fresh{rm:ax}(h:H rm=none)(s:Same H H1)(o:dU p rm H1 H'):Off p H H':=λb o' n e=>o b o' n (aD e h) (s b o' e)
section
variable {P:vy}{w:xm}{K:PySem.W.Frag}{mg:MG}{base:Heap}{t:tT}
inductive spP (vs:LV) (H:Hp) (Q:VK) (E_:XK):Prop
 |mk (p:ax):vs=[.ref p]->Pu H p->(∀(v:V) (ks:List KR) (ds:List DR) (run:T) (dt:List LL) (rr:LL) H',rF H' v ks ds run->Jb ks ds run dt rr->Off p H H'->Q v H')->spP vs H Q E_
theorem WW(D:Defs K mg t):aW P w K mg base bm 12 t.vq.1 t.vq.2 ["_law_purse_here"] spP:=by
 have tI:=@rP P w K mg base t D;have Gb:=@Bj P w K mg base t D;have WO:=@Bp P w K mg base t D;have Gbz:=@Pz P w K mg base t D;have Z5:=@Vv P w K mg base t D 2;have hz:ab=16777216:=cn;refine D.vq.fn.ok jK ‹4› ‹3›
 ·obtain⟨p,rfl,_⟩:=h;rfl
 ·obtain ⟨p,rfl,hp,k⟩:=h
  refine⟨_,(au (aU (i:=1) jK.nd rfl (uv rfl) (aY uJ (by rfl) D.zV wL (aj (cL cO (aH D.bI tI ‹2› (by rfl) (aj (pv 0) (aj aG aq))) aG (aR _)) aq)))
   (au (aU (i:=2) jK.nd rfl (uv rfl) (aH D.jC Gb ‹2› (by rfl) (aj (pv 0) (aj (bh nJ aG (aH D.bI tI ‹2› (by rfl) (aj (pv 0) (aj aG aq)))) (aj (bw aq) aq)))))
   (au (aU (i:=3) jK.nd rfl (uv rfl) (aH D.kh Gbz ‹2› (by rfl) (aj (pv 0) (aj (bf bF (bw (aj (bh nJ aG (aH D.bI tI ‹2› (by rfl) (aj (pv 0) (aj aG aq)))) (aj aG aq))) (pv 1) ‹20›) (aj (bw aq) (aj (pv 2) aq))))))
   (au (aU (i:=4) jK.nd rfl (uv rfl) (bW (aj (cI rfl (X7 ["_law_row"] [] ["_law_row"] (aJ (top 76)) ["_law_purse_here","_law_great","_law_words_here","_law_kinds_here","_law_tools","_law_deeds","_law_keys","_law_k","_law_key","_law_block"] rfl rfl ‹1›) ⟨fun _ _ _ _ _=>(aO (i:=0) (show List.Nodup [("_law_row":Str)]by decide +kernel) rfl ‹16› ‹13›),fun _ _ _ _ _=>cJ,fun _ _ _ _ _=>‹5›⟩ (dg (pv 3))) (aj (pv 2) aq))))
   (au (T6 (i:=5) (j:=6) rfl jK.nd rfl rfl ‹11› rfl rfl (aj (bw aq) (aj (bw aq) aq)) rfl)
   (au (fG di rfl (iY rfl D.ni (aj (bf bF (bw (aj (aH D.bI tI ‹2› (by rfl) (aj (pv 0) (aj aG aq))) (aj aG aq))) (pv 1) ‹20›) aq)) (aO (i:=7) jK.nd rfl (uv rfl))
   (au (aU (i:=8) jK.nd rfl (uv rfl) (bW (aj (bf bF (bf bB (pv 4) aG ‹20›) (aH D.bI tI ‹2› (by rfl) (aj (pv 0) (aj (aN bJ (by rfl) D.cW cg (aj (pv 3) aq)) aq))) ‹20›) (aj (bf bF (pv 2) (aH D.bI tI ‹2› (by rfl) (aj (pv 0) (aj (aN bJ (by rfl) D.cW cg (aj (pv 2) aq)) aq))) ‹20›) aq))))
   (au (aU (i:=9) jK.nd rfl (uv rfl) (aH D.lN Z5 ‹2› (by rfl) (aj (pv 0) (aj aG (aj (bw (aj (bf bF (bw (aj aG (aj aG aq))) (aY uJ (by rfl) D.zV wL (aj (rK (cL cO (pv 1) aG (aR _)) (rH (cL cO (pv 7) aG (aR _)))) aq)) ‹20›) aq)) (aj (pv 4) aq))))))
   (aF (bL (XN (Hw (aV (zX (Te hr)) (pv 8) (pv 6) (by with_unfolding_all rfl)) (Dt (aV vd (aN bJ (by rfl) D.cW cg (aj (pv 6) aq)) aG (aR _)))))
   (au (bH (gb cz eQ eR fY (pv 6) (aj (pv 8) aq)))
   (aF (bH (gb cz eQ eR fY (pv 5) (aj (bh QK (pv 8) (bW (aj (aH D.iW WO ‹2› (by rfl) (aj (pv 0) (aj (pv 2) (aj aG aq)))) (aj (pv 9) aq)))) aq)))))
   aX)))))
   (aF (aM (bW (aj (pv 3) (aj (aY dM (by rfl) D.dB cP (aj (pv 5) aq)) (aj (aH D.lN Z5 ‹2› (by rfl) (aj (pv 0) (aj aG (aj (bw (aj (bf bF (bw (aj aG (aj aG aq))) (pv 1) ‹20›) aq)) (aj (pv 4) aq))))) aq)))))))))))),?_⟩
  simp only[jm,Cx.nox];have oH:Off p H H:=Off.refl p H;refine⟨_,rfl,p,6,rfl,hp,by decide,by decide,λr1 a1 b1 c1 l1 u1=>⟨rfl,.inr ⟨_,rfl,?_⟩⟩⟩
  obtain⟨gr,hgr,UA⟩:∃gr:Int,(if decide (V.int r1=V.int 5)=true then(1:Int)else 0)=gr/\(gr=0\/gr=1):=by
   by_cases hb:decide (V.int r1=V.int 5)=true
   ·exact⟨1,dL hb,.inr rfl⟩
   ·exact⟨0,dC hb,.inl rfl⟩
  rw[hgr];exists 2,TN,WI,p,H,H,a1,b1,c1,oH.trans X4,H1;refine⟨_,rfl,_,rfl,p,4,rfl,WI,by decide,by decide,λr2 a2 b2 c2 l2 u2=>⟨_,_,rfl,rfl,ck _,λu hu=>?_⟩⟩;have pu:p≠u:=Pu.upd.neN hu;refine⟨p,u,2+r2,rfl,Pu.upd.aB pu,ak,by omega,by omega,λwl ws H2 _ hws wok Mb o2 ML=>?_⟩;obtain⟨_,wx⟩:=wok;have MI:Off p H H2:=TN.trans ((Off.upd.trans (X5 hu)).trans o2);have wlp:wl≠p:=ML.ne Mb;refine⟨_,rfl,_,rfl,p,5,rfl,ML,by decide,by decide,λr3 a3 b3 c3 l3 u3=>⟨_,_,rfl,rfl,by show 2<=ab;decide,λm hm=>?_⟩⟩;have hwl3:(upd H2 p (.lst [.int a3,.int b3,.int c3])) wl=some (.lst (ws.map V.str)):=by rw[aB wlp];exact Mb
  have DV:Off p H (upd H2 p (.lst [.int a3,.int b3,.int c3])):=MI.trans X4;have LB:Pu (upd H2 p (.lst [.int a3,.int b3,.int c3])) p:=X8;generalize upd H2 p (.lst [.int a3,.int b3,.int c3])=H3 at DV LB hm hwl3;exists 1,sm,HK,H3,m,(.lst [.int (1+r3),.int 7]),hm,H4
  obtain⟨zk,hzk,zk1,zk7⟩:∃zk:Int,tS [V.int (1+r3),V.int 7] gr=some (.int zk)/\1<=zk/\zk<=7:=by
   rcases UA with rfl|rfl
   ·exact⟨1+r3,aK (j:=0) rfl,by omega,by omega⟩
   ·exact⟨7,aK (j:=1) rfl,by decide,by decide⟩
  have LD:=LB.same sm;refine⟨_,rfl,m,_,_,_,rfl,rfl,XQ HK,hzk,ck _,λu4 hu4=>?_⟩;have pu4:p≠u4:=LD.neN hu4;have OS:=sm wl _ hwl3;refine⟨_,rfl,p,u4,wl,zk,ws,rfl,LD.aB pu4,ak,zk1,zk7,by rw[aB (aD OS hu4)];exact OS,by omega,wx,λkv ks H5 dk ⟨kg,P5⟩ hkl o5 LG=>?_⟩;have LF:Off p H H5:=(DV.trans sm.off).trans ((X5 hu4).trans o5);have hwl5:=o5 wl _ wlp (by rw[aB (aD OS hu4)];exact OS);obtain⟨a,xs,rfl,ha,dl⟩:=L2.Dp.cR dk;have G1:xs.length=ks.length:=by have:=dl.length;rwa[aa]at this
  refine⟨_,rfl,a,rfl,⟨_,XR ha⟩,λD1 hC=>?_⟩;have s51:∀o,Same H5 (upd H5 D1 o):=λo=>X6 hC;refine bN (n:=xs.length) (λi ys H6=>ys=((ks.take i).map (·.kind)).map V.str/\H6=upd H5 D1 (.lst ys)) ⟨rfl,rfl⟩ ?_ ?_;rotate_left
  ·rintro i ys H6 hi ⟨rfl,rfl⟩;have sL:i < ks.length:=by omega
   obtain⟨y,ey,dy⟩:=dl.get (i:=i) (t:=yB ks[i]) (by rw[bS,ac sL];rfl);refine⟨⟨_,_,XR (s51 _ a _ ha),ey⟩,?_⟩;rintro v H7 ⟨rfl,yy⟩ gi ho;obtain⟨oo,rfl⟩:=eP ho;have ev:=yy _ (XR (s51 _ a _ ha));rw[ey]at ev;cases ev;obtain⟨q,e,f,rfl,hq,_,_⟩:=K26.Dp.Aa (dy.mono (XX (s51 _)));refine⟨‹9›,dh ⟨_,rfl,q,_,_,_,rfl,rfl,XR hq,aK (j:=0) rfl,by rw[aa,aa,bj];omega,ak,bG hi ⟨?_,by rw[gM]⟩⟩⟩;rw[take_snoc sL,av,av];rfl
  rintro ys H6 ⟨rfl,rfl⟩;rw[ay ‹21›];refine⟨⟨_,XR (s51 _ a _ ha),af _⟩,_,rfl,by show 2<=ab;decide,λtl htl=>?_⟩;have sD:Same H5 (upd H5 D1 (.lst ((ks.map (·.kind)).map V.str))):=s51 _;have hDD:(upd H5 D1 (.lst ((ks.map (·.kind)).map V.str))) D1=some (.lst ((ks.map (·.kind)).map V.str)):=ak;generalize upd H5 D1 (.lst ((ks.map (·.kind)).map V.str))=H6 at sD hDD htl;exists 1,stl,htltl,H6,tl,(.tup [.ref D1,.ref wl]),htl,H7;have s57:=sD.trans stl
  have T7:Tls H7 tl D1 wl (ks.map (·.kind)) ws:=⟨htltl,stl D1 _ hDD,s57 wl _ hwl5,⟨by rw[aa];omega,by rw[aa];omega⟩,⟨by omega,by omega⟩,λx hx=>by
   obtain⟨r,fA,rfl⟩:=bE.mp hx;exact⟨(P5 r fA).1,nE fA⟩,wx⟩
  have LI:=LG.same s57;have oH7:Off p H H7:=LF.trans s57.off;have ha7:=s57 a _ ha;have dl7:=dl.mono (XX s57);refine⟨ck _,λde OT=>⟨ck _,λke UB=>⟨_,_,rfl,?_⟩⟩⟩;have QI:Pu (upd (upd H7 de (.lst [])) ke (.lst [])) p:=(LI.aB (LI.neN OT)).aB ((LI.aB (LI.neN OT)).neN UB);have dek:de≠ke:=aD ak UB;have LW:(upd (upd H7 de (.lst [])) ke (.lst [])) de=some (.lst []):=by rw[aB dek,ak]
  have B5:(upd (upd H7 de (.lst [])) ke (.lst [])) ke=some (.lst []):=ak;have s78:Same H7 (upd (upd H7 de (.lst [])) ke (.lst [])):=(X6 OT).trans (X6 UB);have dep:de≠p:=(LI.neN OT).symm;have kep:ke≠p:=((LI.aB (LI.neN OT)).neN UB).symm;have nn:∀{b:ax} {o:HO},H7 b=some o->b≠de/\b≠ke:=λ{b o} e=>⟨aD e OT,aD ((X6 OT) b o e) UB⟩
  have hdeH:H de=none:=by
   cases e:H de with
   |none=>rfl
   |some o=>rw[oH7 de o dep e]at OT;cases OT
  have hkeH:H ke=none:=by
   cases e:H ke with
   |none=>rfl
   |some o=>rw[aB dek.symm,oH7 ke o kep e]at UB;cases UB
  generalize upd (upd H7 de (.lst [])) ke (.lst [])=H8 at QI LW B5 s78;have oH8:Off p H H8:=oH7.trans s78.off;refine⟨_,rfl,p,4,rfl,QI,by decide,by decide,λr9 a9 b9 c9 l9 u9=>⟨by show 2<=ab;decide,λm9 hm9=>?_⟩⟩;have C0:fH H8 (upd H8 p (.lst [.int a9,.int b9,.int c9])):=sU QI X4;have hde9:(upd H8 p (.lst [.int a9,.int b9,.int c9])) de=some (.lst []):=by rw[aB dep];exact LW
  have hke9:(upd H8 p (.lst [.int a9,.int b9,.int c9])) ke=some (.lst []):=by rw[aB kep];exact B5
  have T9:Tls (upd H8 p (.lst [.int a9,.int b9,.int c9])) tl D1 wl (ks.map (·.kind)) ws:=(T7.off LI s78.off).off QI X4;have oH9:Off p H (upd H8 p (.lst [.int a9,.int b9,.int c9])):=oH8.trans X4;have OC:Pu (upd H8 p (.lst [.int a9,.int b9,.int c9])) p:=X8;generalize upd H8 p (.lst [.int a9,.int b9,.int c9])=H9 at oH9 OC hm9 C0 hde9 hke9 T9;exists 1,DO,hm9m9,H9,m9,(.lst [.int r9,.int 10]),hm9,HA
  obtain⟨zn,hzn,zn0,zn10⟩:∃zn:Int,tS [V.int r9,V.int 10] gr=some (.int zn)/\0<=zn/\zn<=10:=by
   rcases UA with rfl|rfl
   ·exact⟨r9,aK (j:=0) rfl,by omega,by omega⟩
   ·exact⟨10,aK (j:=1) rfl,by decide,by decide⟩
  refine⟨_,rfl,m9,_,_,_,rfl,rfl,XQ hm9m9,hzn,zn,rfl,by omega,by omega,?_⟩;have TA:=T9.off OC DO.off;have pHA:=OC.same DO;have oHA:Off p H HA:=oH9.trans DO.off;have haA:=DO a _ (C0 a _ (s78 a _ ha7));have dlA:=dl7.mono ((XX s78).trans (C0.trans (XX DO)))
  refine mq (lo:=0) (n:=zn.toNat) (λi σ H2=>∃(ds:List DR) (dt:List LL) (wE:List (Str×Str)) (ys zs:LV) (v7 v8 v9:OV),σ=[some (.ref p),some (.int gr),some (.ref wl),some (.ref a),some (.ref tl),some (.ref de),some (.ref ke),v7,v8,v9]/\H2 de=some (.lst ys)/\DpL H2 (ds.map FF) ys/\dt.length=ds.length/\(∀i (h1:i<ds.length) (h2:i<dt.length),VZ (ks.map (·.kind),ws) ds[i] dt[i])/\(ds.length<=zs.length/\ds.map Gd=wE/\wE.Nodup)/\H2 ke=some (.lst zs)/\DpL H2 (wE.map J8) zs/\zs.length<=8/\H2 a=some (.tup xs)/\DpL H2 (ks.map yB) xs/\Tls H2 tl D1 wl (ks.map (·.kind)) ws/\Off p H H2/\Pu H2 p)
   ⟨[],[],[],[],[],_,_,_,rfl,DO de _ hde9,.nil,rfl,λi h=>absurd h (oq _),⟨af _,rfl,j0⟩,DO ke _ hke9,.nil,by decide,haA,dlA,TA,oHA,pHA⟩ ?_ ?_
  ·rintro i σ H2 hi ⟨ds,dt,wE,ys,zs,v7,v8,v9,rfl,UC,dys,bl,Op,⟨dz,dzk,dzn⟩,hke2,dzs,z8,SF,np,T2,o2,p2⟩;refine⟨_,rfl,tl,_,_,_,rfl,rfl,XR T2.t,aK (j:=0) rfl,_,rfl,_,rfl,a,_,rfl,.inr (XR SF),p,_,rfl,p2,by omega,by omega,fun i3 a3 b3 c3 l3 u3=>?_⟩;obtain ⟨kx,hkx,hkm,_⟩:=jw (ns:=ks.map (·.kind)) l3 (by rw [aa]; omega);have o3:Off p H2 (upd H2 p (.lst [.int a3,.int b3,.int c3])):=X4;have T3:=T2.off p2 o3;have p3:Pu (upd H2 p (.lst [.int a3,.int b3,.int c3])) p:=X8;generalize upd H2 p (.lst [.int a3,.int b3,.int c3])=H3 at o3 T3 p3;refine⟨D1,_,_,_,rfl,rfl,XQ T3.k,hkx,?_⟩;refine⟨_,rfl,_,rfl,_,rfl,wl,_,rfl,.inl (XQ T3.w),p,_,rfl,p3,by rw [aa]; omega,by rw [aa]; omega,fun i4 a4 b4 c4 l4 u4=>?_⟩;rw [aa] at u4;obtain ⟨x,hx,QA,_⟩:=jw (ns:=ws) l4 u4;have o4:Off p H2 (upd H3 p (.lst [.int a4,.int b4,.int c4])):=o3.trans X4;have p4:Pu (upd H3 p (.lst [.int a4,.int b4,.int c4])) p:=X8;have T4:=T2.off p2 o4;generalize upd H3 p (.lst [.int a4,.int b4,.int c4])=H4 at o4 p4 T4;refine⟨wl,_,_,_,rfl,rfl,XQ T4.w,hx,by show 2<=ab; decide,fun kq ZC=>?_⟩;exists 1,skq,hkqkq,H4,kq,(.tup [.str kx,.str x]),ZC,H5;have p5:=p4.same skq;have o5:Off p H2 H5:=o4.trans skq.off;refine⟨_,rfl,by show 2<=ab; decide,fun m6 WJ=>?_⟩;exists 1,FA,E7,H5,m6,(.lst [.int 4,.int 16]),WJ,H6;have p6:=p5.same FA;have o6:Off p H2 H6:=o5.trans FA.off;apply Pg (fun z=>0<=z/\z<=16)
   case use=>
    intro rest;refine⟨_,rfl,rfl,_,rfl,rJ (λhb=>?_) (λhb=>?_)⟩
    ·obtain⟨z,pi,hz0,UD⟩:∃z:Int,tS [V.int 4,V.int 16] (if decide (V.int (0+(i:Int))=V.int 0)=true then 1 else 0)=some (.int z)/\0<=z/\z<=16:=by
      by_cases hb:decide (V.int (0+(i:Int))=V.int 0)=true
      ·rw[dL hb];exact⟨16,aK (j:=1) rfl,by decide,by decide⟩
      ·rw[dC hb];exact⟨4,aK (j:=0) rfl,by decide,by decide⟩
     refine⟨_,rfl,rfl,.inr ⟨_,rfl,m6,_,_,_,rfl,rfl,XQ E7,pi,?_⟩⟩;exact rest z ⟨hz0,UD⟩
    ·obtain⟨z,pi,hz0,UD⟩:∃z:Int,tS [V.int 4,V.int 16] (if false=true then 1 else 0)=some (.int z)/\0<=z/\z<=16:=⟨4,aK (j:=0) rfl,by decide,by decide⟩;refine .inr ⟨_,rfl,m6,_,_,_,rfl,rfl,XQ E7,pi,?_⟩;exact rest z ⟨hz0,UD⟩
   case rest=>
   rintro z ⟨z0,z16⟩;refine⟨by show 1<=ab;decide,λrm AB=>?_⟩;exists 1,QO,E8,H6,rm,(.lst [.int z]),AB,H7;have p7:=p6.same QO;have T7':Tls H7 tl D1 wl (ks.map (·.kind)) ws:=T2.off p2 (o6.trans QO.off);refine⟨_,rfl,p,rm,tl,D1,wl,ks.map (·.kind),ws,z,rfl,p7,T7',E8,z0,z16,λbv bt EJ c r' H8 SO EU hc r'0 r'z _ o8 p8=>?_⟩;have OU:Off p H2 H8:=(o6.trans (dU.fresh AB QO o8));have c16:c<=16:=by omega
   have uS:=sU p2 OU;have LW:=OU de _ dep UC;have B5:=OU ke _ kep hke2;have T8:=T2.off p2 OU
   have hkq8:H8 kq=some (.tup [.str kx,.str x]):=by
    have h7:=(FA.trans QO) kq _ hkqkq;obtain⟨x1,x2,x3,ep⟩:=p7;exact o8 kq _ (bV h7 ep ‹6›) (bV h7 E8 ‹6›) h7
   have kdl:zs.length=wE.length:=by have:=dzs.length;rwa[aa]at this
   have yl:ys.length=ds.length:=by have:=dys.length;rwa[aa]at this
   have same:∀(v7 v8 v9:OV),∃(ds:List DR) (dt:List LL) (wE:List (Str×Str)) (ys zs:LV) (v7' v8' v9':OV),([some (.ref p),some (.int gr),some (.ref wl),some (.ref a),some (.ref tl),some (.ref de),some (.ref ke),v7,v8,v9]:L2.St)=[some (.ref p),some (.int gr),some (.ref wl),some (.ref a),some (.ref tl),some (.ref de),some (.ref ke),v7',v8',v9']/\H8 de=some (.lst ys)/\DpL H8 (ds.map FF) ys/\dt.length=ds.length/\(∀i (h1:i<ds.length) (h2:i<dt.length),VZ (ks.map (·.kind),ws) ds[i] dt[i])/\(ds.length<=zs.length/\ds.map Gd=wE/\wE.Nodup)/\H8 ke=some (.lst zs)/\DpL H8 (wE.map J8) zs/\zs.length<=8/\H8 a=some (.tup xs)/\DpL H8 (ks.map yB) xs/\Tls H8 tl D1 wl (ks.map (·.kind)) ws/\Off p H H8/\Pu H8 p:=λv7 v8 v9=>⟨ds,dt,wE,ys,zs,_,_,_,rfl,LW,dys.mono uS,bl,Op,⟨dz,dzk,dzn⟩,B5,dzs.mono uS,z8,uS a _ SF,np.mono uS,T8,o2.trans OU,p8⟩;have dkey:Dp H8 (J8 (kx,x)) (.ref kq):=L2.Dp.tup hkq8 (.cons ‹12› (.cons ‹12› .nil));refine⟨_,rfl,_,rfl,ke,zs,_,_,rfl,.inl B5,dkey,dzs.mono uS,λt ht=>?_,_,rfl,rJ (λhb=>?_) (λhb=>iu (same _ _ _))⟩
   ·obtain ⟨kk,_,rfl⟩:=bE.mp ht;intro t ht;rcases aT.mp ht with rfl | ht
    ·trivial
    ·rw[bg.mp ht];trivial
   refine⟨_,rfl,ke,_,rfl,.inl (XQ B5),_,_,rfl,rfl,_,rfl,rJ (λPR=>?_) (λPR=>same _ _ _)⟩
   have lc:zs.length<8:=by
    have:(zs.length:Int)<8:=eI PR;omega
   refine⟨_,rfl,.inl ⟨rfl,_,XQ B5⟩,_,rfl,ke,zs,.ref kq,rfl,rfl,B5,by omega,?_⟩;have Xt:∀b o,b≠ke->H8 b=some o->(upd H8 ke (.lst (zs++[.ref kq]))) b=some o:=λb o hb e=>by rw[aB hb];exact e
   have MH:fH H8 (upd H8 ke (.lst (zs++[.ref kq]))):=λc HP e=>Xt c _ (bV e B5 ‹6›) e;have hkeA:(upd H8 ke (.lst (zs++[.ref kq]))) ke=some (.lst (zs++[.ref kq])):=ak;have pA:Pu (upd H8 ke (.lst (zs++[.ref kq]))) p:=p8.aB kep.symm;generalize upd H8 ke (.lst (zs++[.ref kq]))=HA' at Xt MH hkeA pA;have hdeA:=Xt de _ dek LW;have wlke:wl≠ke:=(nn T7.w).2;have wlde:wl≠de:=(nn T7.w).1;have D1ke:D1≠ke:=(nn T7.k).2;have D1de:D1≠de:=(nn T7.k).1;have hwlA:=Xt wl _ wlke T8.w;refine⟨_,rfl,.inl ⟨rfl,_,XQ hdeA⟩,_,rfl,_,rfl,_,rfl,p,wl,ws,3,rfl,pA,hwlA,by decide,by omega,λqs es HB hqs subs nds hes oB pB=>⟨_,rfl,by show 2<=ab;decide,λq2 E4=>?_⟩⟩;have tuB:=sU pA oB;exists 1,C3,sN,HB,q2,(.tup [.ref qs,bv]),E4,HC;refine⟨kq,q2,_,_,rfl,rfl,C3 kq _ (tuB kq _ (MH kq _ hkq8)),sN,by show 2+2<=ab;decide,λq3 HD JA sD3=>?_⟩;have QP:=C3.trans sD3;have hdeD:=QP de _ (oB de _ dep hdeA);have hkeD:=QP ke _ (oB ke _ kep hkeA);have pD:=pB.same QP;refine⟨de,ys,.ref q3,rfl,rfl,hdeD,by omega,?_⟩
   have tuE:fH HD (upd HD de (.lst (ys++[.ref q3]))):=λc zs' e=>by
    rw[aB (bV e hdeD ‹6›)];exact e
   have UE:fH H8 (upd HD de (.lst (ys++[.ref q3]))):=MH.trans (tuB.trans ((XX QP).trans tuE))
   have dkeys:DpL (upd HD de (.lst (ys++[.ref q3]))) ((wE++[(kx,x)]).map J8) (zs++[.ref kq]):=by
    rw[av];exact((dzs.mono uS).mono UE).append (.cons (dkey.mono UE) .nil)
   have TF:Tls (upd HD de (.lst (ys++[.ref q3]))) tl D1 wl (ks.map (·.kind)) ws:=by
    refine⟨UE tl _ T8.t,?_,?_,T8.k1,T8.w1,T8.kx,T8.wx⟩
    ·rw[aB D1de];exact QP D1 _ (oB D1 _ (p2.ne T2.k) (Xt D1 _ D1ke T8.k))
    ·rw[aB wlde];exact QP wl _ (oB wl _ wlp hwlA)
   refine⟨ds++[⟨kx,x,es,bt⟩],dt++[EJ],wE++[(kx,x)],ys++[.ref q3],zs++[.ref kq],_,_,_,rfl,ak,?_,by rw[ai,ai,bl];rfl,λj h1 h2=>?_,⟨by rw[ai,ai];show ds.length+1<=zs.length+1;omega,by rw[av,dzk];rfl,uG dzn (λh=>by have hb:(!wo (J8 (kx,x)∈List.map J8 wE))=true:=hb;rw[wB (nE h)]at hb;cases hb)⟩,by rw[aB dek.symm];exact hkeD,dkeys,by rw[ai];show zs.length+1<=8;omega,UE a _ (uS a _ SF),np.mono (uS.trans UE),TF,λb o hb e=>?_,pD.aB dep.symm⟩
   ·rw[av];exact((dys.mono uS).mono UE).append (.cons (L2.Dp.tup (tuE q3 _ JA) (.cons ‹12› (.cons ‹12› (.cons (L2.Dp.tup (tuE qs _ (QP qs _ hqs)) (X3 _)) (.cons (SO.mono UE) .nil))))) .nil)
   ·by_cases hj:j < ds.length
    ·rw[List.getElem_append_left hj,List.getElem_append_left ‹21›];exact Op j hj ‹21›
    ·have ej:j=ds.length:=by rw [ai,cy] at h1; omega
     subst ej;have e1:(ds++[(⟨kx,x,es,bt⟩:DR)])[ds.length]=⟨kx,x,es,bt⟩:=by simp
     have e2:(dt++[EJ])[ds.length]=EJ:=by
      have:(dt++[EJ])[ds.length]?=some EJ:=by rw[<- bl];simp
      exact(bo.mp this).2
     rw[e1,e2];exact⟨T2.kx kx hkm,T2.wx x QA,hes,⟨λy hy=>⟨T2.wx y (subs y hy),subs y hy⟩,nds⟩,c,c16,EU⟩
   ·rw[aB (aD e hdeH)];exact QP b _ (oB b _ hb (Xt b _ (aD e hkeH) (OU b _ hb (o2 b _ hb e))))
  ·rintro σ H2 ⟨ds,dt,wE,ys,zs,v7,v8,v9,rfl,UC,dys,bl,Op,⟨dz,dzk,dzn⟩,hke2,dzs,z8,SF,np,T2,o2,p2⟩;refine⟨_,rfl,_,rfl,de,_,rfl,.inl ⟨XQ UC,fun qd hqd=>?_⟩⟩;exists 1,sqd,hqdqd,H2,qd,(.tup ys),hqd,H3;refine⟨_,rfl,by show 2<=ab; decide,fun m6 WJ=>?_⟩;exists 1,FA,E7,H3,m6,(.lst [.int 9,.int 16]),WJ,H6
   obtain⟨z,pi,z0,z16⟩:∃z:Int,tS [V.int 9,V.int 16] gr=some (.int z)/\0<=z/\z<=16:=by
    rcases UA with rfl|rfl
    ·exact⟨9,aK (j:=0) rfl,by decide,by decide⟩
    ·exact⟨16,aK (j:=1) rfl,by decide,by decide⟩
   refine⟨_,rfl,m6,_,_,_,rfl,rfl,XQ E7,pi,by show 1<=ab;decide,λrm AB=>?_⟩;exists 1,QO,E8,H6,rm,(.lst [.int z]),AB,H7;have s27:=(sqd.trans FA).trans QO;have p7:=p2.same s27;refine⟨_,rfl,p,rm,tl,D1,wl,ks.map (·.kind),ws,z,rfl,p7,T2.off p2 s27.off,E8,z0,z16,λbv bt EJ c r' H8 SO EU hc r'0 r'z _ o8 p8=>?_⟩;have OU:Off p H2 H8:=(sqd.trans FA).off.trans (dU.fresh AB QO o8);have uS:=sU p2 OU;have tu38:fH H3 H8:=sU (p2.same sqd) (FA.off.trans (dU.fresh AB QO o8));refine⟨by show 3<=ab;decide,λpr VC=>?_⟩;have sP:=X6 (o:=.tup [.ref a,.ref qd,bv]) VC;refine k _ ks ds bt dt EJ _ ⟨pr,.ref a,.ref qd,bv,rfl,ak,L2.Dp.tup (sP a _ (uS a _ SF)) (np.mono (uS.trans (XX sP))),L2.Dp.tup (sP qd _ (tu38 qd _ hqdqd)) (dys.mono (uS.trans (XX sP))),SO.mono (XX sP)⟩ ⟨ws,by omega,P5,by omega,bl,Op,⟨c,by omega,EU⟩,kg,by omega,by rw[dzk];exact dzn,by omega⟩ ((o2.trans OU).trans sP.off)
end
end K26
end
section
namespace K26
open PySem PyProof.Rows L2 F
variable {K:PySem.W.Frag}{H H':Hp}{a:ax}{xs:LV}{v:V}{ks:List KR}{ds:List DR}{run:T}
theorem SqL.keep(h:SqL K H a xs)(k:∀o,H a=some o->H' a=some o):SqL K H' a xs:=by
 rcases h with(h|⟨o,h⟩)|h
 ·exact .inl (.inl (k _ h))
 ·exact .inl (.inr ⟨o,k _ h⟩)
 ·exact .inr h
theorem SqL.lt(h:SqL K H a xs)(k:LT H H'):SqL K H' a xs:=by
 rcases h with(h|⟨o,h⟩)|h
 ·exact .inl (.inl (k.1 _ _ h))
 ·exact .inl (.inr ⟨o,k.3 _ _ _ h⟩)
 ·exact .inr h
noncomputable def prT(ks:List KR)(ds:List DR)(run:T):T:=.tup [.tup (ks.map yB),.tup (ds.map FF),run]
theorem rF.dp(h:rF H v ks ds run):Dp H (prT ks ds run) v:=by
 obtain⟨q,kv,dv,rv,rfl,hq,d1,d2,d3⟩:=h;exact L2.Dp.tup hq (.cons d1 (.cons d2 (.cons d3 (by rw[DpL]))))
section
variable {P:vy}{w:xm}{K:PySem.W.Frag}{mg:MG}{base:Heap}{t:tT}{c:pR}
inductive Fw (K:PySem.W.Frag) (vs:LV) (H:Hp) (Q:VK) (E_:XK):Prop
 |mk (a:ax) (ns:List Int):vs=[.ref a]->SqL K H a (ns.map V.int)->ns.length<=63->(∀H',Q (.bl true) H')->Fw K vs H Q E_
theorem U7(D:Defs K mg t)(S:xS K mg c)(G2:zo mg)(GL:BN P w K mg t):aW P w K mg base bm 33 t.law.1 t.law.2 ["_law_script"] (Fw K):=by
 have Gbp:=@Nb P w K mg base t D;have Gbx:=@Qz P w K mg base t D;have Gbe:=@WW P w K mg base t D;have Gck:=@Mi P w K mg base t D;have Gau:=@QM P w K mg base t D 18;have Gbj:=@RG P w K mg base t D GL;have Gbl:=@Qc P w K mg base t c D S G2 GL;have hz:ab=16777216:=cn;refine D.law.fn.ok zJ ‹4› ‹3›
 ·obtain⟨a,ns,rfl,_⟩:=h;rfl
 ·obtain ⟨a,ns,rfl,hS,hl,k⟩:=h
  refine⟨_,(au (fG di rfl (iY rfl D.ni (aj (aN (J6 rfl) (by rfl) D.VF Tq (aj aG (aj (aN (La rfl) (by rfl) D.Vq S9 (aj aG (aj (aN iK (by rfl) D.cW cg ‹15›) aq))) aq))) aq)) (aO (i:=1) zJ.nd rfl (uv rfl))
   (au (aU (i:=2) zJ.nd rfl (uv rfl) (aH D.vq Gbe ‹2› (by rfl) (aj (aH D.kI Gbp ‹2› (by rfl) (aj (aH D.mF Gbx ‹2› (by rfl) (aj (pv 0) ‹14›)) aq)) aq)))
   (au (aU (i:=3) zJ.nd rfl (uv rfl) (aH D.mG Gck ‹2› (by rfl) (aj (pv 2) aq)))
   (au (aU (i:=4) zJ.nd rfl (uv rfl) (aH D.gW Gbl ‹2› (by rfl) (aj (pv 3) aq)))
   (au (bL (XN (kZ (gH (fB (aH D.fu Gau ‹2› (by rfl) (aj (pv 4) (aj (pv 2) aq))))) (je (aV Fo (aH D.gZ Gbj ‹2› (by rfl) (aj (pv 4) aq)) (pv 3) (aR _)))))
   (aF (aM jP))
   aX)
   (aF (bL (gH (fB (aH D.fu Gau ‹2› (by rfl) (aj (aH D.gW Gbl ‹2› (by rfl) (aj (aH D.gZ Gbj ‹2› (by rfl) (aj (pv 2) aq)) aq)) (aj (pv 2) aq)))))
   (aF (aM jP))
   aX)))))))
   (aF (aM jP))),?_⟩
  refine⟨_,rfl,a,_,rfl,.inl hS,_,_,rfl,_,_,rfl,_,rfl,?_,?_,?_⟩
  ·split <;>split <;>omega
  ·rw[aa];split <;>split <;>omega
  refine mq (lo:=0) (λi σ H2=>∃(v1 v2 v3 v4:OV),σ=[some (.ref a),v1,v2,v3,v4]/\SqL K H2 a (ns.map V.int)) ⟨_,_,_,_,rfl,hS⟩ ?_ ?_
  ·rintro i σ H2 hi ⟨v1,v2,v3,v4,rfl,Sl⟩
   have hi7:i<7:=by
    revert hi
    split <;>split <;>omega
   refine⟨_,rfl,_,rfl,a,ns,0+(i:Int),rfl,Sl,hl,by omega,by omega,λn0 H3 s3=>⟨n0,rfl,λp a1 b1 c1 hp=>⟨p,rfl,X8,λv ks ds run dt rr H5 pa G o5=>?_⟩⟩⟩
   have hS5:SqL K H5 a (ns.map V.int):=K26.SqL.keep Sl λo e=>by
    have e3:=s3 a o e;have ap:=aD e3 hp;exact o5 a o ap (by rw[aB ap];exact e3)
   obtain⟨ww,GW⟩:=id G;have sp:=DX GW;have sh:jD 18 (prT ks ds run):=K1 GW;have nn:∀x:Str,¬(!decide (V.str x=V.str x))=true:=λx=>by rw[aw rfl];exact az
   refine⟨_,rfl,v,ks,ds,run,dt,rr,rfl,pa,G,λH6 s6=>⟨_,rfl,ww,ks,ds,run,dt,rr,rfl,GW,sp,λv7 H7 pa7 l7=>?_⟩⟩;have d7:=((pa.mono (XX s6)).mono l7.tups);refine⟨_,rfl,_,rfl,v7,v,prT ks ds run,rfl,sh,pa7.dp,d7.dp,λH8 s8=>?_⟩;have d8:=d7.mono (XX s8);refine⟨_,rfl,iu ⟨_,rfl,v7,ks,ds,run,dt,rr,rfl,pa7.mono (XX s8),G,λH9 s9=>⟨_,rfl,rfl,_,rfl,aL (nn _) ?_⟩⟩⟩;have d9:=d8.mono (XX s9);refine⟨_,rfl,v,ks,ds,run,dt,rr,rfl,d9,G,λAU AM=>⟨ww,ks,ds,run,dt,rr,rfl,GW,sp,λON UZ pa11 l11=>?_⟩⟩;have d11:=(d9.mono (XX AM)).mono l11.tups;refine⟨_,rfl,ON,v,prT ks ds run,rfl,sh,pa11.dp,d11.dp,λH12 s12=>⟨_,rfl,iu ?_⟩⟩;have lt:LT H5 H12:=(LT.same s6).trans (l7.trans ((LT.same ((s8.trans s9).trans AM)).trans (l11.trans (LT.same s12))));exact⟨_,_,_,_,rfl,K26.SqL.lt hS5 lt⟩
  ·rintro σ H2 ⟨v1,v2,v3,v4,rfl,Sl⟩;exact k H2
end
end K26
end
section
namespace K26
open PySem PyProof.Rows L2
variable {w:xm}{K:PySem.W.Frag}{ad:Str->ax}{tb:List (Str×LS)}{P:vy}{h:Heap}{mg:MG}{st:gz}{ct oc pm:ue}{an od:Option ax}{C:ax}{Bz:LS}{YP:xm->Heap->Prop}
noncomputable def Jw:LS->LU->Bool
 |[],[]=>true
 |x::xs,.str y _::r=>decide (x=y) && Jw xs r
 |_,_=>false
theorem DN:∀{xs:LS} {vs:LU},Jw xs vs=true->Vals (xs.map V.str) vs
 |[],[],_=>.nil
 |x::xs,.str y _::r,h=>by
  unfold Jw at h;rw[jp,oP]at h;obtain⟨rfl,h⟩:=h;exact .cons ⟨_,rfl⟩ (DN h)
inductive uN (w:xm) (K:PySem.W.Frag) (ad:Str->ax):List (Str×LS)->List NB->Prop
 |nil:uN w K ad [] []
 |cons {k:Str} {tk:Tok} {a:ax} {vs:LS} {tb:List (Str×LS)} {es:List NB} {od:Option ax} {its:AV} {n:Nat} {sl:Array (Option ue)} (ra:ad k=a) (rb:K.lookup a=some ⟨.type "tuple",od,.seq its n,sl⟩) (rc:Jw vs its.toList=true) (rd:its.size<=9) (re:uN w K ad tb es):uN w K ad ((k,vs)::tb) (⟨Xw.keyHash w.params k,.str k tk,.ref a⟩::es)
theorem uN.row{es:List NB}(h:uN w K ad tb es):∀p∈tb,∀H:Hp,SqT K H (ad p.1) (p.2.map V.str):=by
 induction h with
 |nil=>exact λp hp=>nomatch hp
 |cons e lu va zi _ ih=>
  intro p hp H;rcases aT.mp hp with rfl|hp
  ·subst e;exact .inr ⟨_,_,_,lu,rfl,rfl,dq zi (by rw[cn];decide),DN va⟩
  ·exact ih p hp H
theorem uN.keys{es:List NB}(h:uN w K ad tb es):∀e∈es,∃k,(cU P w).is k e.key=true/\e.hash=(cU P w).hash k:=by
 induction h with
 |nil=>exact λp hp=>nomatch hp
 | @cons k tk _ _ _ _ _ _ _ _ e lu va zi _ ih=>
  intro p hp;rcases aT.mp hp with rfl|hp
  ·exact⟨.inr k,(show Mm k (.str k tk)=true by simp[Mm]),rfl⟩
  ·exact ih p hp
theorem uN.pairs{es:List NB}(h:uN w K ad tb es):Pairs (cU P w) es (tb.map λp=>((.inr p.1:ga),xn (ad p.1))):=by
 induction h with
 |nil=>exact .nil
 | @cons k tk _ _ _ _ _ _ _ _ e lu va zi _ ih=>
  exact .cons (show Mm k (.str k tk)=true by simp[Mm]) (congrArg xn e.symm) ih
theorem N7(ad:Str->ax):∀tb:List (Str×LS),KV (tb.map λp=>((.inr p.1:ga),V.ref (ad p.1))) (tb.map λp=>((.inr p.1:ga),xn (ad p.1)))
 |[]=>.nil
 |_::r=>.cons ⟨rfl,rfl⟩ (N7 ad r)
theorem K5(ad:Str->ax)(h:(tb.map (·.1)).Nodup):((tb.map λp=>((.inr p.1:ga),xn (ad p.1))).map (·.1)).Nodup:=by
 have e:((tb.map λp=>((.inr p.1:ga),xn (ad p.1))).map (·.1))=(tb.map (·.1)).map (By:Str->ga):=by
  rw[kQ,kQ];rfl
 rw[e];exact h.map _ λa b n q=>n (By.inj q)
theorem G9{c:ax}{es:Array NB}{ep:Nat}(h1:(c== An)=false)(lu:K.lookup c=some ⟨.type "dict",none,.dict es ep,#[]⟩)(h:uN w K ad tb es.toList)(nd:(tb.map (·.1)).Nodup):Yt P w K c ad tb:=
 ⟨⟨h1,_,es,ep,_,lu,⟨rfl,rfl,rfl⟩,rfl,λe he=>h.keys e (mi.mpr he),h.pairs,K5 ad nd,N7 ad tb⟩,h.row⟩
theorem Ov:(exprs.map (·.1)).Nodup:=by decide +kernel
theorem Qd:(stats.map (·.1)).Nodup:=by decide +kernel
theorem K4:(mj.map (·.1)).Nodup:=by decide +kernel
def QG:List (Str×ax)->Str->ax
 |[],_=>0
 |(k,a)::r,x=>if x=k then a else QG r x
noncomputable def adT:Str->Str->ax:=fun s=>if s="e"then QG [("me",87),("name",88),("new",89),("get",90),("ask",91),("up",92),("plus",93),("minus",94),("less",95),("alike",96),("or",97)]else if s="s"then QG [("let",99),("put",100),("drop",101),("tell",102),("do",103),("give",104),("throw",105),("become",106),("if",107),("while",108),("repeat",109),("try",110),("turn",111),("strip",112),("elders",113)]else QG [("if",183),("while",184),("repeat",185),("try",186)]
theorem el1{α:Type}{C:List α->Prop}(h:∀v0,C [v0]):∀us:List α,us.length=1->C us
 |[v0],_=>h v0
theorem we{α:Type}{C:List α->Prop}(h:∀v0 v1,C [v0,v1]):∀us:List α,us.length=2->C us
 |[v0,v1],_=>h v0 v1
theorem el3{α:Type}{C:List α->Prop}(h:∀v0 v1 v2,C [v0,v1,v2]):∀us:List α,us.length=3->C us
 |[v0,v1,v2],_=>h v0 v1 v2
theorem el4{α:Type}{C:List α->Prop}(h:∀v0 v1 v2 v3,C [v0,v1,v2,v3]):∀us:List α,us.length=4->C us
 |[v0,v1,v2,v3],_=>h v0 v1 v2 v3
theorem el7{α:Type}{C:List α->Prop}(h:∀v0 v1 v2 v3 v4 v5 v6,C [v0,v1,v2,v3,v4,v5,v6]):∀us:List α,us.length=7->C us
 |[v0,v1,v2,v3,v4,v5,v6],_=>h v0 v1 v2 v3 v4 v5 v6
def FQ(K:PySem.W.Frag)(mg:MG)(x:Str)(st:gz):Prop:=∃f fd,Fun K x x st f fd/\mg x=some (.ref f)
theorem mkF(X:K.In h)(G:h.Ns wy mg){x:Str}{f:ax}{sl:Array (Option ue)}{kV dc cd:ue}(a:PySem.W.nsIn K wy x=some (some (.ref f)))(l:K.lookup f=some ⟨oc,od,.func (PySem.W.fnOf x x (uK st) (rC st) (aJ st) .none kV dc pm an cd ct),sl⟩)(c:PySem.W.codeIn K cd x=true)(k:PySem.W.keepIn K (.ref f)=true):FQ K mg x st:=⟨f,_,NP l c k,gv X G a⟩
def FM(K:PySem.W.Frag)(C:ax)(x q:Str)(st:gz):Prop:=∃f fd,Fun K x q st f fd/\yn K C x f
theorem mkM{x q:Str}{f:ax}{sl:Array (Option ue)}{kV dc cd:ue}(a:PySem.W.findIn K (.ref C) x=some (some (.ref f)))(i:PySem.W.isFn K (.ref f)=true)(l:K.lookup f=some ⟨oc,od,.func (PySem.W.fnOf x q (uK st) (rC st) (aJ st) .none kV dc pm an cd ct),sl⟩)(c:PySem.W.codeIn K cd q=true)(k:PySem.W.keepIn K (.ref f)=true):FM K C x q st:=⟨f,_,NP l c k,a,i,k⟩
theorem all_mk{l:PySem.W.OpenLaw}{fa:ax}{cQ cV jY:ax}{vi wP C4:Array NB}{A2 B6 LX:Nat}{FX FY AD B7 B8 A3 C5 A4 A5 wS LY B9:Tok}(X:K.In h)(G:h.Ns wy mg)(hfa:mg "law" =some (.ref fa))
  (t0:FQ K mg "is_tuple_of" (top 7)) (t1:FQ K mg "is_name" (top 8)) (t2:FQ K mg "is_kind" (top 9)) (t3:FQ K mg "are_kinds" (top 10)) (t4:FQ K mg "kinds_of" (top 11)) (t5:FQ K mg "is_family" (top 12)) (t6:FQ K mg "elders_first" (top 13)) (t7:FQ K mg "tell_orders" (top 23)) (t8:FQ K mg "has_quarrel" (top 24)) (t9:FQ K mg "quarrel_among" (top 25)) (t10:FQ K mg "rows_by" (top 26)) (t11:FQ K mg "merge_rows" (top 27)) (t12:FQ K mg "first_free" (top 28)) (t13:FQ K mg "ring_among" (top 29)) (t14:FQ K mg "hold_of" (top 30)) (t15:FQ K mg "family_of" (top 33)) (t16:FQ K mg "are_few_names" (top 34)) (t17:FQ K mg "are_kind_rows" (top 37)) (t18:FQ K mg "stand_elders_ahead" (top 38)) (t19:FQ K mg "show_program" (top 42)) (t20:FQ K mg "show_kind" (top 43)) (t21:FQ K mg "show_body" (top 44)) (t22:FQ K mg "show_block" (top 45)) (t23:FQ K mg "show_statement" (top 46)) (t24:FQ K mg "show_part" (top 47)) (t25:FQ K mg "show_parts" (top 48)) (t26:FQ K mg "show_expression" (top 49)) (t27:FQ K mg "is_number_word" (top 51)) (t28:FQ K mg "read_program" (top 52)) (t29:FQ K mg "read_kinds" (top 53)) (t30:FQ K mg "read_kind" (top 54)) (t31:FQ K mg "read_deeds" (top 55)) (t32:FQ K mg "read_deed" (top 56)) (t33:FQ K mg "read_body" (top 57)) (t34:FQ K mg "read_block" (top 58)) (t35:FQ K mg "read_statement" (top 59)) (t36:FQ K mg "read_part" (top 60)) (t37:FQ K mg "read_args" (top 61)) (t38:FQ K mg "read_x" (top 62)) (t39:FQ K mg "read_expression" (top 63)) (t40:FQ K mg "_law_cell" (top 65)) (t41:FQ K mg "_law_purse" (top 66)) (t42:FQ K mg "_law_take" (top 67)) (t43:FQ K mg "_law_word" (top 68)) (t44:FQ K mg "_law_words" (top 69)) (t45:FQ K mg "_law_merge" (top 70)) (t46:FQ K mg "_law_some" (top 71)) (t47:FQ K mg "_law_kinds" (top 72)) (t48:FQ K mg "_law_e" (top 73)) (t49:FQ K mg "_law_s" (top 74)) (t50:FQ K mg "_law_b" (top 75)) (t51:FQ K mg "_law_p" (top 76)) (t52:FQ K mg "_law_e_text" (top 77)) (t53:FQ K mg "_law_s_rows" (top 78)) (t54:FQ K mg "_law_b_rows" (top 79)) (t55:FQ K mg "_law_text" (top 80)) (t56:FQ K mg "_law_same" (top 81)) (t57:FQ K mg "law" (top 82))
  (z0:PySem.W.nsIn K wy "abs" =some none) (z1:PySem.W.nsIn K wy "all" =some none) (z2:PySem.W.nsIn K wy "any" =some none) (z3:PySem.W.nsIn K wy "bool" =some none) (z4:PySem.W.nsIn K wy "dict" =some none) (z5:PySem.W.nsIn K wy "enumerate" =some none) (z6:PySem.W.nsIn K wy "int" =some none) (z7:PySem.W.nsIn K wy "isinstance" =some none) (z8:PySem.W.nsIn K wy "len" =some none) (z9:PySem.W.nsIn K wy "list" =some none) (z10:PySem.W.nsIn K wy "max" =some none) (z11:PySem.W.nsIn K wy "min" =some none) (z12:PySem.W.nsIn K wy "range" =some none) (z13:PySem.W.nsIn K wy "set" =some none) (z14:PySem.W.nsIn K wy "str" =some none) (z15:PySem.W.nsIn K wy "tuple" =some none) (z16:PySem.W.nsIn K wy "zip" =some none)
  (yEXPRESSIONS:PySem.W.nsIn K wy "EXPRESSIONS" =some (some (.ref cQ))) (mEXPRESSIONS:(cQ== An)=false) (luEXPRESSIONS:K.lookup cQ=some ⟨.type "dict",none,.dict vi A2,#[]⟩) (teEXPRESSIONS:uN w K (adT "e") exprs vi.toList)
  (ySTATEMENTS:PySem.W.nsIn K wy "STATEMENTS" =some (some (.ref cV))) (mSTATEMENTS:(cV== An)=false) (luSTATEMENTS:K.lookup cV=some ⟨.type "dict",none,.dict wP B6,#[]⟩) (teSTATEMENTS:uN w K (adT "s") stats wP.toList)
  (yJOINTS:PySem.W.nsIn K wy "JOINTS" =some (some (.ref jY))) (mJOINTS:(jY== An)=false) (luJOINTS:K.lookup jY=some ⟨.type "dict",none,.dict C4 LX,#[]⟩) (teJOINTS:uN w K (adT "j") mj C4.toList)
  (yReader:PySem.W.nsIn K wy "Reader" =some (some (.ref C))) (EK:FM K C "__init__" "Reader.__init__" jk) (UF:FM K C "need" "Reader.need" qG) (OW:FM K C "ahead" "Reader.ahead" oY) (UH:FM K C "take" "Reader.take" qz) (C6:FM K C "take_word" "Reader.take_word" j8) (C7:FM K C "take_name" "Reader.take_name" kJ) (A7:FM K C "take_number" "Reader.take_number" jy) (C8:FM K C "take_rest" "Reader.take_rest" kj) (Go:FM K C "end_row" "Reader.end_row" mR)
  (pg:PySem.W.plainGet K C Str.empty=true) (hd:PySem.W.hasDictIn K C=true) (po:PySem.W.plainOver K C=true) (sa:PySem.W.findIn K (.ref C) "__setattr__" =some (some (.builtin "object.__setattr__"))) (mk:PySem.W.makesIn K C=true) (kc:PySem.W.keepIn K (.ref C)=true)
  (nR:PySem.W.findIn K (.ref C) "rows" =some none) (nI:PySem.W.findIn K (.ref C) "row" =some none) (nP:PySem.W.findIn K (.ref C) "place" =some none) (nK:PySem.W.findIn K (.ref C) "kinds" =some none) (nN:PySem.W.findIn K (.ref C) "names" =some none) (nS:PySem.W.findIn K (.ref C) "statements" =some none)
  (LZ:PySem.W.nsIn K wy "LETTERS" =some (some (.str abc FX))) (L0:PySem.W.nsIn K wy "FIGURES" =some (some (.str "0123456789" FY))) (A8:PySem.W.nsIn K wy "MOST_LETTERS" =some (some (.int 6 AD))) (C9:PySem.W.nsIn K wy "MOST_KINDS" =some (some (.int 7 B7))) (Da:PySem.W.nsIn K wy "MOST_NAMES" =some (some (.int 3 B8))) (Cb:PySem.W.nsIn K wy "MOST_NUMBER" =some (some (.int 999999999 A3))) (EL:PySem.W.nsIn K wy "MOST_ARGS" =some (some (.int 3 C5))) (Cc:PySem.W.nsIn K wy "MOST_WITHIN" =some (some (.int 4 A4))) (Cf:PySem.W.nsIn K wy "MOST_BLOCKS" =some (some (.int 3 A5))) (xA:PySem.W.nsIn K wy "MOST_STATEMENTS" =some (some (.int 16 wS))) (OX:PySem.W.nsIn K wy "MOST_X" =some (some (.int 20 LY))) (Db:PySem.W.nsIn K wy "MOST_DEEDS" =some (some (.int 8 B9)))
  :∃fd:uB,(∀(s:ut) (v:ue),XD s fd ⟨[v],[]⟩ [("_law_script",v)])/\∀base:Heap,K.In base->base.Ns wy mg->aW l.prog w K mg base bm 33 fa fd ["_law_script"] (Fw K):=by
 obtain⟨f0,g0,F0,m0⟩:=t0;obtain⟨f1,g1,F1,m1⟩:=t1;obtain⟨f2,g2,F2,m2⟩:=t2;obtain⟨f3,g3,F3,m3⟩:=t3;obtain⟨f4,g4,F4,m4⟩:=t4;obtain⟨f5,g5,F5,m5⟩:=t5;obtain⟨f6,g6,F6,m6⟩:=t6;obtain⟨f7,g7,F7,m7⟩:=t7;obtain⟨f8,g8,F8,m8⟩:=t8;obtain⟨f9,g9,F9,m9⟩:=t9;obtain⟨f10,g10,F10,m10⟩:=t10;obtain⟨f11,g11,F11,m11⟩:=t11;obtain⟨f12,g12,F12,m12⟩:=t12;obtain⟨f13,g13,F13,m13⟩:=t13;obtain⟨f14,g14,F14,m14⟩:=t14;obtain⟨f15,g15,F15,m15⟩:=t15;obtain⟨f16,g16,F16,m16⟩:=t16;obtain⟨f17,g17,F17,m17⟩:=t17;obtain⟨f18,g18,F18,m18⟩:=t18;obtain⟨f19,g19,F19,m19⟩:=t19;obtain⟨f20,g20,F20,m20⟩:=t20;obtain⟨f21,g21,F21,m21⟩:=t21;obtain⟨f22,g22,F22,m22⟩:=t22;obtain⟨f23,g23,F23,m23⟩:=t23;obtain⟨f24,g24,F24,m24⟩:=t24;obtain⟨f25,g25,F25,m25⟩:=t25;obtain⟨f26,g26,F26,m26⟩:=t26;obtain⟨f27,g27,F27,m27⟩:=t27;obtain⟨f28,g28,F28,m28⟩:=t28;obtain⟨f29,g29,F29,m29⟩:=t29;obtain⟨f30,g30,F30,m30⟩:=t30;obtain⟨f31,g31,F31,m31⟩:=t31;obtain⟨f32,g32,F32,m32⟩:=t32;obtain⟨f33,g33,F33,m33⟩:=t33;obtain⟨f34,g34,F34,m34⟩:=t34;obtain⟨f35,g35,F35,m35⟩:=t35;obtain⟨f36,g36,F36,m36⟩:=t36;obtain⟨f37,g37,F37,m37⟩:=t37;obtain⟨f38,g38,F38,m38⟩:=t38;obtain⟨f39,g39,F39,m39⟩:=t39;obtain⟨f40,g40,F40,m40⟩:=t40;obtain⟨f41,g41,F41,m41⟩:=t41;obtain⟨f42,g42,F42,m42⟩:=t42;obtain⟨f43,g43,F43,m43⟩:=t43;obtain⟨f44,g44,F44,m44⟩:=t44;obtain⟨f45,g45,F45,m45⟩:=t45;obtain⟨f46,g46,F46,m46⟩:=t46;obtain⟨f47,g47,F47,m47⟩:=t47;obtain⟨f48,g48,F48,m48⟩:=t48;obtain⟨f49,g49,F49,m49⟩:=t49;obtain⟨f50,g50,F50,m50⟩:=t50;obtain⟨f51,g51,F51,m51⟩:=t51;obtain⟨f52,g52,F52,m52⟩:=t52;obtain⟨f53,g53,F53,m53⟩:=t53;obtain⟨f54,g54,F54,m54⟩:=t54;obtain⟨f55,g55,F55,m55⟩:=t55;obtain⟨f56,g56,F56,m56⟩:=t56;obtain⟨f57,g57,F57,m57⟩:=t57;have e:=hfa.symm.trans m57;cases e
 have BL:∀(s:ut) (v:ue),XD s g57 ⟨[v],[]⟩ [("_law_script",v)]:=by
  obtain⟨⟨_,_,_,_,_,_,_,_,_,rfl,_⟩,_⟩:=F57;exact λs v=>.of_eq rfl
 have T:Defs K mg ⟨(f0,g0),(f1,g1),(f2,g2),(f3,g3),(f4,g4),(f5,g5),(f6,g6),(f7,g7),(f8,g8),(f9,g9),(f10,g10),(f11,g11),(f12,g12),(f13,g13),(f14,g14),(f15,g15),(f16,g16),(f17,g17),(f18,g18),(f19,g19),(f20,g20),(f21,g21),(f22,g22),(f23,g23),(f24,g24),(f25,g25),(f26,g26),(f27,g27),(f28,g28),(f29,g29),(f30,g30),(f31,g31),(f32,g32),(f33,g33),(f34,g34),(f35,g35),(f36,g36),(f37,g37),(f38,g38),(f39,g39),(f40,g40),(f41,g41),(f42,g42),(f43,g43),(f44,g44),(f45,g45),(f46,g46),(f47,g47),(f48,g48),(f49,g49),(f50,g50),(f51,g51),(f52,g52),(f53,g53),(f54,g54),(f55,g55),(f56,g56),(fa,g57),cQ,cV,jY,adT⟩:=⟨⟨F0,F0.binds λ_ _ _ _ _ _=>we λ_ _=>rfl,m0⟩,⟨F1,F1.binds λ_ _ _ _ _ _=>el1 λ_=>rfl,m1⟩,⟨F2,F2.binds λ_ _ _ _ _ _=>we λ_ _=>rfl,m2⟩,⟨F3,F3.binds λ_ _ _ _ _ _=>we λ_ _=>rfl,m3⟩,⟨F4,F4.binds λ_ _ _ _ _ _=>el1 λ_=>rfl,m4⟩,⟨F5,F5.binds λ_ _ _ _ _ _=>el1 λ_=>rfl,m5⟩,⟨F6,F6.binds λ_ _ _ _ _ _=>el1 λ_=>rfl,m6⟩,⟨F7,F7.binds λ_ _ _ _ _ _=>el1 λ_=>rfl,m7⟩,⟨F8,F8.binds λ_ _ _ _ _ _=>el1 λ_=>rfl,m8⟩,⟨F9,F9.binds λ_ _ _ _ _ _=>we λ_ _=>rfl,m9⟩,⟨F10,F10.binds λ_ _ _ _ _ _=>we λ_ _=>rfl,m10⟩,⟨F11,F11.binds λ_ _ _ _ _ _=>we λ_ _=>rfl,m11⟩,⟨F12,F12.binds λ_ _ _ _ _ _=>el1 λ_=>rfl,m12⟩,⟨F13,F13.binds λ_ _ _ _ _ _=>el1 λ_=>rfl,m13⟩,⟨F14,F14.binds λ_ _ _ _ _ _=>we λ_ _=>rfl,m14⟩,⟨F15,F15.binds λ_ _ _ _ _ _=>el1 λ_=>rfl,m15⟩,⟨F16,F16.binds λ_ _ _ _ _ _=>el1 λ_=>rfl,m16⟩,⟨F17,F17.binds λ_ _ _ _ _ _=>el1 λ_=>rfl,m17⟩,⟨F18,F18.binds λ_ _ _ _ _ _=>el1 λ_=>rfl,m18⟩,⟨F19,F19.binds λ_ _ _ _ _ _=>el1 λ_=>rfl,m19⟩,⟨F20,F20.binds λ_ _ _ _ _ _=>el1 λ_=>rfl,m20⟩,⟨F21,F21.binds λ_ _ _ _ _ _=>we λ_ _=>rfl,m21⟩,⟨F22,F22.binds λ_ _ _ _ _ _=>el1 λ_=>rfl,m22⟩,⟨F23,F23.binds λ_ _ _ _ _ _=>el1 λ_=>rfl,m23⟩,⟨F24,F24.binds λ_ _ _ _ _ _=>we λ_ _=>rfl,m24⟩,⟨F25,F25.binds λ_ _ _ _ _ _=>we λ_ _=>rfl,m25⟩,⟨F26,F26.binds λ_ _ _ _ _ _=>el1 λ_=>rfl,m26⟩,⟨F27,F27.binds λ_ _ _ _ _ _=>el1 λ_=>rfl,m27⟩,⟨F28,F28.binds λ_ _ _ _ _ _=>el1 λ_=>rfl,m28⟩,⟨F29,F29.binds λ_ _ _ _ _ _=>el1 λ_=>rfl,m29⟩,⟨F30,F30.binds λ_ _ _ _ _ _=>el1 λ_=>rfl,m30⟩,⟨F31,F31.binds λ_ _ _ _ _ _=>el1 λ_=>rfl,m31⟩,⟨F32,F32.binds λ_ _ _ _ _ _=>el1 λ_=>rfl,m32⟩,⟨F33,F33.binds λ_ _ _ _ _ _=>we λ_ _=>rfl,m33⟩,⟨F34,F34.binds λ_ _ _ _ _ _=>we λ_ _=>rfl,m34⟩,⟨F35,F35.binds λ_ _ _ _ _ _=>we λ_ _=>rfl,m35⟩,⟨F36,F36.binds λ_ _ _ _ _ _=>el3 λ_ _ _=>rfl,m36⟩,⟨F37,F37.binds λ_ _ _ _ _ _=>we λ_ _=>rfl,m37⟩,⟨F38,F38.binds λ_ _ _ _ _ _=>el1 λ_=>rfl,m38⟩,⟨F39,F39.binds λ_ _ _ _ _ _=>we λ_ _=>rfl,m39⟩,⟨F40,F40.binds λ_ _ _ _ _ _=>we λ_ _=>rfl,m40⟩,⟨F41,F41.binds λ_ _ _ _ _ _=>el1 λ_=>rfl,m41⟩,⟨F42,F42.binds λ_ _ _ _ _ _=>we λ_ _=>rfl,m42⟩,⟨F43,F43.binds λ_ _ _ _ _ _=>we λ_ _=>rfl,m43⟩,⟨F44,F44.binds λ_ _ _ _ _ _=>el3 λ_ _ _=>rfl,m44⟩,⟨F45,F45.binds λ_ _ _ _ _ _=>we λ_ _=>rfl,m45⟩,⟨F46,F46.binds λ_ _ _ _ _ _=>el3 λ_ _ _=>rfl,m46⟩,⟨F47,F47.binds λ_ _ _ _ _ _=>el4 λ_ _ _ _=>rfl,m47⟩,⟨F48,F48.binds λ_ _ _ _ _ _=>el3 λ_ _ _=>rfl,m48⟩,⟨F49,F49.binds λ_ _ _ _ _ _=>el4 λ_ _ _ _=>rfl,m49⟩,⟨F50,F50.binds λ_ _ _ _ _ _=>el4 λ_ _ _ _=>rfl,m50⟩,⟨F51,F51.binds λ_ _ _ _ _ _=>el1 λ_=>rfl,m51⟩,⟨F52,F52.binds λ_ _ _ _ _ _=>el1 λ_=>rfl,m52⟩,⟨F53,F53.binds λ_ _ _ _ _ _=>el1 λ_=>rfl,m53⟩,⟨F54,F54.binds λ_ _ _ _ _ _=>el1 λ_=>rfl,m54⟩,⟨F55,F55.binds λ_ _ _ _ _ _=>el1 λ_=>rfl,m55⟩,⟨F56,F56.binds λ_ _ _ _ _ _=>we λ_ _=>rfl,m56⟩,⟨F57,F57.binds λ_ _ _ _ _ _=>el1 λ_=>rfl,m57⟩,eJ X G z0,eJ X G z1,eJ X G z2,eJ X G z3,eJ X G z4,eJ X G z5,eJ X G z6,eJ X G z7,eJ X G z8,eJ X G z9,eJ X G z10,eJ X G z11,eJ X G z12,eJ X G z13,eJ X G z14,eJ X G z15,eJ X G z16⟩
 have GL:BN l.prog w K mg ⟨(f0,g0),(f1,g1),(f2,g2),(f3,g3),(f4,g4),(f5,g5),(f6,g6),(f7,g7),(f8,g8),(f9,g9),(f10,g10),(f11,g11),(f12,g12),(f13,g13),(f14,g14),(f15,g15),(f16,g16),(f17,g17),(f18,g18),(f19,g19),(f20,g20),(f21,g21),(f22,g22),(f23,g23),(f24,g24),(f25,g25),(f26,g26),(f27,g27),(f28,g28),(f29,g29),(f30,g30),(f31,g31),(f32,g32),(f33,g33),(f34,g34),(f35,g35),(f36,g36),(f37,g37),(f38,g38),(f39,g39),(f40,g40),(f41,g41),(f42,g42),(f43,g43),(f44,g44),(f45,g45),(f46,g46),(f47,g47),(f48,g48),(f49,g49),(f50,g50),(f51,g51),(f52,g52),(f53,g53),(f54,g54),(f55,g55),(f56,g56),(fa,g57),cQ,cV,jY,adT⟩:=⟨gv X G yEXPRESSIONS,G9 mEXPRESSIONS luEXPRESSIONS teEXPRESSIONS Ov,gv X G ySTATEMENTS,G9 mSTATEMENTS luSTATEMENTS teSTATEMENTS Qd,gv X G yJOINTS,G9 mJOINTS luJOINTS teJOINTS K4⟩;have G2:zo mg:=⟨⟨_,gv X G LZ⟩,⟨_,gv X G L0⟩,⟨_,gv X G A8⟩,⟨_,gv X G C9⟩,⟨_,gv X G Da⟩,⟨_,gv X G Cb⟩,⟨_,gv X G EL⟩,⟨_,gv X G Cc⟩,⟨_,gv X G Cf⟩,⟨_,gv X G xA⟩,⟨_,gv X G OX⟩,⟨_,gv X G Db⟩⟩;obtain⟨vC,EM,AE,AF⟩:=EK;obtain⟨Hr,UI,L1,UK⟩:=UF;obtain⟨Cg,OY,E9,OZ⟩:=OW;obtain⟨G6,UM,L4,UN⟩:=UH;obtain⟨tU,Dx,x8,DA⟩:=C6;obtain⟨uo,DB,x9,DC⟩:=C7;obtain⟨pY,A9,vj,Bi⟩:=A7;obtain⟨tO,DE,ya,DF⟩:=C8;obtain⟨wQ,GA,BG,GB⟩:=Go;have S:xS K mg ⟨C,(vC,EM),(Hr,UI),(Cg,OY),(G6,UM),(tU,Dx),(uo,DB),(pY,A9),(tO,DE),(wQ,GA)⟩:=⟨⟨pg,hd,po,sa⟩,⟨mk,AF.at_,AF.fn,kc⟩,gv X G yReader,nR,nI,nP,nK,nN,nS,AE,AE.binds λ_ _ _ _ _ _=>we λ_ _=>rfl,L1,L1.binds λ_ _ _ _ _ _=>we λ_ _=>rfl,UK,E9,E9.binds λ_ _ _ _ _ _=>el1 λ_=>rfl,OZ,L4,L4.binds λ_ _ _ _ _ _=>el1 λ_=>rfl,UN,x8,x8.binds λ_ _ _ _ _ _=>we λ_ _=>rfl,DA,x9,x9.binds λ_ _ _ _ _ _=>el1 λ_=>rfl,DC,vj,vj.binds λ_ _ _ _ _ _=>el1 λ_=>rfl,Bi,ya,ya.binds λ_ _ _ _ _ _=>el1 λ_=>rfl,DF,BG,BG.binds λ_ _ _ _ _ _=>el1 λ_=>rfl,GB⟩;exact⟨g57,BL,λbase _ _=>U7 T S G2 GL⟩
theorem walk{l:PySem.W.OpenLaw}{q:vy}{XP:(MG)->Heap->Prop}{d:DefRec}{K:Params->PySem.W.Frag}(hn:l.most=some 63)(Ye:d.params.defaults=[])
  (hY:∀(w:xm) (h:Heap),YP w h->(K w.params).In h)
  (F:∀(w:xm) (mg:MG) (fa:ax) (h:Heap),(K w.params).In h->h.Ns wy mg->mg d.name=some (.ref fa)->
   ∃fd:uB,(∀(s:ut) (u:ue),XD s fd ⟨[u],[]⟩ [("_law_script",u)])/\∀base:Heap,(K w.params).In base->base.Ns wy mg->aW l.prog w (K w.params) mg base bm 33 fa fd ["_law_script"] (Fw (K w.params))):
  PySem.W.WalkO q Bz XP YP l.row.toRowW d [] (λf vs=>PySem.call f vs):=
 L2.Rp (n:=63) (k:=33) (x:= "_law_script") (CX:=fun _=>bm) (sp:=fun w=>Fw (K w.params)) hn ‹11› Ye ⟨rfl,by decide,by decide,rfl⟩ hY F (fun _ _ a ns hl _ hS=>⟨a,ns,rfl,hS,hl,fun _=>rfl⟩) fun _ _ _ _ _ z=>z
end K26
namespace PySem.W.Fast
theorem tw14923322740963440596:True:=trivial
theorem tw10819223620687867017:True:=trivial
theorem tw16232427184423149813:True:=trivial
theorem tw16308551161244247168:True:=trivial
theorem tw16376609468533704868:True:=trivial
theorem tw17079974878535965402:True:=trivial
theorem tw17484652467789147380:True:=trivial
theorem tw11608319759580070514:True:=trivial
theorem tw3022716925801427595:True:=trivial
theorem tw5170411340464814441:True:=trivial
theorem tw14213585199247214196:True:=trivial
theorem tw7179789525840080690:True:=trivial
theorem tw4755905149028880160:True:=trivial
theorem tw5604467331160627930:True:=trivial
theorem tw321480716983495295:True:=trivial
theorem tw13101872812567205116:True:=trivial
theorem tw1015400253273052978:True:=trivial
theorem tw12885503068528815181:True:=trivial
theorem tw16070372309780694932:True:=trivial
theorem tw13733171004779127887:True:=trivial
theorem tw3258120877251551814:True:=trivial
theorem tw16477313526952192549:True:=trivial
theorem tw4729305457690810688:True:=trivial
theorem tw3330599794913400754:True:=trivial
theorem tw1504719839372984123:True:=trivial
theorem tw11239915566489507461:True:=trivial
theorem tw15995845037983937771:True:=trivial
theorem tw3259007831433797537:True:=trivial
theorem tw16894278125028439447:True:=trivial
theorem tw17773252272461942544:True:=trivial
theorem tw10575218672368845988:True:=trivial
theorem tw703099374719717024:True:=trivial
theorem tw9157682669029544971:True:=trivial
theorem tw4642395582394366142:True:=trivial
theorem tw9376501847929641298:True:=trivial
theorem tw2566909825692434030:True:=trivial
theorem tw15647235873724482872:True:=trivial
theorem tw7021986789588727370:True:=trivial
theorem tw12733200124335972868:True:=trivial
theorem tw5062906648427262969:True:=trivial
theorem tw5956531623303392500:True:=trivial
theorem tw6822456875749664262:True:=trivial
theorem tw12258555317812164532:True:=trivial
theorem tw15638073193730220257:True:=trivial
theorem tw2077382116167721871:True:=trivial
theorem tw12050030847695264826:True:=trivial
theorem tw4192683315647705859:True:=trivial
theorem tw7756720180968013933:True:=trivial
theorem tw15525361232272408587:True:=trivial
theorem tw1995499879053621620:True:=trivial
theorem tw12462321199363499604:True:=trivial
theorem tw4844853720090953943:True:=trivial
theorem tw7449621814584965758:True:=trivial
theorem tw7260300850732509083:True:=trivial
theorem tw2278992031108698611:True:=trivial
theorem tw10312633514678235425:True:=trivial
theorem tw9749444147652137815:True:=trivial
theorem tw7375588638927308165:True:=trivial
theorem tw10230264552385023484:True:=trivial
theorem tw17751360866070300969:True:=trivial
theorem tw5466423669784859661:True:=trivial
theorem tw5446685977160563733:True:=trivial
theorem tw17472169678963707650:True:=trivial
theorem tw14081451132393167789:True:=trivial
theorem tw10472328836018465714:True:=trivial
theorem tw11491243735003001513:True:=trivial
theorem tw1454908045709587830:True:=trivial
theorem tw1432305095114363795:True:=trivial
theorem tw16588787381421342623:True:=trivial
theorem tw7108254448209197658:True:=trivial
theorem tw12312583692889229931:True:=trivial
theorem tw3844610755579683971:True:=trivial
theorem tw17566034046258921187:True:=trivial
theorem tw9697674831277219820:True:=trivial
theorem tw16466271720380509587:True:=trivial
theorem tw8122421145598151419:True:=trivial
theorem tw12040195550774568162:True:=trivial
theorem tw11229751968959316156:True:=trivial
theorem tw867909063966852570:True:=trivial
theorem tw6847374897256405782:True:=trivial
theorem tw4750074735480039542:True:=trivial
theorem tw6774618871406326285:True:=trivial
theorem tw17970811007039840111:True:=trivial
theorem tw2907996375198058595:True:=trivial
theorem tw13241457076800918795:True:=trivial
theorem tw8000063892801800790:True:=trivial
theorem tw10658637369150974562:True:=trivial
theorem tw18158332034408835597:True:=trivial
theorem tw4130509518994534153:True:=trivial
theorem tw12162266150780896822:True:=trivial
theorem tw14956236319203341679:True:=trivial
theorem tw16273825363096593780:True:=trivial
theorem tw11264113291805342463:True:=trivial
theorem tw6590876328383535355:True:=trivial
theorem tw3893456089006529124:True:=trivial
theorem tw7933937721761145530:True:=trivial
theorem tw6349364553171002627:True:=trivial
theorem tw765639717086423486:True:=trivial
theorem tw6319029537369615432:True:=trivial
theorem tw1205220118999016276:True:=trivial
theorem tw10020562002065652644:True:=trivial
theorem tw1403931456266809170:True:=trivial
theorem tw1459700906328262837:True:=trivial
theorem tw15014377761162040364:True:=trivial
theorem tw11618170480356801580:True:=trivial
theorem tw7512574839679825337:True:=trivial
theorem tw12366233193370655002:True:=trivial
theorem tw7317872038034120252:True:=trivial
theorem tw17795309443473232838:True:=trivial
theorem tw6061844922214877025:True:=trivial
theorem tw11235281400407782542:True:=trivial
theorem tw8217530763345020397:True:=trivial
theorem tw9124099976963515334:True:=trivial
theorem tw3894193993968406541:True:=trivial
theorem tw12450330983441917074:True:=trivial
theorem tw3818524589470345029:True:=trivial
theorem tw8738715741291480812:True:=trivial
theorem tw1988210994668174199:True:=trivial
theorem tw18260903073285323350:True:=trivial
theorem tw12415801447746479557:True:=trivial
theorem tw3776860615069242591:True:=trivial
theorem tw11162882864377947508:True:=trivial
theorem tw13497595055432741778:True:=trivial
theorem tw11340779200271276685:True:=trivial
theorem tw7427181809965620977:True:=trivial
theorem tw2781603547487282723:True:=trivial
theorem tw6950127536996415233:True:=trivial
theorem tw8137735495486924531:True:=trivial
theorem tw16023011553514636509:True:=trivial
theorem tw9175330053372560379:True:=trivial
theorem tw3346180909269699236:True:=trivial
theorem tw8422793287723312243:True:=trivial
theorem tw16363606514881648216:True:=trivial
theorem tw8078237394232575454:True:=trivial
theorem tw7058825137785705125:True:=trivial
theorem tw15864121732283028029:True:=trivial
theorem tw17576859345425588997:True:=trivial
theorem tw15478994179385894686:True:=trivial
theorem tw10729742568032663004:True:=trivial
theorem tw6934840510460618592:True:=trivial
theorem tw3594890970751160616:True:=trivial
theorem tw16434460187033284684:True:=trivial
theorem tw12345044606515061302:True:=trivial
theorem tw3076314321697481087:True:=trivial
theorem tw5946725849389017856:True:=trivial
theorem tw3169218110141470805:True:=trivial
theorem tw14226042381941524773:True:=trivial
theorem tw1840791229041891386:True:=trivial
theorem tw18268489148480713620:True:=trivial
theorem tw17708969188411459264:True:=trivial
theorem tw5966004344532166493:True:=trivial
theorem tw10468763498301598532:True:=trivial
theorem tw10997590424616338219:True:=trivial
theorem tw5755622999846726333:True:=trivial
theorem tw1632319458311220336:True:=trivial
theorem tw5774336687277102227:True:=trivial
theorem tw17070332611141190082:True:=trivial
theorem tw16824515061763688160:True:=trivial
theorem tw17371809674336469046:True:=trivial
theorem tw2951914115641587919:True:=trivial
theorem tw4649401164965265724:True:=trivial
theorem tw6102993550686204427:True:=trivial
theorem tw4831571201112810763:True:=trivial
theorem tw8756402962362958068:True:=trivial
theorem tw3390093959826366722:True:=trivial
theorem tw12085421657787187797:True:=trivial
theorem tw14335606850525613797:True:=trivial
theorem tw5096846650413115174:True:=trivial
theorem tw11423972682435058617:True:=trivial
theorem tw10042162810548516185:True:=trivial
theorem tw4818305520592562300:True:=trivial
theorem tw2899315432298786205:True:=trivial
theorem tw15841659300984559367:True:=trivial
theorem tw675604237493219922:True:=trivial
theorem tw11859071280797777962:True:=trivial
theorem tw18251686867803831703:True:=trivial
theorem tw7062994755375229647:True:=trivial
theorem tw9446448087779865425:True:=trivial
theorem tw8638193361565490290:True:=trivial
theorem tw1814112445415396362:True:=trivial
theorem tw6436422781679758687:True:=trivial
theorem tw1665753621031591177:True:=trivial
theorem tw5312292609723474615:True:=trivial
theorem tw10853665228321679285:True:=trivial
theorem tw15523617046867066972:True:=trivial
theorem tw7711622348746999388:True:=trivial
theorem tw5345244561555213963:True:=trivial
theorem tw10712394798846556547:True:=trivial
theorem tw12688960145099428610:True:=trivial
theorem tw10354521535294035467:True:=trivial
theorem tw9346546145887252344:True:=trivial
theorem tw4372731006858833571:True:=trivial
theorem tw9821874923533642820:True:=trivial
theorem tw12134891414635082653:True:=trivial
theorem tw2105683791046733435:True:=trivial
theorem tw10488911713182479200:True:=trivial
theorem tw8610153107167358042:True:=trivial
theorem tw14522371941404524330:True:=trivial
theorem tw5926456003829935260:True:=trivial
theorem tw11920557174567746074:True:=trivial
theorem tw11729726278448293:True:=trivial
theorem tw12499353596146417086:True:=trivial
theorem tw14970252142747552193:True:=trivial
theorem tw12602904661759049983:True:=trivial
theorem tw13281551052106306368:True:=trivial
end PySem.W.Fast
end
open PySem PySem.W PyProof.Rows
set_option maxRecDepth 100000 in
set_option maxHeartbeats 0 in
theorem PySem.Challenge.cw_warmrows_k26_programs_read_back_holds : PySem.Challenge.rw_warmrows_k26_programs_read_back.Holds := by
 w_on; o_law; k_head; (case hw=>w_witness2)
 k_fill
 refine K26.walk (l:=PySem.Challenge.rw_warmrows_k26_programs_read_back) rfl rfl (fun w h Y=>PySem.W.kIn_of Y) ?F
 case F=>
  intro w mg fa h KX G hmg
  apply K26.all_mk KX G hmg
  iterate 58 (apply K26.mkF KX G; (case a=>k_is); (case l=>k_is); (case c=>k_is); (case k=>k_is))
  iterate 17 k_is
  (case yEXPRESSIONS=>k_is); (case luEXPRESSIONS=>k_is); (case mEXPRESSIONS=>rfl)
  (case ySTATEMENTS=>k_is); (case luSTATEMENTS=>k_is); (case mSTATEMENTS=>rfl)
  (case yJOINTS=>k_is); (case luJOINTS=>k_is); (case mJOINTS=>rfl)
  (case yReader=>k_is)
  case teEXPRESSIONS=>
   iterate 11 (apply K26.uN.cons; (case rb=>k_is); (case ra=>decide +kernel); (case rc=>decide +kernel); (case rd=>decide +kernel))
   exact .nil
  case teSTATEMENTS=>
   iterate 15 (apply K26.uN.cons; (case rb=>k_is); (case ra=>decide +kernel); (case rc=>decide +kernel); (case rd=>decide +kernel))
   exact .nil
  case teJOINTS=>
   iterate 4 (apply K26.uN.cons; (case rb=>k_is); (case ra=>decide +kernel); (case rc=>decide +kernel); (case rd=>decide +kernel))
   exact .nil
  iterate 9 (apply K26.mkM; (case a=>k_is); (case i=>k_is); (case l=>k_is); (case c=>k_is); (case k=>k_is))
  all_goals k_is
end
