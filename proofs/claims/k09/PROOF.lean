import PyProof.Rows.All
import Wide.All
import OpenK.AllK
import Wide.FinOn
import Lean
import PyProof.EqAt
import PyProof.EqKinds
import PyProof.TupleCall
import KE.KTryMore
import PyProof.ExcAttrAll.ValueError
import PyProof.ExcBaseAll.ValueError
import PyProof.DictWalks
import PyProof.EnumIter
import PyProof.EnumFor
import PyProof.EnumMake
import PyProof.AttrMissHeap
import KE.KDictOf
import KE.KDictList
import PyProof.StrOps2
import KE.KSortTup
import PyProof.NeKinds
import PyProof.ReprRoads
import PyProof.CallFns
import PyProof.StrLawsRepr
import PyProof.Rows.SortStr
import PyProof.TupleOfSeq
import PyProof.ZipIter
import PyProof.Rows.StrJoinMade
import PyProof.Rows.SetFrom
import PyProof.WalksMore
import PyProof.Rows.StrClose
import PyProof.Rows.CatFin
import PyProof.StrLawsIn
import PyProof.FactsAll.dict_1
import PySem.Challenge.RW_warmrows_k09_what_tables_are
import KE.KRevIter
import PyProof.TupleOps
import PyProof.Rows.StrJoin2
import PyProof.Rows.StrFit
set_option Elab.async false
set_option linter.all false
set_option maxRecDepth 100000
set_option maxHeartbeats 4000000
open PySem renaming Value→sr,Shared→ue,Addr→ut,wpAny→uv,Builtin→uB,Program→uC,model→vy,FuncData→vz,World→ww,Around→xf,mainGlobals→xj,starEach→xx,compareOp→xN,bootBuiltins→ye,SetTable→yo,NameKind→zb,sysModules→An,binaryOp→Eg,pyNext→Hc,DictEntry→Hm,codeAny→HH,assignEach→JS,backTo→NB,IsPair→O3,behindInMarks→QQ,getattributeRaised→Q3,sliceBounds→Q4,scanBound→RC,pickOrder→Up,holding→UT,attributeBase→UV,relabel→Vf,letOwnedTupleGo→Vg,getItem→Vk,firstArgMember→Vm,IsZip→Vn,IsEnum→Vo,BindsTo→Vp,Keyword→Vq,valueAt→Vr,wpAny_eqBool_int→Vv,wpAny_execs_cons→Vw,noFill_tuple_add→Vx,field→Vy,setField→VD,relayAll→VF,wpAny_askSetting→VG,IsPart→VL,GenState→VM,slicePick→VR,callerA→V0,setNext→V2,Result→V3
open Or renaming inl→uA,inr→Mm
open PySem.SeqAt renaming EqAt→xm,RcAt→Vl
open PySem.Builtin.SmallTypes renaming ownedTupleIsFree→xn,nextOf→yz,ownedTupleHandOut→Be
open PySem.Value renaming none→xF,ref→zg,type→Hb,int→PP,str→Tu
open PySem.Txt renaming slice→ym
open PyProof.Rows renaming seqObj→zz,AllBare→Vj,subscriptTail→Vt,envOfC→VN,SortKind→VP,StrsAre→V1
open PySem.Builtin.Tuple renaming tupleExact→By
open Sum renaming inr→BV,inl→VJ
open False renaming elim→Do
open PySem.Builtin.Dict renaming samePairs→Ex,updateFrom→HR
open PySem.NameKind renaming free→Ff,cell→MT
open PySem.SetTable renaming below→Hd,grown→JP
open PySem.Builtin.Slice renaming slicePlaces→Hk,sliceAdjust→PQ
open Pure renaming pure→Hn
open Classical renaming propDecidable→HQ
open ForInStep renaming yield→My
open PySem.Builtin.List renaming listExtendWith→M3,listTooLong→QR
open Array renaming all_eq_true_iff_forall_mem→Su,size_empty→VB
open PySem.Unicode renaming upperOf→Vh
open PySem.Builtin.Str renaming tooLong→Vi
open PySem.F renaming args_zip_next_1→Vs,entry_zip_next→Vz,args_dict_eq_2→VH
open PySem.Shared renaming TypeIs→Vu
abbrev aa:=@List.length_map
abbrev ae:=@List.getElem?_eq_getElem
abbrev af:=@PySem.wpAny_bind
abbrev ai:=@Nat.le_refl
abbrev ar:=@PySem.lookup_relabel_local
abbrev av:=@PySem.Heap.get?_push_of_some
abbrev aw:=@List.take_of_length_le
abbrev aE:=@PySem.wpAny_pure
abbrev aI:=@List.map_append
abbrev aS:=@Bool.false_ne_true
abbrev bb:=@PySem.Heap.get?_push_size
abbrev bc:=@List.length_take
abbrev bg:=@List.getElem?_map
abbrev bj:=@List.mem_singleton
abbrev bn:=@List.mem_cons_self
abbrev bo:=@decide_eq_true
abbrev bu:=@List.mem_map
abbrev bv:=@List.getElem?_eq_some_iff
abbrev bz:=@List.mem_cons
abbrev bE:=@decide_eq_false
abbrev bS:=@List.getElem_mem
abbrev bX:=@List.length_append
abbrev cf:=@List.size_toArray
abbrev ck:=@Option.some.inj
abbrev cn:=@PySem.Heap.lt_size
abbrev cr:=@List.mem_cons_of_mem
abbrev cw:=@List.mem_append
abbrev cy:=@PySem.sizeLine_eq
abbrev cz:=@List.all_eq_true
abbrev cE:=@PySem.Paired.length
abbrev cK:=@if_neg
abbrev cS:=@Nat.le_trans
abbrev de:=@List.map_cons
abbrev dk:=@Nat.zero_le
abbrev dm:=@Nat.ne_of_lt
abbrev dA:=@List.length_cons
abbrev dC:=@List.mem_filter
abbrev dE:=@if_pos
abbrev dL:=@List.not_mem_nil
abbrev dP:=@PySem.PassesOwn.never
abbrev dQ:=@List.mem_append_right
abbrev dS:=@Nat.lt_of_lt_of_le
abbrev eA:=@of_decide_eq_true
abbrev eI:=@List.mem_of_getElem?
abbrev eJ:=@PySem.W.mg_none_of
abbrev eK:=@Bool.and_eq_true
abbrev eL:=@PySem.wpAny_holding
abbrev eM:=@PySem.wpAny_call_entry
abbrev eQ:=@List.length_singleton
abbrev eR:=@Nat.ne_of_gt
abbrev eS:=@PySem.Around.under_plainId
abbrev eT:=@PySem.wpAny_callSpecial?_slot
abbrev eW:=@Array.getElem?_eq_getElem
abbrev fb:=@Classical.byContradiction
abbrev fc:=@List.getElem?_eq_none
abbrev fe:=@List.length_filter_le
abbrev ff:=@PySem.wpAny_field
abbrev fg:=@Bool.eq_iff_iff
abbrev fh:=@List.nodup_cons
abbrev fk:=@List.mem_append_left
abbrev fv:=@PySem.wpAny_newObj_type
abbrev fz:=@List.filter_cons
abbrev fE:=@Array.length_toList
abbrev fF:=@List.getElem_of_mem
abbrev fN:=@Option.isSome_iff_exists
abbrev fR:=@List.mem_range
abbrev fS:=@PySem.wpAny_setField_rec
abbrev fT:=@PySem.F.plainAttrs_list
abbrev gh:=@PySem.mem_of_lookup
abbrev gr:=@List.map_congr_left
abbrev gu:=@List.append_nil
abbrev gI:=@PySem.codeAny_builtin
abbrev gL:=@PySem.wpAny_truthy_bool
abbrev gN:=@List.map_map
abbrev gS:=@List.mem_of_mem_take
abbrev gT:=@PySem.F.slot_list_append
abbrev gX:=@PySem.F.type_list_append
abbrev hU:=@PyProof.Rows.slot_tuple_getitem
abbrev ia:=@PySem.Heap.get?_update_self
abbrev ib:=@PySem.wpAny_mono
abbrev ic:=@List.getElem?_append_right
abbrev ie:=@PySem.Heap.size_push
abbrev ii:=@Int.toNat_natCast
abbrev ij:=@List.getElem?_append_left
abbrev ik:=@PySem.Obj.data_mapFields
abbrev il:=@Option.map_some
abbrev ir:=@beq_self_eq_true
abbrev iA:=@PySem.Heap.SameBut.update
abbrev iE:=@PySem.wpAny_seqItems
abbrev iF:=@or_false
abbrev iL:=@PySem.W.kia_one
abbrev iN:=@PySem.plainId_quiet
abbrev iO:=@List.lookup_cons
abbrev iP:=@List.any_eq_true
abbrev iS:=@List.filter_append
abbrev iX:=@Array.mem_toList_iff
abbrev i4:=@PyProof.Rows.callWith_type1
abbrev i5:=@PySem.wpAny_pyIter_list
abbrev i6:=@Nat.lt_succ_of_lt
abbrev i7:=@List.nodup_append
abbrev i8:=@PySem.wpAny_loadPart'
abbrev i9:=@List.mem_or_eq_of_mem_set
abbrev ja:=@List.take_append_drop
abbrev jb:=@List.length_drop
abbrev jn:=@Bool.false_eq_true
abbrev jp:=@PySem.wpAny_rule
abbrev jv:=@List.map_inj_right
abbrev jI:=@PySem.wpAny_of_eq
abbrev jS:=@List.take_succ
abbrev ke:=@List.nodup_nil
abbrev kg:=@List.mem_of_mem_drop
abbrev km:=@PySem.wpAny_setState_of
abbrev kq:=@PySem.wpAny_dictEntries
abbrev kr:=@PySem.Heap.get?_update_other
abbrev ku:=@PySem.wpAny_isInstance
abbrev ky:=@List.mem_filterMap
abbrev kz:=@PySem.wpAny_Call_Name_kw
abbrev kA:=@beq_iff_eq
abbrev kB:=@PySem.F.slot_tuple_iterator_next
abbrev kC:=@Nat.max_le
abbrev kF:=@PySem.Obj.isFreed_of_fields
abbrev kG:=@Array.getElem?_toList
abbrev kH:=@PySem.wpAny_passesOwn
abbrev kK:=@List.find?_cons
abbrev kL:=@Ne.symm
abbrev kM:=@List.append_assoc
abbrev kN:=@Nat.lt_irrefl
abbrev kP:=@List.getElem?_take_of_lt
abbrev kQ:=@PySem.AutoSeq1.wpAny_loadPart'
abbrev kR:=@if_true
abbrev kS:=@PySem.wpAny_getItem_str_slice
abbrev kT:=@PySem.wpAny_setField
abbrev kU:=@List.cons_ne_nil
abbrev kX:=@PyProof.Rows.F.plain_set_update_loop
abbrev li:=@List.take_append_of_le_length
abbrev lj:=@PySem.W.cellsFrom_some
abbrev lr:=@List.all_map
abbrev ly:=@PySem.F.called_set
abbrev lz:=@PySem.F.slot_zip_next
abbrev lI:=@List.all_cons
abbrev lL:=@PySem.wpAny_attempt
abbrev lP:=@List.length_replicate
abbrev lS:=@PySem.builtinLookup_eq_fast
abbrev lT:=@PySem.F.slot_enumerate_next
abbrev me:=@List.ext_getElem?
abbrev mf:=@PySem.wpAny_pyIter_enum
abbrev mi:=@Array.toArray_toList
abbrev mv:=@List.exists_cons_of_ne_nil
abbrev mw:=@List.getD_eq_getElem?_getD
abbrev my:=@PySem.F.slot_dict_eq
abbrev mB:=@Std.Legacy.Range.forIn_eq_forIn_range'
abbrev mE:=@PySem.F.plain_any_loop
abbrev mI:=@PySem.F.slot_tuple_getattribute
abbrev mM:=@PySem.Calls.call_function_entry
abbrev mS:=@Array.toList_append
abbrev nh:=@List.flatMap_append
abbrev nk:=@PySem.F.args_tuple_add_2
abbrev nr:=@PySem.wpAny_getItem_list_slice
abbrev ny:=@List.any_cons
abbrev nz:=@List.map_take
abbrev nB:=@PySem.F.slot_list_getattribute
abbrev nE:=@PySem.W.mg_of
abbrev nI:=@List.length_nil
abbrev nK:=@List.forIn_cons
abbrev nL:=@List.sum_append
abbrev nN:=@PySem.wpAny_dictEpoch
abbrev nS:=@PySem.call_meets
abbrev nV:=@PySem.tupleKind_room_in1
abbrev nX:=@Int.emod_lt_of_pos
abbrev n0:=@PySem.wpAny_pyNext_tuple_item
abbrev n4:=@PySem.F.entry_tuple_add
abbrev n5:=@PySem.wpAny_pyNext_list_item
abbrev n9:=@PySem.wpAny_pyNext_tuple_end
abbrev oq:=@PySem.codeAny_mono
abbrev oz:=@List.take_sublist
abbrev oB:=@PySem.F.slot_tuple_add
abbrev oC:=@if_false
abbrev oP:=@PySem.slot_list_getitem
abbrev oQ:=@Nat.lt_trans
abbrev oS:=@PySem.Obj.cls_mapFields
abbrev pe:=@PySem.Heap.get?_push_ne
abbrev pE:=@PySem.F.plain_list_iadd
abbrev pM:=@List.isEmpty_cons
abbrev pS:=@List.flatMap_cons
abbrev pT:=@List.length_range
abbrev pV:=@PySem.wpAny_pyNext_list_end
abbrev qc:=@List.ext_getElem
abbrev qi:=@PySem.wpAny_onRaise
abbrev qk:=@PySem.wpAny_updateSeq_pair
abbrev qq:=@PySem.wpAny_execs_nil
abbrev qv:=@PySem.post_val_or_str
abbrev qA:=@PySem.typeLookup_type
abbrev qB:=@PySem.wpAny_ite_split
abbrev qE:=@Int.emod_nonneg
abbrev qS:=@List.filterMap_cons
abbrev qV:=@List.filter_sublist
abbrev rf:=@PySem.Txt.slice_le
abbrev rL:=@PySem.typeIs_str
abbrev rS:=@List.forIn_nil
abbrev rV:=@PySem.isSubtype_stop
abbrev rX:=@PySem.wpAny_runValue
abbrev r8:=@Bool.not_false
abbrev sf:=@PySem.isSubtype_type
abbrev si:=@PySem.wpAny_letGo
abbrev sj:=@Nat.le_succ
abbrev sk:=@PySem.wpAny_newList
abbrev sq:=@not_or
set_option hygiene false
local macro_rules
|`(tactic|exists 1,$s:ident,$e:ident,$H,$a,$o,$n,$K:ident)=>`(tactic|(have $s:ident :=(We $n : Same $H (upd $H $a $o));have $e:ident :=(ak : (upd $H $a $o) $a=some $o);generalize upd $H $a $o=$K at $s:ident $e:ident))
|`(tactic|exists 2,$s:ident,$e:ident,$p,$H,$G,$x,$y,$z,$X,$K:ident)=>`(tactic|(have $s:ident :=($X : Off $p $H (upd $G $p (.lst [.int $x,.int $y,.int $z])));have $e:ident :=(Wg : Pu (upd $G $p (.lst [.int $x,.int $y,.int $z])) $p);generalize upd $G $p (.lst [.int $x,.int $y,.int $z])=$K at $s:ident $e:ident))
|`(tactic|exists 3)=>`(tactic|(refine⟨⟨_,_,V7 (s2 b _ hb'),ey⟩,?_⟩;rintro z H3 ⟨rfl,yy⟩ σo ho;obtain ⟨o,rfl⟩:=own1 ho;have ez:=yy _ (V7 (s2 b _ hb'));rw [ey] at ez;cases ez))
|`(tactic|exists 4)=>`(tactic|(intro X hP hw hK hc i pins s σ H E I hf st hg;subst hP hw hK))
|`(tactic|exists 5)=>`(tactic|(have hz:sizeLine=16777216:=cy))
|`(tactic|exists 6)=>`(tactic|(intro pins s σ H x y v u Q I rx ry h))
|`(tactic|exists 7)=>`(tactic|(obtain ⟨ds,rfl⟩:=jt hb;obtain ⟨b,xs,rfl,hb',rl⟩:=rd.bV;have hxl:=rl.length))
|`(tactic|exists 8)=>`(tactic|(refine⟨_,rfl,_,_,_,iZ d,rfl,rd.ty,lN N0 d,_,rfl,?_⟩))
|`(tactic|exists 9)=>`(tactic|(intro pins s σ H xs us Q I r h))
|`(tactic|exists 10)=>`(tactic|(injection e with e))
|`(tactic|exists 11)=>`(tactic|(obtain ⟨f0,f1,f2,f3,f4,f5⟩:=hf it (by simp)))
|`(tactic|exists 12)=>`(tactic|(intro pins s σ H Q I h))
|`(tactic|exists 13)=>`(tactic|(have Ga:=@gM P w K mg base t D))
|`(tactic|exists 14)=>`(tactic|(obtain ⟨u,rfl,ru⟩:=vals1 r;cases ru))
|`(tactic|exists 15)=>`(tactic|(obtain ⟨o,rfl⟩:=own1 ho))
|`(tactic|exists 16)=>`(tactic|(obtain ⟨t,rfl⟩:=rx))
|`(tactic|exists 17)=>`(tactic|(obtain ⟨v,d,rfl,_⟩:=h;rfl))
|`(tactic|exists 18)=>`(tactic|(simp only [jV,Cx.nox]))
|`(‹0›)=>`(⟨rfl,rfl,rfl,by decide +kernel,rfl,by decide +kernel,by decide +kernel⟩)
|`(‹1›)=>`((fun cdv A outer s H vs Q E hr h=>?_))
|`(‹2›)=>`((hr.mono (by omega)))
|`(‹3›)=>`((fun _ _=>rfl))
|`(‹4›)=>`((aH bf (by rfl) D.aX aQ (aj (pv 0) (aj (cF (v:=V.ty "tuple") rfl D.bY bK rfl) aq))))
|`(‹5›)=>`((by decide +kernel))
|`(‹6›)=>`((by decide))
|`(‹7›)=>`((fun vs H Q E h=>?_))
|`(‹8›)=>`(⟨by simp [n3],by simp [gs],by simp [wt],by simp [dp],by simp [br]⟩)
|`(‹9›)=>`((vy X.prog X.w))
|`(‹10›)=>`((∀ σ' H',N σ' H'→∃ m',m' < m∧W (i+1) m' σ' H'))
|`(‹11›)=>`((fun z=>nomatch z))
|`(‹12›)=>`((Gd.str ⟨by decide +kernel,by decide +kernel⟩))
|`(‹13›)=>`(⟨[_],rfl,rfl⟩)
|`(‹14›)=>`((qC s3.heap.objs.size X.env.cells scope.names))
|`(‹15›)=>`((aH bx (by rfl) D.cI bQ (aj (pv 0) aq)))
|`(‹16›)=>`((∀ b o,s.heap.get? b=some o→h'.get? b=some o))
|`(‹17›)=>`((.inr (ar rfl)))
|`(‹18›)=>`((aH bx (by rfl) D.cI bQ (aj (pv 1) aq)))
|`(‹19›)=>`((.lst [.int 1,.int 4,.int (10 ^ (12:Int).toNat)]))
|`(‹20›)=>`((@aj _ _ _ _ _ (pv 1) aq (by rfl)))
|`(‹21›)=>`((upd H d (.dK (cD [] (kvs.take i)))))
|`(‹22›)=>`((.ref s.heap.objs.size))
|`(‹23›)=>`((.lst [.int a1,.int b1,.int c1]))
|`(‹24›)=>`((uA (ar rfl)))
|`(‹25›)=>`((@aD _ _ _ _ _ _ _ _ _ _ _ _ _ D.aV Ga ‹2› (by rfl) (@aj _ _ _ _ _ (pv 0) (@aj _ _ _ _ _ aC aq (by rfl)) (by rfl)) ‹6› (by rfl) (by rfl)))
|`(‹26›)=>`((by omega))
|`(‹27›)=>`((aP aO (pv 0) aC ‹3›))
|`(‹28›)=>`((aD D.aV Ga ‹2› (by rfl) (aj (pv 0) (aj aC aq))))
|`(‹29›)=>`((by with_unfolding_all rfl))
|`(‹30›)=>`((.lst ((x::(os++[x1])).map V.str)))
|`(‹31›)=>`((ns.map V.str))
|`(‹32›)=>`((vy prog w))
|`(‹33›)=>`((cO I q (by simp)))
|`(‹34›)=>`(⟨?_,ak,fun c u z=>?_⟩)
|`(‹35›)=>`((show false=true from hs))
|`(‹36›)=>`((aj (pv 0) aq))
|`(‹37›)=>`((zz "list" vs.toArray 0))
|`(‹38›)=>`((aY gq (pv 2) aC (bh _)))
|`(‹39›)=>`((.frz o (.dK kvs)))
|`(‹40›)=>`((s.heap.objs.size+1))
|`(‹41›)=>`((I1.hok.fresh (ai _)))
|`(‹42›)=>`(⟨?_,by rw [cX]⟩)
|`(‹43›)=>`((fun h=>nomatch h))
|`(‹44›)=>`((fun hb=>?_))
|`(‹45›)=>`((by simp))
section
namespace L2
open PySem PySem.Spec PyProof.Rows
abbrev LL:=List (List Str)
abbrev LS:=List Str
abbrev LO:=List (ut × Obj)
abbrev ES:=sr->ue->Prop
abbrev MG:=Str->Option sr
abbrev LU:=List sr
abbrev LP:=List PyData
abbrev AV:=Array sr
abbrev LA:=List ut
abbrev Key:=Sum Int Str
def um:Key->sr->Bool
 | .inl k,v=>sr.isInt k v
 | .inr x,v=>sr.isStrOf x v
def Ug(w:ww):Key->Int
 | .inl k=>hashInt k
 | .inr x=>hashStr w x
theorem dM:∀ {k:Key} {v:sr},um k v=true->(∃ i t,k=VJ i/\v=PP i t)\/(∃ x t,k=BV x/\v=Tu x t)
 | .inl i,v,h=>by
  obtain ⟨t,e⟩:=sr.isInt_shape (k:=i) (v:=v) h;exact .inl ⟨i,t,rfl,e⟩
 | .inr x,v,h=>by
  obtain ⟨t,e⟩:=sr.isStrOf_shape (x:=x) (v:=v) h;exact .inr ⟨x,t,rfl,e⟩
theorem Hh(i:Int)(t:Tok):um (.inl i) (.int i t)=true:=by simp [um,sr.isInt]
theorem Hj(x:Str)(t:Tok):um (.inr x) (.str x t)=true:=by simp [um,sr.isStrOf]
theorem Qy(a b:Int):decide ((VJ a:Key)=VJ b)=(a == b):=by
 by_cases e:a=b
 ·subst e; simp
 ·have h:¬ (VJ a:Key)=VJ b:=fun q=>e (VJ.inj q);rw [bE h];exact(beq_eq_false_iff_ne.mpr e).symm
theorem Rt(a b:Str):decide ((BV a:Key)=BV b)=decide (a=b):=by
 by_cases e:a=b
 ·subst e; simp
 ·have h:¬ (BV a:Key)=BV b:=fun q=>e (BV.inj q);rw [bE h,bE e]
theorem QG(a:Int)(b:Str):decide ((VJ a:Key)=BV b)=false:=bE (fun q=>nomatch q)
theorem Q5(a:Str)(b:Int):decide ((BV a:Key)=VJ b)=false:=bE (fun q=>nomatch q)
def bU(prog:uC)(w:ww):PySem.KeyKind prog w Key where
 is:=um
 hash:=Ug w
 inj:=fun v a b ha hb=>by
  rcases dM ha with ⟨i,t,rfl,rfl⟩ | ⟨x,t,rfl,rfl⟩
  ·rcases dM hb with ⟨j,u,rfl,e⟩ | ⟨y,u,rfl,e⟩
   ·injection e with e1 _; rw [e1]
   ·exact nomatch e
  ·rcases dM hb with ⟨j,u,rfl,e⟩ | ⟨y,u,rfl,e⟩
   ·exact nomatch e
   ·injection e with e1 _; rw [e1]
 byValue:=fun k v h=>by
  rcases dM h with ⟨i,t,rfl,rfl⟩ | ⟨x,t,rfl,rfl⟩ <;> rfl
 pyHash:=fun hv h=>by
  rcases dM hv with ⟨i,t,rfl,rfl⟩ | ⟨x,t,rfl,rfl⟩
  ·exact wpAny_pyHash_int h
  ·exact wpAny_pyHash_str h
 eqBool:=fun hu hv h=>by
  rcases dM hu with ⟨i,t,rfl,rfl⟩ | ⟨x,t,rfl,rfl⟩
  ·rcases dM hv with ⟨j,u,rfl,rfl⟩ | ⟨y,u,rfl,rfl⟩
   ·rw [Qy] at h; exact Vv h
   ·rw [QG] at h; exact xm.int_str i t y u _ _ _ _ h
  ·rcases dM hv with ⟨j,u,rfl,rfl⟩ | ⟨y,u,rfl,rfl⟩
   ·rw [Q5] at h; exact xm.str_int x t j u _ _ _ _ h
   ·rw [Rt] at h; exact wpAny_eqBool_str h
 «strs»:=fun k x t v h=>by
  rcases dM h with ⟨i,u,rfl,e⟩ | ⟨y,u,rfl,e⟩
  ·exact nomatch e
  ·injection e with e1 _;subst e1;cases v <;> rfl
theorem Dh(prog:uC)(w:ww)(k:Key)(v:sr):(bU prog w).is k v=um k v:=rfl
theorem Ab(prog:uC)(w:ww)(i:Int)(t:Tok):(bU prog w).is (.inl i) (.int i t)=true:=Hh i t
theorem Bj(prog:uC)(w:ww)(x:Str)(t:Tok):(bU prog w).is (.inr x) (.str x t)=true:=Hj x t
inductive V where
 | non | bl (b:Bool) | int (i:Int) | str (x:Str) | byt (b:Array UInt8) | flt (b:UInt64) | ref (a:ut) | ty (n:String)
 deriving DecidableEq
abbrev LK0:=List (Key × V)
abbrev LV:=List V
abbrev OV:=Option V
def RelV:V->sr->Prop
 | .non,u=>u=xF
 | .bl b,u=>u=sr.bool b
 | .int i,u=>∃ t,u=PP i t
 | .str x,u=>∃ t,u=Tu x t
 | .byt b,u=>∃ t,u=sr.bytes b t
 | .flt b,u=>∃ t,u=sr.float b t
 | .ref a,u=>u=zg a
 | .ty n,u=>u=Hb n
abbrev Vals:LV->LU->Prop:=Paired RelV
theorem Vals.length{xs:LV}{us:LU}(r:Vals xs us):xs.length=us.length:=cE r
theorem Vals.get:∀ {xs:LV} {us:LU} {i:Nat} {x:V},Vals xs us->xs[i]?=some x->∃ u,us[i]?=some u/\RelV x u
 | _,_,_,_,.nil,e=>by simp at e
 | _,_,0,_,.cons r _,e=>by simp at e; subst e; exact⟨_,rfl,r⟩
 | _,_,i+1,x,.cons _ t,e=>by
  obtain ⟨u,h1,h2⟩:=Vals.get (i:=i) (x:=x) t (by simpa using e);exact⟨u,by simpa using h1,h2⟩
theorem Vals.set{x:V}{u:sr}(r:RelV x u):∀ {xs:LV} {us:LU} (i:Nat),Vals xs us->Vals (xs.set i x) (us.set i u)
 | _,_,_,.nil=>.nil
 | _,_,0,.cons _ t=>.cons r t
 | _,_,i+1,.cons q t=>.cons q (Vals.set r i t)
theorem Vals.append:∀ {xs ys:LV} {us ws:LU},Vals xs us->Vals ys ws->Vals (xs++ys) (us++ws)
 | _,_,_,_,.nil,s=>s
 | _,_,_,_,.cons r t,s=>.cons r (Vals.append t s)
theorem Vals.take:∀ {xs:LV} {us:LU} (n:Nat),Vals xs us->Vals (xs.take n) (us.take n)
 | _,_,0,_=>.nil
 | _,_,_+1,.nil=>.nil
 | _,_,n+1,.cons r t=>.cons r (Vals.take n t)
theorem Vals.drop:∀ {xs:LV} {us:LU} (n:Nat),Vals xs us->Vals (xs.drop n) (us.drop n)
 | _,_,0,r=>r
 | _,_,_+1,.nil=>.nil
 | _,_,n+1,.cons _ t=>Vals.drop n t
def wL:OV->Option sr->Prop
 | some v,some u=>RelV v u
 | none,none=>True
 | _,_=>False
def KV{κ:Type}:List (κ × V)->List (κ × sr)->Prop:=Paired fun(p:κ × V) (q:κ × sr)=>p.1=q.1/\RelV p.2 q.2
def kV:Key->V
 | .inl i=>.int i
 | .inr x=>.str x
inductive HO where
 | lst (xs:LV)
 | tup (xs:LV)
 | dK (kvs:LK0) | dT (kvs:List (List Key × V))
 | set (S:Int->Bool) (n:Nat)
 | ins (C dx:ut) (fs:List (Str × V))
 | own (x:ut)
 | xd (fs:List (Str × V))
 | met (f x:ut)
 | rng (lo hi:Int)
 | frz (o:Obj) (u:HO)
 | tbl (ps:AV)
 | ext (φ:Heap->Prop)
abbrev Hp:=ut->Option HO
def upd(H:Hp)(a:ut)(o:HO):Hp:=fun b=>if b=a then some o else H b
theorem ak{H:Hp}{a:ut}{o:HO}:upd H a o a=some o:=by unfold upd; rw [dE rfl]
theorem aA{H:Hp}{a b:ut}{o:HO}(h:b≠a):upd H a o b=H b:=by unfold upd; rw [cK h]
theorem cX{H:Hp}{a:ut}{o u:HO}:upd (upd H a o) a u=upd H a u:=by
 funext b; unfold upd; split <;> rfl
theorem eG{H:Hp}{a b:ut}{o u:HO}(h:H a=some o)(h':H b=some u)(d:o≠u):a≠b:=by
 intro e; subst e; rw [h] at h'; exact d (ck h')
theorem au{H:Hp}{a b:ut}{o:HO}(h:H a=some o)(h':H b=none):a≠b:=by
 intro e; subst e; rw [h] at h'; cases h'
def NoD(h:Heap)(a:ut):Prop:=∀ o,h.get? a=some o->o.dict=none
theorem pJ(h:Heap)(its:AV):NoD (h.push { cls:=.type "tuple",data:=.seq its }) h.objs.size:=fun o e=>by
 rw [bb _ rfl] at e;cases e;rfl
section
variable (P:uC)(w:ww)
def cT(H:Hp)(h:Heap)(a:ut):HO->Prop
 | .lst xs=>xs.length<=sizeLine/\∃(its:LU) (n:Nat),Vals xs its/\h.get? a=some { cls:=.type "list",data:=.seq its.toArray n }
 | .tup xs=>(xs.length<=sizeLine/\NoD h a)/\∃ its:LU,Vals xs its/\IsTup h a its.toArray
 | .dK kvs=>kvs.length<=sizeLine/\(a == An)=false/\∃ vs,KV kvs vs/\h.DictOf (bU P w) a vs
 | .dT kvs=>kvs.length<=sizeLine/\(a == An)=false/\∃ xs:List (List Key × ut × sr),
   Paired (fun(p:List Key × V) (q:List Key × ut × sr)=>p.1=q.1/\H q.2.1=some (.tup (p.1.map kV))/\RelV p.2 q.2.2) kvs xs/\
   ∃ o es ep,h.get? a=some o/\o.ExactDict/\o.data=.dict es ep/\es.toList=xs.map (entryOfKey (tupleKind (bU P w)))/\(xs.map (·.1)).Nodup
 | .set S n=>h.SetOf (intKind P w) a S n
 | .ins C dx fs=>H dx=some (.own a)/\fs.length<=1000/\dx≠a/\h.get? a=some (PySem.W.instObj C dx)/\
   ∃ mA,h.Ns1 dx mA/\(∀ f,wL (fs.lookup f) (mA f))/\PySem.Within mA (fs.map (·.1))
 | .own _=>∃ o,h.get? a=some o
 | .xd fs=>∃ mA,h.Ns1 a mA/\∀ f,wL (fs.lookup f) (mA f)
 | .rng lo hi=>∃ t u v,h.get? a=some { cls:=.type "range",data:=.fields #[.int lo t,.int hi u,.int 1 v] }
 | .frz o u=>h.get? a=some o/\cT H h a u
 | .tbl ps=>h.get? a=some { cls:=.none,data:=.fields ps }
 | .met f x=>h.get? a=some (PySem.W.methodObj (.ref f) (.ref x))
 | .ext φ=>φ h/\(∃ o,h.get? a=some o)/\∀ h1 h2:Heap,φ h1->(∀ o,h1.get? a=some o->h2.get? a=some o)->φ h2
def HOk(H:Hp)(h:Heap):Prop:=∀ a o,H a=some o->cT P w H h a o
end
section
variable {P:uC}{w:ww}{H H':Hp}{h h':Heap}{a:ut}{o:HO}
theorem cT.lt(x:cT P w H h a o):a < h.objs.size:=by
 cases o with
 | lst xs=>obtain ⟨_,_,_,_,e⟩:=x; exact cn e
 | tup xs=>obtain ⟨_,_,_,p⟩:=x; exact p.lt
 | dK kvs=>obtain ⟨_,_,_,_,o,_,_,e,_⟩:=x; exact cn e
 | dT kvs=>obtain ⟨_,_,_,_,o,_,_,e,_⟩:=x; exact cn e
 | set S n=>obtain ⟨o,_,_,_,e,_⟩:=x; exact cn e
 | ins C dx fs=>obtain ⟨_,_,_,e,_⟩:=x; exact cn e
 | own y=>obtain ⟨_,e⟩:=x; exact cn e
 | xd fs=>obtain ⟨_,⟨_,_,_,e,_⟩,_⟩:=x; exact cn e
 | rng lo hi=>obtain ⟨_,_,_,e⟩:=x; exact cn e
 | frz ob u=>obtain ⟨e,_⟩:=x; exact cn e
 | tbl ps=>exact cn (show h.get? a=some _ from x)
 | met f y=>exact cn (show h.get? a=some _ from x)
 | ext φ=>obtain ⟨_,⟨_,e⟩,_⟩:=x; exact cn e
theorem Paired.oM{α β:Type}{F G:α->β->Prop}:∀ {l₁:List α} {l₂:List β},Paired F l₁ l₂->(∀ a b,F a b->G a b)->Paired G l₁ l₂
 | _,_,.nil,_=>.nil
 | _,_,.cons r t,f=>.cons (f _ _ r) (Paired.oM t f)
abbrev V4:=@Paired.oM
theorem cT.stay(x:cT P w H h a o)(k:∀ b u,(b=a\/H b=some (.own a))->h.get? b=some u->h'.get? b=some u)
  (ho:∀ b,H b=some (.own a)->H' b=some (.own a)) (ht:∀ b xs,H b=some (.tup xs)->H' b=some (.tup xs)):cT P w H' h' a o:=by
 induction o with
 | lst xs=>obtain ⟨z,its,n,r,e⟩:=x; exact⟨z,its,n,r,k _ _ (.inl rfl) e⟩
 | tup xs=>
  obtain ⟨z,its,r,ob,e,c⟩:=x;have e':=k _ _ (.inl rfl) e;exact⟨⟨z.1,fun o q=>by rw [e'] at q; cases q; exact z.2 _ e⟩,its,r,ob,e',c⟩
 | dK kvs=>obtain ⟨z,y,vs,r,ob,es,ep,e,c⟩:=x; exact⟨z,y,vs,r,ob,es,ep,k _ _ (.inl rfl) e,c⟩
 | dT kvs=>
  obtain ⟨z,y,xs,r,ob,es,ep,e,c⟩:=x;exact⟨z,y,xs,V4 r fun p q z=>⟨z.1,ht _ _ z.2.1,z.2.2⟩,ob,es,ep,k _ _ (.inl rfl) e,c⟩
 | set S n=>obtain ⟨ob,es,ep,t,e,c⟩:=x; exact⟨ob,es,ep,t,k _ _ (.inl rfl) e,c⟩
 | ins C dx fs=>
  obtain ⟨d,z,ne,e,mA,⟨od,es,ep,e2,c⟩,r⟩:=x;exact⟨ho _ d,z,ne,k _ _ (.inl rfl) e,mA,⟨od,es,ep,k _ _ (.inr d) e2,c⟩,r⟩
 | own y=>obtain ⟨ob,e⟩:=x; exact⟨ob,k _ _ (.inl rfl) e⟩
 | xd fs=>obtain ⟨mA,⟨od,es,ep,e,c⟩,r⟩:=x; exact⟨mA,⟨od,es,ep,k _ _ (.inl rfl) e,c⟩,r⟩
 | rng lo hi=>obtain ⟨t,u,v,e⟩:=x; exact⟨t,u,v,k _ _ (.inl rfl) e⟩
 | frz ob u ih=>obtain ⟨e,q⟩:=x; exact⟨k _ _ (.inl rfl) e,ih q⟩
 | tbl ps=>
  have e:h.get? a=some { cls:=.none,data:=.fields ps }:=x;show h'.get? a=some { cls:=.none,data:=.fields ps };exact k a _ (.inl rfl) e
 | met f y=>
  have e:h.get? a=some (PySem.W.methodObj (.ref f) (.ref y)):=x;show h'.get? a=some (PySem.W.methodObj (.ref f) (.ref y));exact k a _ (.inl rfl) e
 | ext φ=>obtain ⟨p,⟨o,e⟩,st⟩:=x; exact⟨st _ _ p fun o q=>k _ _ (.inl rfl) q,⟨o,k _ _ (.inl rfl) e⟩,st⟩
theorem HOk.lt(x:HOk P w H h)(e:H a=some o):a < h.objs.size:=(x a o e).lt
theorem HOk.fresh(x:HOk P w H h)(e:h.objs.size<=a):H a=none:=by
 cases q:H a with
 | none=>rfl
 | some u=>exact absurd (dS (x.lt q) e) (kN _)
theorem HOk.kept(x:HOk P w H h)(k:∀ b u,h.get? b=some u->h'.get? b=some u):HOk P w H h':=fun a o e=>
 (x a o e).stay (fun b u _ q=>k b u q) (fun _ q=>q) fun _ _ q=>q
theorem HOk.laid(x:HOk P w H h)(k:∀ b u,h.get? b=some u->h'.get? b=some u)(hp:h.objs.size<=a)(new:cT P w (upd H a o) h' a o):HOk P w (upd H a o) h':=fun b u e=>by
 have hn:=x.fresh hp
 by_cases hb:b=a
 ·subst hb; rw [ak] at e; cases e; exact new
 ·rw [aA hb] at e;exact(x b u e).stay (fun c v _ q=>k c v q) (fun c q=>by rw [aA (au q hn)]; exact q) fun c xs q=>by rw [aA (au q hn)]; exact q
end
def Rd(H:Hp)(a:ut)(u:HO):Prop:=H a=some u\/∃ o,H a=some (.frz o u)
theorem Rd.ok{P:uC}{w:ww}{H:Hp}{h:Heap}{a:ut}{u:HO}(r:Rd H a u)(x:HOk P w H h):cT P w H h a u:=by
 rcases r with r | ⟨o,r⟩
 ·exact x a u r
 ·obtain ⟨_,q⟩:=x a _ r;exact q
def Mut:Option HO->Prop
 | some (.lst _)=>True
 | some (.dK _)=>True
 | some (.dT _)=>True
 | some (.set _ _)=>True
 | some (.ins _ _ _)=>True
 | some (.ext _)=>True
 | _=>False
section
variable {P:uC}{w:ww}{H:Hp}{h h':Heap}{x e:ut}{o':HO}
theorem HOk.write(ok:HOk P w H h)(mu:Mut (H x))(he:e=x\/H e=some (.own x))(k:∀ b u,b≠e->h.get? b=some u->h'.get? b=some u)(heo:∃ u,h'.get? e=some u)
  (new:cT P w (upd H x o') h' x o'):HOk P w (upd H x o') h':=fun b u q=>by
 have nown:∀ c y,H c=some (.own y)->c≠x:=fun c y r z=>by subst z; rw [r] at mu; exact mu
 have ntup:∀ c xs,H c=some (.tup xs)->c≠x:=fun c xs r z=>by subst z; rw [r] at mu; exact mu
 by_cases hb:b=x
 ·subst hb; rw [ak] at q; cases q; exact new
 ·rw [aA hb] at q
  by_cases hbe:b=e
  ·have q':H b=some (.own x):=by
    rcases he with z | z
    ·exact absurd (hbe.trans z) hb
    ·rw [hbe]; exact z
   rw [q] at q'; cases q';obtain ⟨v,hv⟩:=heo;exact⟨v,by rw [hbe]; exact hv⟩
  ·refine(ok b u q).stay (fun c v hc r=>k c v ?_ r) (fun c r=>by rw [aA (nown c b r)]; exact r) fun c xs r=>by rw [aA (ntup c xs r)]; exact r
   rcases hc with rfl | hc
   ·exact hbe
   ·rintro rfl;rcases he with z | z
    ·exact nown c b hc z
    ·rw [hc] at z; cases z; exact hb rfl
end
structure Un (fs ex:LA) (H H':Hp) (h h':Heap):Prop where
 keep:∀ b o,h.get? b=some o->H b=none->b ∉ fs->b ∉ ex->h'.get? b=some o
 slot:∀ b o,h.get? b=some o->H b=none->b∈fs->b ∉ ex->∃ sl,h'.get? b=some { o with slots:=sl }
 free:∀ b o,h.get? b=some o->H b=none->b ∉ ex->H' b=none
 there:∀ b o,h.get? b=some o->b ∉ ex->∃ o',h'.get? b=some o'
 tups:∀ b xs,H b=some (.tup xs)->H' b=some (.tup xs)
 wg:∀ b o u,H b=some (.frz o u)->H' b=some (.frz o u)
 zF:∀ b ps,H b=some (.tbl ps)->∃ more,H' b=some (.tbl (ps++more))
section
variable {fs fs' ex ex':LA}{H H1 H2:Hp}{h h1 h2 h':Heap}{a x e:ut}{o:HO}
theorem Un.any(u:Un fs ex H H1 h h1){b:ut}{ob:Obj}(q:h.get? b=some ob)(n:H b=none)(hx:b ∉ ex):∃ sl,h1.get? b=some { ob with slots:=sl }:=by
 by_cases hb:b∈fs
 ·exact u.slot b ob q n hb hx
 ·exact⟨ob.slots,u.keep b ob q n hb hx⟩
theorem Un.kept(k:∀ b u,h.get? b=some u->h'.get? b=some u):Un fs ex H H h h':=
 ⟨fun b ob q _ _ _=>k b ob q,fun b ob q _ _ _=>⟨ob.slots,k b ob q⟩,fun _ _ _ n _=>n,fun b ob q _=>⟨ob,k b ob q⟩,fun _ _ q=>q,fun _ _ _ q=>q,fun _ ps q=>⟨#[],by rw [q]; simp⟩⟩
theorem Un.refl:Un fs ex H H h h:=Un.kept fun _ _ q=>q
theorem Un.laid(k:∀ b u,h.get? b=some u->h'.get? b=some u)(hp:h.objs.size<=a)(hn:H a=none):Un fs ex H (upd H a o) h h' where
 keep:=fun b u q _ _ _=>k b u q
 slot:=fun b u q _ _ _=>⟨u.slots,k b u q⟩
 free:=fun b u q n _=>by rw [aA (dm (dS (cn q) hp))]; exact n
 there:=fun b u q _=>⟨u,k b u q⟩
 tups:=fun b xs q=>by rw [aA (au q hn)]; exact q
 wg:=fun b u xs q=>by rw [aA (au q hn)]; exact q
 zF:=fun b ps q=>⟨#[],by rw [aA (au q hn),q]; simp⟩
theorem Un.write(mu:Mut (H x))(he:e=x\/H e=some (.own x))(k:∀ b u,b≠e->h.get? b=some u->h'.get? b=some u)(heo:∃ u,h'.get? e=some u):Un fs ex H (upd H x o) h h':=by
 have hx:∀ b,H b=none->b≠x:=fun b n z=>by subst z; rw [n] at mu; exact mu
 have hb:∀ b,H b=none->b≠e:=fun b n z=>by
  subst z;rcases he with r | r
  ·exact hx b n r
  ·rw [n] at r; cases r
 have hm:∀ b u,H b=some u->¬ Mut (some u)->b≠x:=fun b u q nm z=>by subst z; rw [q] at mu; exact nm mu
 refine⟨fun b u q n _ _=>k b u (hb b n) q,fun b u q n _ _=>⟨u.slots,k b u (hb b n) q⟩,fun b u q n _=>by rw [aA (hx b n)]; exact n,fun b u q _=>?_,
  fun b xs q=>by rw [aA (hm b _ q fun z=>z)]; exact q,fun b u xs q=>by rw [aA (hm b _ q fun z=>z)]; exact q,fun b ps q=>⟨#[],by rw [aA (hm b _ q fun z=>z),q]; simp⟩⟩
 by_cases hbe:b=e
 ·subst hbe; exact heo
 ·exact⟨u,k b u hbe q⟩
end
def trk(h:Heap)(H:Hp):LA:=(List.range h.objs.size).filter fun a=>(H a).isSome
def yI(h:Heap)(H:Hp):Heap:=PySem.W.hideAll h (trk h H)
theorem G7(h:Heap)(H:Hp):(yI h H).objs.size=h.objs.size:=PySem.W.hideAll_size _ _
theorem Ke{h:Heap}{H:Hp}{b:ut}{o:Obj}(e:h.get? b=some o)(n:H b=none):(yI h H).get? b=some o:=
 PySem.W.hideAll_get _ e fun hm=>by
  have q:(H b).isSome=true:=(dC.mp hm).2;rw [n] at q; simp at q
theorem Nb{h:Heap}{H:Hp}{b:ut}{o:Obj}(e:(yI h H).get? b=some o):h.get? b=some o/\H b=none:=by
 have e':h.get? b=some o:=PySem.W.of_hideAll (trk h H) e;refine⟨e',?_⟩;cases q:H b with
 | none=>rfl
 | some x=>
  have hm:b∈trk h H:=dC.mpr ⟨fR.mpr (cn e'),by simp [q]⟩;have z:(yI h H).get? b=none:=PySem.W.hideAll_none (trk h H) hm;rw [z] at e; cases e
def Nv(g h:Heap)(L:ut):LO:=(List.range h.objs.size).filterMap fun a=>if a=L\/(g.get? a).isSome=true then none else (h.get? a).map fun o=>(a,o)
def rest(g h:Heap)(L d:ut):LO:=(Nv g h L).filter fun p=>decide (p.1≠d)
structure Mod (K:PySem.W.Frag) (mg:MG) (base:Heap):Prop where
 kin:K.In base
 glob:base.Ns xj mg
 blt:∃ mb,base.Ns builtinsNs mb/\∀ x:Str,x≠ "__name__" -> mb x=ye x
 nolimit:base.NoLimit
structure Cx where
 prog:uC
 w:ww
 K:PySem.W.Frag
 mg:MG
 base:Heap
 A:xf
 N:LS
 s₀:ue
 H₀:Hp
 env:Env
 outer:List Env
 stack:List Env
 ex:LA
 fn:Str->Bool
 calm:Bool
 pn:LO
 xe:ES
def frs(l:List Env):LA:=l.filterMap (·.frame)
abbrev Cx.fs(X:Cx):LA:=frs X.outer
def Vis(sc:Scope)(x:Str):Prop:=sc.names.lookup x=some .local\/sc.names.lookup x=some .cell\/sc.names.lookup x=some .free
def Loc(sc:Scope)(x:Str):Prop:=sc.names.lookup x=some .local\/sc.names.lookup x=some .cell
def Look(env:Env)(h:Heap)(m:MG)(x:Str)(u:sr):Prop:=
 (env.kindOf x=some .local/\m x=some u)\/((env.kindOf x=some .cell\/env.kindOf x=some .free)/\∃ c,env.cells.lookup x=some c/\h.IsCell c (some u))
structure Cx.Ok (X:Cx):Prop where
 mod:Mod X.K X.mg X.base
 kind:X.env.scope.kind=.function
 glob:X.env.globals=xj
 blt:X.env.builtins=builtinsNs
 above:X.s₀.heap.objs.size<=X.env.locals
 inj:∀ x y c,X.env.cells.lookup x=some c->X.env.cells.lookup y=some c->x=y
 has:∀ x,(X.env.kindOf x=some .cell\/X.env.kindOf x=some .free)->∃ c,X.env.cells.lookup x=some c
 cab:∀ x c,X.fn x=true->X.env.cells.lookup x=some c->X.s₀.heap.objs.size<=c
 hd:X.calm=true->X.A.handled=none
 frames:X.A.frames=some X.stack
 stk:X.stack=X.outer\/(X.stack=X.env::X.outer/\X.env.frame=some X.env.locals)
 exf:∀ b∈X.ex,b≠X.env.locals/\∀ x c,X.env.cells.lookup x=some c->c≠b
 bs:∀ b o,X.base.get? b=some o->X.s₀.heap.get? b=some o/\X.H₀ b=none
 bsz:X.base.objs.size<=X.s₀.heap.objs.size
 Hg:∀ b o,X.base.get? b=some o->b ∉ X.ex
 Ir:∀ b∈X.ex,b ∉ X.fs
 uJ:X.s₀.heap.FunFrames X.base X.outer
 frf:∀ b∈X.fs,X.H₀ b=none
structure Inv (X:Cx) (pins:LO) (σ:List OV) (H:Hp) (s:ue):Prop where
 ok:X.Ok
 os:s.os=X.s₀.os
 bare:Vj s.gens
 base:Un X.fs X.ex X.H₀ H X.s₀.heap s.heap
 loc:∃ m,s.heap.Ns X.env.locals m/\∀(i:Nat) (x:Str) (v:V),X.N[i]?=some x->σ[i]?=some (some v)->Vis X.env.scope x->∃ u,RelV v u/\Look X.env s.heap m x u
 cell:∀ x c,X.env.cells.lookup x=some c->∃ v,s.heap.IsCell c v
 free:H X.env.locals=none
 lR:∀ x c,X.env.cells.lookup x=some c->H c=none
 pin:∀ p∈X.pn++pins,s.heap.get? p.1=some p.2/\H p.1=none/\p.1≠X.env.locals/\p.1 ∉ X.fs/\∀ v,p.2.data≠.cell v
 hok:HOk X.prog X.w H s.heap
 len:σ.length=X.N.length
section
variable {X:Cx}{pins:LO}{σ:List OV}{H H':Hp}{s:ue}{h':Heap}
theorem Cx.Ok.Ue(ok:X.Ok){b:ut}{o:Obj}(e:X.base.get? b=some o):b ∉ X.fs:=fun hb=>by
 have:=(ok.uJ.mem hb).1;rw [e] at this; cases this
theorem Inv.bs(I:Inv X pins σ H s):∀ b o,X.base.get? b=some o->s.heap.get? b=some o/\H b=none:=fun b o e=>
 ⟨I.base.keep b o (I.ok.bs b o e).1 (I.ok.bs b o e).2 (I.ok.Ue e) (I.ok.Hg b o e),I.base.free b o (I.ok.bs b o e).1 (I.ok.bs b o e).2 (I.ok.Hg b o e)⟩
theorem Inv.bk(I:Inv X pins σ H s):∀ b o,X.base.get? b=some o->s.heap.get? b=some o:=fun b o e=>(I.bs b o e).1
theorem Inv.mod(I:Inv X pins σ H s):Mod X.K X.mg X.base:=I.ok.mod
theorem Inv.kIn(I:Inv X pins σ H s):X.K.In s.heap:=I.ok.mod.kin.keeps I.bk
theorem Inv.lt(I:Inv X pins σ H s):X.env.locals < s.heap.objs.size:=let ⟨_,hn,_⟩:=I.loc; hn.lt
theorem Inv.sz(I:Inv X pins σ H s):X.s₀.heap.objs.size<=s.heap.objs.size:=cS I.ok.above (Nat.le_of_lt I.lt)
theorem Inv.Uy(I:Inv X pins σ H s){a:ut}(h:s.heap.objs.size<=a):a ∉ X.fs:=fun hb=>by
 obtain ⟨_,o,ho,_⟩:=I.ok.uJ.mem hb;exact absurd (dS (cn ho) (cS I.sz h)) (kN _)
theorem Inv.cne(I:Inv X pins σ H s):∀ x c,X.env.cells.lookup x=some c->c≠X.env.locals:=fun x c e z=>by
 obtain ⟨v,o,ho,hd⟩:=I.cell x c e;obtain ⟨m,⟨o',es,ep,ho',hd',_⟩,_⟩:=I.loc;rw [z,ho'] at ho; cases ho; rw [hd'] at hd; cases hd
theorem Inv.uJ(I:Inv X pins σ H s):s.heap.FunFrames X.base X.outer:=by
 have all:∀(l:List Env),(∀ b∈frs l,b∈X.fs)->X.s₀.heap.FunFrames X.base l->s.heap.FunFrames X.base l:=by
  intro l
  induction l with
  | nil=>intro _ _; trivial
  | cons env r ih=>
   intro hs hl;obtain ⟨hk,⟨L,o,hf,hn,ho,hd⟩,hr⟩:=hl;have hL:L∈X.fs:=hs L (by unfold frs; rw [qS,hf]; exact bn);obtain ⟨sl,e⟩:=I.base.slot L o ho (I.ok.frf L hL) hL fun z=>I.ok.Ir L z hL;exact⟨hk,⟨L,_,hf,hn,e,hd⟩,ih (fun b hb=>hs b (by unfold frs; rw [qS,hf]; exact cr _ hb)) hr⟩
 exact all X.outer (fun _ hb=>hb) I.ok.uJ
theorem Inv.stack(I:Inv X pins σ H s):s.heap.FunFrames X.base X.stack:=by
 rcases I.ok.stk with e | ⟨e,hf⟩
 ·rw [e]; exact I.uJ
 ·rw [e];obtain ⟨m,hn,_⟩:=I.loc;refine .cons (by rw [I.ok.kind]; decide) hf hn ?_ I.uJ;exact Heap.get?_none_of_le (cS I.ok.bsz I.ok.above)
theorem Inv.DQ(I:Inv X pins σ H s):∀ b∈frs X.stack,b∈X.env.locals::X.fs:=fun b hb=>by
 rcases I.ok.stk with e | ⟨e,hf⟩
 ·rw [e] at hb; exact cr _ hb
 ·rw [e] at hb;unfold frs at hb;rw [qS,hf] at hb;exact hb
theorem Inv.GK(I:Inv X pins σ H s):∀ b∈frs X.stack,H b=none:=fun b hb=>by
 rcases bz.mp (I.DQ b hb) with e | hb
 ·rw [e]; exact I.free
 ·obtain ⟨_,o,ho,_⟩:=I.ok.uJ.mem hb;exact I.base.free b o ho (I.ok.frf b hb) fun z=>I.ok.Ir b z hb
theorem Inv.step{g':Array VM}{t':Nat}{d':Drawn}{ch:LA}(I:Inv X pins σ H s)
  (hch:∀ b∈ch,(b∈X.ex\/X.s₀.heap.objs.size<=b)/\b≠X.env.locals/\(∀ x c,X.env.cells.lookup x=some c->c≠b)/\∀ p∈X.pn++pins,p.1≠b)
  (keep:∀ b o,b≠X.env.locals->b ∉ X.fs->b ∉ ch->s.heap.get? b=some o->H b=none->h'.get? b=some o)
  (slot:∀ b o,b≠X.env.locals->b∈X.fs->b ∉ ch->s.heap.get? b=some o->H b=none->∃ sl,h'.get? b=some { o with slots:=sl }) (free:∀ b o,b ∉ ch->s.heap.get? b=some o->H b=none->H' b=none)
  (there:∀ b o,b ∉ ch->s.heap.get? b=some o->∃ o',h'.get? b=some o')
  (tups:∀ b xs,H b=some (.tup xs)->H' b=some (.tup xs)) (wg:∀ b o u,H b=some (.frz o u)->H' b=some (.frz o u)) (zF:∀ b ps,H b=some (.tbl ps)->∃ more,H' b=some (.tbl (ps++more)))
  (ns:∀ m,s.heap.Ns X.env.locals m->h'.Ns X.env.locals m) (hok:HOk X.prog X.w H' h') (hg:Vj g') :
  Inv X pins σ H' { s with heap:=h',gens:=g',drawn:=d',toks:=t' }:=by
 have neL:∀ b o,X.s₀.heap.get? b=some o->b≠X.env.locals:=fun b o e=>dm (dS (cn e) I.ok.above)
 have neC:∀ b o,X.s₀.heap.get? b=some o->b ∉ X.ex->b ∉ ch:=fun b o e hx hb=>by
  rcases (hch b hb).1 with z | z
  ·exact hx z
  ·exact absurd (dS (cn e) z) (kN _)
 have cellK:∀ x c,X.env.cells.lookup x=some c->∀ v,s.heap.IsCell c v->h'.IsCell c v:=fun x c e v ⟨o,ho,hd⟩=>by
  have nch:c ∉ ch:=fun z=>(hch c z).2.2.1 x c e rfl
  by_cases hc:c∈X.fs
  ·obtain ⟨sl,q⟩:=slot c o (I.cne x c e) hc nch ho (I.lR x c e);exact⟨_,q,hd⟩
  ·exact⟨o,keep c o (I.cne x c e) hc nch ho (I.lR x c e),hd⟩
 refine⟨I.ok,I.os,hg,⟨fun b o e n hb hx=>?_,fun b o e n hb hx=>?_,fun b o e n hx=>?_,fun b o e hx=>?_,fun b xs e=>tups b xs (I.base.tups b xs e),fun b o xs e=>wg b o xs (I.base.wg b o xs e),fun b ps e=>?_⟩,?_,fun x c e=>?_,?_,fun x c e=>?_,fun p hp=>?_,hok,I.len⟩
 ·exact keep b o (neL b o e) hb (neC b o e hx) (I.base.keep b o e n hb hx) (I.base.free b o e n hx)
 ·obtain ⟨sl,e1⟩:=I.base.slot b o e n hb hx;obtain ⟨sl',e2⟩:=slot b _ (neL b o e) hb (neC b o e hx) e1 (I.base.free b o e n hx);exact⟨sl',e2⟩
 ·obtain ⟨o',e1⟩:=I.base.there b o e hx;exact free b o' (neC b o e hx) e1 (I.base.free b o e n hx)
 ·obtain ⟨o',e1⟩:=I.base.there b o e hx;exact there b o' (neC b o e hx) e1
 ·obtain ⟨m1,e1⟩:=I.base.zF b ps e;obtain ⟨m2,e2⟩:=zF b _ e1;exact⟨m1++m2,by rw [e2,Array.append_assoc]⟩
 ·obtain ⟨m,hn,hl⟩:=I.loc;refine⟨m,ns m hn,fun i x v e1 e2 e3=>?_⟩;obtain ⟨u,r,l⟩:=hl i x v e1 e2 e3;refine⟨u,r,?_⟩;rcases l with l | ⟨k,c,e,z⟩
  ·exact .inl l
  ·exact .inr ⟨k,c,e,cellK x c e _ z⟩
 ·obtain ⟨v,z⟩:=I.cell x c e;exact⟨v,cellK x c e v z⟩
 ·obtain ⟨m,⟨o,_,_,ho,_⟩,_⟩:=I.loc;exact free _ o (fun z=>(hch _ z).2.1 rfl) ho I.free
 ·obtain ⟨v,o,ho,hd⟩:=I.cell x c e;exact free c o (fun z=>(hch c z).2.2.1 x c e rfl) ho (I.lR x c e)
 ·obtain ⟨e,n,ne,nf,d⟩:=I.pin p hp;have nch:p.1 ∉ ch:=fun z=>(hch p.1 z).2.2.2 p hp rfl;exact⟨keep p.1 p.2 ne nf nch e n,free p.1 p.2 nch e n,ne,nf,d⟩
theorem Inv.un{t':Nat}(I:Inv X pins σ H s)(u:Un X.fs [] H H' s.heap h')(hok:HOk X.prog X.w H' h'):Inv X pins σ H' { s with heap:=h',toks:=t' }:=by
 obtain ⟨m,⟨o,es,ep,ho,r⟩,_⟩:=id I.loc;obtain ⟨sl,hL⟩:=u.any ho I.free ‹45›
 exact I.step (g':=s.gens) (d':=s.drawn) (ch:=[]) (fun _ z=>nomatch z) (fun b o _ hb _ e n=>u.keep b o e n hb ‹45›) (fun b o _ hb _ e n=>u.slot b o e n hb ‹45›) (fun b o _ e n=>u.free b o e n ‹45›) (fun b o _ e=>u.there b o e ‹45›) u.tups u.wg u.zF (fun m' hm=>by
  obtain ⟨o',es',ep',ho',r'⟩:=hm;rw [ho] at ho'; cases ho';exact⟨_,es',ep',hL,r'⟩) hok I.bare
theorem Inv.call{g':Array VM}{t':Nat}{d':Drawn}{ch:LA}(I:Inv X pins σ H s)(u:Un (frs X.stack) ch H H' s.heap h')(hok:HOk X.prog X.w H' h')(hg:Vj g')
  (hch:∀ b∈ch,(b∈X.ex\/X.s₀.heap.objs.size<=b)/\b≠X.env.locals/\(∀ x c,X.env.cells.lookup x=some c->c≠b)/\∀ p∈X.pn++pins,p.1≠b) :
  Inv X pins σ H' { s with heap:=h',gens:=g',drawn:=d',toks:=t' }:=by
 obtain ⟨m,⟨o,es,ep,ho,r⟩,_⟩:=id I.loc;obtain ⟨sl,hL⟩:=u.any ho I.free fun z=>(hch _ z).2.1 rfl
 exact I.step (ch:=ch) hch (fun b o hL hb hc e n=>u.keep b o e n (fun z=>(bz.mp (I.DQ b z)).elim hL hb) hc) (fun b o _ _ hc e n=>u.any e n hc) (fun b o hc e n=>u.free b o e n hc) (fun b o hc e=>u.there b o e hc) u.tups u.wg u.zF (fun m' hm=>by
  obtain ⟨o',es',ep',ho',r'⟩:=hm;rw [ho] at ho'; cases ho';exact⟨_,es',ep',hL,r'⟩) hok hg
theorem Inv.turned{t':Nat}{it:ut}(I:Inv X pins σ H s)(k:∀ b o,b≠it->s.heap.get? b=some o->h'.get? b=some o)(hn:H it=none)(hL:it≠X.env.locals)
  (h1:it∈X.ex\/X.s₀.heap.objs.size<=it) (h2:∀ x c,X.env.cells.lookup x=some c->c≠it) (h3:∀ p∈X.pn++pins,p.1≠it):Inv X pins σ H { s with heap:=h',toks:=t' }:=by
 have nit:∀ b u,H b=some u->b≠it:=fun b u e z=>by rw [z,hn] at e; cases e
 refine I.step (g':=s.gens) (d':=s.drawn) (ch:=[it]) (fun b hb=>?_) (fun b o _ _ hc e _=>k b o (fun z=>hc (by simp [z])) e) (fun b o _ _ hc e _=>⟨o.slots,k b o (fun z=>hc (by simp [z])) e⟩) (fun _ _ _ _ n=>n)
  (fun b o hc e=>⟨o,k b o (fun z=>hc (by simp [z])) e⟩) (fun _ _ e=>e) (fun _ _ _ e=>e) (fun b ps e=>⟨#[],by rw [e]; simp⟩) (fun m hm=>?_) (fun b u e=>?_) I.bare
 ·have e:b=it:=by simpa using hb
  subst e;exact⟨h1,hL,h2,h3⟩
 ·obtain ⟨o,es,ep,ho,r⟩:=hm;exact⟨o,es,ep,k _ o (kL hL) ho,r⟩
 ·refine(I.hok b u e).stay (fun c v hc q=>k c v ?_ q) (fun _ q=>q) fun _ _ q=>q;rcases hc with z | z
  ·rw [z]; exact nit b u e
  ·exact nit c _ z
theorem Inv.tok(I:Inv X pins σ H s)(t:Nat):Inv X pins σ H { s with toks:=t }:=I.un (h':=s.heap) (t':=t) Un.refl I.hok
theorem Inv.kept{t':Nat}(I:Inv X pins σ H s)(k:∀ b u,s.heap.get? b=some u->h'.get? b=some u):Inv X pins σ H { s with heap:=h',toks:=t' }:=I.un (Un.kept k) (I.hok.kept k)
theorem Inv.laid{a:ut}{o:HO}{t':Nat}(I:Inv X pins σ H s)(k:∀ b u,s.heap.get? b=some u->h'.get? b=some u)(hp:s.heap.objs.size<=a)(new:cT X.prog X.w (upd H a o) h' a o) :
  Inv X pins σ (upd H a o) { s with heap:=h',toks:=t' }:=I.un (Un.laid k hp (I.hok.fresh hp)) (I.hok.laid k hp new)
theorem Inv.write{x e:ut}{o:HO}{t':Nat}(I:Inv X pins σ H s)(mu:Mut (H x))(he:e=x\/H e=some (.own x))(k:∀ b u,b≠e->s.heap.get? b=some u->h'.get? b=some u)(heo:∃ u,h'.get? e=some u)
  (new:cT X.prog X.w (upd H x o) h' x o):Inv X pins σ (upd H x o) { s with heap:=h',toks:=t' }:=I.un (Un.write mu he k heo) (I.hok.write mu he k heo new)
theorem Inv.Fp{pins':LO}(I:Inv X pins σ H s)(h:∀ p∈pins',s.heap.get? p.1=some p.2/\H p.1=none/\p.1≠X.env.locals/\p.1 ∉ X.fs/\∀ v,p.2.data≠.cell v):Inv X pins' σ H s:=
 ⟨I.ok,I.os,I.bare,I.base,I.loc,I.cell,I.free,I.lR,fun p hp=>(cw.mp hp).elim (fun z=>I.pin p (fk _ z)) (h p),I.hok,I.len⟩
theorem Bq{N:LS}(hN:N.Nodup){i j:Nat}{x:Str}(a:N[i]?=some x)(b:N[j]?=some x):i=j:=by
 obtain ⟨h1,e1⟩:=bv.mp a;obtain ⟨h2,e2⟩:=bv.mp b;exact(List.getElem_inj hN).mp (e1.trans e2.symm)
theorem yx{M:Model}{A:xf}{E:ES}{i:Nat}{x:Str}{v:V}{u:sr}{Q:Unit->ue->Prop}(I:Inv X pins σ H s)(hN:X.N.Nodup)(hi:X.N[i]?=some x)(hx:Loc X.env.scope x)(r:RelV v u)
  (h:∀ s',Inv X pins (σ.set i (some v)) H s'->(∃ a,Heap.SameBut a s.heap s'.heap/\(a=X.env.locals\/X.env.cells.lookup x=some a))->Q () s') (hf:X.fn x=true\/X.env.scope.names.lookup x=some .local:=by first | exact .inl rfl | exact .inr rfl | assumption):uv M A (storeName X.env x u) Q E s:=by
 obtain ⟨m,hn,hl⟩:=id I.loc;have hcls:(X.env.scope.kind == .class || (X.env.scope.kind == .module && X.env.locals != X.env.globals))=false:=by rw [I.ok.kind]; rfl
 have hiσ:i < σ.length:=by rw [I.len]; exact(bv.mp hi).1
 have cne:=I.cne
 have tracked:∀ {a:ut} {h':Heap},(∃ o,s.heap.get? a=some o/\H a=none)->Heap.SameBut a s.heap h'->HOk X.prog X.w H h':=fun {a h'} ha hs b ob e=>by
  obtain ⟨_,_,hfree⟩:=ha;refine(I.hok b ob e).stay (fun c w' hc q=>(hs.2 c ?_).trans q) (fun _ q=>q) fun _ _ q=>q;rintro rfl;rcases hc with rfl | hc
  ·rw [hfree] at e; cases e
  ·rw [hfree] at hc; cases hc
 rcases hx with hk | hk
 ·refine wpAny_storeName_local hk hn (fun h' hn' hs=>?_) hcls;obtain ⟨oL,_,_,hoL,_⟩:=id hn;refine h _ ⟨I.ok,I.os,I.bare,⟨fun b o e n hb hx=>?_,fun b o e n hb hx=>?_,I.base.free,fun b o e hx=>?_,I.base.tups,I.base.wg,I.base.zF⟩,⟨_,hn',fun j y v' e1 e2 e3=>?_⟩,fun y c e=>?_,I.free,I.lR,fun p hp=>?_,tracked ⟨oL,hoL,I.free⟩ hs,by simpa using I.len⟩ ⟨_,hs,.inl rfl⟩
  ·exact(hs.2 b (dm (dS (cn e) I.ok.above))).trans (I.base.keep b o e n hb hx)
  ·obtain ⟨sl,e1⟩:=I.base.slot b o e n hb hx;exact⟨sl,(hs.2 b (dm (dS (cn e) I.ok.above))).trans e1⟩
  ·obtain ⟨o',e1⟩:=I.base.there b o e hx;exact⟨o',(hs.2 b (dm (dS (cn e) I.ok.above))).trans e1⟩
  ·by_cases hj:j=i
   ·subst hj;rw [hi] at e1; cases e1;rw [List.getElem?_set_self hiσ] at e2;cases e2;exact⟨u,r,.inl ⟨hk,by simp⟩⟩
   ·rw [List.getElem?_set_ne (kL hj)] at e2;obtain ⟨u',r',q⟩:=hl j y v' e1 e2 e3;refine⟨u',r',?_⟩;rcases q with ⟨k,e⟩ | ⟨k,c,e,z⟩
    ·refine .inl ⟨k,?_⟩;have:y≠x:=fun e=>hj (Bq hN e1 (e ▸ hi));simp [this,e]
    ·exact .inr ⟨k,c,e,z.sameBut hs (cne y c e)⟩
  ·obtain ⟨w',z⟩:=I.cell y c e;exact⟨w',z.sameBut hs (cne y c e)⟩
  ·obtain ⟨e,n,ne,nf,d⟩:=I.pin p hp;exact⟨(hs.2 p.1 ne).trans e,n,ne,nf,d⟩
 ·have hfn:X.fn x=true:=by
   rcases hf with z | z
   ·exact z
   ·rw [z] at hk; cases hk
  obtain ⟨c,hc⟩:=I.ok.has x (.inl hk);obtain ⟨w',z⟩:=I.cell x c hc;refine wpAny_storeName_cell I.ok.kind hk hc z (fun h' hc' hs=>?_);obtain ⟨oc,hoc,hocd⟩:=id z;refine h { s with heap:=h' } ⟨I.ok,I.os,I.bare,⟨fun b o e n hb hx=>?_,fun b o e n hb hx=>?_,I.base.free,fun b o e hx=>?_,I.base.tups,I.base.wg,I.base.zF⟩,⟨m,hn.sameBut hs (kL (cne x c hc)),fun j y v' e1 e2 e3=>?_⟩,fun y c' e=>?_,I.free,I.lR,fun p hp=>?_,tracked ⟨oc,hoc,I.lR x c hc⟩ hs,by simpa using I.len⟩ ⟨c,hs,.inr hc⟩
  ·exact(hs.2 b (dm (dS (cn e) (I.ok.cab x c hfn hc)))).trans (I.base.keep b o e n hb hx)
  ·obtain ⟨sl,e1⟩:=I.base.slot b o e n hb hx;exact⟨sl,(hs.2 b (dm (dS (cn e) (I.ok.cab x c hfn hc)))).trans e1⟩
  ·obtain ⟨o',e1⟩:=I.base.there b o e hx;exact⟨o',(hs.2 b (dm (dS (cn e) (I.ok.cab x c hfn hc)))).trans e1⟩
  ·by_cases hj:j=i
   ·subst hj;rw [hi] at e1; cases e1;rw [List.getElem?_set_self hiσ] at e2;cases e2;exact⟨u,r,.inr ⟨.inl hk,c,hc,hc'⟩⟩
   ·rw [List.getElem?_set_ne (kL hj)] at e2;obtain ⟨u',r',q⟩:=hl j y v' e1 e2 e3;refine⟨u',r',?_⟩;rcases q with q | ⟨k,c',e,z'⟩
    ·exact .inl q
    ·refine .inr ⟨k,c',e,z'.sameBut hs ?_⟩;rintro rfl;exact hj (Bq hN e1 (I.ok.inj _ _ _ e hc ▸ hi))
  ·by_cases hcc:c'=c
   ·subst hcc; exact⟨_,hc'⟩
   ·obtain ⟨w2,z2⟩:=I.cell y c' e;exact⟨w2,z2.sameBut hs hcc⟩
  ·obtain ⟨e,n,ne,nf,d⟩:=I.pin p hp;refine⟨(hs.2 p.1 ?_).trans e,n,ne,nf,d⟩;intro q;rw [q,hoc] at e;have q':oc=p.2:=ck e;exact d w' (by rw [<- q']; exact hocd)
theorem Bv{M:Model}{A:xf}{E:ES}{i:Nat}{x:Str}{v:V}{u:sr}{Q:Unit->ue->Prop}(I:Inv X pins σ H s)(hN:X.N.Nodup)(hi:X.N[i]?=some x)(hx:Loc X.env.scope x)(r:RelV v u)
  (h:∀ s',Inv X pins (σ.set i (some v)) H s'->Q () s') (hf:X.fn x=true\/X.env.scope.names.lookup x=some .local:=by first | exact .inl rfl | exact .inr rfl | assumption):uv M A (storeName X.env x u) Q E s:=
 yx I hN hi hx r (fun s' I' _=>h s' I') hf
theorem Inv.call'{s':ue}{ch:LA}(I:Inv X pins σ H s)(ho:s'.os=s.os)(u:Un (frs X.stack) ch H H' s.heap s'.heap)(hok:HOk X.prog X.w H' s'.heap)(hg:Vj s'.gens)
  (hch:∀ b∈ch,(b∈X.ex\/X.s₀.heap.objs.size<=b)/\b≠X.env.locals/\(∀ x c,X.env.cells.lookup x=some c->c≠b)/\∀ p∈X.pn++pins,p.1≠b):Inv X pins σ H' s':=by
 obtain ⟨h',g',d',t',o'⟩:=s';have e:o'=s.os:=ho;subst e;exact I.call (g':=g') (t':=t') (d':=d') u hok hg hch
end
abbrev XK:=sr->Option ut->Hp->Prop
abbrev St:=List OV
abbrev VK:=V->Hp->Prop
abbrev TE:=St->Hp->VK->Prop
abbrev TT:=St->Hp->(Bool->Hp->Prop)->Prop
abbrev TA:=St->Hp->(LV->Hp->Prop)->Prop
structure Ends where
 nx:St->Hp->Prop
 rt:VK
 bk:St->Hp->Prop:=fun _ _=>False
 ct:St->Hp->Prop:=fun _ _=>False
abbrev TS:=Ends->St->Hp->Prop
inductive EP (X:Cx) (pins:LO) (σ:St) (Q:VK) (u:sr) (s':ue):Prop
 | mk (v H':_):Inv X pins σ H' s'->RelV v u->Q v H'->EP X pins σ Q u s'
def TP(X:Cx)(pins:LO)(σ:St)(Q:Bool->Hp->Prop)(b:Bool)(s':ue):Prop:=∃ H',Inv X pins σ H' s'/\Q b H'
inductive AP (X:Cx) (pins:LO) (σ:St) (Q:LV->Hp->Prop) (us:LU) (s':ue):Prop
 | mk (vs H':_):Inv X pins σ H' s'->Vals vs us->Q vs H'->AP X pins σ Q us s'
def SP(X:Cx)(pins:LO)(D:Ends)(f:Flow)(s':ue):Prop:=
 match f with
 | .next=>∃ σ' H',Inv X pins σ' H' s'/\D.nx σ' H'
 | .brk=>∃ σ' H',Inv X pins σ' H' s'/\D.bk σ' H'
 | .cont=>∃ σ' H',Inv X pins σ' H' s'/\D.ct σ' H'
 | .ret u=>∃ v σ' H',Inv X pins σ' H' s'/\RelV v u/\D.rt v H'
def PE(X:Cx)(e:Expr)(t:TE):Prop:=
 ∀(pins:LO) (s:ue) (σ:St) (H:Hp) (Q:VK),Inv X pins σ H s->t σ H Q->uv ‹9› X.A (eval e X.env) (EP X pins σ Q) X.xe s
def PT(X:Cx)(e:Expr)(t:TT):Prop:=
 ∀(pins:LO) (s:ue) (σ:St) (H:Hp) (Q:Bool->Hp->Prop),Inv X pins σ H s->t σ H Q->uv ‹9› X.A (isTrue e X.env (eval e X.env)) (TP X pins σ Q) X.xe s
def PW(X:Cx)(e:Expr)(t:TT):Prop:=
 ∀(whole:Sem sr) (pins:LO) (s:ue) (σ:St) (H:Hp) (Q:Bool->Hp->Prop),Inv X pins σ H s->t σ H Q->uv ‹9› X.A (isTrue e X.env whole) (TP X pins σ Q) X.xe s
theorem PW.pt{X:Cx}{e:Expr}{t:TT}(h:PW X e t):PT X e t:=h _
abbrev V5:=@PW.pt
def PA(X:Cx)(es:List Expr)(t:TA):Prop:=
 ∀(pos:Pos) (pins:LO) (s:ue) (σ:St) (H:Hp) (Q:LV->Hp->Prop),Inv X pins σ H s->t σ H Q->uv ‹9› X.A (spliced (NB pos (xx es X.env))) (AP X pins σ Q) X.xe s
def PS(X:Cx)(st:Stmt)(t:TS):Prop:=
 ∀(pins:LO) (s:ue) (σ:St) (H:Hp) (D:Ends),Inv X pins σ H s->t D σ H->uv ‹9› X.A (exec st X.env) (SP X pins D) X.xe s
def PSs(X:Cx)(st:List Stmt)(t:TS):Prop:=
 ∀(pins:LO) (s:ue) (σ:St) (H:Hp) (D:Ends),Inv X pins σ H s->t D σ H->uv ‹9› X.A (execs st X.env) (SP X pins D) X.xe s
theorem thn{α:Type}{t:Sem α}{Q Q':α->ue->Prop}{M:Model}{A:xf}{E:ES}{s:ue}(h:uv M A t Q E s)(hQ:∀ a s,Q a s->Q' a s):uv M A t Q' E s:=ib h hQ fun _ _ x=>x
section
variable {X:Cx}
inductive KR (i:Nat) (σ:St) (H:Hp) (Q:VK):Prop
 | mk (v:_):σ[i]?=some (some v)->Q v H->KR i σ H Q
def tC(v:V):TE:=fun _ H Q=>Q v H
theorem Rx{i:Nat}{x:Str}{pos:Pos}(hN:X.N[i]?=some x)(hv:Vis X.env.scope x)(hd:(x == ("__debug__" : Str))=false:=by decide)(hcd:(x == ("__classdict__" : Str))=false:=by decide):PE X (.Name x pos) (KR i):=by
 exists 12;obtain ⟨v,e,h⟩:=h;obtain ⟨m,hn,hl⟩:=I.loc;obtain ⟨u,r,l⟩:=hl i x v hN e hv;have fin:EP X pins σ Q u s:=⟨v,H,I,r,h⟩;rcases l with ⟨hk,hm⟩ | ⟨hk,c,hc,hcell⟩
 ·exact wpAny_Name (wpAny_loadName_local I.ok.kind hk hn hm fin) hd
 ·rcases hk with hk | hk
  ·exact wpAny_Name (wpAny_loadName_cell I.ok.kind hk hc hcell fin) hd
  ·exact wpAny_Name (wpAny_loadName_free I.ok.kind hk hc hcell fin hcd) hd
theorem aC{i j pos}:PE X (.Constant (.int i) j pos) (tC (.int i)):=fun _ _ _ H _ I h=>wpAny_Constant_int ⟨.int i,H,I.tok _,⟨_,rfl⟩,h⟩
theorem fO{b j pos}:PE X (.Constant (.bool b) j pos) (tC (.bl b)):=fun _ _ _ H _ I h=>Constant_bool ⟨.bl b,H,I,rfl,h⟩
theorem jR{j pos}:PE X (.Constant .none j pos) (tC .non):=fun _ _ _ H _ I h=>Constant_none ⟨.non,H,I,rfl,h⟩
theorem dG{x j pos}:PE X (.Constant (.str x) j pos) (tC (.str x)):=fun _ _ _ H _ I h=>Calls.Constant_str ⟨.str x,H,I.tok _,⟨_,rfl⟩,h⟩
def Gl(X:Cx)(x:Str):Prop:=X.env.kindOf x=some .globalImplicit
theorem Gy{E:ES}{pins:LO}{s:ue}{σ:St}{H:Hp}{x:Str}{u:sr}{pos:Pos}{Q:ES}(I:Inv X pins σ H s)(hg:Gl X x)(hm:X.mg x=some u)(h:Q u s)
  (hd:(x == ("__debug__" : Str))=false:=by decide):uv ‹9› X.A (eval (.Name x pos) X.env) Q E s:=
 Calls.Name_function_global I.ok.kind hg (Calls.loadGlobal_global (by rw [I.ok.glob]; exact I.mod.glob.keeps I.bk) hm h) hd
theorem rm{E:ES}{pins:LO}{s:ue}{σ:St}{H:Hp}{x:Str}{u:sr}{pos:Pos}{Q:ES}(I:Inv X pins σ H s)(hg:Gl X x)(hm:X.mg x=none)(hv:ye x=some u)(h:Q u s)
  (hn:x≠ "__name__" := by decide) (hd:(x == ("__debug__" : Str))=false:=by decide):uv ‹9› X.A (eval (.Name x pos) X.env) Q E s:=by
 obtain ⟨mb,h1,h2⟩:=I.mod.blt;exact Calls.Name_function_global I.ok.kind hg (Calls.loadGlobal_builtin (by rw [I.ok.glob]; exact I.mod.glob.keeps I.bk) hm (by rw [I.ok.blt]; exact h1.keeps I.bk) ((h2 x hn).trans hv) h) hd
theorem rH{x:Str}{v:V}{u:sr}{pos:Pos}(hg:Gl X x)(hm:X.mg x=some u)(r:RelV v u)(hd:(x == ("__debug__" : Str))=false:=by decide):PE X (.Name x pos) (tC v):=
 fun _ _ _ H _ I h=>Gy I hg hm ⟨v,H,I,r,h⟩ hd
theorem cF{x:Str}{v:V}{u:sr}{pos:Pos}(hg:Gl X x)(hm:X.mg x=none)(hv:ye x=some u)(r:RelV v u)(hn:x≠ "__name__" := by decide)(hd:(x == ("__debug__" : Str))=false:=by decide):PE X (.Name x pos) (tC v):=
 fun _ _ _ H _ I h=>rm I hg hm hv ⟨v,H,I,r,h⟩ hn hd
variable {a b:Expr}{ta tb:TE}{pos:Pos}
def PC(X:Cx)(op:CmpOp)(a b:Expr)(t:TE):Prop:=
 ∀(pins:LO) (s:ue) (σ:St) (H:Hp) (Q:VK),Inv X pins σ H s->t σ H Q->
  uv ‹9› X.A (eval a X.env) (fun v s₁=>uv ‹9› X.A (eval b X.env) (fun u s₂=>uv ‹9› X.A (xN op v u) (EP X pins σ Q) X.xe s₂) X.xe s₁) X.xe s
inductive tBI (Q:Bool->Hp->Prop) (x:V) (H1:Hp):Prop
 | mk (c:_):x=.bl c->Q c H1->tBI Q x H1
def tB(t:TE):TT:=fun σ H Q=>t σ H fun x H1=>tBI Q x H1
theorem JN{op:CmpOp}{t:TE}(h:PC X op a b t)(h1:QQ op b=false:=by first | exact nobehind _ ‹6› ‹6› | rfl):PE X (.Compare a [op] [b] pos) t:=fun pins s σ H Q I hw=>wpAny_Compare1 (h pins s σ H Q I hw) h1
theorem zM{op:CmpOp}{t:TE}(h:PC X op a b t)(h1:QQ op b=false:=by first | exact nobehind _ ‹6› ‹6› | rfl):PT X (.Compare a [op] [b] pos) (tB t):=by
 intro pins s σ H Q I hw;refine wpAny_isTrue_Compare1 (thn (h pins s σ H _ I hw) fun v s1 h1=>thn h1 fun u s2 h2=>thn h2 fun c s3 ⟨x,H1,I1,r1,q1⟩=>?_) h1;obtain ⟨d,rfl,q⟩:=q1;cases r1;exact gL ⟨H1,I1,q⟩
theorem bZ{e:Expr}{t:TE}(h:PE X e t)(he:∀ whole,isTrue e X.env whole=(do let v <- whole; standAt e.pos; UT [v] (truthy v)):=by intro _; rfl):PT X e (tB t):=by
 intro pins s σ H Q I hw;refine isTrue_plain (thn (h pins s σ H _ I hw) fun v s1 ⟨x,H1,I1,r1,q1⟩=>?_) (he _);obtain ⟨d,rfl,q⟩:=q1;cases r1;exact gL ⟨H1,I1,q⟩
variable {tA tB':TT}{rest:List Expr}
def Ua(t u:TT):TT:=fun σ H Q=>t σ H fun c H1=>if c=true then u σ H1 Q else Q false H1
def tOr(t u:TT):TT:=fun σ H Q=>t σ H fun c H1=>if c=true then Q true H1 else u σ H1 Q
def Uc(t:TT):TT:=fun σ H Q=>t σ H fun c H1=>Q (!c) H1
theorem uV(ha:PT X a tA):PW X (.BoolOp .And [a] pos) tA:=by
 intro wh pins s σ H Q I h;refine isTrue_and (thn (ha pins s σ H Q I h) fun c s1 e=>?_);cases c with
 | true=>exact isTrue_and_nil e
 | false=>exact e
theorem gk(ha:PT X a tA):PW X (.BoolOp .Or [a] pos) tA:=by
 intro wh pins s σ H Q I h;refine isTrue_or (thn (ha pins s σ H Q I h) fun c s1 e=>?_);cases c with
 | false=>exact isTrue_or_nil e
 | true=>exact e
theorem tZ(ha:PT X a tA)(hb:PW X (.BoolOp .And (b::rest) pos) tB'):PW X (.BoolOp .And (a::b::rest) pos) (Ua tA tB'):=by
 intro wh pins s σ H Q I h;refine isTrue_and (thn (ha pins s σ H _ I h) fun c s1 ⟨H1,I1,q1⟩=>?_);cases c with
 | true=>exact hb wh pins s1 σ H1 Q I1 q1
 | false=>exact⟨H1,I1,q1⟩
theorem gK(ha:PT X a tA)(hb:PW X (.BoolOp .Or (b::rest) pos) tB'):PW X (.BoolOp .Or (a::b::rest) pos) (tOr tA tB'):=by
 intro wh pins s σ H Q I h;refine isTrue_or (thn (ha pins s σ H _ I h) fun c s1 ⟨H1,I1,q1⟩=>?_);cases c with
 | true=>exact⟨H1,I1,q1⟩
 | false=>exact hb wh pins s1 σ H1 Q I1 q1
theorem cL(ha:PT X a tA):PT X (.UnaryOp .Not a pos) (Uc tA):=by
 exists 12;exact isTrue_not (ha pins s σ H (fun c H1=>Q (!c) H1) I h)
inductive Jm (tb:TE) (σ:St) (Q:VK) (x:V) (H1:Hp):Prop
 | mk (c:_):x=.bl c->(if c=true then tb σ H1 Q else Q (.bl false) H1)->Jm tb σ Q x H1
def S8(ta tb:TE):TE:=fun σ H Q=>ta σ H fun x H1=>Jm tb σ Q x H1
inductive Ln (Q:VK) (x:V) (H1:Hp):Prop
 | mk (c:_):x=.bl c->Q (.bl (!c)) H1->Ln Q x H1
def R7(ta:TE):TE:=fun σ H Q=>ta σ H fun x H1=>Ln Q x H1
theorem jP{op}{t:TE}(h:PE X a t):PE X (.BoolOp op [a] pos) t:=fun pins s σ H Q I hw=>BoolOp_one (h pins s σ H Q I hw)
theorem iG(ha:PE X a ta)(hb:PE X (.BoolOp .And (b::rest) pos) tb):PE X (.BoolOp .And (a::b::rest) pos) (S8 ta tb):=by
 exists 12;refine BoolOp_and (thn (ha pins s σ H _ I h) fun v s1 ⟨x,H1,I1,r1,q1⟩=>?_);obtain ⟨c,rfl,q1⟩:=q1;cases r1;refine gL ?_;cases c with
 | true=>exact hb pins s1 σ H1 Q I1 q1
 | false=>exact⟨.bl false,H1,I1,rfl,q1⟩
theorem M4(ha:PE X a ta):PE X (.UnaryOp .Not a pos) (R7 ta):=by
 exists 12;refine UnaryOp_ (thn (ha pins s σ H _ I h) fun v s1 ⟨x,H1,I1,r1,q1⟩=>?_);obtain ⟨c,rfl,q1⟩:=q1;cases r1;exact not_of (gL ⟨.bl (!c),H1,I1,rfl,q1⟩)
end
def SqL(K:PySem.W.Frag)(H:Hp)(a:ut)(xs:LV):Prop:=
 Rd H a (.lst xs)\/
  ∃(o:Obj) (its:AV) (n:Nat),K.lookup a=some o/\o.cls=.type "list" /\ o.dict=none/\o.data=.seq its n/\its.size<=sizeLine/\Vals xs its.toList
def SqT(K:PySem.W.Frag)(H:Hp)(a:ut)(xs:LV):Prop:=
 Rd H a (.tup xs)\/
  ∃(o:Obj) (its:AV) (n:Nat),K.lookup a=some o/\o.cls=.type "tuple" /\ o.data=.seq its n/\its.size<=sizeLine/\Vals xs its.toList
def Ud:sr->OV
 | .none=>some .non
 | .bool b=>some (.bl b)
 | .int i _=>some (.int i)
 | .str x _=>some (.str x)
 | .bytes b _=>some (.byt b)
 | .float b _=>some (.flt b)
 | .ref a=>some (.ref a)
 | .type n=>some (.ty n)
 | _=>none
theorem RelV.abs{x:V}{u:sr}(r:RelV x u):Ud u=some x:=by
 cases x with
 | non=>cases r; rfl
 | bl _=>cases r; rfl
 | int _=>obtain ⟨t,rfl⟩:=r; rfl
 | str _=>obtain ⟨t,rfl⟩:=r; rfl
 | byt _=>obtain ⟨t,rfl⟩:=r; rfl
 | flt _=>obtain ⟨t,rfl⟩:=r; rfl
 | ref _=>cases r; rfl
 | ty _=>cases r; rfl
theorem RelV.inj{x y:V}{u:sr}(r:RelV x u)(q:RelV y u):x=y:=ck (r.abs.symm.trans q.abs)
theorem Vals.inj:∀ {xs ys:LV} {us:LU},Vals xs us->Vals ys us->xs=ys
 | _,_,_,.nil,.nil=>rfl
 | _,_,_,.cons r t,.cons r' t'=>by rw [r.inj r',Vals.inj t t']
section
variable {X:Cx}{pins:LO}{σ:St}{H:Hp}{s:ue}{a:ut}{xs ys:LV}
theorem SqL.of{K:PySem.W.Frag}(h:H a=some (.lst xs)):SqL K H a xs:=.inl (.inl h)
abbrev V6:=@SqL.of
theorem SqT.of{K:PySem.W.Frag}(h:H a=some (.tup xs)):SqT K H a xs:=.inl (.inl h)
abbrev V7:=@SqT.of
theorem Inv.list(I:Inv X pins σ H s)(h:SqL X.K H a xs):∃ its:LU,Vals xs its/\PlainL s.heap a its.toArray/\xs.length<=sizeLine:=by
 rcases h with h | ⟨o,its,n,hk,hc,hd,hs,hz,r⟩
 ·obtain ⟨z,its,n,r,e⟩:=h.ok I.hok;exact⟨its,r,⟨_,n,e,rfl,rfl,rfl⟩,z⟩
 ·refine⟨its.toList,r,⟨o,n,I.kIn a o hk,hc,hd,by simpa using hs⟩,?_⟩;have e:=r.length;simp only [fE] at e;omega
theorem Inv.tuple(I:Inv X pins σ H s)(h:SqT X.K H a xs):∃ its:LU,Vals xs its/\IsTup s.heap a its.toArray/\xs.length<=sizeLine:=by
 rcases h with h | ⟨o,its,n,hk,hc,hs,hz,r⟩
 ·obtain ⟨z,its,r,p⟩:=h.ok I.hok;exact⟨its,r,p,z.1⟩
 ·refine⟨its.toList,r,⟨o,I.kIn a o hk,hc,n,by simpa using hs⟩,?_⟩;have e:=r.length;simp only [fE] at e;omega
theorem Inv.Al(I:Inv X pins σ H s)(h:SqL X.K H a xs)(h':SqL X.K H a ys):xs=ys:=by
 obtain ⟨its,r,⟨o,n,e,_,_,d⟩,_⟩:=I.list h;obtain ⟨its',r',⟨o',n',e',_,_,d'⟩,_⟩:=I.list h';rw [e] at e'; cases e';rw [d] at d';injection d' with d1 _;have:its=its':=by simpa using congrArg Array.toList d1
 subst this;exact r.inj r'
theorem Inv.qg(I:Inv X pins σ H s)(h:SqT X.K H a xs)(h':SqT X.K H a ys):xs=ys:=by
 obtain ⟨its,r,⟨o,e,_,n,d⟩,_⟩:=I.tuple h;obtain ⟨its',r',⟨o',e',_,n',d'⟩,_⟩:=I.tuple h';rw [e] at e'; cases e';rw [d] at d';injection d' with d1 _;have:its=its':=by simpa using congrArg Array.toList d1
 subst this;exact r.inj r'
end
abbrev Cx.wish(X:Cx)(E:ES):Cx:={ X with xe:=E }
abbrev Cx.nox(X:Cx):Cx:=X.wish fun _ _=>False
theorem Cx.Ok.wish{X:Cx}(ok:X.Ok)(E:ES):(X.wish E).Ok:=
 ⟨ok.mod,ok.kind,ok.glob,ok.blt,ok.above,ok.inj,ok.has,ok.cab,ok.hd,ok.frames,ok.stk,ok.exf,ok.bs,ok.bsz,ok.Hg,ok.Ir,ok.uJ,ok.frf⟩
theorem Cx.Ok.pQ{X:Cx}{E:ES}(ok:(X.wish E).Ok):X.Ok:=
 ⟨ok.mod,ok.kind,ok.glob,ok.blt,ok.above,ok.inj,ok.has,ok.cab,ok.hd,ok.frames,ok.stk,ok.exf,ok.bs,ok.bsz,ok.Hg,ok.Ir,ok.uJ,ok.frf⟩
section
variable {X:Cx}{pins:LO}{σ:St}{H:Hp}{s:ue}{E:ES}
theorem Inv.wish(I:Inv X pins σ H s)(E:ES):Inv (X.wish E) pins σ H s:=⟨I.ok.wish E,I.os,I.bare,I.base,I.loc,I.cell,I.free,I.lR,I.pin,I.hok,I.len⟩
theorem Inv.pQ(I:Inv (X.wish E) pins σ H s):Inv X pins σ H s:=⟨I.ok.pQ,I.os,I.bare,I.base,I.loc,I.cell,I.free,I.lR,I.pin,I.hok,I.len⟩
theorem SP.pQ{D:Ends}{f:Flow}{s':ue}(h:SP (X.wish E) pins D f s'):SP X pins D f s':=by
 cases f with
 | next=>obtain ⟨σ',H',I,q⟩:=h; exact⟨σ',H',I.pQ,q⟩
 | brk=>obtain ⟨σ',H',I,q⟩:=h; exact⟨σ',H',I.pQ,q⟩
 | cont=>obtain ⟨σ',H',I,q⟩:=h; exact⟨σ',H',I.pQ,q⟩
 | ret u=>obtain ⟨v,σ',H',I,r,q⟩:=h; exact⟨v,σ',H',I.pQ,r,q⟩
theorem PSs.nox{st:List Stmt}{t:TS}(h:PSs X.nox st t):PSs X st t:=fun pins s σ H D I hw=>
 ib (h pins s σ H D (I.wish _) hw) (fun _ _ q=>q.pQ) fun _ _ z=>Do z
end
section
variable {X:Cx}{st:Stmt}{rest:List Stmt}{t u:TS}{e:Expr}{te:TE}{pos:Pos}
def SX:TS:=fun D σ H=>D.nx σ H
def UG(t u:TS):TS:=fun D σ H=>t { D with nx:=u D } σ H
theorem aU:PSs X [] SX:=fun _ _ σ H _ I h=>qq ⟨σ,H,I,h⟩
theorem aB(h1:PS X st t)(h2:PSs X rest u):PSs X (st::rest) (UG t u):=by
 intro pins s σ H D I h;refine Vw (thn (h1 pins s σ H { D with nx:=u D } I h) fun f s1 q=>?_);cases f with
 | next=>
  obtain ⟨σ',H',I',q⟩:=q;exact h2 pins s1 σ' H' D I' q
 | ret v=>exact q
 | brk=>exact q
 | cont=>exact q
theorem aF(h1:PS X st t):PSs X [st] t:=by
 intro pins s σ H D I h;refine Vw (thn (h1 pins s σ H D I h) fun f s1 q=>?_);cases f with
 | next=>exact qq q
 | ret v=>exact q
 | brk=>exact q
 | cont=>exact q
theorem Inv.quiet{pins:LO}{σ:St}{H:Hp}{s:ue}(I:Inv X pins σ H s):interactive X.env=false:=by simp [interactive,I.ok.kind]
def Tn(te:TE):TS:=fun D σ H=>te σ H fun _ H1=>D.nx σ H1
theorem kI(he:PE X e te)(hs:swapsWith e none pos.line X.env=Hn false:=by rfl):PS X (.Expr e pos) (Tn te):=by
 intro pins s σ H D I h;exact wpAny_Expr_any (thn (he pins s σ H _ I h) fun v s1 ⟨x,H1,I1,r1,q1⟩=>⟨σ,H1,I1,q1⟩) I.quiet hs
def Uh(te:TE):TS:=fun D σ H=>te σ H D.rt
theorem aL(he:PE X e te):PS X (.Return (some e) pos) (Uh te):=by
 intro pins s σ H D I h;exact wpAny_Return_some (thn (he pins s σ H _ I h) fun v s1 ⟨x,H1,I1,r1,q1⟩=>⟨x,σ,H1,I1,r1,q1⟩)
def Ur(c:TT)(t u:TS):TS:=fun D σ H=>c σ H fun b H1=>if b=true then t D σ H1 else u D σ H1
theorem bO{c:Expr}{a b:List Stmt}{tc:TT}(hc:PT X c tc)(ha:PSs X a t)(hb:PSs X b u):PS X (.If c a b pos) (Ur tc t u):=by
 intro pins s σ H D I h;refine wpAny_If (thn (hc pins s σ H _ I h) fun d s1 ⟨H1,I1,q1⟩=>?_);cases d with
 | true=>exact ha pins s1 σ H1 D I1 q1
 | false=>exact hb pins s1 σ H1 D I1 q1
end
abbrev TG:=V->St->Hp->(St->Hp->Prop)->Prop
abbrev TGs:=LV->St->Hp->(St->Hp->Prop)->Prop
def PG(X:Cx)(target:Expr)(t:TG):Prop:=
 ∀(pins:LO) (s:ue) (σ:St) (H:Hp) (v:V) (u:sr) (Q:St->Hp->Prop),Inv X pins σ H s->RelV v u->t v σ H Q->
  uv ‹9› X.A (assign target X.env u) (fun _ s'=>∃ σ' H',Inv X pins σ' H' s'/\Q σ' H') X.xe s
def PGs(X:Cx)(ts:List Expr)(t:TGs):Prop:=
 ∀(pins:LO) (s:ue) (σ:St) (H:Hp) (vs:LV) (us:LU) (Q:St->Hp->Prop),Inv X pins σ H s->Vals vs us->t vs σ H Q->
  uv ‹9› X.A (assignInOrder ((JS ts X.env).map (·.2)) us) (fun _ s'=>∃ σ' H',Inv X pins σ' H' s'/\Q σ' H') X.xe s
abbrev Rn:=V->V->V->Hp->(Hp->Prop)->Prop
def RM(X:Cx)(t:Rn):Prop:=
 ∀(pins:LO) (s:ue) (σ:St) (H:Hp) (o i v:V) (ov iv u:sr) (Q:Hp->Prop),Inv X pins σ H s->RelV o ov->RelV i iv->RelV v u->t o i v H Q->
  uv ‹9› X.A (setItem ov iv u) (fun _ s'=>∃ H',Inv X pins σ H' s'/\Q H') X.xe s
section
variable {X:Cx}{pos:Pos}
def Gq(i:Nat):TG:=fun v σ H Q=>Q (σ.set i (some v)) H
theorem aN{i:Nat}{x:Str}(hN:X.N.Nodup)(hi:X.N[i]?=some x)(hx:Loc X.env.scope x)(hf:X.fn x=true\/X.env.scope.names.lookup x=some .local:=by first | exact .inl rfl | exact .inr rfl | assumption):PG X (.Name x pos) (Gq i):=by
 intro pins s σ H v u Q I r h;exact wpAny_assign_Name (Bv I hN hi hx r (fun s' I'=>⟨_,H,I',h⟩) hf)
def Ul:TGs:=fun vs σ H Q=>vs=[]/\Q σ H
inductive Qd (t:TG) (u:TGs) (vs:LV) (σ:St) (H:Hp) (Q:St->Hp->Prop):Prop
 | mk (v r:_):vs=v::r->(t v σ H fun σ' H'=>u r σ' H' Q)->Qd t u vs σ H Q
theorem nF:PGs X [] Ul:=by
 intro pins s σ H vs us Q I r h;obtain ⟨e,h⟩:=h;subst e;cases r;exact assignInOrder_nil ⟨σ,H,I,h⟩
theorem fG{e:Expr}{es:List Expr}{t:TG}{u:TGs}(h1:PG X e t)(h2:PGs X es u)
  (hs:(JS (e::es) X.env).map (·.2)=assign e X.env::(JS es X.env).map (·.2):=by rfl):PGs X (e::es) (Qd t u):=by
 intro pins s σ H vs us Q I r h;obtain ⟨v,vr,e1,h⟩:=h;subst e1;cases r with
 | cons r rr=>
  rw [hs];refine assignInOrder_cons (thn (h1 pins s σ H _ _ _ I r h) fun _ s1 ⟨σ1,H1,I1,q1⟩=>?_);exact h2 pins s1 σ1 H1 _ _ Q I1 rr q1
inductive NP (K:PySem.W.Frag) (n:Nat) (t:TGs) (v:V) (σ:St) (H:Hp) (Q:St->Hp->Prop):Prop
 | mk (a xs:_):v=.ref a->SqT K H a xs->xs.length=n->t xs σ H Q->NP K n t v σ H Q
theorem JZ{es:List Expr}{k:Nat}{t:TGs}{n:Nat}(hc:X.calm=true)(h:PGs X es t)
  (hn:(JS es X.env).length=n:=by rfl) (hst:(JS es X.env).findIdx? (·.1)=none:=by rfl):PG X (.Tuple es k pos) (NP X.K n t):=by
 intro pins s σ H v u Q I r hw;obtain ⟨a,xs,e1,hq,hl,hw⟩:=hw;subst e1;cases r;obtain ⟨its,rv,ht,hz⟩:=I.tuple hq;refine assign_Tuple_tuple (I.ok.hd hc) ht (by simp [hn,<- hl,rv.length]) hst fun h' hx=>?_;have I1:Inv X pins σ H { s with heap:=h' }:=I.kept (t':=s.toks) fun b o e=>hx b o (dm (cn e)) e;exact h pins _ σ H xs _ Q I1 (by simpa using rv) hw
def Uu(to ti:TE)(t:Rn):TG:=fun v σ H Q=>to σ H fun o H1=>ti σ H1 fun i H2=>t o i v H2 fun H3=>Q σ H3
theorem tY{o i:Expr}{to ti:TE}{t:Rn}(ho:PE X o to)(hi:PE X i ti)(hs:RM X t)
  (ha:∀ v,assign (.Subscript o i pos) X.env v=(do
   let ov <- UT [v] (eval o X.env)
   let iv <- UT [v,ov] (eval i X.env)
   standAt pos
   UT [v,ov,iv] (setItem ov iv v)
   release [v,ov,iv] []):=by intro _; rfl):PG X (.Subscript o i pos) (Uu to ti t):=by
 intro pins s σ H v u Q I r h;rw [ha];refine af (eL (thn (ho pins s σ H _ I h) fun ov s1 ⟨x,H1,I1,r1,q1⟩=>?_));refine af (eL (thn (hi pins s1 σ H1 _ I1 q1) fun iv s2 ⟨y,H2,I2,r2,q2⟩=>?_));refine af (wpAny_standAt (af (eL (thn (hs pins s2 σ H2 x y v ov iv u _ I2 r1 r2 r q2) fun _ s3 ⟨H3,I3,q3⟩=>?_))));exact wpAny_release ⟨σ,H3,I3,q3⟩
def Qp(te:TE)(g:TG):TS:=fun D σ H=>te σ H fun x H1=>g x σ H1 D.nx
theorem qY{tg e:Expr}{te:TE}{g:TG}(he:PE X e te)(hg:PG X tg g)(hs:swapsWithSole [tg] e pos.line X.env=Hn false:=by rfl)(hw:swappedStores [tg] e X.env=Hn none:=by rfl)
  (h1:(JS [tg] X.env).map (·.2)=[assign tg X.env]:=by rfl):PS X (.Assign [tg] e pos) (Qp te g):=by
 intro pins s σ H D I h;refine wpAny_Assign_stores (thn (he pins s σ H _ I h) fun v s1 ⟨x,H1,I1,r1,q1⟩=>?_) hs hw;rw [h1];exact thn (hg pins s1 σ H1 x v _ I1 r1 q1) fun _ s2 q=>q
theorem aM{i:Nat}{x:Str}{e:Expr}{te:TE}{pos':Pos}(hN:X.N.Nodup)(hi:X.N[i]?=some x)(hx:Loc X.env.scope x)(he:PE X e te)(hs:swapsWith e (some (.Name x pos')) pos.line X.env=Hn false:=by rfl)(hf:X.fn x=true\/X.env.scope.names.lookup x=some .local:=by first | exact .inl rfl | exact .inr rfl | assumption) :
  PS X (.Assign [.Name x pos'] e pos) (Qp te (Gq i)):=by
 intro pins s σ H D I h;refine wpAny_Assign_Name (thn (he pins s σ H _ I h) fun v s1 ⟨y,H1,I1,r1,q1⟩=>?_) hs;exact Bv I1 hN hi hx r1 (fun s2 I2=>⟨_,H1,I2,q1⟩) hf
inductive ipI (f:Int->Int->Int) (x:V) (y:V) (H:Hp) (Q:VK):Prop
 | mk (i j:_):x=.int i->y=.int j->Q (.int (f i j)) H->ipI f x y H Q
end
section
variable {X:Cx}{pos:Pos}
inductive Ji (c:TT) (tb:TS) (D:Ends) (σ:St) (H:Hp):Prop
 | mk (W:Nat->St->Hp->Prop):(∃ m,W m σ H)->(∀ m σ H,W m σ H->c σ H fun b H1=>if b=true then ∃ N:St->Hp->Prop,(∀ σ' H',N σ' H'->∃ m',m' < m/\W m' σ' H')/\tb { D with nx:=N,ct:=N,bk:=D.nx } σ H1 else D.nx σ H1)->Ji c tb D σ H
theorem pO{c:Expr}{body:List Stmt}{tc:TT}{tb:TS}(hp:PassesOwn ‹9› X.A X.env X.xe)(hc:PT X c tc)(hb:PSs X body tb):PS X (.While c body [] pos) (Ji tc tb):=by
 intro pins s σ H D I h;obtain ⟨W,⟨m0,w0⟩,turn⟩:=h;refine wpAny_While (codeAny_whileLoop (fun n s'=>∃ σ' H',Inv X pins σ' H' s'/\W n σ' H') ?_ m0 ⟨σ,H,I,w0⟩);rintro n s1 ⟨σ1,H1,I1,w1⟩;refine kH hp (thn (hc pins s1 σ1 H1 _ I1 (turn n σ1 H1 w1)) fun b s2 ⟨H2,I2,q2⟩=>?_);cases b with
 | true=>
  obtain ⟨N,hN,q2⟩:=q2;rw [dE rfl];refine kH hp (thn (hb pins s2 σ1 H2 _ I2 q2) fun f s3 q3=>?_);cases f with
  | next=>
   obtain ⟨σ3,H3,I3,n3⟩:=q3;obtain ⟨m',hm,w3⟩:=hN σ3 H3 n3;exact⟨m',hm,σ3,H3,I3,w3⟩
  | cont=>
   obtain ⟨σ3,H3,I3,n3⟩:=q3;obtain ⟨m',hm,w3⟩:=hN σ3 H3 n3;exact⟨m',hm,σ3,H3,I3,w3⟩
  | brk=>exact q3
  | ret v=>exact q3
 | false=>
  rw [cK aS];exact qq ⟨σ1,H2,I2,q2⟩
end
structure It where
 go:Nat->Hp->Prop
 yld:Nat->Hp->V->Hp->Prop
 stop:Nat->Hp->Prop
def pW(X:Cx)(pins:LO)(H:Hp)(b:ut):Prop:=
 H b=none/\b≠X.env.locals/\b ∉ X.fs/\(b∈X.ex\/X.s₀.heap.objs.size<=b)/\(∀ x c,X.env.cells.lookup x=some c->c≠b)/\∀ p∈X.pn++pins,p.1≠b
theorem Inv.lV{X:Cx}{pins:LO}{σ:St}{H H':Hp}{s:ue}{b:ut}(I:Inv X pins σ H s)(hb:s.heap.objs.size<=b)(hn:H' b=none):pW X pins H' b:=by
 refine⟨hn,eR (dS I.lt hb),I.Uy hb,.inr (cS I.sz hb),fun x c e z=>?_,fun p hp z=>?_⟩
 ·obtain ⟨v,q⟩:=I.cell x c e;exact absurd (dS q.lt (by rw [z]; exact hb)) (kN _)
 ·exact absurd (dS (cn (I.pin p hp).1) (by rw [z]; exact hb)) (kN _)
structure Turn (P:uC) (w:ww) (K:PySem.W.Frag) (tg:Expr) (J:It) (fp:LA) (it:ut) (tn:Nat->Heap->Prop):Prop where
 mem:it∈fp
 obj:∀ i h,tn i h->∀ b∈fp,∃ o,h.get? b=some o/\∀ v,o.data≠.cell v
 keep:∀ i h h',tn i h->(∀ b∈fp,∀ o,h.get? b=some o->h'.get? b=some o)->tn i h'
 item:∀(X:Cx),X.prog=P->X.w=w->X.K=K->X.calm=true->∀(i:Nat) (pins:LO) (s:ue) (σ:St) (H:Hp) (E:ES),Inv X pins σ H s->(∀ b∈fp,pW X pins H b)->tn i s.heap->J.go i H->
  uv (vy P w) X.A (Hc (.ref it)) (fun r s1=>∃ u,r=some u/\
   uv (vy P w) X.A (Vg tg (.ref it) u) (fun _ s2=>∃ x H',Inv X pins σ H' s2/\RelV x u/\J.yld i H x H'/\tn (i+1) s2.heap/\∀ b∈fp,H' b=none) E s1) E s
 done:∀(X:Cx),X.prog=P->X.w=w->X.K=K->X.calm=true->∀(i:Nat) (pins:LO) (s:ue) (σ:St) (H:Hp) (E:ES),Inv X pins σ H s->(∀ b∈fp,pW X pins H b)->tn i s.heap->J.stop i H->
  uv (vy P w) X.A (Hc (.ref it)) (fun r s1=>r=none/\Inv X pins σ H s1) E s
 self:∀(A:xf) (i:Nat) (s:ue) (Q:ES) (E:ES),tn i s.heap->Q (.ref it) s->uv (vy P w) A (pyIter (.ref it)) Q E s
abbrev TI:=St->Hp->(It->Hp->Prop)->Prop
def PIE(X:Cx)(pins:LO)(σ:St)(tg:Expr)(R:It->Hp->Prop)(itv:sr)(s2:ue):Prop:=
 ∃(it:ut) (fp:LA) (tn:Nat->Heap->Prop) (J:It) (H':Hp),itv=.ref it/\Inv X pins σ H' s2/\Turn X.prog X.w X.K tg J fp it tn/\tn 0 s2.heap/\(∀ b∈fp,pW X pins H' b)/\R J H'
def PI(X:Cx)(tg iter:Expr)(wi:TI):Prop:=
 ∀(pins:LO) (s:ue) (σ:St) (H:Hp) (R:It->Hp->Prop),Inv X pins σ H s->wi σ H R->
  uv ‹9› X.A (eval iter X.env) (fun v s1=>uv ‹9› X.A (pyIter v) (PIE X pins σ tg R) X.xe s1) X.xe s
theorem Bb{M:Model}{A:xf}{E:ES}{s:ue}{tg:Expr}{it:ut}{u:sr}{o:Obj}{n:String}{vs:AV}{Q:Unit->ue->Prop}(ho:s.heap.get? it=some o)(hc:o.cls=.type n)(hd:o.data=.fields vs)
    (hn:["enumerate","zip","dict_itemiterator","dict_reverseitemiterator","odict_iterator","itertools.zip_longest","itertools.pairwise"].contains n=false) (hQ:Q () s):uv M A (Vg tg (.ref it) u) Q E s:=by
  unfold Vg
  cases tg <;> first
    | exact aE hQ
    | (cases u <;> first
        | exact aE hQ
        | (refine af (wpAny_load ho ?_)
           rw [hc,hd];show uv M A (if (["enumerate","zip","dict_itemiterator","dict_reverseitemiterator","odict_iterator","itertools.zip_longest","itertools.pairwise"].contains n && vs[0]? == some (rawInt _))=true then _ else _) Q E s;rw [cK (by intro h; rw [hn,Bool.false_and] at h; cases h)];exact aE hQ))
def Itl(K:PySem.W.Frag)(a:ut):It:=
 ⟨fun i H=>∃ xs x,SqL K H a xs/\xs[i]?=some x,fun i H x H'=>H'=H/\∀ xs,SqL K H a xs->xs[i]?=some x,fun i H=>∃ xs,SqL K H a xs/\xs.length<=i⟩
def Itt(K:PySem.W.Frag)(a:ut):It:=
 ⟨fun i H=>∃ xs x,SqT K H a xs/\xs[i]?=some x,fun i H x H'=>H'=H/\∀ xs,SqT K H a xs->xs[i]?=some x,fun i H=>∃ xs,SqT K H a xs/\xs.length<=i⟩
def Itr(lo:Int)(n:Nat):It:=⟨fun i _=>i < n,fun i H x H'=>H'=H/\x=.int (lo+i),fun i _=>n<=i⟩
theorem sV{P:uC}{w:ww}{K:PySem.W.Frag}{tg:Expr}(a it:ut):Turn P w K tg (Itl K a) [it] it (fun i h=>h.IsListIter it a i) where
 mem:=by simp
 obj:=fun i h st b hb=>by
  have e:b=it:=by simpa using hb
  subst e;obtain ⟨o,e,c,d⟩:=st;exact⟨o,e,fun v z=>by rw [d] at z; cases z⟩
 keep:=fun i h h' st k=>st.at fun o e=>k it ‹45› o e
 item:=by
  exists 4;obtain ⟨xs,x,hq,hx⟩:=hg;obtain ⟨its,rv,p,hz⟩:=I.list hq;obtain ⟨u,hu,ru⟩:=rv.get hx;exists 11;refine n5 st p.isList (x:=u) (by simpa using hu) fun h' st' sb=>?_;have I1:Inv X pins σ H { s with heap:=h' }:=I.turned (t':=s.toks) (fun b o hb e=>(sb.2 b hb).trans e) f0 f1 f3 f4 f5;obtain ⟨o,e,c,d⟩:=id st';exact⟨u,rfl,Bb (s:={ s with heap:=h' }) e c d ‹6› ⟨x,H,I1,ru,⟨rfl,fun ys hy=>by rw [I.Al hy hq]; exact hx⟩,st',fun b hb=>(hf b hb).1⟩⟩
 done:=by
  exists 4;obtain ⟨xs,hq,hx⟩:=hg;obtain ⟨its,rv,p,hz⟩:=I.list hq;exists 11;have hl:=rv.length;exact pV (I.ok.hd hc) st p.isList (by simp; omega) fun h' eb=>⟨rfl,I.turned (t':=s.toks) (fun b o hb e=>eb b o hb e) f0 f1 f3 f4 f5⟩
 self:=fun _ _ _ _ _ st h=>wpAny_pyIter_listiter st h
theorem vG{P:uC}{w:ww}{K:PySem.W.Frag}{tg:Expr}(a it:ut):Turn P w K tg (Itt K a) [it] it (fun i h=>h.IsTupleIter it a i) where
 mem:=by simp
 obj:=fun i h st b hb=>by
  have e:b=it:=by simpa using hb
  subst e;obtain ⟨o,e,c,d⟩:=st;exact⟨o,e,fun v z=>by rw [d] at z; cases z⟩
 keep:=fun i h h' st k=>st.at fun o e=>k it ‹45› o e
 item:=by
  exists 4;obtain ⟨xs,x,hq,hx⟩:=hg;obtain ⟨its,rv,p,hz⟩:=I.tuple hq;obtain ⟨u,hu,ru⟩:=rv.get hx;exists 11;refine n0 st (show s.heap.IsTuple a its.toArray from p) (x:=u) (by simpa using hu) fun h' st' sb=>?_;have I1:Inv X pins σ H { s with heap:=h' }:=I.turned (t':=s.toks) (fun b o hb e=>(sb.2 b hb).trans e) f0 f1 f3 f4 f5;obtain ⟨o,e,c,d⟩:=id st';exact⟨u,rfl,Bb (s:={ s with heap:=h' }) e c d ‹6› ⟨x,H,I1,ru,⟨rfl,fun ys hy=>by rw [I.qg hy hq]; exact hx⟩,st',fun b hb=>(hf b hb).1⟩⟩
 done:=by
  exists 4;obtain ⟨xs,hq,hx⟩:=hg;obtain ⟨its,rv,p,hz⟩:=I.tuple hq;exists 11;have hl:=rv.length;exact n9 (I.ok.hd hc) st (show s.heap.IsTuple a its.toArray from p) (by simp; omega) fun h' eb=>⟨rfl,I.turned (t':=s.toks) (fun b o hb e=>eb b o hb e) f0 f1 f3 f4 f5⟩
 self:=fun _ _ _ _ _ st h=>wpAny_pyIter_tupleiter st h
theorem CW{P:uC}{w:ww}{K:PySem.W.Frag}{tg:Expr}(it:ut)(lo:Int)(n:Nat):Turn P w K tg (Itr lo n) [it] it (fun i h=>IsRangeIter h it (lo+(i:Nat) * 1) ((n:Int) - (i:Nat)) 1) where
 mem:=by simp
 obj:=fun i h st b hb=>by
  have e:b=it:=by simpa using hb
  subst e
  exact⟨_,st,fun v z=>by
   have z':Data.fields _=Data.cell v:=z;cases z'⟩
 keep:=fun i h h' st k=>k it ‹45› _ st
 item:=by
  exists 4;exists 11;have W:=Walks.range (prog:=X.prog) (w:=X.w) (I.ok.hd hc) it lo 1 n;refine W.item i s _ _ hg st fun v h' tk hv st' kk=>?_;obtain ⟨t,rfl⟩:=hv;have I1:Inv X pins σ H { s with heap:=h',toks:=tk }:=I.turned (fun b o hb e=>kk b o (by simpa using hb) e) f0 f1 f3 f4 f5;refine⟨_,rfl,Bb (s:={ s with heap:=h',toks:=tk }) (n:= "range_iterator") st' rfl rfl ‹6› ⟨.int (lo+i),H,I1,⟨t,?_⟩,⟨rfl,rfl⟩,st',fun b hb=>(hf b hb).1⟩⟩;rw [Int.mul_one]
 done:=by
  exists 4;exists 11;exact wpAny_pyNext_range_end (I.ok.hd hc) st (by have:n<=i:=hg; omega) fun h' eb=>⟨rfl,I.turned (t':=s.toks) (fun b o hb e=>eb b o hb e) f0 f1 f3 f4 f5⟩
 self:=fun _ _ _ _ _ st h=>wpAny_pyIter_rangeiter st h
section
variable {X:Cx}{tg:Expr}
inductive Lp (K:PySem.W.Frag) (R:It->Hp->Prop) (x:V) (H1:Hp):Prop
 | mk (a:_):x=.ref a->(∃ xs,SqL K H1 a xs)->R (Itl K a) H1->Lp K R x H1
def Qh(K:PySem.W.Frag)(tl:TE):TI:=fun σ H R=>tl σ H fun x H1=>Lp K R x H1
inductive Pk (K:PySem.W.Frag) (R:It->Hp->Prop) (x:V) (H1:Hp):Prop
 | mk (a:_):x=.ref a->(∃ xs,SqT K H1 a xs)->R (Itt K a) H1->Pk K R x H1
def Um(K:PySem.W.Frag)(tl:TE):TI:=fun σ H R=>tl σ H fun x H1=>Pk K R x H1
theorem GZ{l:Expr}{tl:TE}(hl:PE X l tl):PI X tg l (Qh X.K tl):=by
 intro pins s σ H R I h;refine thn (hl pins s σ H _ I h) fun v s1 ⟨x,H1,I1,r1,q1⟩=>?_;obtain ⟨a,e,⟨xs,hq⟩,q⟩:=q1;subst e;cases r1;obtain ⟨its,rv,p,hz⟩:=I1.list hq;refine i5 p.isList ?_;refine⟨s1.heap.objs.size,[s1.heap.objs.size],_,_,H1,rfl,I1.kept (t':=s1.toks) fun b o e=>av _ e,sV a _,⟨_,bb _ rfl,rfl,rfl⟩,fun b hb=>?_,q⟩;have e:b=s1.heap.objs.size:=by simpa using hb
 subst e;exact I1.lV (ai _) ‹41›
theorem Ky{pins:LO}{σ:St}{H:Hp}{s:ue}{R:It->Hp->Prop}{E:ES}{lo hi:Int}{t u v:Tok}{tk:Nat}(I:Inv X pins σ H s)(h1:-(2 ^ 62)<=lo)(h2:lo < 2 ^ 62)(h3:-(2 ^ 62)<=hi)(h4:hi < 2 ^ 62)
  (q:R (Itr lo (hi - lo).toNat) H):uv ‹9› X.A (pyIter ‹22›) (PIE X pins σ tg R) E { s with heap:=s.heap.push { cls:=.type "range",data:=.fields #[.int lo t,.int hi u,.int 1 v] },toks:=tk }:=by
 refine wpAny_pyIter_range (IsRange.new ..) (small_one h1 h2 h3 h4) ?_;have I1:Inv X pins σ H { s with heap:=s.heap.push { cls:=.type "range",data:=.fields #[.int lo t,.int hi u,.int 1 v] },toks:=tk }:=I.kept fun b o e=>av _ e
 refine⟨(s.heap.push { cls:=.type "range",data:=.fields #[.int lo t,.int hi u,.int 1 v] }).objs.size,[(s.heap.push { cls:=.type "range",data:=.fields #[.int lo t,.int hi u,.int 1 v] }).objs.size],_,_,H,rfl,
  I1.kept (t':=tk) fun b o e=>av _ e,CW _ lo (hi - lo).toNat,?_,fun b hb=>?_,q⟩
 ·have e1:lo+((0:Nat):Int) * 1=lo:=by simp
  have e2:(((hi - lo).toNat:Nat):Int) - ((0:Nat):Int)=uB.Range.rangeSize lo hi 1:=by rw [rangeSize_one]; split <;> omega
  show IsRangeIter _ _ (lo+((0:Nat):Int) * 1) ((((hi - lo).toNat:Nat):Int) - ((0:Nat):Int)) 1;rw [e1,e2];exact bb _ rfl
 ·have e:b=(s.heap.push { cls:=.type "range",data:=.fields #[.int lo t,.int hi u,.int 1 v] }).objs.size:=by simpa using hb
  subst e;exact I1.lV (ai _) ‹41›
inductive Jl (R:It->Hp->Prop) (vs:LV) (H1:Hp):Prop
 | mk (j:Int):vs=[.int j]->-(2 ^ 62)<=j->j < 2 ^ 62->R (Itr 0 j.toNat) H1->Jl R vs H1
def Tv(ta:TA):TI:=fun σ H R=>ta σ H fun vs H1=>Jl R vs H1
theorem jG{a:Expr}{ta:TA}{p pos:Pos}(hg:Gl X "range")(hm:X.mg "range" = none)(ha:PA X [a] ta)(hs:xx [a] X.env=[(false,eval a X.env)]:=by rfl):PI X tg (.Call (.Name "range" p) [a] [] pos) (Tv ta):=by
 intro pins s σ H R I h;refine Call_ (rm I hg hm boot_range (i4 (thn (ha pos pins s σ H _ I h) fun us s1 ⟨vs,H1,I1,r1,q1⟩=>?_) hs rfl));obtain ⟨j,e,q1,q2,q⟩:=q1;subst e;cases r1 with
 | cons r rr=>
  cases rr;obtain ⟨t,rfl⟩:=r;exact call_range_1 (Ky I1 ‹26› ‹26› q1 q2 (by simpa using q))
def Rj(wi:TI)(g:TG)(tb:TS):TS:=fun D σ H=>wi σ H fun J H1=>∃ W:Nat->Nat->St->Hp->Prop,(∃ m,W 0 m σ H1)/\∀ i m σ H,W i m σ H->
 (J.stop i H/\D.nx σ H)\/(J.go i H/\∃ N:St->Hp->Prop,‹10›/\∀ x H',J.yld i H x H'->g x σ H' fun σ2 H2=>tb { D with nx:=N,ct:=N,bk:=D.nx } σ2 H2)
def wK(fp:LA)(h:Heap):LO:=fp.filterMap fun b=>(h.get? b).map fun o=>(b,o)
theorem nC{fp:LA}{h:Heap}{b:ut}{o:Obj}(hb:b∈fp)(e:h.get? b=some o):(b,o)∈wK fp h:=ky.mpr ⟨b,hb,by rw [e]; rfl⟩
theorem Il{fp:LA}{h:Heap}{p:ut × Obj}(hp:p∈wK fp h):p.1∈fp/\h.get? p.1=some p.2:=by
 obtain ⟨b,hb,e⟩:=ky.mp hp;cases q:h.get? b with
 | none=>rw [q] at e; cases e
 | some o=>
  rw [q] at e;have e':(b,o)=p:=ck e;subst e';exact⟨hb,q⟩
theorem Inv.pinned{pins:LO}{σ:St}{H:Hp}{s:ue}{fp:LA}(I:Inv X pins σ H s)(hf:∀ b∈fp,pW X pins H b)(ho:∀ b∈fp,∃ o,s.heap.get? b=some o/\∀ v,o.data≠.cell v):Inv X (pins++wK fp s.heap) σ H s:=
 I.Fp fun p hp=>(cw.mp hp).elim (fun z=>I.pin p (dQ _ z)) fun z=>by
  obtain ⟨hb,e⟩:=Il z;obtain ⟨f0,f1,f2,_⟩:=hf p.1 hb;obtain ⟨o,e',d⟩:=ho p.1 hb;rw [e] at e'; cases e';exact⟨e,f0,f1,f2,d⟩
theorem Inv.rE{pins pl:LO}{σ:St}{H:Hp}{s:ue}(I:Inv X (pins++pl) σ H s):Inv X pins σ H s:=I.Fp fun p hp=>I.pin p (dQ _ (fk _ hp))
theorem fP{iter:Expr}{body:List Stmt}{wi:TI}{g:TG}{tb:TS}{pos:Pos}(hp:PassesOwn ‹9› X.A X.env X.xe)(hc:X.calm=true)(hi:PI X tg iter wi)(hg:PG X tg g)(hb:PSs X body tb)
  (hs:∀ x,foldedSetIterable iter X.env x=Hn x:=by intro _; rfl):PS X (.For tg iter body [] pos) (Rj wi g tb):=by
 intro pins s σ H D I h;refine wpAny_For (thn (hi pins s σ H _ I h) fun v s1 h1=>thn h1 fun itv s2 h2=>?_) hs;obtain ⟨it,fp,tn,J,H2,e,I2,T,st2,f2,W,⟨m0,w0⟩,turn⟩:=h2;subst e;have stat:∀ {H':Hp},(∀ b∈fp,H' b=none)->∀ b∈fp,pW X pins H' b:=fun hn b hb=>⟨hn b hb,(f2 b hb).2⟩;refine codeAny_forLoop_any (fun n s'=>∃ i σ' H',Inv X pins σ' H' s'/\tn i s'.heap/\(∀ b∈fp,H' b=none)/\W i n σ' H') ?_ m0 ⟨0,σ,H2,I2,st2,fun b hb=>(f2 b hb).1,w0⟩;rintro n s3 ⟨i,σ3,H3,I3,st3,fr3,w3⟩;rcases turn i n σ3 H3 w3 with ⟨stop,qn⟩ | ⟨go,N,hN,step⟩
 ·refine kH hp (thn (T.done X rfl rfl rfl hc i pins s3 σ3 H3 X.xe I3 (stat fr3) st3 stop) fun r s4 ⟨hr,I4⟩=>?_);subst hr;exact qq ⟨σ3,H3,I4,qn⟩
 ·refine kH hp (thn (T.item X rfl rfl rfl hc i pins s3 σ3 H3 X.xe I3 (stat fr3) st3 go) fun r s4 ⟨u,hr,h4⟩=>?_);subst hr;refine kH hp (thn h4 fun _ s5 ⟨x,H5,I5,r5,y5,st5,fr5⟩=>?_);have I5':=I5.pinned (stat fr5) (T.obj _ _ st5);refine kH hp (thn (hg _ s5 σ3 H5 x u _ I5' r5 (step x H5 y5)) fun _ s6 ⟨σ6,H6,I6,q6⟩=>?_);refine kH hp (thn (hb _ s6 σ6 H6 _ I6 q6) fun f s7 q7=>?_)
  have again:∀ {σ7:St} {H7:Hp},Inv X (pins++wK fp s5.heap) σ7 H7 s7->N σ7 H7->∃ m,m < n/\∃ i σ' H',Inv X pins σ' H' s7/\tn i s7.heap/\(∀ b∈fp,H' b=none)/\W i m σ' H':=fun {σ7 H7} I7 n7=>by
   obtain ⟨m',hm,w7⟩:=hN σ7 H7 n7;refine⟨m',hm,i+1,σ7,H7,I7.rE,T.keep _ _ _ st5 fun b hb o e=>(I7.pin (b,o) (dQ _ (dQ _ (nC hb e)))).1,fun b hb=>?_,w7⟩;obtain ⟨o,e,d⟩:=T.obj _ _ st5 b hb;exact(I7.pin (b,o) (dQ _ (dQ _ (nC hb e)))).2.1
  cases f with
  | next=>obtain ⟨σ7,H7,I7,n7⟩:=q7; exact again I7 n7
  | cont=>obtain ⟨σ7,H7,I7,n7⟩:=q7; exact again I7 n7
  | brk=>obtain ⟨σ7,H7,I7,q7⟩:=q7; exact⟨σ7,H7,I7.rE,q7⟩
  | ret v=>obtain ⟨x7,σ7,H7,I7,r7,q7⟩:=q7; exact⟨x7,σ7,H7,I7.rE,r7,q7⟩
end
theorem rZ{K:PySem.W.Frag}{a:ut}{xs:LV}{g:TG}{tb:TS}{D:Ends}{σ:St}{H:Hp}(Pv:Nat->St->Hp->Prop)(h0:Pv 0 σ H)(hl:∀ i σ H,i<=xs.length->Pv i σ H->SqL K H a xs)
  (hs:∀ i x σ H,xs[i]?=some x->Pv i σ H->g x σ H fun σ2 H2=>tb { D with nx:=Pv (i+1),ct:=Pv (i+1),bk:=D.nx } σ2 H2) (hd:∀ σ H,Pv xs.length σ H->D.nx σ H) :
  ∃ W:Nat->Nat->St->Hp->Prop,(∃ m,W 0 m σ H)/\∀ i m σ H,W i m σ H->
   ((Itl K a).stop i H/\D.nx σ H)\/((Itl K a).go i H/\∃ N:St->Hp->Prop,‹10›/\∀ x H',(Itl K a).yld i H x H'->g x σ H' fun σ2 H2=>tb { D with nx:=N,ct:=N,bk:=D.nx } σ2 H2):=by
 refine⟨fun i m σ H=>m=xs.length - i/\i<=xs.length/\Pv i σ H,⟨xs.length,by simp,dk _,h0⟩,?_⟩;rintro i m σ H ⟨rfl,hi,p⟩;have q:=hl i σ H hi p
 by_cases hlt:i < xs.length
 ·refine .inr ⟨⟨xs,xs[i],q,by simp [hlt]⟩,Pv (i+1),fun σ' H' p'=>⟨xs.length - (i+1),by omega,rfl,hlt,p'⟩,fun x H' y=>?_⟩;obtain ⟨e,y⟩:=y;subst e;exact hs i x σ _ (y xs q) p
 ·have e:i=xs.length:=by omega
  subst e;exact .inl ⟨⟨xs,q,ai _⟩,hd σ H p⟩
theorem qu{K:PySem.W.Frag}{a:ut}{xs:LV}{g:TG}{tb:TS}{D:Ends}{σ:St}{H:Hp}(Pv:Nat->St->Hp->Prop)(h0:Pv 0 σ H)(hl:∀ i σ H,i<=xs.length->Pv i σ H->SqT K H a xs)
  (hs:∀ i x σ H,xs[i]?=some x->Pv i σ H->g x σ H fun σ2 H2=>tb { D with nx:=Pv (i+1),ct:=Pv (i+1),bk:=D.nx } σ2 H2) (hd:∀ σ H,Pv xs.length σ H->D.nx σ H) :
  ∃ W:Nat->Nat->St->Hp->Prop,(∃ m,W 0 m σ H)/\∀ i m σ H,W i m σ H->
   ((Itt K a).stop i H/\D.nx σ H)\/((Itt K a).go i H/\∃ N:St->Hp->Prop,‹10›/\∀ x H',(Itt K a).yld i H x H'->g x σ H' fun σ2 H2=>tb { D with nx:=N,ct:=N,bk:=D.nx } σ2 H2):=by
 refine⟨fun i m σ H=>m=xs.length - i/\i<=xs.length/\Pv i σ H,⟨xs.length,by simp,dk _,h0⟩,?_⟩;rintro i m σ H ⟨rfl,hi,p⟩;have q:=hl i σ H hi p
 by_cases hlt:i < xs.length
 ·refine .inr ⟨⟨xs,xs[i],q,by simp [hlt]⟩,Pv (i+1),fun σ' H' p'=>⟨xs.length - (i+1),by omega,rfl,hlt,p'⟩,fun x H' y=>?_⟩;obtain ⟨e,y⟩:=y;subst e;exact hs i x σ _ (y xs q) p
 ·have e:i=xs.length:=by omega
  subst e;exact .inl ⟨⟨xs,q,ai _⟩,hd σ H p⟩
theorem mC{lo:Int}{n:Nat}{g:TG}{tb:TS}{D:Ends}{σ:St}{H:Hp}(Pv:Nat->St->Hp->Prop)(h0:Pv 0 σ H)
  (hs:∀ i σ H,i < n->Pv i σ H->g (.int (lo+i)) σ H fun σ2 H2=>tb { D with nx:=Pv (i+1),ct:=Pv (i+1),bk:=D.nx } σ2 H2) (hd:∀ σ H,Pv n σ H->D.nx σ H) :
  ∃ W:Nat->Nat->St->Hp->Prop,(∃ m,W 0 m σ H)/\∀ i m σ H,W i m σ H->
   ((Itr lo n).stop i H/\D.nx σ H)\/((Itr lo n).go i H/\∃ N:St->Hp->Prop,‹10›/\∀ x H',(Itr lo n).yld i H x H'->g x σ H' fun σ2 H2=>tb { D with nx:=N,ct:=N,bk:=D.nx } σ2 H2):=by
 refine⟨fun i m σ H=>m=n - i/\i<=n/\Pv i σ H,⟨n,by simp,dk _,h0⟩,?_⟩;rintro i m σ H ⟨rfl,hi,p⟩
 by_cases hlt:i < n
 ·refine .inr ⟨hlt,Pv (i+1),fun σ' H' p'=>⟨n - (i+1),by omega,rfl,hlt,p'⟩,fun x H' y=>?_⟩;obtain ⟨e,y⟩:=y;subst e y;exact hs i σ _ hlt p
 ·have e:i=n:=by omega
  subst e;exact .inl ⟨ai _,hd σ H p⟩
abbrev R2:=V->V->Hp->VK->Prop
def OpR(X:Cx)(f:sr->sr->Sem sr)(r:R2):Prop:=
 ∀(pins:LO) (s:ue) (σ:St) (H:Hp) (x y:V) (v u:sr) (Q:VK),Inv X pins σ H s->RelV x v->RelV y u->r x y H Q->
  uv ‹9› X.A (f v u) (EP X pins σ Q) X.xe s
def UnR(X:Cx)(f:sr->Sem sr)(r:V->Hp->VK->Prop):Prop:=
 ∀(pins:LO) (s:ue) (σ:St) (H:Hp) (x:V) (v:sr) (Q:VK),Inv X pins σ H s->RelV x v->r x H Q->
  uv ‹9› X.A (f v) (EP X pins σ Q) X.xe s
def fj(X:Cx)(f:sr)(r:LV->Hp->VK->Prop):Prop:=
 ∀(pins:LO) (s:ue) (σ:St) (H:Hp) (xs:LV) (us:LU) (Q:VK),Inv X pins σ H s->Vals xs us->r xs H Q->
  uv ‹9› X.A (call f us) (EP X pins σ Q) X.xe s
def Uz(X:Cx)(r:V->Hp->(Bool->Hp->Prop)->Prop):Prop:=
 ∀(pins:LO) (s:ue) (σ:St) (H:Hp) (x:V) (v:sr) (Q:Bool->Hp->Prop),Inv X pins σ H s->RelV x v->r x H Q->
  uv ‹9› X.A (truthy v) (TP X pins σ Q) X.xe s
def tOp(r:R2)(ta tb:TE):TE:=fun σ H Q=>ta σ H fun x H1=>tb σ H1 fun y H2=>r x y H2 Q
def tUn(r:V->Hp->VK->Prop)(ta:TE):TE:=fun σ H Q=>ta σ H fun x H1=>r x H1 Q
inductive rI (C:Int->Int->Prop) (g:Int->Int->V) (x:V) (y:V) (H:Hp) (Q:VK):Prop
 | mk (i j:_):x=.int i->y=.int j->C i j->Q (g i j) H->rI C g x y H Q
inductive rI0 (g:Int->Int->V) (x:V) (y:V) (H:Hp) (Q:VK):Prop
 | mk (i j:_):x=.int i->y=.int j->Q (g i j) H->rI0 g x y H Q
inductive rU (g:Int->V) (x:V) (H:Hp) (Q:VK):Prop
 | mk (i:_):x=.int i->Q (g i) H->rU g x H Q
section
variable {X:Cx}{a b c:Expr}{ta tb tc:TE}{pos:Pos}
theorem Qw(ha:PE X a ta)(hb:PE X b tb){pins:LO}{s:ue}{σ:St}{H:Hp}{R:V->V->Hp->Prop}(I:Inv X pins σ H s)
  (h:ta σ H fun x H1=>tb σ H1 fun y H2=>R x y H2) {Q:ES} {f:sr->sr->Sem sr}
  (hf:∀ v u s2 x y H2,Inv X pins σ H2 s2->RelV x v->RelV y u->R x y H2->uv ‹9› X.A (f v u) Q X.xe s2) :
  uv ‹9› X.A (eval a X.env) (fun v s₁=>uv ‹9› X.A (eval b X.env) (fun u s₂=>uv ‹9› X.A (f v u) Q X.xe s₂) X.xe s₁) X.xe s:=by
 refine thn (ha pins s σ H _ I h) fun v s1 ⟨x,H1,I1,r1,q1⟩=>?_;refine thn (hb pins s1 σ H1 _ I1 q1) fun u s2 ⟨y,H2,I2,r2,q2⟩=>?_;exact hf v u s2 x y H2 I2 r1 r2 q2
theorem aR{op:Operator}{r:R2}(ho:OpR X (Eg op) r)(ha:PE X a ta)(hb:PE X b tb):PE X (.BinOp a op b pos) (tOp r ta tb):=by
 exists 12;exact wpAny_BinOp (Qw ha hb I h fun v u s2 x y H2 I2 rx ry q=>ho pins s2 σ H2 x y v u Q I2 rx ry q)
theorem Cm{op:UnaryOp}{r:V->Hp->VK->Prop}(ho:UnR X (unaryOp op) r)(ha:PE X a ta):PE X (.UnaryOp op a pos) (tUn r ta):=by
 exists 12;exact UnaryOp_ (thn (ha pins s σ H _ I h) fun v s1 ⟨x,H1,I1,r1,q1⟩=>ho pins s1 σ H1 x v Q I1 r1 q1)
theorem opI{f:sr->sr->Sem sr}{C:Int->Int->Prop}{g:Int->Int->Int}
  (rule:∀(i j:Int) (t u:Tok) (s:ue) (Q:ES) (E:ES),C i j->Q (.int (g i j) s.toks) { s with toks:=s.toks+1 }->uv ‹9› X.A (f (.int i t) (.int j u)) Q E s) :
  OpR X f (rI C fun i j=>.int (g i j)):=by
 exists 6;obtain ⟨i,j,rfl,rfl,hc,q⟩:=h;exists 16;obtain ⟨t',rfl⟩:=ry;exact rule i j t t' s _ _ hc ⟨.int (g i j),H,I.tok _,⟨_,rfl⟩,q⟩
theorem Sg{f:sr->sr->Sem sr}{g:Int->Int->Int}
  (rule:∀(i j:Int) (t u:Tok) (s:ue) (Q:ES) (E:ES),Q (.int (g i j) s.toks) { s with toks:=s.toks+1 }->uv ‹9› X.A (f (.int i t) (.int j u)) Q E s) :
  OpR X f (rI0 fun i j=>.int (g i j)):=by
 exists 6;obtain ⟨i,j,rfl,rfl,q⟩:=h;exists 16;obtain ⟨t',rfl⟩:=ry;exact rule i j t t' s _ _ ⟨.int (g i j),H,I.tok _,⟨_,rfl⟩,q⟩
theorem Ng{f:sr->sr->Sem sr}{g:Int->Int->Bool}
  (rule:∀(i j:Int) (t u:Tok) (s:ue) (Q:ES) (E:ES),Q (.bool (g i j)) s->uv ‹9› X.A (f (.int i t) (.int j u)) Q E s) :
  OpR X f (rI0 fun i j=>.bl (g i j)):=by
 exists 6;obtain ⟨i,j,rfl,rfl,q⟩:=h;exists 16;obtain ⟨t',rfl⟩:=ry;exact rule i j t t' s _ _ ⟨.bl (g i j),H,I,rfl,q⟩
def T8(i j:Int):Prop:=0 < j/\j < 1073741824
def TQ(i j:Int):Prop:=0<=j/\j<=1000000/\i.natAbs < 2 ^ 64
def Q7(i j:Int):Prop:=(-(2 ^ 64) < i/\i < 2 ^ 64)\/(-(2 ^ 64) < j/\j < 2 ^ 64)
theorem Q7.ok{i j:Int}(h:Q7 i j):IntMulOk i j:=by
 rcases h with ⟨h1,h2⟩ | ⟨h1,h2⟩
 ·exact .of_left (intBits_le_64 h1 h2)
 ·exact .of_right (intBits_le_64 h1 h2)
theorem cV:OpR X (Eg .Add) (rI0 fun i j=>.int (i+j)):=Sg fun _ _ _ _ _ _ _ q=>add_int q
theorem nQ:OpR X (Eg .Sub) (rI0 fun i j=>.int (i - j)):=Sg fun _ _ _ _ _ _ _ q=>sub_int q
theorem oK:OpR X (Eg .Mult) (rI Q7 fun i j=>.int (i * j)):=opI fun _ _ _ _ _ _ _ hc q=>mul_int q hc.ok
theorem Oh:OpR X (Eg .FloorDiv) (rI T8 fun i j=>.int (i / j)):=opI fun i j _ _ _ _ _ hc q=>by
 have h1:(0:Int) < j:=hc.1;have h2:j < 1073741824:=hc.2;exact floordiv_int ‹26› (by rw [Int.fdiv_eq_ediv_of_nonneg i ‹26›]; exact q) (.inl (PyProof.noPylong_small ‹26›))
theorem qW:OpR X (Eg .Mod) (rI (fun _ j=>0 < j) fun i j=>.int (i % j)):=opI fun i j _ _ _ _ _ hc q=>by
 have h1:(0:Int) < j:=hc;exact mod_int' ‹26› (by rw [Int.fmod_eq_emod_of_nonneg i ‹26›]; exact q)
theorem Dr:OpR X (Eg .Pow) (rI TQ fun i j=>.int (i ^ j.toNat)):=opI fun _ _ _ _ _ _ _ hc q=>pow_int_small hc.1 hc.2.1 hc.2.2 q
theorem unI{f:sr->Sem sr}{g:Int->Int}
  (rule:∀(i:Int) (t:Tok) (s:ue) (Q:ES) (E:ES),Q (.int (g i) s.toks) { s with toks:=s.toks+1 }->uv ‹9› X.A (f (.int i t)) Q E s) :
  UnR X f (rU fun i=>.int (g i)):=by
 intro pins s σ H x v Q I rx h;obtain ⟨i,rfl,q⟩:=h;exists 16;exact rule i t s _ _ ⟨.int (g i),H,I.tok _,⟨_,rfl⟩,q⟩
theorem u9:UnR X (unaryOp .USub) (rU fun i=>.int (-i)):=unI fun _ _ _ _ _ q=>neg_int q
end
def Tz:V->V->Bool
 | .non,.non=>true | .non,.int _=>true | .int _,.non=>true | .non,.bl _=>true | .bl _,.non=>true | .non,.str _=>true | .str _,.non=>true
 | .int _,.int _=>true | .bl _,.bl _=>true | .str _,.str _=>true | .byt _,.byt _=>true
 | .int _,.str _=>true | .str _,.int _=>true | .bl _,.str _=>true | .str _,.bl _=>true
 | _,_=>false
def rEq:R2:=fun x y H Q=>Tz x y=true/\Q (.bl (decide (x=y))) H
def rNe:R2:=fun x y H Q=>Tz x y=true/\Q (.bl (!decide (x=y))) H
theorem Gh{i j:Int}:decide (V.int i=V.int j)=(i == j):=by
 rw [fg];simp
theorem Lq{i j:Bool}:decide (V.bl i=V.bl j)=(i == j):=by
 rw [fg];simp
theorem Gg{i j:Str}:decide (V.str i=V.str j)=(i == j):=by
 rw [fg];simp
theorem Gp{i j:Array UInt8}:decide (V.byt i=V.byt j)=(i.toList == j.toList):=by
 rw [fg];cases i;cases j;simp
section
variable {X:Cx}{a b c:Expr}{ta tb tc:TE}{pos:Pos}
theorem cO{pins:LO}{σ:St}{H:Hp}{s:ue}{Q:VK}{k k':Bool}(I:Inv X pins σ H s)(q:Q (.bl k) H)(e:k=k'):EP X pins σ Q (.bool k') s:=by
 subst e;exact⟨.bl k,H,I,rfl,q⟩
theorem gq:OpR X (xN .Eq) rEq:=by
 exists 6;obtain ⟨hs,q⟩:=h;cases x with
 | non=>
  cases rx;cases y with
  | non=>cases ry; exact PySem.EqNone.eq_none_none ‹33›
  | bl j=>cases ry; exact PySem.EqNone.eq_none_bool ‹33›
  | int j=>obtain ⟨t',rfl⟩:=ry; exact PySem.EqNone.eq_none_int ‹33›
  | str j=>obtain ⟨t',rfl⟩:=ry; exact PySem.EqNone.eq_none_str ‹33›
  | _=>exact absurd ‹35› aS
 | bl i=>
  cases rx;cases y with
  | non=>cases ry; exact PySem.EqNone.eq_bool_none ‹33›
  | bl j=>cases ry; exact eq_bool (cO I q Lq)
  | str j=>obtain ⟨t',rfl⟩:=ry; exact PySem.EqMixed.eq_bool_str ‹33›
  | _=>exact absurd ‹35› aS
 | int i=>
  exists 16;cases y with
  | non=>cases ry; exact PySem.EqNone.eq_int_none ‹33›
  | int j=>obtain ⟨t',rfl⟩:=ry; exact eq_int (cO I q Gh)
  | str j=>obtain ⟨t',rfl⟩:=ry; exact PySem.EqMixed.eq_int_str ‹33›
  | _=>exact absurd ‹35› aS
 | str i=>
  exists 16;cases y with
  | non=>cases ry; exact PySem.EqNone.eq_str_none ‹33›
  | bl j=>cases ry; exact PySem.EqMixed.eq_str_bool ‹33›
  | int j=>obtain ⟨t',rfl⟩:=ry; exact PySem.EqMixed.eq_str_int ‹33›
  | str j=>obtain ⟨t',rfl⟩:=ry; exact eq_str (cO I q Gg)
  | _=>exact absurd ‹35› aS
 | byt i=>
  exists 16;cases y with
  | byt j=>obtain ⟨t',rfl⟩:=ry; exact PySem.W.eq_bytes (cO I q Gp)
  | _=>exact absurd ‹35› aS
 | _=>cases y <;> exact absurd ‹35› aS
theorem yg:OpR X (xN .NotEq) rNe:=by
 exists 6;obtain ⟨hs,q⟩:=h;cases x with
 | non=>
  cases rx;cases y with
  | non=>cases ry; exact PySem.EqNone.ne_none_none ‹33›
  | bl j=>cases ry; exact PySem.EqNone.ne_none_bool ‹33›
  | int j=>obtain ⟨t',rfl⟩:=ry; exact PySem.EqNone.ne_none_int ‹33›
  | str j=>obtain ⟨t',rfl⟩:=ry; exact PySem.EqNone.ne_none_str ‹33›
  | _=>exact absurd ‹35› aS
 | bl i=>
  cases rx;cases y with
  | non=>cases ry; exact PySem.EqNone.ne_bool_none ‹33›
  | bl j=>cases ry; exact ne_bool (cO I q (congrArg not Lq))
  | str j=>obtain ⟨t',rfl⟩:=ry; exact PySem.EqMixed.ne_bool_str ‹33›
  | _=>exact absurd ‹35› aS
 | int i=>
  exists 16;cases y with
  | non=>cases ry; exact PySem.EqNone.ne_int_none ‹33›
  | int j=>obtain ⟨t',rfl⟩:=ry; exact ne_int (cO I q (congrArg not Gh))
  | str j=>obtain ⟨t',rfl⟩:=ry; exact PySem.EqMixed.ne_int_str ‹33›
  | _=>exact absurd ‹35› aS
 | str i=>
  exists 16;cases y with
  | non=>cases ry; exact PySem.EqNone.ne_str_none ‹33›
  | bl j=>cases ry; exact PySem.EqMixed.ne_str_bool ‹33›
  | int j=>obtain ⟨t',rfl⟩:=ry; exact PySem.EqMixed.ne_str_int ‹33›
  | str j=>obtain ⟨t',rfl⟩:=ry; exact ne_str (cO I q (congrArg not Gg))
  | _=>exact absurd ‹35› aS
 | byt i=>
  exists 16;cases y with
  | byt j=>obtain ⟨t',rfl⟩:=ry; exact PySem.W.ne_bytes (cO I q (congrArg not Gp))
  | _=>exact absurd ‹35› aS
 | _=>cases y <;> exact absurd ‹35› aS
theorem vP:OpR X (xN .Lt) (rI0 fun i j=>.bl (decide (i < j))):=Ng fun _ _ _ _ _ _ _ q=>lt_int q
theorem qK:OpR X (xN .LtE) (rI0 fun i j=>.bl (decide (i<=j))):=Ng fun _ _ _ _ _ _ _ q=>le_int q
theorem n6:OpR X (xN .Gt) (rI0 fun i j=>.bl (decide (j < i))):=Ng fun _ _ _ _ _ _ _ q=>gt_int q
theorem Mp:OpR X (xN .GtE) (rI0 fun i j=>.bl (decide (j<=i))):=Ng fun _ _ _ _ _ _ _ q=>ge_int q
inductive uw (x:V) (y:V) (H:Hp) (Q:VK):Prop
 | mk (i j:_):x=.str i->y=.str j->Q (.bl (decide (i.cps.toList < j.cps.toList))) H->uw x y H Q
theorem Hl:OpR X (xN .Lt) uw:=by
 exists 6;obtain ⟨i,j,rfl,rfl,q⟩:=h;exists 16;obtain ⟨t',rfl⟩:=ry;exact lt_str (cO I q rfl)
theorem zJ:OpR X (xN .Is) (fun x y H Q=>y=.non/\Q (.bl (decide (x=.non))) H):=by
 exists 6;obtain ⟨rfl,q⟩:=h;cases ry;refine is_none_gen (cO I q ?_)
 cases x <;> first
  | (cases rx; rfl)
  | (obtain ⟨t,rfl⟩:=rx; rfl)
theorem OJ:OpR X (xN .IsNot) (fun x y H Q=>y=.non/\Q (.bl (!decide (x=.non))) H):=by
 exists 6;obtain ⟨rfl,q⟩:=h;cases ry;refine isnot_none_gen (cO I q ?_)
 cases x <;> first
  | (cases rx; rfl)
  | (obtain ⟨t,rfl⟩:=rx; rfl)
theorem OpR.or{f:sr->sr->Sem sr}{r r':R2}(h:OpR X f r)(h':OpR X f r'):OpR X f (fun x y H Q=>r x y H Q\/r' x y H Q):=by
 intro pins s σ H x y v u Q I rx ry q;rcases q with q | q
 ·exact h pins s σ H x y v u Q I rx ry q
 ·exact h' pins s σ H x y v u Q I rx ry q
theorem bh(b:Expr){op:CmpOp}(h:op≠.In:=by decide)(h2:op≠.NotIn:=by decide):QQ op b=false:=by
 have e1:(op == CmpOp.In)=false:=by cases op <;> first | rfl | exact absurd rfl h
 have e2:(op == CmpOp.NotIn)=false:=by cases op <;> first | rfl | exact absurd rfl h2
 cases b <;> simp [QQ,e1,e2]
theorem dO{op:CmpOp}{r:R2}(ho:OpR X (xN op) r)(ha:PE X a ta)(hb:PE X b tb)(hm:QQ op b=false):PE X (.Compare a [op] [b] pos) (tOp r ta tb):=by
 exists 12;exact wpAny_Compare1 (Qw ha hb I h fun v u s2 x y H2 I2 rx ry q=>ho pins s2 σ H2 x y v u Q I2 rx ry q) hm
inductive Jj (Q:Bool->Hp->Prop) (x:V) (H':Hp):Prop
 | mk (k:_):x=.bl k->Q k H'->Jj Q x H'
def PL(t:TE):TT:=fun σ H Q=>t σ H fun x H'=>Jj Q x H'
theorem aY{op:CmpOp}{r:R2}(ho:OpR X (xN op) r)(ha:PE X a ta)(hb:PE X b tb)(hm:QQ op b=false):PT X (.Compare a [op] [b] pos) (PL (tOp r ta tb)):=by
 exists 12
 refine wpAny_isTrue_Compare1 (thn (ha pins s σ H _ I h) fun v s1 ⟨x,H1,I1,r1,q1⟩=>thn (hb pins s1 σ H1 _ I1 q1) fun u s2 ⟨y,H2,I2,r2,q2⟩=>
  thn (ho pins s2 σ H2 x y v u _ I2 r1 r2 q2) fun c s3 ⟨z,H3,I3,r3,k,e,q3⟩=>?_) hm
 subst e;cases r3;exact gL ⟨H3,I3,q3⟩
inductive FT (r':R2) (tc:TE) (σ:St) (Q:VK) (y:V) (z:V) (H3:Hp):Prop
 | mk (k:_):z=.bl k->(if k=true then tc σ H3 fun w' H4=>r' y w' H4 Q else Q (.bl false) H3)->FT r' tc σ Q y z H3
def JX(r r':R2)(ta tb tc:TE):TE:=fun σ H Q=>ta σ H fun x H1=>tb σ H1 fun y H2=>r x y H2 fun z H3=>FT r' tc σ Q y z H3
theorem La{op op':CmpOp}{r r':R2}(ho:OpR X (xN op) r)(ho':OpR X (xN op') r')(ha:PE X a ta)(hb:PE X b tb)(hc:PE X c tc)
  (hm:lastMarks [op,op'] [b,c]=false:=by with_unfolding_all rfl):PE X (.Compare a [op,op'] [b,c] pos) (JX r r' ta tb tc):=by
 exists 12
 refine Compare_chain (thn (ha pins s σ H _ I h) fun v s1 ⟨x,H1,I1,r1,q1⟩=>chain_link (thn (hb pins s1 σ H1 _ I1 q1) fun u s2 ⟨y,H2,I2,r2,q2⟩=>
  thn (ho pins s2 σ H2 x y v u _ I2 r1 r2 q2) fun d s3 ⟨z,H3,I3,r3,k,e,q3⟩=>?_)) hm
 subst e;cases r3;refine gL ?_;cases k with
 | false=>exact ite_ff ⟨.bl false,H3,I3,rfl,q3⟩
 | true=>exact ite_tt (chain_last (thn (hc pins s3 σ H3 _ I3 q3) fun w' s4 ⟨z',H4,I4,r4,q4⟩=>ho' pins s4 σ H4 y z' u w' Q I4 r2 r4 q4))
theorem rT{op op':CmpOp}{r r':R2}(ho:OpR X (xN op) r)(ho':OpR X (xN op') r')(ha:PE X a ta)(hb:PE X b tb)(hc:PE X c tc)
  (hm:lastMarks [op,op'] [b,c]=false:=by with_unfolding_all rfl):PT X (.Compare a [op,op'] [b,c] pos) (PL (JX r r' ta tb tc)):=by
 exists 12
 refine isTrue_chain (thn (ha pins s σ H _ I h) fun v s1 ⟨x,H1,I1,r1,q1⟩=>test_link (thn (hb pins s1 σ H1 _ I1 q1) fun u s2 ⟨y,H2,I2,r2,q2⟩=>
  thn (ho pins s2 σ H2 x y v u _ I2 r1 r2 q2) fun d s3 ⟨z,H3,I3,r3,k,e,q3⟩=>?_)) hm
 subst e;cases r3;refine gL ?_;cases k with
 | false=>
  obtain ⟨k',e',q'⟩:=q3;cases e';exact ite_ff ⟨H3,I3,q'⟩
 | true=>
  refine ite_tt (test_last (thn (hc pins s3 σ H3 _ I3 q3) fun w' s4 ⟨z',H4,I4,r4,q4⟩=>thn (ho' pins s4 σ H4 y z' u w' _ I4 r2 r4 q4) fun d' s5 ⟨z2,H5,I5,r5,k2,e2,q5⟩=>?_));subst e2;cases r5;exact gL ⟨H5,I5,q5⟩
def O1(K:PySem.W.Frag)(x:V)(H:Hp)(k:Bool):Prop:=
 match x with
 | .non=>k=false
 | .bl b=>k=b
 | .int i=>k=(i != 0)
 | .str y=>y.length<=sizeLine/\k=((y.length:Int) != 0)
 | .byt y=>y.size<=sizeLine/\k=((y.size:Int) != 0)
 | .ref p=>(∃ xs,SqL K H p xs/\k=!xs.isEmpty)\/(∃ xs,SqT K H p xs/\k=!xs.isEmpty)\/∃ kvs,H p=some (.dK kvs)/\k=!kvs.isEmpty
 | _=>False
theorem Eh{κ:Type}{kvs:List (κ × V)}{vs:List (κ × sr)}(r:KV kvs vs):(!vs.isEmpty)=!kvs.isEmpty:=by
 cases r <;> rfl
theorem nZ{xs:LV}{its:LU}(r:Vals xs its):(!its.toArray.isEmpty)=!xs.isEmpty:=by
 cases r <;> simp
theorem oY:(sizeLine:Nat) < 2 ^ 63:=by rw [cy]; decide
theorem QZ:Uz X (fun x H Q=>∃ k,O1 X.K x H k/\Q k H):=by
 intro pins s σ H x v Q I rx h;obtain ⟨k,e,q⟩:=h;have hl:=oY;have hs:sizeLine=16777216:=cy;cases x with
 | non=>
  cases rx;have e':k=false:=e;subst e';exact truthy_none ⟨H,I,q⟩
 | bl b=>
  cases rx;have e':k=b:=e;subst e';exact gL ⟨H,I,q⟩
 | int i=>
  exists 16;have e':k=(i != 0):=e;subst e';exact PySem.P.truthy_int ⟨H,I,q⟩
 | str y=>
  exists 16;obtain ⟨hy,e'⟩:y.length<=sizeLine/\k=((y.length:Int) != 0):=e;subst e';exact PySem.P.truthy_str ‹26› ⟨H,I.tok _,q⟩
 | byt y=>
  exists 16;obtain ⟨hy,e'⟩:y.size<=sizeLine/\k=((y.size:Int) != 0):=e;subst e';exact PySem.W.truthy_bytes ‹26› ⟨H,I.tok _,q⟩
 | ref p=>
  cases rx;have e':(∃ xs,SqL X.K H p xs/\k=!xs.isEmpty)\/(∃ xs,SqT X.K H p xs/\k=!xs.isEmpty)\/∃ kvs,H p=some (.dK kvs)/\k=!kvs.isEmpty:=e;rcases e' with ⟨xs,hx,e'⟩ | ⟨xs,hx,e'⟩ | ⟨kvs,hx,e'⟩
  ·subst e';obtain ⟨its,r,pl,hz⟩:=I.list hx;have hlen:=r.length;exact wpAny_truthy_list pl.isList (by simp only [cf]; omega) ⟨H,I.tok _,by rw [nZ r]; exact q⟩
  ·subst e';obtain ⟨its,r,pl,hz⟩:=I.tuple hx;have hlen:=r.length;exact truthy_tuple pl (by simp only [cf]; omega) ⟨H,I.tok _,by rw [nZ r]; exact q⟩
  ·subst e';obtain ⟨hz,hS,vs,r,m⟩:kvs.length<=sizeLine/\(p == An)=false/\∃ vs,KV kvs vs/\s.heap.DictOf (bU X.prog X.w) p vs:=I.hok p _ hx;have hlen:kvs.length=vs.length:=cE r;exact wpAny_truthy_dict hS m ‹26› ⟨H,I.tok _,by rw [Eh r]; exact q⟩
 | _=>exact(show False from e).elim
theorem vN(ha:PE X a ta)(he:∀ whole,isTrue a X.env whole=(do let v <- whole; standAt a.pos; UT [v] (truthy v))) :
  PT X a (fun σ H Q=>ta σ H fun x H'=>∃ k,O1 X.K x H' k/\Q k H'):=by
 exists 12;exact isTrue_plain (thn (ha pins s σ H _ I h) fun v s1 ⟨x,H1,I1,r1,q1⟩=>QZ pins s1 σ H1 x v Q I1 r1 q1) (he _)
inductive rF (x:V) (y:V) (H:Hp) (Q:VK):Prop
 | mk (i j:_):x=.str i->y=.str j->i.length+j.length<=sizeLine->Q (.str (i++j)) H->rF x y H Q
theorem fY:OpR X (Eg .Add) rF:=by
 exists 6;obtain ⟨i,j,rfl,rfl,hz,q⟩:=h;exists 16;obtain ⟨t',rfl⟩:=ry;exact add_str (fun t' tk=>⟨.str (i++j),H,I.tok _,⟨_,rfl⟩,q⟩) hz
theorem vals1{x:V}{us:LU}(r:Vals [x] us):∃ u,us=[u]/\RelV x u:=by
 cases r with
 | cons r1 r2=>cases r2; exact⟨_,rfl,r1⟩
theorem vals2{x y:V}{us:LU}(r:Vals [x,y] us):∃ u w',us=[u,w']/\RelV x u/\RelV y w':=by
 cases r with
 | cons r1 r2=>
  cases r2 with
  | cons r3 r4=>cases r4; exact⟨_,_,rfl,r1,r3⟩
inductive vg (xs:LV) (H:Hp) (Q:VK):Prop
 | mk (i:_):xs=[.int i]->Q (.int (if i < 0 then -i else i)) H->vg xs H Q
theorem Jd:fj X (.builtin "abs") vg:=by
 exists 9;obtain ⟨i,rfl,q⟩:=h;obtain ⟨u,rfl,t,rfl⟩:=vals1 r;exact call_abs_int fun u tk=>⟨.int (if i < 0 then -i else i),H,I.tok _,⟨_,rfl⟩,q⟩
inductive uo (xs:LV) (H:Hp) (Q:VK):Prop
 | mk (i j:_):xs=[.int i,.int j]->Q (.int (if j > i then j else i)) H->uo xs H Q
theorem yu(hc:X.calm=true):fj X (.builtin "max") uo:=by
 exists 9;obtain ⟨i,j,rfl,q⟩:=h;obtain ⟨u,w',rfl,⟨t,rfl⟩,⟨t',rfl⟩⟩:=vals2 r;refine max_two_ints (I.ok.hd hc) fun h' tk k=>⟨_,H,I.kept k,?_,q⟩
 by_cases hj:j > i
 ·rw [dE hj,dE hj]; exact⟨_,rfl⟩
 ·rw [cK hj,cK hj]; exact⟨_,rfl⟩
inductive uI (xs:LV) (H:Hp) (Q:VK):Prop
 | mk (i j:_):xs=[.int i,.int j]->Q (.int (if j < i then j else i)) H->uI xs H Q
theorem yC(hc:X.calm=true):fj X (.builtin "min") uI:=by
 exists 9;obtain ⟨i,j,rfl,q⟩:=h;obtain ⟨u,w',rfl,⟨t,rfl⟩,⟨t',rfl⟩⟩:=vals2 r;refine min_two_ints (I.ok.hd hc) fun h' tk k=>⟨_,H,I.kept k,?_,q⟩
 by_cases hj:j < i
 ·rw [dE hj,dE hj]; exact⟨_,rfl⟩
 ·rw [cK hj,cK hj]; exact⟨_,rfl⟩
theorem xX:fj X (.type "int") (fun xs H Q=>(∃ i,xs=[.int i]/\Q (.int i) H)\/∃ k,xs=[.bl k]/\Q (.int (if k then 1 else 0)) H):=by
 exists 9;rcases h with ⟨i,rfl,q⟩ | ⟨k,rfl,q⟩
 ·obtain ⟨u,rfl,t,rfl⟩:=vals1 r;exact call_int_int ⟨.int i,H,I,⟨_,rfl⟩,q⟩
 ·obtain ⟨u,rfl,r1⟩:=vals1 r;cases r1;exact call_int_bool ⟨.int (if k then 1 else 0),H,I.tok _,⟨_,rfl⟩,q⟩
end
structure Ru (h:Heap) (x dx C:ut) (mA:MG):Prop where
 obj:h.get? x=some (PySem.W.instObj C dx)
 ns:h.Ns1 dx mA
 ne:dx≠x
theorem Iu{h:Heap}{dx:ut}{mA:MG}(n:h.Ns1 dx mA):∃ od,h.get? dx=some od/\∀ name,PySem.W.lookIn name od=some (mA name):=by
 obtain ⟨o,es,ep,ho,hd,hk,_,hm⟩:=n;refine⟨o,ho,fun name=>?_⟩;have e:=hm name;unfold nsFind findBy at e;rw [<- Array.find?_toList] at e;unfold PySem.W.lookIn;rw [hd];dsimp only;split
 ·rename_i y q
  rw [q] at e;exact congrArg some e
 ·rename_i q
  rw [q] at e
  have a:es.toList.any (·.refKey)=false:=by
   rw [List.any_eq_false];intro y hy;obtain ⟨z,t,hkey⟩:=hk y (iX.mp hy);simp [Hm.refKey,hkey]
  have a':¬ es.toList.any (·.refKey)=true:=by rw [a]; exact aS
  rw [cK a'];exact congrArg some e
theorem Ru.look{h:Heap}{x dx C:ut}{mA:MG}(I:Ru h x dx C mA):∃ od,PySem.W.InstAt h x (PySem.W.instObj C dx) C (some od)/\∀ name,PySem.W.lookIn name od=some (mA name):=
 let ⟨od,ho,hl⟩:=Iu I.ns
 ⟨od,⟨I.obj,rfl,rfl,ho⟩,hl⟩
section
variable {prog:uC}{w:ww}{A:xf}{E:ES}{s:ue}{K:PySem.W.Frag}{x dx C f:ut}{mA:MG}{name:Str}{v:sr}
end
theorem wL.some_of{v:V}{o:Option sr}(r:wL (some v) o):∃ u,o=some u/\RelV v u:=by
 cases o with
 | none=>exact(show False from r).elim
 | some u=>exact⟨u,rfl,r⟩
section
variable {P:uC}{w:ww}{H H':Hp}{h h':Heap}{a C dx:ut}{fs fs':List (Str × V)}
theorem N7(hok:HOk P w H h)(e:H a=some (.ins C dx fs)):∃ mA,Ru h a dx C mA/\(∀ f,wL (fs.lookup f) (mA f))/\PySem.Within mA (fs.map (·.1))/\fs.length<=1000/\H dx=some (.own a):=by
 obtain ⟨d,z,ne,ob,mA,n,r,q⟩:=(show cT P w H h a (.ins C dx fs) from hok a _ e);exact⟨mA,⟨ob,n,ne⟩,r,q,z,d⟩
end
structure Cls (K:PySem.W.Frag) (C:ut):Prop where
 pg:PySem.W.plainGet K C Str.empty=true
 hd:PySem.W.hasDictIn K C=true
 po:PySem.W.plainOver K C=true
 sa:PySem.W.findIn K (.ref C) "__setattr__" = some (some (.builtin "object.__setattr__"))
theorem Cls.get{K:PySem.W.Frag}{C:ut}(c:Cls K C)(f:Str):PySem.W.plainGet K C f=true:=c.pg
structure Con (K:PySem.W.Frag) (C:ut) (f:Str) (v:V) (u:sr):Prop where
 at_:PySem.W.findIn K (.ref C) f=some (some u)
 rel:RelV v u
 get:PySem.W.specialIn K u "__get__" = some none
 cp:PySem.W.copiedNames.contains f=false
structure Meth (K:PySem.W.Frag) (C:ut) (m:Str) (f:ut):Prop where
 at_:PySem.W.findIn K (.ref C) m=some (some (.ref f))
 fn:PySem.W.isFn K (.ref f)=true
 kp:PySem.W.keepIn K (.ref f)=true
section
variable {X:Cx}{pins:LO}{σ:St}{H:Hp}{s:ue}{a C dx:ut}{fs:List (Str × V)}{f:Str}{v:V}{A:xf}{E:ES}
end
section
variable {X:Cx}{o e value:Expr}{f:Str}{pos pos' tpos:Pos}{ta tv:TE}
end
section
variable {X:Cx}{pins:LO}{σ:St}{H:Hp}{s:ue}{A:xf}{E:ES}{Q:ES}{c:sr}{b:Bool}
inductive qZ (K:PySem.W.Frag) (H:Hp):V->sr->Prop where
 | non:qZ K H .non (.type "NoneType")
 | bl (x:Bool):qZ K H (.bl x) (.type "bool")
 | int (i:Int):qZ K H (.int i) (.type "int")
 | str (x:Str):qZ K H (.str x) (.type "str")
 | flt (x:UInt64):qZ K H (.flt x) (.type "float")
 | lst {a:ut} {xs:LV} (e:H a=some (.lst xs)):qZ K H (.ref a) (.type "list")
 | frz {a:ut} {o:Obj} {xs:LV} (e:H a=some (.frz o (.lst xs))):qZ K H (.ref a) (.type "list")
 | tup {a:ut} {xs:LV} (e:H a=some (.tup xs)):qZ K H (.ref a) (.type "tuple")
 | dK {a:ut} {kvs:LK0} (e:H a=some (.dK kvs)):qZ K H (.ref a) (.type "dict")
 | dT {a:ut} {kvs:List (List Key × V)} (e:H a=some (.dT kvs)):qZ K H (.ref a) (.type "dict")
 | ins {a C dx:ut} {fs:List (Str × V)} (e:H a=some (.ins C dx fs)) (cl:Cls K C) (ha:PySem.W.findIn K (.ref C) "__class__" = some (some (.builtin "object.__class__")))
   (hn:PySem.W.specialIn K (.builtin "object.__class__") "__get__" = some (some (.builtin "getset_descriptor.__get__"))) (htk:PySem.W.takesIn K (.builtin "object.__class__")=some true)
   (hm:PySem.W.mroIn K C (.type "object")=some true):qZ K H (.ref a) (.ref C)
theorem Hv{x:V}{u t:sr}(I:Inv X pins σ H s)(rx:RelV x u)(ty:qZ X.K H x t)(e:PySem.W.kitOne X.K t c=some b)(h:∀ tk,Q (.bool b) { s with toks:=tk }) :
  uv ‹9› A (call (.builtin "isinstance") [u,c]) Q E s:=by
 cases ty with
 | non=>cases (show u=xF from rx); exact iL PySem.W.kitx_none I.kIn True.intro e ‹11› h
 | bl y=>cases (show u=sr.bool y from rx); exact iL PySem.W.kitx_bool I.kIn True.intro e ‹11› h
 | int i=>obtain ⟨t,q⟩:=(show ∃ t,u=PP i t from rx); cases q; exact iL PySem.W.kitx_int I.kIn True.intro e ‹11› h
 | str y=>obtain ⟨t,q⟩:=(show ∃ t,u=Tu y t from rx); cases q; exact iL PySem.W.kitx_str I.kIn True.intro e ‹11› h
 | flt y=>obtain ⟨t,q⟩:=(show ∃ t,u=sr.float y t from rx); cases q; exact iL PySem.W.kitx_float I.kIn True.intro e ‹11› h
 | @lst a xs ea=>
  cases (show u=zg a from rx);obtain ⟨_,_,n,_,h1⟩:=(show cT X.prog X.w H s.heap a (.lst xs) from I.hok a _ ea);exact iL PySem.W.kitx_list I.kIn ⟨_,h1,rfl⟩ e ‹11› h
 | @frz a ob xs ea=>
  cases (show u=zg a from rx);obtain ⟨_,_,_,n,_,h1⟩:=(show cT X.prog X.w H s.heap a (.frz ob (.lst xs)) from I.hok a _ ea);exact iL PySem.W.kitx_list I.kIn ⟨_,h1,rfl⟩ e ‹11› h
 | @tup a xs ea=>
  cases (show u=zg a from rx);obtain ⟨_,_,_,p⟩:=(show cT X.prog X.w H s.heap a (.tup xs) from I.hok a _ ea);obtain ⟨o,h1,h2,_⟩:=p;exact iL PySem.W.kitx_tuple I.kIn ⟨o,h1,h2⟩ e ‹11› h
 | @dK a kvs ea=>
  cases (show u=zg a from rx);obtain ⟨_,_,vs,_,p⟩:=(show cT X.prog X.w H s.heap a (.dK kvs) from I.hok a _ ea);obtain ⟨o,es,ep,h1,h2,_⟩:=p;exact iL PySem.W.kitx_dict I.kIn ⟨o,h1,h2.1⟩ e ‹11› h
 | @dT a kvs ea=>
  cases (show u=zg a from rx);obtain ⟨_,_,xs,_,o,es,ep,h1,h2,_⟩:=(show cT X.prog X.w H s.heap a (.dT kvs) from I.hok a _ ea);exact iL PySem.W.kitx_dict I.kIn ⟨o,h1,h2.1⟩ e ‹11› h
 | @ins a C dx fs ea cl ha hn htk hm=>
  cases (show u=zg a from rx);obtain ⟨mA,O,_⟩:=N7 I.hok ea;obtain ⟨od,J,_⟩:=O.look;exact iL (PySem.W.kitx_own (cl.get _) cl.hd ha hn htk hm) I.kIn J e ‹11› h
end
structure kZ (k:Nat) (A:xf):Prop where
 hd:A.handled=none
 dp:A.depth+3 * k+5 < recursionLimit
 un:A.units+16 * k+200 < cLine
 gd:A.guards=some []
theorem kZ.mono{j k:Nat}{A:xf}(r:kZ k A)(h:j<=k):kZ j A:=⟨r.hd,by have:=r.dp; omega,by have:=r.un; omega,r.gd⟩
theorem kZ.deeper{k:Nat}{A:xf}(r:kZ (k+1) A)(env:Env):kZ k (A.deeper env):=
 ⟨r.hd,by have:=r.dp; show A.depth+1+3 * k+5 < _; omega,by have:=r.un; show A.units+3+16 * k+200 < _; omega,by have:=r.gd; first | exact this | simp [xf.deeper,this,pushGuards]⟩
theorem kZ.depth{k:Nat}{A:xf}(r:kZ k A):A.depth < recursionLimit:=by have:=r.dp; omega
theorem kZ.units{k:Nat}{A:xf}(r:kZ k A):A.units+64 < cLine:=by have:=r.un; omega
theorem kZ.yO{k:Nat}{A:xf}(r:kZ k A):A.units < cLine:=by have:=r.un; omega
def T7:TA:=fun _ H Q=>Q [] H
def TJ(ta:TE)(tr:TA):TA:=fun σ H Q=>ta σ H fun x H1=>tr σ H1 fun xs H2=>Q (x::xs) H2
section
variable {X:Cx}{e:Expr}{es:List Expr}{te:TE}{t:TA}{pos:Pos}
theorem aq:PA X [] T7:=fun _ _ _ _ H Q I h=>Calls.spliced_nil ⟨[],H,I,.nil,h⟩
theorem aj(ha:PE X e te)(hr:PA X es t)(hs:xx (e::es) X.env=(false,eval e X.env)::xx es X.env:=by rfl):PA X (e::es) (TJ te t):=by
 intro pos pins s σ H Q I h;rw [hs];show uv _ _ (spliced ((false,eval e X.env)::NB pos (xx es X.env))) _ _ s;refine Calls.spliced_cons (thn (ha pins s σ H _ I h) fun u s1 ⟨x,H1,I1,r1,q1⟩=>?_);exact thn (hr pos pins s1 σ H1 _ I1 q1) fun us s2 ⟨xs,H2,I2,r2,q2⟩=>⟨x::xs,H2,I2,.cons r1 r2,q2⟩
def Us(t:TA):TE:=fun σ H Q=>t σ H fun xs H1=>xs.length<=sizeLine/\∀ p,H1 p=none->Q (.ref p) (upd H1 p (.tup xs))
def T5(t:TA):TE:=fun σ H Q=>t σ H fun xs H1=>xs.length<=sizeLine/\∀ p,H1 p=none->Q (.ref p) (upd H1 p (.lst xs))
theorem cC{x1}(h:PA X es t):PE X (.Tuple es x1 pos) (Us t):=by
 intro pins s σ H Q I hq;refine wpAny_Tuple_spliced (thn (h pos pins s σ H _ I hq) fun us s1 ⟨xs,H1,I1,r,z,q⟩=>⟨by rw [<- r.length]; exact z,?_⟩);have hf:H1 s1.heap.objs.size=none:=I1.hok.fresh (ai _);refine⟨.ref s1.heap.objs.size,upd H1 s1.heap.objs.size (.tup xs),I1.laid (t':=s1.toks) (fun b u e=>av _ e) (ai _) ?_,rfl,q _ hf⟩;exact⟨⟨z,pJ _ _⟩,us,r,⟨_,bb _ rfl,rfl,_,rfl⟩⟩
theorem cN(h:PA X es t):PE X (.List es pos) (T5 t):=by
 intro pins s σ H Q I hq;refine wpAny_List_spliced (thn (h pos pins s σ H _ I hq) fun us s1 ⟨xs,H1,I1,r,z,q⟩=>⟨by rw [<- r.length]; exact z,?_⟩);have hf:H1 s1.heap.objs.size=none:=I1.hok.fresh (ai _);refine⟨.ref s1.heap.objs.size,upd H1 s1.heap.objs.size (.lst xs),I1.laid (t':=s1.toks) (fun b u e=>av _ e) (ai _) ?_,rfl,q _ hf⟩;exact⟨z,us,0,r,bb _ rfl⟩
end
abbrev Sp:=LV->Hp->VK->XK->Prop
abbrev CXT:=List Env->Hp->ue->XK->ES
structure KD (P:uC) (w:ww) (K:PySem.W.Frag) (mg:MG) (base:Heap) (A:xf) (outer:List Env) (s:ue) (H:Hp):Prop where
 frames:A.frames=some outer
 mod:Mod K mg base
 bs:∀ b o,base.get? b=some o->s.heap.get? b=some o/\H b=none
 bsz:base.objs.size<=s.heap.objs.size
 uJ:s.heap.FunFrames base outer
 frf:∀ b∈frs outer,H b=none
 hok:HOk P w H s.heap
 bare:Vj s.gens
def CE(outer:List Env)(P:uC)(w:ww)(H:Hp)(s:ue)(Q:VK)(u:sr)(s':ue):Prop:=
 ∃ v H',s'.os=s.os/\Vj s'.gens/\Un (frs outer) [] H H' s.heap s'.heap/\HOk P w H' s'.heap/\RelV v u/\Q v H'
def CR(CX:CXT)(outer:List Env)(P:uC)(w:ww)(H:Hp)(s:ue)(Q:VK)(E:XK)(r:V3)(s':ue):Prop:=
 match r with
 | .ok (.ret u)=>CE outer P w H s Q u s'
 | .ok _=>False
 | .error e=>CX outer H s E e s'
structure cA (P:uC) (w:ww) (K:PySem.W.Frag) (mg:MG) (base:Heap) (CX:CXT) (k:Nat) (f:ut) (fd:vz) (ps:LS) (sp:Sp):Prop where
 len:∀ vs H Q E,sp vs H Q E->vs.length=ps.length
 run:∀(A:xf) (outer:List Env) (s:ue) (H:Hp) (args:Args) (us:LU) (vs:LV) (Q:VK) (E:XK),kZ k A->KD P w K mg base A outer s H->Vp s fd args (ps.zip us)->Vals vs us->sp vs H Q E->
  HH (vy P w) A (.call (.ref f) args) (CR CX outer P w H s Q E) s
theorem cA.mono{P:uC}{w:ww}{K:PySem.W.Frag}{mg:MG}{base:Heap}{CX:CXT}{j k:Nat}{f:ut}{fd:vz}{ps:LS}{sp:Sp}(F:cA P w K mg base CX j f fd ps sp)(h:j<=k) :
  cA P w K mg base CX k f fd ps sp:=⟨F.len,fun A outer s H args us vs Q E hr=>F.run A outer s H args us vs Q E (hr.mono h)⟩
theorem cA.imp{P:uC}{w:ww}{K:PySem.W.Frag}{mg:MG}{base:Heap}{CX:CXT}{k:Nat}{f:ut}{fd:vz}{ps:LS}{sp sp':Sp}(F:cA P w K mg base CX k f fd ps sp)
  (h:∀ vs H Q E,sp' vs H Q E->sp vs H Q E):cA P w K mg base CX k f fd ps sp':=
 ⟨fun vs H Q E q=>F.len vs H Q E (h _ _ _ _ q),fun A outer s H args us vs Q E hr he hb hv hs=>F.run A outer s H args us vs Q E hr he hb hv (h _ _ _ _ hs)⟩
section
variable {X:Cx}{pins:LO}{σ:St}{H:Hp}{s s':ue}
theorem Inv.env0(I:Inv X pins σ H s):KD X.prog X.w X.K X.mg X.base X.A X.stack s H:=
 ⟨I.ok.frames,I.ok.mod,I.bs,cS I.ok.bsz I.sz,I.stack,I.GK,I.hok,I.bare⟩
theorem Inv.after{Q:VK}{u:sr}(I:Inv X pins σ H s)(h:CE X.stack X.prog X.w H s Q u s'):EP X pins σ Q u s':=by
 obtain ⟨v,H',os,bare,un,hok,r,q⟩:=h;obtain ⟨hh,g,d,t,os'⟩:=s';obtain rfl:os'=s.os:=os;exact⟨v,H',I.call (h':=hh) (g':=g) (d':=d) (t':=t) (ch:=[]) un hok bare (fun b z=>absurd z ‹45›),r,q⟩
end
def Qf(sp:Sp)(dvs:LV)(E:XK)(t:TA):TE:=fun σ H Q=>t σ H fun vs H1=>sp (vs++dvs) H1 Q E
def Binds(K:PySem.W.Frag)(fd:vz)(ps:LS)(ds:LU):Prop:=
 ∀(s:ue) (us:LU),K.In s.heap->(us++ds).length=ps.length->Vp s fd ⟨us,[]⟩ (ps.zip (us++ds))
theorem Binds.all{K:PySem.W.Frag}{fd:vz}{ps:LS}(h:∀ us:LU,us.length=ps.length->bindArgs fd ⟨us,[]⟩=Hn (ps.zip us)):Binds K fd ps []:=fun s us _ hl=>by
 rw [gu] at hl ⊢;exact .of_eq (h us hl)
def Passes(CX:CXT)(X:Cx)(E:XK):Prop:=∀(pins:LO) (σ:St) (H:Hp) (s:ue) (e:sr) (s':ue),Inv X pins σ H s->CX X.stack H s E e s'->X.xe e s'
section
variable {X:Cx}{CX:CXT}{k:Nat}{f C:ut}{fd:vz}{ps:LS}{sp:Sp}{dvs:LV}{ds:LU}{E:XK}{x m:Str}{p pos apos:Pos}{e o:Expr}{es:List Expr}{ta:TE}{t:TA}
theorem Ra{pins:LO}{σ:St}{H:Hp}{s:ue}{Q:VK}{us:LU}{vs:LV}(F:cA X.prog X.w X.K X.mg X.base CX k f fd ps sp)(hr:kZ k X.A)(hb:Binds X.K fd ps ds)(hd:Vals dvs ds)(hx:Passes CX X E)
  (I:Inv X pins σ H s) (r:Vals vs us) (h:sp (vs++dvs) H Q E):uv ‹9› X.A (call (.ref f) us) (EP X pins σ Q) X.xe s:=by
 have r2:Vals (vs++dvs) (us++ds):=r.append hd;have hl:(us++ds).length=ps.length:=by rw [<- r2.length]; exact F.len _ _ _ _ h
 refine wpAny_call (oq (F.run X.A X.stack s H ⟨us,[]⟩ (us++ds) (vs++dvs) Q E hr I.env0 (hb s us I.kIn hl) r2 h) fun r s' hq=>?_);cases r with
 | error e=>exact hx pins σ H s e s' I hq
 | ok fl=>
  cases fl with
  | ret u=>exact I.after hq
  | next=>exact Do hq
  | brk=>exact Do hq
  | cont=>exact Do hq
theorem Nt(F:cA X.prog X.w X.K X.mg X.base CX k f fd ps sp)(hr:kZ k X.A)(hg:Gl X x)(hm:X.mg x=some (.ref f))(hk:PySem.W.keepIn X.K (.ref f)=true)(hb:Binds X.K fd ps ds)(hd:Vals dvs ds)(hx:Passes CX X E)
  (ha:PA X (e::es) t) (hdb:(x == ("__debug__" : Str))=false:=by decide) (he:xx (e::es) X.env=(false,eval e X.env)::xx es X.env:=by rfl) (hpl:(NB pos (xx es X.env)).any (·.1)=false:=by rfl) :
  PE X (.Call (.Name x p) (e::es) [] pos) (Qf sp dvs E t):=by
 exists 12;refine kz (Gy I hg hm ?_ hdb);refine PySem.W.callWith_K (h₀:=X.base) I.ok.mod.kin hk (thn (ha pos pins s σ H _ I h) fun us s1 ⟨vs,H1,I1,r,q⟩=>⟨I1.kIn,?_⟩) he hpl;exact Ra F hr hb hd hx I1 r q
structure Mk (K:PySem.W.Frag) (C f:ut):Prop where
 makes:PySem.W.makesIn K C=true
 init:PySem.W.findIn K (.ref C) "__init__" = some (some (.ref f))
 fn:PySem.W.isFn K (.ref f)=true
 kp:PySem.W.keepIn K (.ref C)=true
end
section
variable {X:Cx}{CX:CXT}{k:Nat}{f C:ut}{fd:vz}{ps ks:LS}{sp:Sp}{E:XK}{x m:Str}{p pos apos kpos:Pos}{e o:Expr}{es:List Expr}{kws:List Vq}{te ta:TE}{t tk:TA}{nm:Option Str}
structure Ux (K:PySem.W.Frag) (fd:vz) (ps ks:LS) (g:LU->LU->LU) (gV:LV->LV->LV):Prop where
 to:∀(s:ue) (us ws:LU),K.In s.heap->(g us ws).length=ps.length->Vp s fd ⟨us,ks.zip ws⟩ (ps.zip (g us ws))
 rel:∀ {vs:LV} {us:LU} {zs:LV} {ws:LU},Vals vs us->Vals zs ws->Vals (gV vs zs) (g us ws)
variable {g:LU->LU->LU}{gV:LV->LV->LV}
end
structure bw (N P:LS) (sc:Scope):Prop where
 kind:sc.kind=.function
 co:sc.isCoroutine=false
 gen:sc.isGenerator=false
 nd:N.Nodup
 pre:N.take P.length=P
 par:∀ x∈P,sc.names.lookup x=some .local\/sc.names.lookup x=some .cell
 QX:∀ y∈sc.names,y.2≠.free
theorem xY{kindOf:Str->Option zb}{x:Str}:∀ {binds:List (Str × sr)} {m:MG},(∀ v,(x,v) ∉ binds)->bindL kindOf binds m x=m x
 | [],_,_=>rfl
 | (n,v)::r,m,h=>by
  unfold bindL;rw [xY fun w hw=>h w (cr _ hw)];split
  ·have:x≠n:=by rintro rfl; exact h v bn
   simp [this]
  ·rfl
theorem wZ{kindOf:Str->Option zb}{x:Str}:∀ {binds:List (Str × sr)} {m:MG},(∀ v,(x,v) ∉ binds)->bindC kindOf binds m x=m x
 | [],_,_=>rfl
 | (n,v)::r,m,h=>by
  unfold bindC;rw [wZ fun w hw=>h w (cr _ hw)];split
  ·rfl
  ·have:x≠n:=by rintro rfl; exact h v bn
   simp [this]
theorem yp{kindOf:Str->Option zb}{x:Str}{v:sr}:∀ {P:LS} {vs:LU} {i:Nat} {m:MG},P.Nodup->P[i]?=some x->vs[i]?=some v->kindOf x=some .local->
  bindL kindOf (P.zip vs) m x=some v
 | [],_,_,_,_,h,_,_=>by simp at h
 | _::_,[],_,_,_,_,h,_=>by simp at h
 | p::P,w::vs,0,m,nd,h1,h2,hk=>by
  simp at h1 h2; subst h1; subst h2;show bindL kindOf ((p,w)::P.zip vs) m p=_;unfold bindL;rw [xY fun v hv=>(fh.mp nd).1 (List.of_mem_zip hv).1,dE hk];simp
 | p::P,w::vs,i+1,m,nd,h1,h2,hk=>by
  show bindL kindOf ((p,w)::P.zip vs) m x=_;unfold bindL;exact yp (i:=i) (fh.mp nd).2 (by simpa using h1) (by simpa using h2) hk
theorem xW{kindOf:Str->Option zb}{x:Str}{v:sr}:∀ {P:LS} {vs:LU} {i:Nat} {m:MG},P.Nodup->P[i]?=some x->vs[i]?=some v->kindOf x≠some .local->
  bindC kindOf (P.zip vs) m x=some v
 | [],_,_,_,_,h,_,_=>by simp at h
 | _::_,[],_,_,_,_,h,_=>by simp at h
 | p::P,w::vs,0,m,nd,h1,h2,hk=>by
  simp at h1 h2; subst h1; subst h2;show bindC kindOf ((p,w)::P.zip vs) m p=_;unfold bindC;rw [wZ fun v hv=>(fh.mp nd).1 (List.of_mem_zip hv).1,cK hk];simp
 | p::P,w::vs,i+1,m,nd,h1,h2,hk=>by
  show bindC kindOf ((p,w)::P.zip vs) m x=_;unfold bindC;exact xW (i:=i) (fh.mp nd).2 (by simpa using h1) (by simpa using h2) hk
def start(N:LS)(vs:LV):St:=vs.map some++List.replicate (N.length - vs.length) none
def jV(CX:CXT)(P:uC)(w:ww)(K:PySem.W.Frag)(mg:MG)(base:Heap)(N:LS)(qual:Str)(scope:Scope)(f:ut)(cd:sr)(A:xf)(outer:List Env)(s:ue)(H:Hp)(E:XK):Cx where
 prog:=P
 w:=w
 K:=K
 mg:=mg
 base:=base
 A:=A.deeper (VN qual scope s.heap.objs.size f cd)
 N:=N
 s₀:=s
 H₀:=H
 env:=VN qual scope s.heap.objs.size f cd
 outer:=outer
 stack:=VN qual scope s.heap.objs.size f cd::outer
 ex:=[]
 calm:=true
 fn:=fun _=>true
 pn:=[]
 xe:=fun e s'=>uv (vy P w) (A.deeper (VN qual scope s.heap.objs.size f cd)) (leaving (VN qual scope s.heap.objs.size f cd) e) (fun _ s''=>CX outer H s E e s'') (fun e' s''=>CX outer H s E e' s'') s'
theorem Ak{sc:Scope}{n:Nat}{x:Str}(h:sc.names.lookup x=some .cell):∃ c,(cellsFrom n sc.names []).lookup x=some c:=by
 have q:=lj sc.names n [] (.inl h);exact fN.mp q
theorem Iz{CX:CXT}{P:uC}{w:ww}{K:PySem.W.Frag}{mg:MG}{base:Heap}{N ps:LS}{qual:Str}{scope:Scope}{f:ut}{cd:sr}{A:xf}{outer:List Env}{s s1:ue}{H:Hp}{E:XK}{us:LU}{vs:LV}
  (S:bw N ps scope) (hd:A.handled=none) (e0:KD P w K mg base A outer s H) (hl:vs.length=ps.length) (r:Vals vs us)
  (x:InCallC s s.heap.objs.size (bindL (VN qual scope s.heap.objs.size f cd).kindOf (ps.zip us) fun _=>none) (cellsFrom ‹40› scope.names []) (bindC (VN qual scope s.heap.objs.size f cd).kindOf (ps.zip us) fun _=>none) s1) :
  Inv (jV CX P w K mg base N qual scope f cd A outer s H E) [] (start N vs) H s1:=by
 have hpl:ps.length<=N.length:=by have:=congrArg List.length S.pre; rw [bc] at this; omega
 obtain ⟨h1,tk,rfl,hk⟩:=x.done;have noA:∀ b:ut,b ∉ (jV CX P w K mg base N qual scope f cd A outer s H E).ex:=fun b z=>absurd (show b∈([]:LA) from z) ‹45›
 refine⟨⟨e0.mod,S.kind,rfl,rfl,ai _,fun y z c h1 h2=>?_,fun y hy=>?_,fun y c _ h=>?_,fun _=>hd,xf.frames_deeper e0.frames,.inr ⟨rfl,rfl⟩,fun b z=>absurd z (noA b),e0.bs,e0.bsz,fun b _ _=>noA b,fun b z=>absurd z (noA b),e0.uJ,e0.frf⟩,
  rfl,e0.bare,Un.kept hk,⟨_,x.toInCall.ns,fun i y v h1 h2 h3=>?_⟩,fun y c h=>⟨_,x.cell y c h⟩,e0.hok.fresh (ai _),fun y c h=>?_,fun p hp=>absurd (show p∈([]:LO) from hp) ‹45›,e0.hok.kept hk,?_⟩
 ·exact name_of_addr x.apart (gh h1) (gh h2)
 ·have hy:scope.names.lookup y=some .cell\/scope.names.lookup y=some .free:=hy;rcases hy with hy | hy
  ·exact Ak hy
  ·exact absurd rfl (S.QX _ (gh hy))
 ·exact Nat.le_of_lt (x.above y c (gh h))
 ·have hi:i < vs.length:=by
   unfold start at h2
   by_cases hi:i < vs.length
   ·exact hi
   ·rw [ic (by simpa using hi)] at h2;rw [List.getElem?_replicate] at h2;split at h2 <;> cases h2
  have ha:vs[i]?=some v:=by
   unfold start at h2;rw [ij (by simpa using hi),bg] at h2;cases e:vs[i]? with
   | none=>rw [e] at h2; cases h2
   | some a=>rw [e] at h2; cases h2; rfl
  obtain ⟨u,hu,rv⟩:=r.get ha
  have hp:ps[i]?=some y:=by
   rw [<- S.pre,kP ‹26›]; exact h1
  have ndP:ps.Nodup:=by rw [<- S.pre]; exact S.nd.sublist (oz _ _)
  refine⟨u,rv,?_⟩;rcases S.par y (eI hp) with k | k
  ·exact .inl ⟨k,yp ndP hp hu k⟩
  ·obtain ⟨c,e⟩:=Ak (n:=s.heap.objs.size+1) k;refine .inr ⟨.inl k,c,e,?_⟩;have q:=x.cell y c e;rw [xW ndP hp hu (by show scope.names.lookup y≠_; rw [k]; decide)] at q;exact q
 ·exact e0.hok.fresh (Nat.le_of_lt (x.above y c (gh h)))
 ·unfold start;show _=N.length;rw [bX,aa,lP];omega
theorem Tj{CX:CXT}{P:uC}{w:ww}{K:PySem.W.Frag}{mg:MG}{base:Heap}{k:Nat}{f:ut}{name qual:Str}{params:Arguments}{body:List Stmt}{scope:Scope}{dV kV doc pm cdv ct oc:sr}{an od:Option ut}
  {osl:Array (Option sr)} {N ps:LS} {sp:Sp} (lk:K.lookup f=some ⟨oc,od,.func (PySem.W.fnOf name qual params body scope dV kV doc pm an cdv ct),osl⟩) (hcd:PySem.W.codeIn K cdv qual=true) (S:bw N ps scope)
  (len:∀ vs H Q E,sp vs H Q E->vs.length=ps.length)
  (hbody:∀(A:xf) (outer:List Env) (s:ue) (H:Hp) (vs:LV) (Q:VK) (E:XK),kZ k (A.deeper (VN qual scope s.heap.objs.size f cdv))->sp vs H Q E->
   ∃ t,PSs (jV CX P w K mg base N qual scope f cdv A outer s H E) body t/\t { nx:=fun _ H'=>Q .non H',rt:=Q } (start N vs) H) :
  cA P w K mg base CX (k+1) f (PySem.W.fnOf name qual params body scope dV kV doc pm an cdv ct) ps sp:=by
 refine⟨len,fun A outer s H args us vs Q E hr e0 hb r hsp=>?_⟩;have hl:=len _ _ _ _ hsp;have KX:K.In s.heap:=e0.mod.kin.keeps fun b o e=>(e0.bs b o e).1;have lim:s.heap.NoLimit:=e0.mod.nolimit.keeps fun b o e=>(e0.bs b o e).1
 have hkind:∀ y∈ps.zip us,scope.names.lookup y.1=some .local\/(scope.names.lookup y.1=some .cell/\((cellsFrom ‹40› scope.names []).lookup y.1).isSome=true):=fun⟨n,v⟩ hy=>by
  rcases S.par n (List.of_mem_zip hy).1 with q | q
  ·exact .inl q
  ·exact .inr ⟨q,lj _ _ _ (.inl q)⟩
 refine codeAny_call_function hr.depth (KX _ _ lk) rfl S.co S.gen rfl (PySem.W.codeRec_of KX hcd) (hb _ _ _ _ ?_);refine wpAny_newFunctionEnv_cells S.kind hkind fun env he s1 x=>?_;subst he;refine⟨lim.keeps x.toInCall.keep,codeAny_func ?_⟩;obtain ⟨t,ht,hq⟩:=hbody A outer s H vs Q E (hr.deeper _) hsp;have I:Inv (jV CX P w K mg base N qual scope f cdv A outer s H E) [] (start N vs) H s1:=Iz S hr.hd e0 hl r x;refine ib (ht [] s1 (start N vs) H _ I hq) (fun fl s' hs=>?_) fun e s' hs=>hs
 have fin:∀ {σ':St} {H':Hp} {v:V} {u:sr},Inv (jV CX P w K mg base N qual scope f cdv A outer s H E) [] σ' H' s'->RelV v u->Q v H'->CE outer P w H s Q u s':=
  fun {σ' H' v u} J rv q=>⟨v,H',J.os,J.bare,J.base,J.hok,rv,q⟩
 cases fl with
 | ret u=>
  obtain ⟨v,σ',H',J,rv,q⟩:=hs;exact fin J rv q
 | next=>
  obtain ⟨σ',H',J,q⟩:=hs;exact fin (v:=V.non) (u:=xF) J rfl q
 | brk=>
  obtain ⟨_,_,_,q⟩:=hs;exact Do q
 | cont=>
  obtain ⟨_,_,_,q⟩:=hs;exact Do q
section
variable {X:Cx}{x:Str}{p pos:Pos}{e:Expr}{es:List Expr}{t:TA}{id T:String}{r:LV->Hp->VK->Prop}
def tCB(r:LV->Hp->VK->Prop)(t:TA):TE:=fun σ H Q=>t σ H fun vs H1=>r vs H1 Q
theorem aH(hc:fj X (.builtin id) r)(hg:Gl X x)(hm:X.mg x=none)(hv:ye x=some (.builtin id))(ha:PA X (e::es) t)(hn:x≠ "__name__" := by decide)(hdb:(x == ("__debug__" : Str))=false:=by decide)
  (he:xx (e::es) X.env=(false,eval e X.env)::xx es X.env:=by rfl) (hpl:(NB pos (xx es X.env)).any (·.1)=false:=by rfl):PE X (.Call (.Name x p) (e::es) [] pos) (tCB r t):=by
 exists 12;refine kz (rm I hg hm hv ?_ hn hdb);exact PyProof.Rows.callWith_builtin1 (thn (ha pos pins s σ H _ I h) fun us s1 ⟨vs,H1,I1,r1,q1⟩=>hc pins s1 σ H1 vs us Q I1 r1 q1) he hpl
theorem bG(hc:fj X (.type T) r)(hg:Gl X x)(hm:X.mg x=none)(hv:ye x=some (.type T))(ha:PA X (e::es) t)(hn:x≠ "__name__" := by decide)(hdb:(x == ("__debug__" : Str))=false:=by decide)
  (he:xx (e::es) X.env=(false,eval e X.env)::xx es X.env:=by rfl) (hpl:(NB pos (xx es X.env)).any (·.1)=false:=by rfl):PE X (.Call (.Name x p) (e::es) [] pos) (tCB r t):=by
 exists 12;refine kz (rm I hg hm hv ?_ hn hdb);exact i4 (thn (ha pos pins s σ H _ I h) fun us s1 ⟨vs,H1,I1,r1,q1⟩=>hc pins s1 σ H1 vs us Q I1 r1 q1) he hpl
end
end L2
end
section
namespace HT
open PySem PyProof.Rows
variable {sl t:ut}{Q:sr->ue->Prop}{vl vu:sr}{hi lo:Option Int}{n:Nat}{items:Array sr}
section
open PySem.SeqAt
open PySem.AutoSeq1 (wpAny_loadPart')
open PySem.MeetsSeq PySem.MeetsSeq2 PySem.MeetsSeq3
end
section
variable {prog:uC}{w:ww}{A:xf}{E:sr->ue->Prop}{s:ue}
theorem NZ{b:ut}{vs ws:List sr}(ht:IsTup s.heap t vs.toArray)(hb:IsTup s.heap b ws.toArray)(hv:vs≠[])
  (h1:ws=[]->Q (.ref t) s) (h2:ws≠[]->Q ‹22› { s with heap:=s.heap.push { cls:=.type "tuple",data:=.seq (vs++ws).toArray } })
  (hsz:vs.length+ws.length<=sizeLine):uv ‹32› A (Eg .Add (.ref t) (.ref b)) Q E s:=by
 obtain ⟨⟨cls,dd,data,sl⟩,ho,hc,n,hd⟩:=id ht;obtain ⟨⟨cls2,dd2,data2,sl2⟩,ho2,hc2,n2,hd2⟩:=id hb;simp only at hc hd hc2 hd2;subst hc hd hc2 hd2;have e:vs.toArray++ws.toArray=(vs++ws).toArray:=by simp
 by_cases hw:ws=[]
 ·exact concat_meets ⟨_,ho,rfl⟩ ⟨_,ho2,rfl⟩ Vx seq_tuple_add oB n4 (nk _ _)
   (tuple_addW1 t b vs.toArray ws.toArray n n2 dd dd2 sl sl2 (by simpa using hv) (by simp [hw])) ⟨ho,ho2,h1 hw⟩
 ·refine concat_meets ⟨_,ho,rfl⟩ ⟨_,ho2,rfl⟩ Vx seq_tuple_add oB n4 (nk _ _)
   (tuple_addW2 t b vs.toArray ws.toArray n n2 dd dd2 sl sl2 (by simpa using hv) (by simpa using hw) (by rw [cf,cf]; exact hsz)) ⟨ho,ho2,?_⟩
  rw [e];exact h2 hw
def sIx(n d:Nat):Option Int->Nat
 | none=>d
 | some v=>if v < 0 then (v+(n:Int)).toNat else min v.toNat n
theorem Ac(n d:Nat):sIx n d none=d:=rfl
theorem rR(n d k:Nat):sIx n d (some (k:Int))=min k n:=by
 show (if (k:Int) < 0 then ((k:Int)+(n:Int)).toNat else min (k:Int).toNat n)=min k n;rw [cK ‹26›,ii]
theorem RD(n d:Nat)(hd:d<=n)(o:Option Int):sIx n d o<=n:=by
 cases o with
 | none=>exact hd
 | some v=>
  show (if v < 0 then (v+(n:Int)).toNat else min v.toNat n)<=n
  by_cases hv:v < 0
  ·rw [dE hv]; omega
  ·rw [cK hv]; exact Nat.min_le_right _ _
theorem FZ(v:Int)(n d:Nat):(if v < 0 then max (v+(n:Int)) 0 else min v (n:Int))=((sIx n d (some v):Nat):Int):=by
 show (if v < 0 then max (v+(n:Int)) 0 else min v (n:Int))=(((if v < 0 then (v+(n:Int)).toNat else min v.toNat n):Nat):Int)
 by_cases hv:v < 0
 ·simp only [dE hv]; omega
 ·simp only [cK hv]; omega
theorem CJ(lo hi:Option Int)(n:Nat):PQ lo hi 1 (n:Int)=(((sIx n 0 lo:Nat):Int),((sIx n n hi:Nat):Int)):=by
 have h1:¬ ((1:Int) < 0):=by omega
 unfold PQ;simp only [h1,oC];refine Prod.ext ?_ ?_
 ·cases lo with
  | none=>rfl
  | some v=>exact FZ v n 0
 ·cases hi with
  | none=>rfl
  | some v=>exact FZ v n n
theorem Dy(i j:Nat):Hk (i:Int) (j:Int) 1=j - i:=by
 unfold Hk;have h1:(1:Int) > 0:=by omega
 simp only [h1,kR,Int.ediv_one];split <;> omega
theorem vY{v:sr}{o:Option Int}{Q:Option Int->ue->Prop}(p:VL v o)(h:Q o s):uv ‹32› A (uB.Slice.slicePartIndex v) Q E s:=by
 cases p with
 | none=>exact slicePart_none h
 | int i t=>exact slicePart_int h
theorem mO{Q:Int × Int × Nat->ue->Prop}(hs:s.heap.IsSliceOf sl vl vu .none)(pl:VL vl lo)(pu:VL vu hi)
  (h:Q (((sIx n 0 lo:Nat):Int),1,sIx n n hi - sIx n 0 lo) s):uv ‹32› A (uB.Slice.sliceApplied (.ref sl) (Hn (n:Int))) Q E s:=by
 obtain ⟨os,hos,hcs,hds⟩:=id hs;unfold uB.Slice.sliceApplied uB.Slice.sliceFields;refine af (af (ff hos hds (x:=vl) rfl (af (ff hos hds (x:=vu) rfl (af (ff hos hds (x:=.none) rfl (aE ?_)))))));refine af (slicePart_none ?_);show uv _ _ (if ((1:Int) == 0)=true then _ else _) _ _ s;rw [cK ‹6›];refine af (vY pl (af (vY pu (af (aE ?_)))));show uv _ _ (match PQ lo hi 1 (n:Int) with | (lo,hi)=>Hn (lo,(1:Int),Hk lo hi 1)) _ _ s;rw [CJ lo hi n];show uv _ _ (Hn (((sIx n 0 lo:Nat):Int),(1:Int),Hk ((sIx n 0 lo:Nat):Int) ((sIx n n hi:Nat):Int) 1)) _ _ s;rw [Dy];exact aE h
theorem Mf(xs:Array sr)(i k:Nat):((List.range k).filterMap fun(m:Nat)=>xs[((i:Int)+(m:Int) * 1).toNat]?).toArray=((xs.toList.drop i).take k).toArray:=by
 have e:(fun(m:Nat)=>xs[((i:Int)+(m:Int) * 1).toNat]?)=fun m=>xs[i+m]?:=by
  funext m;have:((i:Int)+(m:Int) * 1).toNat=i+m:=by omega
  rw [this]
 rw [e];have:=pick_run xs i k;rw [List.filterMap_map] at this;have e2:((fun x=>xs[x]?) ∘ fun x=>i+x)=fun m=>xs[i+m]?:=rfl;rw [e2] at this;rw [this]
theorem sG(ht:IsTup s.heap t items)(hs:s.heap.IsSliceOf sl vl vu .none)(pl:VL vl lo)(pu:VL vu hi)
  (hw:¬ (sIx items.size 0 lo=0/\sIx items.size items.size hi=items.size))
  (h:Q ‹22› { s with heap:=s.heap.push { cls:=.type "tuple",data:=.seq ((items.toList.drop (sIx items.size 0 lo)).take (sIx items.size items.size hi - sIx items.size 0 lo)).toArray } })
  (hsz:items.size<=sizeLine):uv ‹32› A (Vk (.ref t) (.ref sl)) Q E s:=by
 have htake:sizeOk (.seq ((items.toList.drop (sIx items.size 0 lo)).take (sIx items.size items.size hi - sIx items.size 0 lo)).toArray):=by
  show ((items.toList.drop (sIx items.size 0 lo)).take (sIx items.size items.size hi - sIx items.size 0 lo)).toArray.size<=sizeLine;rw [cf,bc,jb,fE];omega
 have hj:sIx items.size items.size hi<=items.size:=RD _ _ (ai _) hi;obtain ⟨os,hos,hcs,hds⟩:=id hs;have hTs:s.TypeIs (.ref sl) "slice" := ⟨os,hos,hcs⟩;unfold Vk
 try with_reducible refine eL ?_
 first | refine af (aE ?_) | skip
 refine af (wpAny_sequenceKey ht.typeIs ‹6› ?_)
 refine af (eT (name:=Str.ofString "__getitem__") ht.typeIs hU
  (eM hU ht.typeIs entry_tuple_getitem ?_ (args_tuple_getitem _ _)))
 show uv _ _ (uB.Tuple.tupleItemsOf (.ref t) >>= _) _ _ s;refine af (tupleItemsOf_ ht ?_);refine af (wpAny_typeOf hTs ?_);rw [dE ‹6›];refine af (mO hs pl pu ?_)
 have hno:¬ ((((sIx items.size 0 lo:Nat):Int) == 0 && (1:Int) == 1 && (sIx items.size items.size hi - sIx items.size 0 lo) == items.size)=true):=by
  intro q;rw [eK,eK] at q;have q1:((sIx items.size 0 lo:Nat):Int)=0:=eq_of_beq q.1.1;have q2:sIx items.size items.size hi - sIx items.size 0 lo=items.size:=eq_of_beq q.2;exact hw ⟨by omega,by omega⟩
 show uv _ _ (if (((sIx items.size 0 lo:Nat):Int) == 0 && (1:Int) == 1 && (sIx items.size items.size hi - sIx items.size 0 lo) == items.size)=true then _ else _) _ _ s;rw [cK hno,Mf]
 first
  | exact af (m:=By _) (fv (aE ⟨_,rfl,aE h⟩) htake)
  | exact af (m:=By _) (fv (af (aE (aE ⟨_,rfl,aE h⟩))) htake)
  | exact af (af (m:=By _) (fv (aE (aE ⟨_,rfl,aE h⟩)) htake))
  | exact af (af (m:=By _) (fv (aE ⟨_,rfl,aE h⟩) htake))
end
end HT
namespace L2
open PySem PySem.Spec PyProof.Rows
variable {xs ys:LV}{its us:LU}{j n n' t':Nat}{α:Type}{pins:LO}{σ:St}{H H':Hp}{s:ue}{a p:ut}{A:xf}{y:V}{u:sr}{P prog:uC}{w:ww}{kvs:LK0}{E Q:ES}{h':Heap}{env:Env}{pos:Pos}{id:String}{X:Cx}
abbrev TO:=St->Hp->(Option Int->Hp->Prop)->Prop
def PO(X:Cx)(e:Option Expr)(t:TO):Prop:=
 ∀(pins:LO) (s:ue) (σ:St) (H:Hp) (Q:Option Int->Hp->Prop),Inv X pins σ H s->t σ H Q->
  uv ‹9› X.A (evalPart e X.env) (fun u s'=>∃ o H',Inv X pins σ H' s'/\VL u o/\Q o H') X.xe s
def O2:TO:=fun _ H Q=>Q none H
inductive Kg (Q:Option Int->Hp->Prop) (x:V) (H1:Hp):Prop
 | mk (i:_):x=.int i->Q (some i) H1->Kg Q x H1
def SM(t:TE):TO:=fun σ H Q=>t σ H fun x H1=>Kg Q x H1
section
variable {X:Cx}{e:Expr}{te:TE}{lo hi:Option Expr}{tl th:TO}{pos p2:Pos}
theorem bB:PO X none O2:=by
 exists 12;rw [evalPart_none];exact aE ⟨none,H,I,.none,h⟩
theorem bC(h:PE X e te):PO X (some e) (SM te):=by
 intro pins s σ H Q I hw;rw [evalPart_some];refine thn (h pins s σ H _ I hw) fun u s1 ⟨x,H1,I1,r1,q1⟩=>?_;obtain ⟨i,rfl,q⟩:=q1;obtain ⟨t,rfl⟩:=r1;exact⟨some i,H1,I1,.int i t,q⟩
def SlR(X:Cx)(r:V->Option Int->Option Int->Hp->VK->Prop):Prop:=
 ∀(pins:LO) (s:ue) (σ:St) (H:Hp) (x:V) (v vl vu:sr) (lo hi:Option Int) (sl:ut) (Q:VK),Inv X pins σ H s->RelV x v->s.heap.IsSliceOf sl vl vu .none->VL vl lo->VL vu hi->r x lo hi H Q->
  ∃ T id,typeLookup (.type T) "__getitem__" = Hn (some (.builtin id))/\s.TypeIs v T/\uv ‹9› X.A (Vk v (.ref sl)) (EP X pins σ Q) X.xe s
theorem SlR.or{r r':V->Option Int->Option Int->Hp->VK->Prop}(h:SlR X r)(h':SlR X r'):SlR X (fun x lo hi H Q=>r x lo hi H Q\/r' x lo hi H Q):=by
 intro pins s σ H x v vl vu lo hi sl Q I rx hs pl pu q;rcases q with q | q
 ·exact h pins s σ H x v vl vu lo hi sl Q I rx hs pl pu q
 ·exact h' pins s σ H x v vl vu lo hi sl Q I rx hs pl pu q
def tSl(r:V->Option Int->Option Int->Hp->VK->Prop)(te:TE)(tl th:TO):TE:=fun σ H Q=>te σ H fun x H1=>tl σ H1 fun l H2=>th σ H2 fun u H3=>r x l u H3 Q
theorem aZ{r:V->Option Int->Option Int->Hp->VK->Prop}(hr:SlR X r)(he:PE X e te)(hl:PO X lo tl)(hu:PO X hi th):PE X (.Subscript e (.Slice lo hi none p2) pos) (tSl r te tl th):=by
 exists 12;refine Subscript_ (thn (he pins s σ H _ I h) fun v s1 ⟨x,H1,I1,r1,q1⟩=>?_);refine wpAny_Slice (thn (hl pins s1 σ H1 _ I1 q1) fun vl s2 ⟨l,H2,I2,pl,q2⟩=>thn (hu pins s2 σ H2 _ I2 q2) fun vu s3 ⟨u,H3,I3,pu,q3⟩=>?_);rw [evalPart_none];refine aE ?_;have I4:Inv X pins σ H3 { s3 with heap:=s3.heap.push { cls:=.type "slice",data:=.fields #[vl,vu,.none] } }:=I3.kept (t':=s3.toks) fun b ob q=>av _ q;obtain ⟨T,id,hT,ht,hg⟩:=hr pins { s3 with heap:=s3.heap.push { cls:=.type "slice",data:=.fields #[vl,vu,.none] } } σ H3 x v vl vu l u s3.heap.objs.size Q I4 r1 (Heap.IsSliceOf.new ..) pl pu q3;show uv ‹9› X.A (Vt e (.Slice lo hi none p2) v (.ref s3.heap.objs.size)) (EP X pins σ Q) X.xe { s3 with heap:=s3.heap.push { cls:=.type "slice",data:=.fields #[vl,vu,.none] } };exact tail_any (ops:=[.ref s3.heap.objs.size,v]) ht hT hg ‹29›
def eF(xs:LV)(lo hi:Option Int):LV:=(xs.drop (HT.sIx xs.length 0 lo)).take (HT.sIx xs.length xs.length hi - HT.sIx xs.length 0 lo)
theorem cH(xs:LV)(lo hi:Option Int):(eF xs lo hi).length<=xs.length:=by
 unfold eF;rw [bc,jb];omega
inductive Oz (K:PySem.W.Frag) (x:V) (lo:Option Int) (hi:Option Int) (H:Hp) (Q:VK):Prop
 | mk (a xs:_):x=.ref a->SqT K H a xs->¬ (HT.sIx xs.length 0 lo=0/\HT.sIx xs.length xs.length hi=xs.length)->(∀ p,H p=none->Q (.ref p) (upd H p (.tup (eF xs lo hi))))->Oz K x lo hi H Q
theorem Ly:SlR X (Oz X.K):=by
 intro pins s σ H x v vl vu lo hi sl Q I rx hs pl pu h;obtain ⟨a,xs,rfl,hx,hw,q⟩:=h;cases rx;obtain ⟨its,r,ht,hz⟩:=I.tuple hx;have hlen:its.toArray.size=xs.length:=by rw [cf]; exact r.length.symm
 refine⟨"tuple",_,hU.lookup,ht.typeIs,?_⟩;refine HT.sG ht hs pl pu (by rw [hlen]; exact hw) ?_ (by rw [hlen]; exact hz);rw [hlen];refine⟨.ref s.heap.objs.size,_,I.laid (t':=s.toks) (o:=.tup (eF xs lo hi)) (fun b ob q=>av _ q) (ai _) ?_,rfl,q _ (I.hok.fresh (ai _))⟩;exact⟨⟨cS (cH xs lo hi) hz,pJ _ _⟩,_,(r.drop (HT.sIx xs.length 0 lo)).take (HT.sIx xs.length xs.length hi - HT.sIx xs.length 0 lo),IsTup.new _ _⟩
inductive Lf (K:PySem.W.Frag) (x:V) (y:V) (H:Hp) (Q:VK):Prop
 | mk (a b xs ys:_):x=.ref a->y=.ref b->SqT K H a xs->SqT K H b ys->xs≠[]->xs.length+ys.length<=sizeLine->(ys=[]->Q (.ref a) H)->(ys≠[]->∀ p,H p=none->Q (.ref p) (upd H p (.tup (xs++ys))))->Lf K x y H Q
theorem Vals.lO(r:Vals xs us):us=[]↔xs=[]:=by
 cases r with
 | nil=>simp
 | cons _ _=>simp
theorem Fy:OpR X (Eg .Add) (Lf X.K):=by
 exists 6;obtain ⟨a,b,xs,ys,rfl,rfl,ha,hb,hx,hz,q1,q2⟩:=h;cases rx;cases ry;obtain ⟨its,r1,p1,_⟩:=I.tuple ha;obtain ⟨its2,r2,p2,_⟩:=I.tuple hb;refine HT.NZ p1 p2 (fun z=>hx (r1.lO.mp z)) (fun z=>⟨.ref a,H,I,rfl,q1 (r2.lO.mp z)⟩) (fun z=>?_) (by rw [<- r1.length,<- r2.length]; exact hz);refine⟨.ref s.heap.objs.size,_,I.laid (t':=s.toks) (o:=.tup (xs++ys)) (fun b ob q=>av _ q) (ai _) ?_,rfl,q2 (fun w=>z (r2.lO.mpr w)) _ (I.hok.fresh (ai _))⟩;exact⟨⟨by rw [bX]; exact hz,pJ _ _⟩,_,r1.append r2,IsTup.new _ _⟩
end
def ixN(n:Nat)(i:Int):Option Nat:=if 0<=i then (if i < n then some i.toNat else none) else if -(n:Int)<=i then some (i+n).toNat else none
def atI{α:Type}(xs:List α)(i:Int):Option α:=(ixN xs.length i).bind fun j=>xs[j]?
theorem Ey{i:Int}(h:ixN n i=some j):seqIndex? i n=some j/\j < n/\-(n:Int)<=i/\i < n:=by
 unfold ixN at h
 by_cases h0:0<=i
 ·rw [dE h0] at h
  by_cases h1:i < n
  ·rw [dE h1] at h;have e:i.toNat=j:=ck h;exact⟨by rw [seqIndex_of h0 h1,e],by omega,by omega,h1⟩
  ·rw [cK h1] at h; cases h
 ·rw [cK h0] at h
  by_cases h1:-(n:Int)<=i
  ·rw [dE h1] at h;have e:(i+n).toNat=j:=ck h;exact⟨by rw [seqIndex_neg ‹26› h1,e],by omega,h1,by omega⟩
  ·rw [cK h1] at h; cases h
theorem zV{α:Type}{xs:List α}{i:Int}{v:α}(h:atI xs i=some v):∃ j,seqIndex? i xs.length=some j/\xs[j]?=some v/\j < xs.length/\-(xs.length:Int)<=i/\i < xs.length:=by
 unfold atI at h;cases e:ixN xs.length i with
 | none=>rw [e] at h; cases h
 | some j=>
  rw [e] at h;obtain ⟨h1,h2,h3,h4⟩:=Ey e;exact⟨j,h1,h,h2,h3,h4⟩
theorem aJ{α:Type}{xs:List α}{v:α}(h:xs[j]?=some v):atI xs (j:Int)=some v:=by
 have hj:j < xs.length:=(bv.mp h).1
 have e:ixN xs.length (j:Int)=some j:=by
  unfold ixN;rw [dE ‹26›,dE ‹26›]; simp
 unfold atI; rw [e]; exact h
theorem Jr(xs:List α)(v:α):atI (xs++[v]) (-1)=some v:=by
 have hl:(xs++[v]).length=xs.length+1:=by simp
 have e:ixN (xs++[v]).length (-1)=some xs.length:=by
  unfold ixN;rw [hl,cK ‹6›,dE ‹26›];congr 1;omega
 unfold atI;rw [e];show (xs++[v])[xs.length]?=some v;simp
def N8(b:Expr):Prop:=∀ o i,subscripted b false o i=operate [o,i] (Vk o i)
def IxR(X:Cx)(r:R2):Prop:=
 ∀(value slice:Expr) (pins:LO) (s:ue) (σ:St) (H:Hp) (x y:V) (v u:sr) (Q:VK),Inv X pins σ H s->RelV x v->RelV y u->r x y H Q->
  subscripted slice false v u=operate [v,u] (Vk v u)->uv ‹9› X.A (Vt value slice v u) (EP X pins σ Q) X.xe s
def MtR(X:Cx)(id:String)(r:V->LV->Hp->VK->Prop):Prop:=
 ∀(pins:LO) (s:ue) (σ:St) (H:Hp) (x:V) (xs:LV) (v:sr) (us:LU) (Q:VK),Inv X pins σ H s->RelV x v->Vals xs us->r x xs H Q->
  uv ‹9› X.A (call (.builtin id) (v::us)) (EP X pins σ Q) X.xe s
section
variable {X:Cx}{a b:Expr}{ta tb:TE}{pos:Pos}
theorem IxR.or{r r':R2}(h:IxR X r)(h':IxR X r'):IxR X (fun x y H Q=>r x y H Q\/r' x y H Q):=by
 intro value slice pins s σ H x y v u Q I rx ry q hs;rcases q with q | q
 ·exact h value slice pins s σ H x y v u Q I rx ry q hs
 ·exact h' value slice pins s σ H x y v u Q I rx ry q hs
theorem aP{r:R2}(hr:IxR X r)(ha:PE X a ta)(hb:PE X b tb)(hs:N8 b):PE X (.Subscript a b pos) (tOp r ta tb):=by
 exists 12;exact Subscript_ (Qw ha hb I h fun v u s2 x y H2 I2 rx ry q=>hr a b pins s2 σ H2 x y v u Q I2 rx ry q (hs _ _))
inductive Mv (K:PySem.W.Frag) (x:V) (y:V) (H:Hp) (Q:VK):Prop
 | mk (p xs i v:_):x=.ref p->y=.int i->SqL K H p xs->atI xs i=some v->Q v H->Mv K x y H Q
inductive Lj (K:PySem.W.Frag) (x:V) (y:V) (H:Hp) (Q:VK):Prop
 | mk (p xs i v:_):x=.ref p->y=.int i->SqT K H p xs->atI xs i=some v->Q v H->Lj K x y H Q
inductive SN (x:V) (y:V) (H:Hp) (Q:VK):Prop
 | mk (z i c:_):x=.str z->y=.int i->z.length<=sizeLine->atI z.cps.toList i=some c->Q (.str ⟨#[c]⟩) H->SN x y H Q
theorem sH:IxR X (Mv X.K):=by
 intro value slice pins s σ H x y v u Q I rx ry h hs;obtain ⟨p,xs,i,z,rfl,rfl,hq,he,q⟩:=h;cases rx;obtain ⟨t,rfl⟩:=ry;obtain ⟨its,r,pl,hz⟩:=I.list hq;obtain ⟨j,h1,h2,h3,h4,h5⟩:=zV he;obtain ⟨w,ew,rw'⟩:=r.get h2;have hl:=r.length;have hn:=oY;have fin:EP X pins σ Q w s:=⟨z,H,I,rw',q⟩
 by_cases h0:0<=i
 ·have hj:i.toNat=j:=by
   rw [seqIndex_of h0 h5] at h1;exact ck h1
  exact item_listR pl.isList h0 ‹26› (by rw [hj]; simpa using ew) fin hs
 ·have hj:(i+(its.toArray.size:Int)).toNat=j:=by
   rw [seqIndex_neg ‹26› h4] at h1;rw [cf,<- hl];exact ck h1
  exact subscriptTail_builtinR (x:=w) pl.isList.typeIs oP.lookup
   (wpAny_getItem_list_neg (Q:=fun r s'=>r=w/\EP X pins σ Q r s') pl.isList ‹26› (by rw [cf] <;> omega) ‹26› (by rw [hj]; simpa using ew) ⟨rfl,fin⟩) hs
theorem K7:IxR X (Lj X.K):=by
 intro value slice pins s σ H x y v u Q I rx ry h hs;obtain ⟨p,xs,i,z,rfl,rfl,hq,he,q⟩:=h;cases rx;obtain ⟨t,rfl⟩:=ry;obtain ⟨its,r,pl,hz⟩:=I.tuple hq;obtain ⟨j,h1,h2,h3,h4,h5⟩:=zV he;obtain ⟨w,ew,rw'⟩:=r.get h2;have hl:=r.length;have hn:=oY;have fin:EP X pins σ Q w s:=⟨z,H,I,rw',q⟩
 exact subscriptTail_builtinR (x:=w) pl.typeIs slot_tuple_getitem.lookup
  (getItem_tuple (j:=j) (Q:=fun r s'=>r=w/\EP X pins σ Q r s') pl ‹26› ‹26› (by rw [cf,<- hl]; exact h1) (by simpa using ew) ⟨rfl,fin⟩) hs
theorem Ef:IxR X SN:=by
 intro value slice pins s σ H x y v u Q I rx ry h hs;obtain ⟨z,i,c,rfl,rfl,hz,he,q⟩:=h;exists 16;obtain ⟨t',rfl⟩:=ry;obtain ⟨j,h1,h2,h3,h4,h5⟩:=zV he;have hl:z.cps.toList.length=z.length:=by simp [Str.length]
 rw [hl] at h1 h4 h5;have hn:=oY
 exact tail_any (rL s z t) slot_str_getitem.lookup (getItem_str (c:=c) (by
  have e1:decide (i < -(2 ^ 63:Int))=false:=bE ‹26›;have e2:decide (i ≥ 2 ^ 63)=false:=bE ‹26›;rw [e1,e2,Bool.or_false]) (by rw [h1]; simpa using h2) ⟨.str ⟨#[c]⟩,H,I.tok _,⟨_,rfl⟩,q⟩) hs
theorem Ej(its:LU)(n j:Nat)(u:sr):Obj.mapSeq (·.setIfInBounds j u) { cls:=.type "list",data:=.seq its.toArray n }={ cls:=.type "list",data:=.seq (its.set j u).toArray n }:=by
 simp [Obj.mapSeq]
theorem Inv.lst{pins:LO}{σ:St}{H:Hp}{s:ue}{p:ut}{xs:LV}(I:Inv X pins σ H s)(h:H p=some (.lst xs)) :
  ∃(its:LU) (n:Nat),Vals xs its/\s.heap.get? p=some { cls:=.type "list",data:=.seq its.toArray n }/\xs.length<=sizeLine:=by
 obtain ⟨z,its,n,r,e⟩:=I.hok p _ h;exact⟨its,n,r,e,z⟩
theorem Inv.RB{its':LU}{f:Obj->Obj}(I:Inv X pins σ H s)(h:H p=some (.lst xs))
  (ho:s.heap.get? p=some { cls:=.type "list",data:=.seq its.toArray n }) (hf:f { cls:=.type "list",data:=.seq its.toArray n }={ cls:=.type "list",data:=.seq its'.toArray n' }) (r:Vals ys its') (hz:ys.length<=sizeLine) (t:Nat) :
  Inv X pins σ (upd H p (.lst ys)) { s with heap:=s.heap.update p f,toks:=t }:=by
 have e:(s.heap.update p f).get? p=some { cls:=.type "list",data:=.seq its'.toArray n' }:=by
  rw [ia f ho (by rw [hf] <;> rfl),hf]
 refine I.write (x:=p) (e:=p) (by rw [h]; trivial) (.inl rfl) (fun b u hb q=>(kr _ _ (kL hb)).trans q) ⟨_,e⟩ ?_;exact⟨hz,its',n',r,e⟩
inductive PB (o:V) (i:V) (v:V) (H:Hp) (Q:Hp->Prop):Prop
 | mk (p xs k j:_):o=.ref p->i=.int k->H p=some (.lst xs)->ixN xs.length k=some j->Q (upd H p (.lst (xs.set j v)))->PB o i v H Q
theorem set_list:RM X PB:=by
 intro pins s σ H o i v ov iv u Q I ro ri rv h;obtain ⟨p,xs,k,j,rfl,rfl,hp,hj,q⟩:=h;cases ro;obtain ⟨t,rfl⟩:=ri;obtain ⟨its,n,r,ho,hz⟩:=I.lst hp;obtain ⟨h1,h2,h3,h4⟩:=Ey hj;have hl:=r.length;have hn:=oY
 have I':Inv X pins σ (upd H p (.lst (xs.set j v))) { s with heap:=s.heap.update p (Obj.mapSeq (·.setIfInBounds j u)) }:=
  I.RB hp ho (Ej its n j u) (r.set rv j) (by rw [List.length_set]; exact hz) s.toks
 by_cases h0:0<=k
 ·have hk:k.toNat=j:=by
   rw [seqIndex_of h0 h4] at h1;exact ck h1
  exact PySem.W.ki_setAt ho h0 ‹26› (by rw [cf,<- hl]; exact h4) (by rw [hk]; exact⟨_,I',q⟩)
 ·have hk:(k+(its.toArray.size:Int)).toNat=j:=by
   rw [seqIndex_neg ‹26› h3] at h1;rw [cf,<- hl];exact ck h1
  exact PySem.W.ki_setBack ho ‹26› (by rw [cf,<- hl]; exact h3) ‹26› (by rw [hk]; exact⟨_,I',q⟩)
theorem zp(lo hi:Option Int)(n:Nat):(Q4 lo hi none n).1=((HT.sIx n 0 lo:Nat):Int)/\(Q4 lo hi none n).2.1=((HT.sIx n n hi:Nat):Int)/\(Q4 lo hi none n).2.2=1:=by
 refine⟨?_,?_,rfl⟩
 ·cases lo with
  | none=>simp [Q4,HT.sIx]
  | some i=>
   simp only [Q4,HT.sIx,Option.getD_none,show (1:Int) > 0 by decide,kR]
   by_cases h:i < 0
   ·simp only [h,kR] <;> omega
   ·simp only [h,oC] <;> omega
 ·cases hi with
  | none=>simp [Q4,HT.sIx]
  | some i=>
   simp only [Q4,HT.sIx,Option.getD_none,show (1:Int) > 0 by decide,kR]
   by_cases h:i < 0
   ·simp only [h,kR] <;> omega
   ·simp only [h,oC] <;> omega
theorem qG(its:LU)(lo hi:Option Int):VR its.toArray lo hi none=((its.drop (HT.sIx its.length 0 lo)).take (HT.sIx its.length its.length hi - HT.sIx its.length 0 lo)).toArray:=by
 obtain ⟨h1,h2,h3⟩:=zp lo hi its.toArray.size;unfold VR;rw [h1,h2,h3];simp only [sliceRange_one,pick_run,cf] <;> rfl
inductive Mi (K:PySem.W.Frag) (x:V) (lo:Option Int) (hi:Option Int) (H:Hp) (Q:VK):Prop
 | mk (a xs:_):x=.ref a->SqL K H a xs->(∀ p,H p=none->Q (.ref p) (upd H p (.lst (eF xs lo hi))))->Mi K x lo hi H Q
theorem zU:SlR X (Mi X.K):=by
 intro pins s σ H x v vl vu lo hi sl Q I rx hs pl pu h;obtain ⟨a,xs,rfl,hx,q⟩:=h;cases rx;obtain ⟨its,r,ht,hz⟩:=I.list hx;have hlen:=r.length;refine⟨"list",_,oP.lookup,ht.isList.typeIs,?_⟩;refine nr ht.isList hs pl pu .none ‹45› ?_ (by rw [cf] <;> omega);rw [qG,<- hlen];refine⟨.ref s.heap.objs.size,_,I.laid (t':=s.toks) (o:=.lst (eF xs lo hi)) (fun b ob q=>av _ q) (ai _) ?_,rfl,q _ (I.hok.fresh (ai _))⟩;exact⟨cS (cH xs lo hi) hz,_,0,(r.drop (HT.sIx xs.length 0 lo)).take (HT.sIx xs.length xs.length hi - HT.sIx xs.length 0 lo),bb _ rfl⟩
def pF:V->Bool
 | .non=>true
 | .bl _=>true
 | .int _=>true
 | .str _=>true
 | _=>false
def eqV:V->V->Bool
 | .non,.non=>true
 | .bl a,.bl b=>a == b
 | .bl a,.int b=>(if a then 1 else 0) == b
 | .int a,.bl b=>a == (if b then 1 else 0)
 | .int a,.int b=>a == b
 | .str a,.str b=>a == b
 | _,_=>false
theorem Kp{x:V}{v:sr}(ry:RelV y u)(rx:RelV x v)(fy:pF y=true)(fx:pF x=true):xm A s u v (eqV y x):=by
 cases y with
 | non=>
  cases ry;cases x with
  | non=>cases rx; exact xm.same _
  | bl b=>cases rx; exact xm.none_bool b
  | int b=>obtain ⟨t,rfl⟩:=rx; exact xm.none_int b t
  | str b=>obtain ⟨t,rfl⟩:=rx; exact xm.none_str b t
  | _=>exact absurd (show false=true from fx) aS
 | bl a=>
  cases ry;cases x with
  | non=>cases rx; exact xm.bool_none a
  | bl b=>cases rx; exact xm.bool_bool a b
  | int b=>obtain ⟨t,rfl⟩:=rx; exact xm.bool_int a b t
  | str b=>obtain ⟨t,rfl⟩:=rx; exact xm.bool_str a b t
  | _=>exact absurd (show false=true from fx) aS
 | int a=>
  obtain ⟨t',rfl⟩:=ry;cases x with
  | non=>cases rx; exact xm.int_none a t'
  | bl b=>cases rx; exact xm.int_bool a t' b
  | int b=>obtain ⟨t,rfl⟩:=rx; exact xm.int_int a t' b t
  | str b=>obtain ⟨t,rfl⟩:=rx; exact xm.int_str a t' b t
  | _=>exact absurd (show false=true from fx) aS
 | str a=>
  obtain ⟨t',rfl⟩:=ry;cases x with
  | non=>cases rx; exact xm.str_none a t'
  | bl b=>cases rx; exact xm.str_bool a t' b
  | int b=>obtain ⟨t,rfl⟩:=rx; exact xm.str_int a t' b t
  | str b=>obtain ⟨t,rfl⟩:=rx; exact xm.str_str a t' b t
  | _=>exact absurd (show false=true from fx) aS
 | _=>exact absurd (show false=true from fy) aS
def eqU(x:V)(u:sr):Bool:=match u with
 | .none=>eqV .non x
 | .bool b=>eqV (.bl b) x
 | .int i _=>eqV (.int i) x
 | .str z _=>eqV (.str z) x
 | _=>false
theorem JT{x:V}(r:RelV y u)(f:pF y=true):eqU x u=eqV y x:=by
 cases y with
 | non=>cases r; rfl
 | bl b=>cases r; rfl
 | int i=>obtain ⟨t,rfl⟩:=r; rfl
 | str z=>obtain ⟨t,rfl⟩:=r; rfl
 | _=>exact absurd (show false=true from f) aS
theorem sy{x:V}:∀ {xs:LV} {us:LU},Vals xs us->xs.all pF=true->us.any (eqU x)=xs.any fun y=>eqV y x
 | _,_,.nil,_=>rfl
 | y::xs,u::us,.cons r t,f=>by
  rw [lI,eK] at f;rw [ny,ny,JT r f.1,sy t f.2]
theorem pR{A:xf}{s:ue}{x:V}{v:sr}(rx:RelV x v)(fx:pF x=true):∀ {xs:LV} {us:LU},Vals xs us->xs.all pF=true->∀ u∈us,xm A s u v (eqU x u)
 | _,_,.nil,_=>fun u hu=>by cases hu
 | y::xs,u::us,.cons r t,f=>fun u' hu=>by
  rw [lI,eK] at f;rcases bz.mp hu with rfl | hu
  ·rw [JT r f.1]; exact Kp r rx f.1 fx
  ·exact pR rx fx t f.2 u' hu
def inV(x:V)(xs:LV):Bool:=xs.any fun y=>eqV y x
inductive rIn (K:PySem.W.Frag) (neg:Bool) (x:V) (y:V) (H:Hp) (Q:VK):Prop
 | mk (p xs:_):y=.ref p->(SqL K H p xs\/SqT K H p xs)->pF x=true->xs.all pF=true->Q (.bl (if neg then !inV x xs else inV x xs)) H->rIn K neg x y H Q
theorem yD:OpR X (xN .In) (rIn X.K false):=by
 exists 6;obtain ⟨p,xs,rfl,hq,fx,fs,q⟩:=h;cases ry;rcases hq with hq | hq
 ·obtain ⟨its,r,pl,hz⟩:=I.list hq;refine SeqAt.in_listAt (eqU x) pl.isList (fun w hw=>pR rx fx r fs w (by simpa using hw)) ⟨.bl _,H,I,rfl,?_⟩;rw [show its.toArray.any (eqU x)=its.any (eqU x) by simp,sy r fs];exact q
 ·obtain ⟨its,r,pl,hz⟩:=I.tuple hq;refine SeqAt.in_tupleAt (eqU x) pl (fun w hw=>pR rx fx r fs w (by simpa using hw)) ⟨.bl _,H,I,rfl,?_⟩;rw [show its.toArray.any (eqU x)=its.any (eqU x) by simp,sy r fs];exact q
theorem yN:OpR X (xN .NotIn) (rIn X.K true):=by
 exists 6;obtain ⟨p,xs,rfl,hq,fx,fs,q⟩:=h;cases ry;rcases hq with hq | hq
 ·obtain ⟨its,r,pl,hz⟩:=I.list hq;refine SeqAt.notIn_listAt (eqU x) pl.isList (fun w hw=>pR rx fx r fs w (by simpa using hw)) ⟨.bl _,H,I,rfl,?_⟩;rw [show its.toArray.any (eqU x)=its.any (eqU x) by simp,sy r fs];exact q
 ·obtain ⟨its,r,pl,hz⟩:=I.tuple hq;refine SeqAt.notIn_tupleAt (eqU x) pl (fun w hw=>pR rx fx r fs w (by simpa using hw)) ⟨.bl _,H,I,rfl,?_⟩;rw [show its.toArray.any (eqU x)=its.any (eqU x) by simp,sy r fs];exact q
inductive kY (K:PySem.W.Frag) (xs:LV) (H:Hp) (Q:VK):Prop
 | mk (p ys:_):xs=[.ref p]->(SqL K H p ys\/SqT K H p ys)->Q (.int ys.length) H->kY K xs H Q
theorem nO:fj X (.builtin "len") (kY X.K):=by
 exists 9;obtain ⟨p,ys,rfl,hq,q⟩:=h;obtain ⟨u,rfl,rx⟩:=vals1 r;cases rx;have hn:=oY;rcases hq with hq | hq
 ·obtain ⟨its,r',pl,hz⟩:=I.list hq;have hlen:=r'.length;exact Calls.call_len_list pl.isList (by simp only [cf] <;> omega) ⟨.int ys.length,H,I.tok _,⟨s.toks+1,by rw [cf,hlen]⟩,q⟩
 ·obtain ⟨its,r',pl,hz⟩:=I.tuple hq;have hlen:=r'.length;exact len_tuple pl (by simp only [cf] <;> omega) ⟨.int ys.length,H,I.tok _,⟨s.toks+1,by rw [cf,hlen]⟩,q⟩
inductive pG (xs:LV) (H:Hp) (Q:VK):Prop
 | mk (z:_):xs=[.str z]->z.length<=sizeLine->Q (.int z.length) H->pG xs H Q
theorem jZ:fj X (.builtin "len") pG:=by
 exists 9;obtain ⟨z,rfl,hz,q⟩:=h;obtain ⟨u,rfl,t,rfl⟩:=vals1 r;have hn:=oY;exact len_str ‹26› ⟨.int z.length,H,I.tok _,⟨_,rfl⟩,q⟩
inductive lH (K:PySem.W.Frag) (xs:LV) (H:Hp) (Q:VK):Prop
 | mk (p ys:_):xs=[.ref p]->(SqL K H p ys\/SqT K H p ys)->(∀ l,H l=none->Q (.ref l) (upd H l (.lst ys)))->lH K xs H Q
theorem zH:fj X (.type "list") (lH X.K):=by
 exists 9;obtain ⟨p,ys,rfl,hq,q⟩:=h;obtain ⟨u,rfl,rx⟩:=vals1 r;cases rx
 have fin:∀(its:LU),Vals ys its->ys.length<=sizeLine->∀ (h':Heap) (c':Nat),(∀ b o',s.heap.get? b=some o'->h'.get? b=some o')->
   h'.get? s.heap.objs.size=some { cls:=.type "list",dict:=none,data:=.seq its.toArray c',slots:=#[] }->EP X pins σ Q ‹22› { s with heap:=h' }:=fun its r' hz h' c' kp e=>
  ⟨.ref s.heap.objs.size,_,I.laid (t':=s.toks) kp (ai _) (show cT X.prog X.w _ h' _ (.lst ys) from ⟨hz,its,c',r',e⟩),rfl,q _ (I.hok.fresh (ai _))⟩
 rcases hq with hq | hq
 ·obtain ⟨its,r',pl,hz⟩:=I.list hq;have hlen:=r'.length;obtain ⟨o,ho,hc,n,hd⟩:=pl.isList;exact call_list_seq p (.inl rfl) ho hc hd (fun h' c' kp e=>fin its r' hz h' c' kp e) (by simp only [cf] <;> omega)
 ·obtain ⟨its,r',pl,hz⟩:=I.tuple hq;have hlen:=r'.length;obtain ⟨o,ho,hc,n,hd⟩:=pl;exact call_list_seq p (.inr rfl) ho hc hd (fun h' c' kp e=>fin its r' hz h' c' kp e) (by simp only [cf] <;> omega)
inductive jQ (K:PySem.W.Frag) (xs:LV) (H:Hp) (Q:VK):Prop
 | mk (p ys:_):xs=[.ref p]->((SqL K H p ys/\∀ l,H l=none->Q (.ref l) (upd H l (.tup ys)))\/(SqT K H p ys/\Q (.ref p) H))->jQ K xs H Q
theorem wY:fj X (.type "tuple") (jQ X.K):=by
 exists 9;obtain ⟨p,ys,rfl,h⟩:=h;obtain ⟨u,rfl,rx⟩:=vals1 r;cases rx;rcases h with ⟨hq,q⟩ | ⟨hq,q⟩
 ·obtain ⟨its,r',pl,hz⟩:=I.list hq;have hlen:=r'.length;refine call_tuple_list pl.isList (fun h' kp=>?_) (by simp only [cf] <;> omega);have I1:Inv X pins σ H { s with heap:=h' }:=I.kept (t':=s.toks) kp
  have I2:Inv X pins σ (upd H h'.objs.size (.tup ys)) { s with heap:=h'.push { cls:=.type "tuple",data:=.seq its.toArray } }:=
   I1.laid (t':=s.toks) (fun b o e=>av _ e) (ai _) (show cT X.prog X.w _ _ _ (.tup ys) from ⟨⟨hz,pJ _ _⟩,its,r',IsTup.new _ _⟩)
  exact⟨.ref h'.objs.size,_,I2,rfl,q _ ‹41›⟩
 ·obtain ⟨its,r',pl,hz⟩:=I.tuple hq;exact call_tuple_same pl ⟨.ref p,H,I,rfl,q⟩
def tyV(K:PySem.W.Frag)(T:String)(x:V)(H:Hp):Prop:=match x with
 | .str _=>T = "str"
 | .int _=>T = "int"
 | .ref p=>(T = "list" /\ ∃ xs,SqL K H p xs)\/(T = "tuple" /\ ∃ o,K.lookup p=some o/\o.cls=.type "tuple" /\ o.dict=none)\/
   (T = "dict" /\ ((∃ kvs,H p=some (.dK kvs))\/∃ kvs,H p=some (.dT kvs)))\/(T = "set" /\ ∃ S n,H p=some (.set S n))
 | _=>False
theorem Ms{T:String}{x:V}{v:sr}(I:Inv X pins σ H s)(r:RelV x v)(ty:tyV X.K T x H) :
  s.TypeIs v T/\∀ a,v=.ref a->∃ ob,s.heap.get? a=some ob/\ob.dict=none:=by
 cases x with
 | str z=>
  obtain ⟨t,rfl⟩:=r;cases (show T = "str" from ty);exact⟨rL s z t,fun _ e=>nomatch e⟩
 | int i=>
  obtain ⟨t,rfl⟩:=r;cases (show T = "int" from ty);exact⟨typeIs_int s i t,fun _ e=>nomatch e⟩
 | ref p=>
  cases r;rcases ty with ⟨rfl,xs,hq⟩ | ⟨rfl,o,hk,hc,hd⟩ | ⟨rfl,hk⟩ | ⟨rfl,S,n,hk⟩
  ·obtain ⟨its,_,pl,_⟩:=I.list hq;refine⟨pl.isList.typeIs,fun a e=>?_⟩;cases e;obtain ⟨o,n,e,c,hd,_⟩:=pl;exact⟨o,e,hd⟩
  ·refine⟨⟨o,I.kIn p o hk,hc⟩,fun a e=>?_⟩;cases e;exact⟨o,I.kIn _ o hk,hd⟩
  ·have z:∃ o,s.heap.get? p=some o/\o.ExactDict:=by
    rcases hk with ⟨kvs,hk⟩ | ⟨kvs,hk⟩
    ·obtain ⟨_,_,_,_,o,_,_,e,ex,_⟩:=I.hok p _ hk;exact⟨o,e,ex⟩
    ·obtain ⟨_,_,_,_,o,_,_,e,ex,_⟩:=I.hok p _ hk;exact⟨o,e,ex⟩
   obtain ⟨o,e,ex⟩:=z;refine⟨⟨o,e,ex.1⟩,fun a e2=>?_⟩;cases e2;exact⟨o,e,ex.2.1⟩
  ·obtain ⟨o,_,_,_,e,ex,_⟩:=I.hok p _ hk;refine⟨⟨o,e,ex.1⟩,fun a e2=>?_⟩;cases e2;exact⟨o,e,ex.2.1⟩
 | _=>exact Do ty
def Ui(K:PySem.W.Frag)(T:String)(r:V->LV->Hp->VK->Prop)(to:TE):TE:=fun σ H Q=>to σ H fun x H1=>tyV K T x H1/\r x [] H1 Q
def tBM(K:PySem.W.Frag)(T:String)(r:V->LV->Hp->VK->Prop)(to:TE)(t:TA):TE:=fun σ H Q=>to σ H fun x H1=>tyV K T x H1/\t σ H1 fun xs H2=>r x xs H2 Q
variable {o e:Expr}{es:List Expr}{to:TE}{t:TA}{name:Str}{apos cpos:Pos}{T id:String}{r:V->LV->Hp->VK->Prop}
theorem Q0(pa:PlainAttrs T)(slot:Slot T name id)(hty:typeOf (.builtin id)=Hn (.type "method_descriptor"))(hm:MtR X id r)(ho:PE X o to)
  (hbase:UV o name X.env (eval o X.env)=eval o X.env:=by rfl) (hline:(apos.endLine == cpos.line)=true:=by rfl):PE X (.Call (.Attribute o name apos) [] [] cpos) (Ui X.K T r to):=by
 exists 12;refine wpAny_Call_method0_late hbase hline (thn (ho pins s σ H _ I h) fun v s1 ⟨x,H1,I1,r1,ty,q1⟩=>?_);obtain ⟨h1,h2⟩:=Ms I1 r1 ty;exact⟨T,id,pa,slot,hty,h1,h2,Calls.callWith_builtin rfl (PySem.evalArgs_none (hm pins s1 σ H1 x [] v [] Q I1 r1 .nil q1))⟩
theorem pB(pa:PlainAttrs T)(slot:Slot T name id)(hty:typeOf (.builtin id)=Hn (.type "method_descriptor"))(hm:MtR X id r)(ho:PE X o to)(ha:PA X (e::es) t)
  (hbase:UV o name X.env (eval o X.env)=eval o X.env:=by rfl)
  (hfew:((NB cpos (xx (e::es) X.env)).all (fun x=>!x.1) && (backToKw cpos (keywordEach [] X.env)).all (fun x=>x.1.isSome)
   && decide ((e::es).length+([]:List Vq).length+(if ([]:List Vq).isEmpty then 0 else 1) < 30))=true:=by rfl)
  (hline:(apos.endLine == cpos.line)=true:=by rfl) (hs:xx (e::es) X.env=(false,eval e X.env)::xx es X.env:=by rfl) (hplain:(NB cpos (xx es X.env)).any (·.1)=false:=by rfl) :
  PE X (.Call (.Attribute o name apos) (e::es) [] cpos) (tBM X.K T r to t):=by
 exists 12;refine wpAny_Call_method_late hbase hfew hline rfl (thn (ho pins s σ H _ I h) fun v s1 ⟨x,H1,I1,r1,ty,q1⟩=>?_);obtain ⟨h1,h2⟩:=Ms I1 r1 ty;refine⟨T,id,pa,slot,hty,h1,h2,?_⟩;have hA:=ha cpos pins s1 σ H1 _ I1 q1;rw [hs] at hA ⊢;refine Calls.callWith_builtin (by show (false || (NB cpos (xx es X.env)).any (·.1))=false; rw [hplain] <;> rfl) (Calls.evalArgs_plain ?_);exact thn hA fun us s2 ⟨vs,H2,I2,r2,q2⟩=>hm pins s2 σ H2 x vs v us Q I2 r1 r2 q2
end
def MtM(X:Cx)(id:String)(r:V->LV->Hp->VK->Prop):Prop:=
 ∀(pins:LO) (s:ue) (σ:St) (H:Hp) (x:V) (xs:LV) (v:sr) (us:LU) (Q:VK),Inv X pins σ H s->RelV x v->Vals xs us->r x xs H Q->
  uv ‹9› X.A (call (.builtin id) (v::us)) (EP X pins σ Q) X.xe s
theorem Vals.one:∀ {x:V} {us:LU},Vals [x] us->∃ u,us=[u]/\RelV x u
 | _,_,.cons r .nil=>⟨_,rfl,r⟩
theorem Vals.two{x:V}(h:Vals [x,y] us):∃ u v,us=[u,v]/\RelV x u/\RelV y v:=by
 cases h with
 | cons r h=>
  cases h with
  | cons q h=>
   cases h;exact⟨_,_,rfl,r,q⟩
theorem Vals.reverse(h:Vals xs us):Vals xs.reverse us.reverse:=by
 induction h with
 | nil=>exact .nil
 | cons r t ih=>rw [List.reverse_cons,List.reverse_cons]; exact Vals.append ih (.cons r .nil)
section
variable {X:Cx}{pins:LO}{σ:St}{H:Hp}{s:ue}{l b:ut}{xs ys zs:LV}
theorem Inv.S5{its':LU}{f:AV->AV}(I:Inv X pins σ H s)(hH:H l=some (.lst xs))
  (e:s.heap.get? l=some { cls:=.type "list",data:=.seq its.toArray n }) (hf:f its.toArray=its'.toArray) (hv:Vals ys its') (hz:ys.length<=sizeLine) :
  Inv X pins σ (upd H l (.lst ys)) { s with heap:=s.heap.update l (Obj.mapSeq f),toks:=t' }:=by
 have q:=PySem.IsL.update e f;rw [hf] at q;refine I.write (x:=l) (e:=l) (by rw [hH]; exact trivial) (.inl rfl) (fun b' u hb hu=>(kr s.heap (Obj.mapSeq f) (kL hb)).trans hu) ⟨_,q⟩ ?_;exact⟨hz,its',_,hv,q⟩
theorem Inv.Qq(I:Inv X pins σ H s)(hv:Vals ys its)(hz:ys.length<=sizeLine) :
  Inv X pins σ (upd H s.heap.objs.size (.lst ys)) { s with heap:=s.heap.push { cls:=.type "list",data:=.seq its.toArray },toks:=t' }:=
 I.laid (fun _ _ q=>av _ q) (ai _) ⟨hz,its,0,hv,bb _ rfl⟩
theorem Inv.fresh(I:Inv X pins σ H s):H s.heap.objs.size=none:=I.hok.fresh (ai _)
theorem Inv.Lz(I:Inv X pins σ H s)(hH:H l=some (.lst xs)):xs.length<=sizeLine/\∃(its:LU) (n:Nat),Vals xs its/\xs.length=its.length/\s.heap.get? l=some { cls:=.type "list",data:=.seq its.toArray n }:=by
 obtain ⟨z,its,n,r,e⟩:=I.hok l _ hH;exact⟨z,its,n,r,r.length,e⟩
theorem Kl(h:n<=sizeLine):QR n=false:=by
 unfold QR;exact bE ‹26›
end
section
variable {X:Cx}
inductive Fl (x:V) (vs:LV) (H:Hp) (Q:VK):Prop
 | mk (l xs y:_):x=.ref l->vs=[y]->H l=some (.lst xs)->xs.length < sizeLine->Q .non (upd H l (.lst (xs++[y])))->Fl x vs H Q
theorem iz:MtM X "list.append" Fl:=by
 intro pins s σ H x vs v us Q I rx rv h;obtain ⟨l,xs,y,rfl,rfl,hH,hz,q⟩:=h;cases rx;obtain ⟨u,rfl,ru⟩:=rv.one;obtain ⟨z,its,n,r,hl,e⟩:=I.Lz hH;refine nS F.slot_list_append ⟨_,e,rfl⟩ F.entry_list_append (F.args_list_append_2 _ _) (PySem.list_append l its.toArray n u (by rw [cf]; omega)) ⟨e,?_⟩;refine⟨.non,_,I.S5 (its':=its++[u]) hH e ‹45› (r.append (.cons ru .nil)) ?_,rfl,q⟩;rw [bX,eQ];omega
inductive GP (x:V) (vs:LV) (H:Hp) (Q:VK):Prop
 | mk (l b xs zs:_):x=.ref l->vs=[.ref b]->H l=some (.lst xs)->H b=some (.lst zs)->xs.length+zs.length<=sizeLine->Q .non (upd H l (.lst (xs++zs)))->GP x vs H Q
theorem HB:MtM X "list.extend" GP:=by
 intro pins s σ H x vs v us Q I rx rv h;obtain ⟨l,b,xs,zs,rfl,rfl,hH,hB,hz,q⟩:=h;cases rx;obtain ⟨u,rfl,ru⟩:=rv.one;cases ru;obtain ⟨z,its,n,r,hl,e⟩:=I.Lz hH;obtain ⟨z2,its2,n2,r2,hl2,e2⟩:=I.Lz hB;have hsz:its.toArray.size+its2.toArray.size<=sizeLine:=by rw [cf,cf]; omega
 have hlong:¬ (!its.toArray.isEmpty && QR (its.toArray.size+its2.toArray.size))=true:=by
  rw [Kl hsz,Bool.and_false];exact aS
 refine nS F.slot_list_extend ⟨_,e,rfl⟩ F.entry_list_extend (F.args_list_extend_2 _ _)
  (AutoSeq1.list_extend_list_list_0 l its.toArray n b its2.toArray n2 hlong (by rw [cf]; omega) ‹26›) ⟨e,e2,?_⟩
 refine⟨.non,_,I.S5 (its':=its++its2) hH e ‹45› (r.append r2) ?_,rfl,q⟩;rw [bX];omega
inductive Sy (x:V) (y:V) (H:Hp) (Q:VK):Prop
 | mk (l b xs zs:_):x=.ref l->y=.ref b->H l=some (.lst xs)->H b=some (.lst zs)->xs.length+zs.length<=sizeLine->(∀ p,H p=none->Q (.ref p) (upd H p (.lst (xs++zs))))->Sy x y H Q
theorem vW:OpR X (Eg .Add) Sy:=by
 exists 6;obtain ⟨l,b,xs,zs,rfl,rfl,hH,hB,hz,q⟩:=h;cases rx;cases ry;obtain ⟨z,its,n,r,hl,e⟩:=I.Lz hH;obtain ⟨z2,its2,n2,r2,hl2,e2⟩:=I.Lz hB;refine PySem.P.add_list e e2 ?_ (by rw [cf,cf]; omega);have ea:its.toArray++its2.toArray=(its++its2).toArray:=by simp
 rw [ea];exact⟨.ref _,_,I.Qq (t':=s.toks) (r.append r2) (by rw [bX]; omega),rfl,q _ I.fresh⟩
end
section
variable {prog:uC}{w:ww}{A:xf}{E:ES}{s:ue}
set_option maxRecDepth 100000 in
end
section
variable {X:Cx}
end
section
variable {κ:Type}[DecidableEq κ]
def cM(kvs:List (κ × V))(k:κ):OV:=(kvs.find? fun kv=>decide (kv.1=k)).map (·.2)
def putK(kvs:List (κ × V))(k:κ)(v:V):List (κ × V):=
 if (kvs.any fun kv=>decide (kv.1=k))=true then kvs.map (fun kv=>if kv.1=k then (kv.1,v) else kv) else kvs++[(k,v)]
def U6(kvs:List (κ × V))(k:κ):List (κ × V):=kvs.filter fun kv=>decide (kv.1≠k)
theorem fB{p:κ × V}{r:List (κ × V)}{k:κ}(e:p.1=k):cM (p::r) k=some p.2:=by simp [cM,kK,e]
theorem eY{p:κ × V}{r:List (κ × V)}{k:κ}(e:¬ p.1=k):cM (p::r) k=cM r k:=by simp [cM,kK,e]
theorem mz(k:κ):∀ kvs:List (κ × V),(kvs.any fun kv=>decide (kv.1=k))=(cM kvs k).isSome
 | []=>rfl
 | p::r=>by
  rw [ny]
  by_cases e:p.1=k
  ·simp only [fB e,bo e,Bool.true_or,Option.isSome_some]
  ·rw [eY e,bE e,Bool.false_or]; exact mz k r
theorem Cr(k j:κ)(y:V):∀ kvs:List (κ × V),cM (kvs.map fun kv=>if kv.1=k then (kv.1,y) else kv) j=(cM kvs j).map fun x=>if j=k then y else x
 | []=>rfl
 | p::r=>by
  have ih:=Cr k j y r;rw [de]
  by_cases h:p.1=k
  ·rw [dE h]
   by_cases e:p.1=j
   ·rw [fB (p:=(p.1,y)) e,fB e,il,dE (e.symm.trans h)]
   ·rw [eY (p:=(p.1,y)) e,eY e,ih]
  ·rw [cK h]
   by_cases e:p.1=j
   ·rw [fB (p:=p) e,fB e,il,cK (fun z=>h (e.trans z))]
   ·rw [eY (p:=p) e,eY e,ih]
theorem yq(k j:κ)(y:V):∀ kvs:List (κ × V),cM kvs k=none->cM (kvs++[(k,y)]) j=if j=k then some y else cM kvs j
 | [],_=>by
  by_cases e:k=j
  ·rw [dE e.symm]; exact fB (p:=(k,y)) e
  ·rw [cK (fun z=>e z.symm)]; exact eY (p:=(k,y)) e
 | p::r,hn=>by
  rw [List.cons_append];have hk:¬ p.1=k:=fun z=>by rw [fB z] at hn; cases hn
  rw [eY hk] at hn;have ih:=yq k j y r hn
  by_cases e:p.1=j
  ·rw [fB e,fB e,cK (fun z=>hk (e.trans z))]
  ·rw [eY e,eY e,ih]
theorem jK(kvs:List (κ × V))(k j:κ)(y:V):cM (putK kvs k y) j=if j=k then some y else cM kvs j:=by
 unfold putK
 by_cases a:(kvs.any fun kv=>decide (kv.1=k))=true
 ·rw [dE a,Cr];rw [mz] at a
  by_cases e:j=k
  ·obtain ⟨x,hx⟩:=fN.mp a;rw [dE e,e,hx,il,dE rfl]
  ·rw [cK e];cases cM kvs j with
   | none=>rfl
   | some x=>rw [il,cK e]
 ·rw [cK a];refine yq k j y kvs ?_;rw [mz] at a;cases q:cM kvs k with
  | none=>rfl
  | some x=>rw [q] at a; exact(a rfl).elim
theorem fU(kvs:List (κ × V))(k:κ)(v:V):(putK kvs k v).length<=kvs.length+1:=by
 unfold putK;split
 ·rw [aa]; omega
 ·rw [bX,dA,nI]; omega
theorem vA{kvs:List (κ × V)}{k:κ}(v:V)(h:cM kvs k=none):putK kvs k v=kvs++[(k,v)]:=by
 unfold putK;rw [mz,h];exact cK ‹6›
theorem wL.mF{o:OV}{u:Option sr}(r:wL o u):o.isSome=u.isSome:=by
 cases o with
 | none=>cases u with
  | none=>rfl
  | some _=>exact(show False from r).elim
 | some _=>cases u with
  | none=>exact(show False from r).elim
  | some _=>rfl
theorem KV.val{kvs:List (κ × V)}{vs:List (κ × sr)}(r:KV kvs vs)(k:κ):wL (cM kvs k) (Vr vs k):=by
 unfold KV at r
 induction r with
 | nil=>exact True.intro
 | @cons p q ps qs h t ih=>
  obtain ⟨h1,h2⟩:=h
  by_cases e:p.1=k
  ·have e':q.1=k:=h1.symm.trans e;have b:Vr (q::qs) k=some q.2:=by simp [Vr,kK,e']
   rw [fB e,b]; exact h2
  ·have e':¬ q.1=k:=fun z=>e (h1.trans z);have b:Vr (q::qs) k=Vr qs k:=by simp [Vr,kK,e']
   rw [eY e,b]; exact ih
theorem KV.any{kvs:List (κ × V)}{vs:List (κ × sr)}(r:KV kvs vs)(k:κ):(kvs.any fun kv=>decide (kv.1=k))=vs.any fun kv=>decide (kv.1=k):=by
 unfold KV at r
 induction r with
 | nil=>rfl
 | cons h t ih=>rw [ny,ny,ih,h.1]
theorem KV.repl{kvs:List (κ × V)}{vs:List (κ × sr)}(r:KV kvs vs)(k:κ)(ry:RelV y u) :
  KV (kvs.map fun kv=>if kv.1=k then (kv.1,y) else kv) (vs.map fun kv=>if kv.1=k then (kv.1,u) else kv):=by
 unfold KV at r ⊢
 induction r with
 | nil=>exact .nil
 | @cons p q ps qs h t ih=>
  rw [de,de];refine .cons ?_ ih;obtain ⟨h1,h2⟩:=h
  by_cases e:p.1=k
  ·rw [dE e,dE (h1.symm.trans e)]; exact⟨h1,ry⟩
  ·rw [cK e,cK (fun z=>e (h1.trans z))]; exact⟨h1,h2⟩
theorem KV.put{kvs:List (κ × V)}{vs:List (κ × sr)}(r:KV kvs vs)(k:κ)(ry:RelV y u):KV (putK kvs k y) (stored vs k u):=by
 unfold putK stored;rw [r.any k]
 by_cases e:(vs.any fun kv=>decide (kv.1=k))=true
 ·rw [dE e,dE e]; exact r.repl k ry
 ·rw [cK e,cK e]; exact Paired.snoc r ⟨rfl,ry⟩
theorem KV.length{kvs:List (κ × V)}{vs:List (κ × sr)}(r:KV kvs vs):kvs.length=vs.length:=cE r
end
theorem uh{k:Key}(r:RelV (kV k) u):(bU P w).is k u=true:=by
 cases k with
 | inl i=>obtain ⟨t,e⟩:=(show ∃ t,u=PP i t from r); subst e; exact Ab P w i t
 | inr x=>obtain ⟨t,e⟩:=(show ∃ t,u=Tu x t from r); subst e; exact Bj P w x t
theorem xJ{P:uC}{w:ww}:∀ {ks:List Key} {us:LU},Vals (ks.map kV) us->ItemsAre (bU P w) ks us
 | [],_,r=>by rw [List.map_nil] at r; cases r; exact .nil
 | k::ks,_,r=>by
  rw [de] at r;cases r with
  | cons h t=>exact .cons (uh h) (xJ t)
abbrev KT(H:Hp):List (List Key × V)->List (List Key × ut × sr)->Prop:=Paired fun p q=>p.1=q.1/\H q.2.1=some (.tup (p.1.map kV))/\RelV p.2 q.2.2
theorem KT.val{kvs:List (List Key × V)}{xs:List (List Key × ut × sr)}(r:KT H kvs xs)(k:List Key):wL (cM kvs k) ((atKey xs k).map (·.2)):=by
 induction r with
 | nil=>exact True.intro
 | @cons p q ps qs h t ih=>
  obtain ⟨h1,_,h2⟩:=h
  by_cases e:p.1=k
  ·have e':q.1=k:=h1.symm.trans e;have b:atKey (q::qs) k=some q.2:=by simp [atKey,kK,e']
   rw [fB e,b]; exact h2
  ·have e':¬ q.1=k:=fun z=>e (h1.trans z);have b:atKey (q::qs) k=atKey qs k:=by simp [atKey,kK,e']
   rw [eY e,b]; exact ih
theorem KT.repl{kvs:List (List Key × V)}{xs:List (List Key × ut × sr)}(r:KT H kvs xs)(k:List Key)(ry:RelV y u) :
  KT H (kvs.map fun kv=>if kv.1=k then (kv.1,y) else kv) (xs.map (putAt k u)):=by
 induction r with
 | nil=>exact .nil
 | @cons p q ps qs h t ih=>
  rw [de,de];refine .cons ?_ ih;obtain ⟨h1,h2,h3⟩:=h;unfold putAt
  by_cases e:p.1=k
  ·rw [dE e,dE (h1.symm.trans e)]; exact⟨h1,h2,ry⟩
  ·rw [cK e,cK (fun z=>e (h1.trans z))]; exact⟨h1,h2,h3⟩
theorem KT.put{kvs:List (List Key × V)}{xs:List (List Key × ut × sr)}(r:KT H kvs xs)(k:List Key){b:ut}(hb:H b=some (.tup (k.map kV)))(ry:RelV y u) :
  KT H (putK kvs k y) (storedH xs k b u):=by
 have e:(kvs.any fun kv=>decide (kv.1=k))=(atKey xs k).isSome:=by
  rw [mz,(r.val k).mF,Option.isSome_map]
 unfold putK storedH;rw [e]
 by_cases q:(atKey xs k).isSome=true
 ·rw [dE q,dE q]; exact r.repl k ry
 ·rw [cK q,cK q]; exact Paired.snoc r ⟨rfl,hb,ry⟩
theorem KT.keeps{kvs:List (List Key × V)}{xs:List (List Key × ut × sr)}(r:KT H kvs xs)(ht:∀ b ys,H b=some (.tup ys)->H' b=some (.tup ys)):KT H' kvs xs:=
 V4 r fun _ _ z=>⟨z.1,ht _ _ z.2.1,z.2.2⟩
section
variable {P:uC}{w:ww}{H:Hp}{h:Heap}{a:ut}
theorem Qk{u:HO}(ok:HOk P w H h)(e:Rd H a u):cT P w H h a u:=e.ok ok
theorem Ba(ok:HOk P w H h)(e:Rd H a (.dK kvs)):kvs.length<=sizeLine/\(a == An)=false/\∃ vs,KV kvs vs/\h.DictOf (bU P w) a vs:=
 show cT P w H h a (.dK kvs) from Qk ok e
theorem MN(ok:HOk P w H h)(e:H a=some (.dK kvs)):kvs.length<=sizeLine/\(a == An)=false/\∃ vs,KV kvs vs/\h.DictOf (bU P w) a vs:=Ba ok (.inl e)
theorem vK{ks:List Key}(ok:HOk P w H h)(e:H a=some (.tup (ks.map kV))):(tupleKind (bU P w)).is h ks a:=by
 obtain ⟨_,its,r,o,h1,h2,n,h3⟩:=(show cT P w H h a (.tup (ks.map kV)) from ok a _ e);exact⟨o,its.toArray,n,h1,h2,h3,by simpa using xJ r⟩
theorem Aa{kvs:List (List Key × V)}(ok:HOk P w H h)(e:Rd H a (.dT kvs)):kvs.length<=sizeLine/\(a == An)=false/\
  ∃ xs,KT H kvs xs/\h.DictOfH (tupleKind (bU P w)) a xs:=by
 obtain ⟨z,y,xs,r,o,es,ep,h1,h2,h3,h4,h5⟩:=(show cT P w H h a (.dT kvs) from Qk ok e);refine⟨z,y,xs,r,o,es,ep,h1,h2,h3,h4,fun x hx=>?_,h5⟩
 have all:∀ {l:List (List Key × V)} {m:List (List Key × ut × sr)},KT H l m->∀ x∈m,(tupleKind (bU P w)).is h x.1 x.2.1:=by
  intro l m q
  induction q with
  | nil=>intro x hx; exact nomatch hx
  | @cons p q ps qs hq t ih=>
   intro x hx;rcases bz.mp hx with e | hx
   ·subst e;exact vK ok (by rw [<- hq.1]; exact hq.2.1)
   ·exact ih x hx
 exact all r x hx
theorem RN{kvs:List (List Key × V)}(ok:HOk P w H h)(e:H a=some (.dT kvs)):kvs.length<=sizeLine/\(a == An)=false/\
  ∃ xs,KT H kvs xs/\h.DictOfH (tupleKind (bU P w)) a xs:=Aa ok (.inl e)
end
def lY(H:Hp)(a:ut)(y:V)(r:OV):Prop:=
 (∃ kvs k,Rd H a (.dK kvs)/\y=kV k/\r=cM kvs k)\/∃ kvs k b,Rd H a (.dT kvs)/\y=.ref b/\H b=some (.tup (k.map kV))/\r=cM kvs k
def tD(H:Hp)(a:ut)(y v:V)(H':Hp):Prop:=
 (∃ kvs k,H a=some (.dK kvs)/\y=kV k/\kvs.length < sizeLine/\H'=upd H a (.dK (putK kvs k v)))\/
 ∃ kvs k b,H a=some (.dT kvs)/\y=.ref b/\H b=some (.tup (k.map kV))/\kvs.length < sizeLine/\H'=upd H a (.dT (putK kvs k v))
theorem lY.k{H:Hp}{a:ut}{kvs:LK0}{k:Key}(e:H a=some (.dK kvs)):lY H a (kV k) (cM kvs k):=.inl ⟨kvs,k,.inl e,rfl,rfl⟩
theorem tD.k{H:Hp}{a:ut}{kvs:LK0}{k:Key}{v:V}(e:H a=some (.dK kvs))(hl:kvs.length < sizeLine):tD H a (kV k) v (upd H a (.dK (putK kvs k v))):=.inl ⟨kvs,k,e,rfl,hl,rfl⟩
section
variable {X:Cx}{pins:LO}{σ:St}{H:Hp}{s:ue}{a:ut}{y v:V}{u r:sr}{o:OV}{A:xf}{E:ES}
theorem Inv.big(I:Inv X pins σ H s):An < s.heap.objs.size:=by
 have h:xj < s.heap.objs.size:=(I.mod.glob.keeps I.bk).lt;exact oQ ‹6› h
theorem G8(hu:A.units+1 < cLine)(I:Inv X pins σ H s)(g:lY H a y (some v))(ry:RelV y u)(h:∀ w' s',Inv X pins σ H s'->RelV v w'->Q w' s') :
  uv ‹9› A (Vk (.ref a) u) Q E s:=by
 rcases g with ⟨kvs,k,e,ey,l⟩ | ⟨kvs,k,b,e,ey,eb,l⟩
 ·subst ey;obtain ⟨z,hd,vs,rel,dd⟩:=Ba I.hok e;obtain ⟨w',hw,rw'⟩:=wL.some_of (v:=v) (o:=Vr vs k) (by rw [l]; exact rel.val k);exact wpAny_getItem_of (uh ry) dd.mapOf hw (h w' _ (I.tok _) rw')
 ·subst ey;cases (show u=zg b from ry);obtain ⟨z,hd,xs,rel,dd⟩:=Aa I.hok e;obtain ⟨w',hw,rw'⟩:=wL.some_of (v:=v) (o:=(atKey xs k).map (·.2)) (by rw [l]; exact rel.val k);obtain ⟨p,hp,hp2⟩:=Option.map_eq_some_iff.mp hw;refine wpAny_getItem_heap (nV hu) (vK I.hok eb) dd hp ?_;rw [hp2];exact h w' _ (I.tok _) rw'
theorem UL(hu:A.units+1 < cLine)(I:Inv X pins σ H s)(g:lY H a y o)(ry:RelV y u)(h:∀ s',Inv X pins σ H s'->Q (.bool o.isSome) s') :
  uv ‹9› A (xN .In u (.ref a)) Q E s:=by
 rcases g with ⟨kvs,k,e,ey,l⟩ | ⟨kvs,k,b,e,ey,eb,l⟩
 ·subst ey;obtain ⟨z,hd,vs,rel,dd⟩:=Ba I.hok e;refine wpAny_in_of (uh ry) hd dd.mapOf ?_;rw [<- (rel.val k).mF,<- l];exact h _ (I.tok _)
 ·subst ey;cases (show u=zg b from ry);obtain ⟨z,hd,xs,rel,dd⟩:=Aa I.hok e;refine wpAny_in_heap (nV hu) (vK I.hok eb) hd dd ?_;have q:=(rel.val k).mF;rw [Option.isSome_map] at q;rw [<- q,<- l];exact h _ (I.tok _)
theorem O9(hu:A.units+1 < cLine)(I:Inv X pins σ H s)(g:lY H a y o)(ry:RelV y u)(h:∀ s',Inv X pins σ H s'->Q (.bool (!o.isSome)) s') :
  uv ‹9› A (xN .NotIn u (.ref a)) Q E s:=by
 rcases g with ⟨kvs,k,e,ey,l⟩ | ⟨kvs,k,b,e,ey,eb,l⟩
 ·subst ey;obtain ⟨z,hd,vs,rel,dd⟩:=Ba I.hok e;refine wpAny_notIn_of (uh ry) hd dd.mapOf ?_;rw [<- (rel.val k).mF,<- l];exact h _ (I.tok _)
 ·subst ey;cases (show u=zg b from ry);obtain ⟨z,hd,xs,rel,dd⟩:=Aa I.hok e;refine wpAny_notIn_heap (nV hu) (vK I.hok eb) hd dd ?_;have q:=(rel.val k).mF;rw [Option.isSome_map] at q;rw [<- q,<- l];exact h _ (I.tok _)
theorem uR{ob:HO}(I:Inv X pins σ H s)(mu:Mut (H a))(hs:Heap.SameBut a s.heap h')(he:∃ q,h'.get? a=some q)(new:cT X.prog X.w (upd H a ob) h' a ob) :
  Inv X pins σ (upd H a ob) { s with heap:=h',toks:=t' }:=
 I.write (x:=a) (e:=a) mu (.inl rfl) (fun b q hb z=>(hs.2 b hb).trans z) he new
theorem CV{vs:List (Key × sr)}(z:kvs.length<=sizeLine)(hd:(a == An)=false)(rel:KV kvs vs)(dd:h'.DictOf (bU P w) a vs) :
  cT P w H' h' a (.dK kvs):=⟨z,hd,vs,rel,dd⟩
theorem Ho{Q:Unit->ue->Prop}(hu:A.units+1 < cLine)(I:Inv X pins σ H s)(g:tD H a y v H')(ry:RelV y u)(rv:RelV v r)(h:∀ s',Inv X pins σ H' s'->Q () s') :
  uv ‹9› A (setItem (.ref a) u r) Q E s:=by
 rcases g with ⟨kvs,k,e,ey,l,eH⟩ | ⟨kvs,k,b,e,ey,eb,l,eH⟩
 ·subst ey eH;obtain ⟨z,hd,vs,rel,dd⟩:=MN I.hok e;have hz:vs.length<=sizeLine:=by rw [<- rel.length]; exact z
  have hl:(putK kvs k v).length<=sizeLine:=by have:=fU kvs k v; omega
  refine wpAny_setItem_pairs (hsz:=hz) (uh ry) dd fun h' dd' hs=>h _ ?_;have he:∃ q,h'.get? a=some q:=let ⟨q,_,_,hq,_⟩:=dd'; ⟨q,hq⟩;exact uR I (by rw [e]; exact True.intro) hs he (CV hl hd (rel.put k rv) dd')
 ·subst ey eH;cases (show u=zg b from ry);obtain ⟨z,hd,xs,rel,dd⟩:=RN I.hok e;have hz:xs.length<=sizeLine:=by rw [<- cE rel]; exact z
  have hl:(putK kvs k v).length<=sizeLine:=by have:=fU kvs k v; omega
  refine wpAny_setItem_heap (hsz:=hz) (nV hu) (vK I.hok eb) dd fun h' dd' hs=>h _ ?_;obtain ⟨q,es,ep,hq,h2,h3,h4,_,h5⟩:=dd';refine uR I (by rw [e]; exact True.intro) hs ⟨q,hq⟩ ⟨hl,hd,_,(rel.put k eb rv).keeps fun c ys ec=>?_,q,es,ep,hq,h2,h3,h4,h5⟩;rw [aA (eG ec e ‹11›)];exact ec
end
section
variable {X:Cx}{pins:LO}{σ:St}{H:Hp}{s:ue}{a:ut}{kvs:LK0}{k:Key}{u:sr}{A:xf}{E:ES}
end
def Te(i:Expr):Prop:=∀ ov iv,subscripted i false ov iv=operate [ov,iv] (Vk ov iv)
theorem O5{value slice:Expr}{T:String}
  (hl:typeLookup (.type T) "__getitem__" = Hn (some (.builtin id))) (hs:Te slice)
  (h:uv ‹32› A (eval value env) (fun o s₁=>uv ‹32› A (eval slice env) (fun i s₂=>s₂.TypeIs o T/\uv ‹32› A (Vk o i) Q E s₂) E s₁) E s) :
  uv ‹32› A (eval (.Subscript value slice pos) env) Q E s:=by
 refine Subscript_ (ib h (fun o s₁ h₁=>ib h₁ (fun i s₂ h₂=>?_) fun _ _ x=>x) fun _ _ x=>x);obtain ⟨hT,h₂⟩:=h₂;unfold Vt;refine af ?_;rw [getitemInPython_of_ne hT.not_modules];refine af (wpAny_specialOf hT hl ?_)
 have fin:uv ‹32› A (subscripted slice false o i) (fun r s₃=>uv ‹32› A (letTemporaryGo value o r >>= fun _=>Hn r) Q E s₃) E s₂:=by
  rw [hs o i];exact wpAny_operating (ib h₂ (fun r s₃ h₃=>af (wpAny_letTemporaryGo (aE h₃))) fun _ _ x=>x)
 first
  | exact aE (af fin)
  | exact af (aE (af fin))
  | exact af fin
theorem Bh{o:OV}(I:Inv X pins σ H s)(g:lY H a y o):s.TypeIs (.ref a) "dict" := by
 rcases g with ⟨kvs,k,e,_,_⟩ | ⟨kvs,k,b,e,_,_,_⟩
 ·obtain ⟨_,_,vs,_,dd⟩:=Ba I.hok e;exact dd.typeIs
 ·obtain ⟨_,_,xs,_,dd⟩:=Aa I.hok e;exact dd.typeIs
inductive K8 (Q:VK) (x:V) (y:V) (H2:Hp):Prop
 | mk (a v:_):x=.ref a->lY H2 a y (some v)->Q v H2->K8 Q x y H2
def Sx(td ty:TE):TE:=fun σ H Q=>td σ H fun x H1=>ty σ H1 fun y H2=>K8 Q x y H2
inductive Qm (Q:VK) (y:V) (x:V) (H2:Hp):Prop
 | mk (a o:_):x=.ref a->lY H2 a y o->Q (.bl o.isSome) H2->Qm Q y x H2
def T4(ty td:TE):TE:=fun σ H Q=>ty σ H fun y H1=>td σ H1 fun x H2=>Qm Q y x H2
inductive Bl (Q:VK) (y:V) (x:V) (H2:Hp):Prop
 | mk (a o:_):x=.ref a->lY H2 a y o->Q (.bl (!o.isSome)) H2->Bl Q y x H2
def OD(ty td:TE):TE:=fun σ H Q=>ty σ H fun y H1=>td σ H1 fun x H2=>Bl Q y x H2
inductive MK (D:Ends) (σ:St) (v:V) (x:V) (y:V) (H3:Hp):Prop
 | mk (a H4:_):x=.ref a->tD H3 a y v H4->D.nx σ H4->MK D σ v x y H3
def S9(td ty tv:TE):TS:=fun D σ H=>tv σ H fun v H1=>td σ H1 fun x H2=>ty σ H2 fun y H3=>MK D σ v x y H3
section
variable {X:Cx}{o i e value:Expr}{pos pos' tpos:Pos}{td ty tv:TE}
theorem eE(hu:X.A.units+1 < cLine)(ho:PE X o td)(hi:PE X i ty)(hs:Te i):PE X (.Subscript o i pos) (Sx td ty):=by
 exists 12;refine O5 PySem.F.slot_dict_getitem.lookup hs (thn (ho pins s σ H _ I h) fun u s1 ⟨x,H1,I1,rx,q1⟩=>thn (hi pins s1 σ H1 _ I1 q1) fun iv s2 ⟨y,H2,I2,ry,a,v,ex,g,q2⟩=>?_);subst ex;obtain rfl:u=zg a:=rx;exact⟨Bh I2 g,G8 hu I2 g ry fun w' s3 I3 rw'=>⟨v,H2,I3,rw',q2⟩⟩
theorem Jt(hu:X.A.units+1 < cLine)(hi:PE X i ty)(ho:PE X o td):PC X .In i o (T4 ty td):=by
 exists 12;refine thn (hi pins s σ H _ I h) fun iv s1 ⟨y,H1,I1,ry,q1⟩=>thn (ho pins s1 σ H1 _ I1 q1) fun u s2 ⟨x,H2,I2,rx,a,ov,ex,g,q2⟩=>?_;subst ex;obtain rfl:u=zg a:=rx;exact UL hu I2 g ry fun s3 I3=>⟨.bl ov.isSome,H2,I3,rfl,q2⟩
theorem qb(hu:X.A.units+1 < cLine)(hi:PE X i ty)(ho:PE X o td):PC X .NotIn i o (OD ty td):=by
 exists 12;refine thn (hi pins s σ H _ I h) fun iv s1 ⟨y,H1,I1,ry,q1⟩=>thn (ho pins s1 σ H1 _ I1 q1) fun u s2 ⟨x,H2,I2,rx,a,ov,ex,g,q2⟩=>?_;subst ex;obtain rfl:u=zg a:=rx;exact O9 hu I2 g ry fun s3 I3=>⟨.bl (!ov.isSome),H2,I3,rfl,q2⟩
theorem kJ(hu:X.A.units+1 < cLine)(ho:PE X o td)(hi:PE X i ty)(hv:PE X value tv)(hs:swapsWith value (some (.Subscript o i pos')) pos.line X.env=Hn false) :
  PS X (.Assign [.Subscript o i pos'] value pos) (S9 td ty tv):=by
 intro pins s σ H D I h;refine wpAny_Assign_Subscript (thn (hv pins s σ H _ I h) fun r s1 ⟨v,H1,I1,rv,q1⟩=>thn (ho pins s1 σ H1 _ I1 q1) fun u s2 ⟨x,H2,I2,rx,q2⟩=>thn (hi pins s2 σ H2 _ I2 q2) fun iv s3 ⟨y,H3,I3,ry,a,H4,ex,g,q3⟩=>?_) hs;subst ex;obtain rfl:u=zg a:=rx;exact Ho hu I3 g ry rv fun s4 I4=>⟨σ,H4,I4,q3⟩
end
theorem rG(h:Heap)(hb:An < h.objs.size):cT P w H (h.push { cls:=.type "dict",data:=.dict #[] }) h.objs.size (.dK []):=
 ⟨dk _,beq_eq_false_iff_ne.mpr (kL (dm hb)),[],.nil,Heap.DictOf.new h⟩
def Rm:TE:=fun _ H Q=>∀ p,H p=none->Q (.ref p) (upd H p (.dK []))
section
variable {X:Cx}{pos:Pos}
theorem jN:PE X (.Dict [] [] pos) Rm:=fun pins s σ H Q I h=>
 wpAny_Dict_empty ⟨.ref s.heap.objs.size,_,I.laid (a:=s.heap.objs.size) (o:=.dK []) (t':=s.toks) (fun _ _ q=>av _ q) (ai _) (rG s.heap I.big),rfl,h _ (I.hok.fresh (ai _))⟩
end
def DW:List (TE × TE)->St->Hp->(List (V × V)->Hp->Prop)->Prop
 | [],_,H,Q=>Q [] H
 | (tk,tv)::r,σ,H,Q=>tk σ H fun x H1=>tv σ H1 fun y H2=>DW r σ H2 fun ps H3=>Q ((x,y)::ps) H3
abbrev VV:List (V × V)->List (sr × sr)->Prop:=Paired fun p q=>RelV p.1 q.1/\RelV p.2 q.2
def PPs(X:Cx)(pos:Pos)(keys:List (Option Expr))(values:List Expr)(trs:List (TE × TE)):Prop:=
 ∀(pins:LO) (s:ue) (σ:St) (H:Hp) (Q:List (V × V)->Hp->Prop),Inv X pins σ H s->DW trs σ H Q->
  uv ‹9› X.A (evalPairs (pairTrees keys values X.env pos)) (fun vs s'=>∃ ps H',Inv X pins σ H' s'/\VV ps vs/\Q ps H') X.xe s
theorem Ov:PPs X pos [] [] []:=fun pins s σ H Q I h=>pairTrees_nil_walk ⟨[],H,I,.nil,h⟩
theorem Jv{k v:Expr}{ks:List (Option Expr)}{vs:List Expr}{tk tv:TE}{trs:List (TE × TE)}(hk:PE X k tk)(hv:PE X v tv)(hr:PPs X pos ks vs trs) :
  PPs X pos (some k::ks) (v::vs) ((tk,tv)::trs):=fun pins s σ H Q I h=>
 pairTrees_cons_walk (thn (hk pins s σ H _ I h) fun u s1 ⟨x,H1,I1,rx,q1⟩=>thn (hv pins s1 σ H1 _ I1 q1) fun w2 s2 ⟨y,H2,I2,ry,q2⟩=>
  thn (hr pins s2 σ H2 _ I2 q2) fun ws s3 ⟨ps,H3,I3,rel,q3⟩=>⟨(x,y)::ps,H3,I3,.cons ⟨rx,ry⟩ rel,q3⟩)
def cD(kvs more:LK0):LK0:=more.foldl (fun acc kv=>putK acc kv.1 kv.2) kvs
theorem KV.merge:∀ {more:LK0} {rs:List (Key × sr)} {kvs:LK0} {vs:List (Key × sr)},KV more rs->KV kvs vs->KV (cD kvs more) (merged vs rs):=by
 intro more rs kvs vs r;unfold KV at r
 induction r generalizing kvs vs with
 | nil=>intro q; exact q
 | @cons p q ps qs h t ih=>
  intro r0
  have e:KV (putK kvs p.1 p.2) (stored vs q.1 q.2):=by
   have:=r0.put p.1 h.2;rw [<- h.1]; exact this
  exact ih e
theorem jH:∀(more kvs:LK0),(cD kvs more).length<=kvs.length+more.length
 | [],kvs=>by show kvs.length<=kvs.length+0; omega
 | p::r,kvs=>by
  have h1:=jH r (putK kvs p.1 p.2);have h2:=fU kvs p.1 p.2;show (cD (putK kvs p.1 p.2) r).length<=_;rw [dA]; omega
theorem wu{P:uC}{w:ww}:∀ {kvs:LK0} {ws:List (sr × sr)},VV (kvs.map fun kv=>(kV kv.1,kv.2)) ws->∃ rs,Carries (bU P w) ws rs/\KV kvs rs
 | [],_,r=>by rw [List.map_nil] at r; cases r; exact⟨[],True.intro,.nil⟩
 | p::kvs,_,r=>by
  rw [de] at r;cases r with
  | @cons a b as bs h t=>
   obtain ⟨rs,c,q⟩:=wu (P:=P) (w:=w) t;obtain ⟨b1,b2⟩:=b;exact⟨(p.1,b2)::rs,⟨uh h.1,rfl,c⟩,.cons ⟨rfl,h.2⟩ q⟩
def R0(trs:List (TE × TE)):TE:=fun σ H Q=>∀ p,H p=none->DW trs σ (upd H p (.dK [])) fun ps H2=>H2 p=some (.dK [])/\∃ kvs:LK0,ps=kvs.map (fun kv=>(kV kv.1,kv.2))/\kvs.length<=15/\Q (.ref p) (upd H2 p (.dK (cD [] kvs)))
theorem O7{keys:List (Option Expr)}{values:List Expr}{trs:List (TE × TE)}(h:PPs X pos keys values trs)(hall:keys.all (·.isSome)=true)(hl:keys.length=values.length)(h0:keys≠[])
  (h15:keys.length<=15):PE X (.Dict keys values pos) (R0 trs):=by
 intro pins s σ H Q I q;have hn:=I.hok.fresh (ai s.heap.objs.size);have I1:=I.laid (a:=s.heap.objs.size) (o:=.dK []) (h':=s.heap.push { cls:=.type "dict",data:=.dict #[] }) (t':=s.toks) (fun _ _ q=>av _ q) (ai _) (rG s.heap I.big);refine wpAny_Dict_walk (knd:=bU X.prog X.w) hall hl h0 h15 (thn (h pins _ σ _ _ I1 (q _ hn)) fun ws s2 ⟨ps,H2,I2,rel,e,kvs,ep,lk,q2⟩=>?_);subst ep;obtain ⟨rs,c,rk⟩:=wu (P:=X.prog) (w:=X.w) rel;obtain ⟨z,hd,vs0,r0,dd⟩:=MN I2.hok e;cases r0;refine⟨rs,c,dd,fun h' dd' hs=>⟨.ref s.heap.objs.size,_,?_,rfl,q2⟩⟩
 have hz:(cD [] kvs).length<=sizeLine:=by
  have h1:=jH kvs [];rw [nI] at h1;rw [cy]; omega
 have he:∃ q,h'.get? s.heap.objs.size=some q:=let ⟨q,_,_,hq,_⟩:=dd'; ⟨q,hq⟩;exact uR I2 (by rw [e]; exact True.intro) hs he (CV hz hd (rk.merge .nil) dd')
structure M1 (X:Cx) (o:Expr) (m:Str) (apos:Pos) (e:Expr) (cpos:Pos):Prop where
 base:UV o m X.env (eval o X.env)=eval o X.env
 few:((NB cpos (xx [e] X.env)).all (fun x=>!x.1) && (backToKw cpos (keywordEach [] X.env)).all (fun x=>x.1.isSome)
  && decide (([e]:List Expr).length+([]:List Vq).length+(if ([]:List Vq).isEmpty then 0 else 1) < 30))=true
 line:(apos.endLine == cpos.line)=true
 trees:NB cpos (xx [e] X.env)=[(false,eval e X.env)]
structure M2 (X:Cx) (o:Expr) (m:Str) (apos:Pos) (e f:Expr) (cpos:Pos):Prop where
 base:UV o m X.env (eval o X.env)=eval o X.env
 few:((NB cpos (xx [e,f] X.env)).all (fun x=>!x.1) && (backToKw cpos (keywordEach [] X.env)).all (fun x=>x.1.isSome)
  && decide (([e,f]:List Expr).length+([]:List Vq).length+(if ([]:List Vq).isEmpty then 0 else 1) < 30))=true
 line:(apos.endLine == cpos.line)=true
 trees:NB cpos (xx [e,f] X.env)=[(false,eval e X.env),(false,eval f X.env)]
section
variable {X:Cx}{pins:LO}{σ:St}{H:Hp}{s:ue}{a:ut}{y d:V}{u r:sr}{o:OV}{A:xf}{E:ES}
end
section
variable {X:Cx}{o e f:Expr}{apos cpos:Pos}{td ty tx:TE}
end
section
variable {X:Cx}{pins:LO}{σ:St}{H:Hp}{s:ue}{a:ut}{kvs:LK0}{A:xf}{E:ES}
end
section
variable {X:Cx}{pins:LO}{σ:St}{H:Hp}{s:ue}{a:ut}{y:V}{u:sr}{A:xf}{E:ES}
end
end L2
end
section
namespace Att
open PySem PySem.W PySem.Calls PyProof.Rows
variable {h:Heap}{n:Nat}{loose:List Str}{YP:ww->Heap->Prop}
theorem uK{P:Params}:∀(ns:List Int) (vs:List sr),WellAll P h vs (ns.map WData.int)->IntsAre vs ns:=by
 intro ns
 induction ns with
 | nil=>
  intro vs w;rw [List.map_nil] at w;cases w;exact .nil
 | cons n ns ih=>
  intro vs w;rw [de] at w;cases w with
  | cons a b=>
   cases a;exact .cons _ _ (ih _ b)
theorem Io{l:OpenLaw}(hn:l.most=some n){P:Params}{args:List WData}{vals:List sr}
  (hpre:l.row.toRowW.claim.pre args=true) (hwl:WellAll P h vals args) :
  ∃ a vs ns,vals=[zg a]/\args=[WData.list (ns.map WData.int)]/\h.get? a=some { cls:=.type "list",data:=.seq vs.toArray }/\IntsAre vs ns/\ns.length<=n:=by
 have hsh:WShape.hasAll [] args [.list .int]=true:=(pre_splitW hpre).1;have hc:l.pre.holds [] { args:=args }=true:=(pre_splitW hpre).2;obtain ⟨d,r,rfl,h1,h2⟩:=hasAllW_cons hsh;obtain rfl:=hasAllW_nil h2;obtain ⟨xs,rfl,h3⟩:=hasW_list h1;obtain ⟨ns,rfl⟩:=items_int h3
 have hlen:ns.length<=n:=by
  unfold OpenLaw.pre at hc
  have h4:(WTm.not (.lt (.lit (.int (n:Int))) (.len (.arg 0)))).holds [] { args:=[.list (ns.map .int)] }=true:=by
   have h4:=(holds_andW hc).1;rw [hn] at h4;exact h4
  have h5:=condW_of h4 (w_not (w_lt w_lit (w_len_list (w_arg rfl))));rw [aa] at h5;refine Nat.le_of_not_lt fun q=>?_;have q':(n:Int) < ((ns.length:Nat):Int):=by omega
  first
   | (rw [bo q'] at h5; exact absurd h5 ‹6›)
   | (simp at h5; omega)
 cases hwl with
 | cons w1 w2=>
  cases w2;cases w1 with
  | list ho hall=>exact⟨_,_,ns,rfl,rfl,ho,uK ns _ hall,hlen⟩
theorem Ii(l:OpenLaw)(args:List WData):l.row.toRowW.claim.post args (.bool true) args=true:=
 postW_of (r:=l.row.toRowW) (X:=(true == true))
  (show WShape.has [] (.bool true) .bool=true by first | rfl | decide | simp [WShape.has,WShape.arms,WShape.armsAll])
  (show (WTm.eq .res (.lit (.bool true))).value [] { args:=args,res:=some (.bool true),after:=args }=some (.bool (true == true)) from w_eq_bool (w_res rfl) w_lit) rfl
theorem Bs{l:OpenLaw}{q:uC}{XP:(Str->Option sr)->Heap->Prop}{d:DefRec}
  (hn:l.most=some n) (hdf:d.params.defaults=[])
  (call:∀(w:ww) (s₀ s₁:ue) (mg mb:Str->Option sr) (fa:ut) (o:Obj) (pm cd doc:sr) (a:ut) (vs:List sr) (ns:List Int),
   Ground q loose [] XP w s₀ mg mb s₁.heap->YP w s₁.heap->
   s₁.heap.get? fa=some o->o.data=.func (docDef d.name d.params d.body d.scope pm cd doc)->s₁.heap.CodeRec cd d.name->mg d.name=some (.ref fa)->
   s₁.heap.get? a=some { cls:=.type "list",data:=.seq vs.toArray }->IntsAre vs ns->ns.length<=n->s₁.gens=#[]->
   HH (vy l.prog w) V0 (.call (.ref fa) ⟨[.ref a],[]⟩) (fun r s'=>r=.ok (.ret (.bool true))/\OldK s₁.heap s'.heap/\s'.os=s₁.os/\Vj s'.gens) s₁) :
  WalkO q loose XP YP l.row.toRowW d [] (fun f vs=>PySem.call f vs):=by
 intro w s₀ s₁ mg mb G Y fa o pm cd doc dV kV ho hd hcd hD hmg hg args vals as hpre hlay hrd hwl hlo;obtain rfl:dV=.none:=Dflts.none hD hdf;obtain rfl:kV=.none:=Dflts.noKw hD;obtain ⟨a,vs,ns,rfl,rfl,hobj,hints,hlen⟩:=Io hn hpre hwl;refine enter_call (oq (call w s₀ s₁ mg mb fa o pm cd doc a vs ns G Y ho (fd_plain hd) hcd hmg hobj hints hlen hg) fun r s' hq=>?_);obtain ⟨rfl,h2,h3,h4⟩:=hq;exact⟨.inl ⟨.bool true,.bool true,[],rfl,fun _=>rfl,.bool true,Ii l _,fun _=>⟨List.Pairwise.nil,fun _ hm=>(nomatch hm)⟩⟩,h2,h3,h4⟩
section
variable {prog:uC}{w:ww}{A:xf}{E:sr->ue->Prop}{s:ue}{K:Frag}
def ledger(h:Heap)(L d:ut):List (ut × Obj):=(List.range h.objs.size).filterMap fun a=>if a=L\/a=d then none else (h.get? a).map fun o=>(a,o)
end
end Att
namespace L2
open PySem PySem.Spec PyProof.Rows
variable {P prog:uC}{w:ww}{K:PySem.W.Frag}{mg:MG}{C a e i1 i2 it p q t t1 t2 z:ut}{fd:vz}{sp:Sp}{ep i n t' x1:Nat}{loose ns ps:LS}{YP:ww->Heap->Prop}{X:Cx}{qual:Str}{st:Stmt}{A:xf}{pos tpos:Pos}{B:Prop}{H H' H1 H2:Hp}{env:Env}{scope:Scope}{E Q:ES}{s:ue}{R:V3->ue->Prop}{fp:LA}{pins:LO}{σ:St}{J:It}{xs:LV}{v:V}{te:TE}{items:AV}{h h':Heap}{elts:List Expr}{tg:Expr}{c:Int}{kvs:LK0}{o:Obj}{ta:TA}{u:sr}
theorem xZ:∀ {vs:LU} {ns:List Int},IntsAre vs ns->Vals (ns.map V.int) vs
 | _,_,.nil=>.nil
 | _,_,.cons n t h=>.cons ⟨t,rfl⟩ (xZ h)
def Only(H:Hp):Prop:=∀ b,H b=none\/∃ o xs,H b=some (.frz o (.lst xs))
theorem JM{mb:MG}{CX:CXT}{k:Nat}{fa:ut}{x:Str}{s₁:ue}{vs:LU}{ns:List Int}
  (KX:K.In s₁.heap) (hns:s₁.heap.Ns xj mg) (hb:s₁.heap.Ns builtinsNs mb) (hbb:∀ x:Str,x≠ "__name__" -> mb x=ye x) (hlim:s₁.heap.NoLimit) (hg:s₁.gens=#[])
  (ha:s₁.heap.get? a=some { cls:=.type "list",data:=.seq vs.toArray }) (hi:IntsAre vs ns) (hl:ns.length<=sizeLine) (hr:kZ k V0)
  (F:∀ base:Heap,K.In base->base.Ns xj mg->cA P w K mg base CX k fa fd [x] sp) (hbind:∀(s:ue) (u:sr),Vp s fd ⟨[u],[]⟩ [(x,u)])
  (hsp:∀ H:Hp,Only H->SqL K H a (ns.map V.int)->sp [.ref a] H (fun v _=>v=.bl true) fun _ _ _=>False)
  (hCX:∀ H e s',CX [] H s₁ (fun _ _ _=>False) e s'->False) :
  HH (vy P w) V0 (.call (.ref fa) ⟨[.ref a],[]⟩) (fun r s'=>r=.ok (.ret (.bool true))/\OldK s₁.heap s'.heap/\s'.os=s₁.os/\Vj s'.gens) s₁:=by
 have rv:=xZ hi;have lenV:=hi.length
 have core:∀ H:Hp,Only H->SqL K H a (ns.map V.int)->HOk P w H s₁.heap->(∀ b,H b≠none->b=a)->(H a≠none->K.lookup a=none)->
   HH (vy P w) V0 (.call (.ref fa) ⟨[.ref a],[]⟩) (fun r s'=>r=.ok (.ret (.bool true))/\OldK s₁.heap s'.heap/\s'.os=s₁.os/\Vj s'.gens) s₁:=by
  intro H hO hS hok hA hK;have base_of:∀ {b:ut} {o:Obj},s₁.heap.get? b=some o->H b=none->(yI s₁.heap H).get? b=some o:=fun e n=>Ke e n
  have noA:∀ {b:ut} {o:Obj} {es:Array Hm} {ep:Nat},s₁.heap.get? b=some o->o.data=.dict es ep->H b=none:=fun {b o es ep} e d=>by
   cases q:H b with
   | none=>rfl
   | some u=>
    have e':b=a:=hA b (by rw [q]; simp);subst e';rw [ha] at e; cases e;have d':Data.seq vs.toArray _=Data.dict es ep:=d;cases d'
  have nsK:∀ {b:ut} {m:MG},s₁.heap.Ns b m->(yI s₁.heap H).Ns b m:=fun {b m} ⟨o,es,ep,e,d,r⟩=>⟨o,es,ep,base_of e (noA e d),d,r⟩
  have hKb:K.In (yI s₁.heap H):=fun b o e=>base_of (KX b o e) (by
   cases q:H b with
   | none=>rfl
   | some u=>
    have e':b=a:=hA b (by rw [q]; simp);subst e';rw [hK (by rw [q]; simp)] at e; cases e)
  have hM:Mod K mg (yI s₁.heap H):=⟨hKb,nsK hns,⟨mb,nsK hb,hbb⟩,let ⟨mc,h1,h2⟩:=hlim; ⟨mc,nsK h1,h2⟩⟩;have e0:KD P w K mg (yI s₁.heap H) V0 [] s₁ H:=⟨rfl,hM,fun b o e=>Nb e,Nat.le_of_eq (G7 _ _),trivial,fun b hb=>absurd (show b∈([]:LA) from hb) ‹45›,hok,.of_eq hg⟩;refine oq ((F _ hKb (nsK hns)).run V0 [] s₁ H ⟨[.ref a],[]⟩ [.ref a] [.ref a] _ _ hr e0 (hbind s₁ (.ref a)) (.cons rfl .nil) (hsp H hO hS)) fun r s' h=>?_;cases r with
  | error e=>exact(hCX H e s' h).elim
  | ok fl=>
   cases fl with
   | next=>exact Do h
   | brk=>exact Do h
   | cont=>exact Do h
   | ret u=>
    obtain ⟨v,H',os,bare,un,hok',r',q⟩:=h;have q':v=.bl true:=q;subst q';obtain rfl:u=sr.bool true:=r';refine⟨rfl,OldK.of_keep fun b o e=>?_,os,bare⟩;cases q:H b with
    | none=>exact un.keep b o e q (by intro z; exact absurd (show b∈([]:LA) from z) ‹45›) ‹45›
    | some u=>
     rcases hO b with z | ⟨ob,xs,z⟩
     ·rw [q] at z; cases z
     ·have z2:=un.wg b ob _ z;obtain ⟨e1,_⟩:=hok b _ z;obtain ⟨e2,_⟩:=hok' b _ z2;rw [e] at e1; cases e1;exact e2
 cases hk:K.lookup a with
 | some o=>
  have e:=KX a o hk;rw [ha] at e;cases e;refine core (fun _=>none) (fun _=>.inl rfl) (.inr ⟨_,vs.toArray,_,hk,rfl,rfl,rfl,by rw [cf,lenV]; exact hl,by simpa using rv⟩) (fun b u z=>by have z':(none:Option HO)=some u:=z; cases z') (fun b z=>absurd rfl z) fun z=>absurd rfl z
 | none=>
  refine core (fun b=>if b=a then some (.frz { cls:=.type "list",data:=.seq vs.toArray } (.lst (ns.map V.int))) else none) (fun b=>?_) (.inl (.inr ⟨{ cls:=.type "list",data:=.seq vs.toArray },dE rfl⟩)) (fun b u z=>?_) (fun b z=>?_) fun _=>hk
  ·by_cases hb:b=a
   ·exact .inr ⟨_,_,dE hb⟩
   ·exact .inl (cK hb)
  ·by_cases hb:b=a
   ·have z':=(dE hb).symm.trans z;cases z';subst hb;exact⟨ha,by rw [aa]; exact hl,vs,_,rv,ha⟩
   ·have z':=(cK hb).symm.trans z;cases z'
  ·by_cases hb:b=a
   ·exact hb
   ·exact absurd (cK hb) z
theorem Nu{l:PySem.W.OpenLaw}{k:Nat}{q:uC}{XP:(MG)->Heap->Prop}{d:DefRec}{K:Params->PySem.W.Frag}{CX:ww->CXT}{sp:ww->Sp}{x:Str}
  (hn:l.most=some n) (hn2:n<=sizeLine) (hdf:d.params.defaults=[]) (hr:kZ k V0)
  (hY:∀(w:ww) (h:Heap),YP w h->(K w.params).In h)
  (F:∀(w:ww) (mg:MG) (fa:ut) (h:Heap),(K w.params).In h->h.Ns xj mg->mg d.name=some (.ref fa)->
   ∃ fd:vz,(∀(s:ue) (u:sr),Vp s fd ⟨[u],[]⟩ [(x,u)])/\
    ∀ base:Heap,(K w.params).In base->base.Ns xj mg->cA l.prog w (K w.params) mg base (CX w) k fa fd [x] (sp w))
  (hsp:∀(w:ww) (H:Hp) (a:ut) (ns:List Int),ns.length<=n->Only H->SqL (K w.params) H a (ns.map V.int)->sp w [.ref a] H (fun v _=>v=.bl true) fun _ _ _=>False)
  (hCX:∀(w:ww) (H:Hp) (s:ue) (e:sr) (s':ue),CX w [] H s (fun _ _ _=>False) e s'->False) :
  PySem.W.WalkO q loose XP YP l.row.toRowW d [] (fun f vs=>PySem.call f vs):=by
 refine Att.Bs hn hdf fun w s₀ s₁ mg mb fa o pm cd doc a vs ns G Y ho hd hcd hmg hobj hints hlen hg=>?_;have KX:=hY w _ Y;obtain ⟨fd,hb,hF⟩:=F w mg fa _ KX G.T.g hmg;exact JM KX G.T.g G.T.b G.T.builtins G.T.nolimit hg hobj hints (cS hlen hn2) hr hF hb (fun H hO hS=>hsp w H a ns hlen hO hS) fun H e s'=>hCX w H s₁ e s'
def rQ(s:Stmt):Arguments:=match s with
 | .FunctionDef _ a _ _ _ _ _ _ _ _=>a
 | _=>{ posonlyargs:=[],args:=[],vararg:=none,kwonlyargs:=[],kw_defaults:=[],kwarg:=none,defaults:=[] }
def pY(s:Stmt):List Stmt:=match s with
 | .FunctionDef _ _ b _ _ _ _ _ _ _=>b
 | _=>[]
def aG(s:Stmt):Scope:=match s with
 | .FunctionDef _ _ _ _ _ _ sc _ _ _=>sc
 | _=>{ kind:=.function,names:=[],isGenerator:=false,isCoroutine:=false }
abbrev CX0:CXT:=fun _ _ _ _ _ _=>False
abbrev E0:XK:=fun _ _ _=>False
theorem Tw:Passes CX0 X E0:=fun _ _ _ _ _ _ _ h=>h.elim
structure Fun (K:PySem.W.Frag) (x qual:Str) (st:Stmt) (f:ut) (fd:vz):Prop where
 ex:∃(oc:sr) (od:Option ut) (kV doc pm:sr) (an:Option ut) (cdv ct:sr) (osl:Array (Option sr)),
  fd=PySem.W.fnOf x qual (rQ st) (pY st) (aG st) .none kV doc pm an cdv ct/\K.lookup f=some ⟨oc,od,.func fd,osl⟩/\PySem.W.codeIn K cdv qual=true
 kp:PySem.W.keepIn K (.ref f)=true
section
variable {P:uC}{w:ww}{K:PySem.W.Frag}{mg:MG}{base:Heap}
theorem Fun.ok{x:Str}{f:ut}{N:LS}{k:Nat}(F:Fun K x qual st f fd)(S:bw N ps (aG st))(len:∀ vs H Q E,sp vs H Q E->vs.length=ps.length)
  (hbody:∀(cdv:sr) (A:xf) (outer:List Env) (s:ue) (H:Hp) (vs:LV) (Q:VK) (E:XK),kZ k (A.deeper (VN qual (aG st) s.heap.objs.size f cdv))->sp vs H Q E->
   ∃ t,PSs (jV CX0 P w K mg base N qual (aG st) f cdv A outer s H E).nox (pY st) t/\t { nx:=fun _ H'=>Q .non H',rt:=Q } (start N vs) H):cA P w K mg base CX0 (k+1) f fd ps sp:=by
 obtain ⟨oc,od,kV,doc,pm,an,cdv,ct,osl,rfl,lk,hcd⟩:=F.ex;refine Tj lk hcd S len fun A outer s H vs Q E hr hsp=>?_;obtain ⟨t,h,q⟩:=hbody cdv A outer s H vs Q E hr hsp;exact⟨t,h.nox,q⟩
theorem Fun.binds{x:Str}{f:ut}(F:Fun K x qual st f fd)
  (h:∀(kV doc pm:sr) (an:Option ut) (cdv ct:sr) (us:LU),us.length=ps.length->bindArgs (PySem.W.fnOf x qual (rQ st) (pY st) (aG st) .none kV doc pm an cdv ct) ⟨us,[]⟩=Hn (ps.zip us)):Binds K fd ps []:=by
 obtain ⟨oc,od,kV,doc,pm,an,cdv,ct,osl,rfl,lk,hcd⟩:=F.ex;exact .all (h kV doc pm an cdv ct)
theorem RG{x:Str}{f:ut}{oc:sr}{od an:Option ut}{osl:Array (Option sr)}{kV doc pm cdv ct:sr}(l:K.lookup f=some ⟨oc,od,.func (PySem.W.fnOf x qual (rQ st) (pY st) (aG st) .none kV doc pm an cdv ct),osl⟩)
  (c:PySem.W.codeIn K cdv qual=true) (k:PySem.W.keepIn K (.ref f)=true):Fun K x qual st f (PySem.W.fnOf x qual (rQ st) (pY st) (aG st) .none kV doc pm an cdv ct):=⟨⟨oc,od,kV,doc,pm,an,cdv,ct,osl,rfl,l,c⟩,k⟩
end
theorem dZ{k:Nat}(hr:kZ k A):A.units+1 < cLine:=Nat.lt_of_le_of_lt (Nat.add_le_add_left (by decide:1<=64) _) hr.units
section
variable {X:Cx}
theorem pv(i:Nat){x:Str}(hN:X.N[i]?=some x:=by rfl)(hv:Vis X.env.scope x:=by first | exact uA rfl | exact Mm (uA rfl) | exact Mm (Mm rfl))(hd:(x == ("__debug__" : Str))=false:=by decide)
  (hcd:(x == ("__classdict__" : Str))=false:=by decide):PE X (.Name x pos) (KR i):=Rx hN hv hd hcd
end
theorem bT{A:Prop}(h:B):if false=true then A else B:=by
 rw [cK aS];exact h
theorem bM{A:Prop}(h:A):if true=true then A else B:=by
 rw [dE rfl];exact h
theorem gH{c A:Prop}[Decidable c](h1:c->A)(h2:¬ c->B):if c then A else B:=by
 by_cases h:c
 ·rw [dE h];exact h1 h
 ·rw [cK h];exact h2 h
def Same(H H':Hp):Prop:=∀ b o,H b=some o->H' b=some o
theorem Same.refl(H:Hp):Same H H:=fun _ _ h=>h
abbrev V8:=@Same.refl
theorem Same.trans(a:Same H H1)(b:Same H1 H2):Same H H2:=fun c o h=>b c o (a c o h)
section
variable {κ:Type}[DecidableEq κ]
end
set_option autoImplicit false
def clo(cells:List (Str × ut)):List (Str × zb)->List (Str × ut)->List (Str × ut)
 | [],acc=>acc
 | (n,k)::r,acc=>if k == .free then clo cells r ((n,(cells.lookup n).getD 0)::acc) else clo cells r acc
theorem Du{cells:List (Str × ut)}:∀ {names:List (Str × zb)} {acc:List (Str × ut)} {x:Str} {c:ut},(∀ y∈names,y.2=.free->∃ c,cells.lookup y.1=some c)->
  (clo cells names acc).lookup x=some c->cells.lookup x=some c\/acc.lookup x=some c
 | [],acc,x,c,_,h=>.inr h
 | (n,k)::r,acc,x,c,ha,h=>by
  have har:∀ y∈r,y.2=.free->∃ c,cells.lookup y.1=some c:=fun y hy=>ha y (cr _ hy);unfold clo at h
  by_cases hk:k=.free
  ·subst hk;rw [dE (by rfl)] at h;rcases Du har h with q | q
   ·exact .inl q
   ·obtain ⟨c',e⟩:=ha (n,.free) bn rfl;rw [iO] at q;cases hx:x == n with
    | true=>
     rw [hx] at q;have hx':x=n:=by simpa using hx
     have e':cells.lookup n=some c':=e;rw [e'] at q;rw [hx',e'];exact .inl q
    | false=>
     rw [hx] at q;exact .inr q
  ·rw [cK (by simpa using hk)] at h;exact Du har h
theorem zE{cells:List (Str × ut)}:∀ {names:List (Str × zb)} {acc:List (Str × ut)} {x:Str},(∃ c,acc.lookup x=some c)->∃ c,(clo cells names acc).lookup x=some c
 | [],_,_,h=>h
 | (n,k)::r,acc,x,h=>by
  unfold clo;split
  ·refine zE ?_;rw [iO];cases hx:x == n with
   | true=>exact⟨_,rfl⟩
   | false=>exact h
  ·exact zE h
theorem uY{cells:List (Str × ut)}:∀ {names:List (Str × zb)} {acc:List (Str × ut)} {x:Str},(x,Ff)∈names->∃ c,(clo cells names acc).lookup x=some c
 | [],_,_,h=>by simp at h
 | (n,k)::r,acc,x,h=>by
  unfold clo;rcases bz.mp h with e | e
  ·cases e;rw [dE (by rfl)];exact zE ⟨(cells.lookup n).getD 0,by simp [iO]⟩
  ·split
   ·exact uY e
   ·exact uY e
theorem vM
  (ha:∀ y∈scope.names,y.2=.free->∃ c,env.cells.lookup y.1=some c):closureFor scope env=Hn (clo env.cells scope.names []):=by
 have go:∀(names:List (Str × zb)) (acc:List (Str × ut)),(∀ y∈names,y.2=.free->∃ c,env.cells.lookup y.1=some c)->
   (forIn names acc fun(x:Str × zb) (cs:List (Str × ut))=>(do
    if x.2 == .free then
     let c <- cellOf env x.1
     Hn (My ((x.1,c)::cs))
    else Hn (My cs):Sem (ForInStep (List (Str × ut)))))=Hn (clo env.cells names acc):=by
  intro names
  induction names with
  | nil=>intro acc _; rfl
  | cons y r ih=>
   intro acc h;obtain ⟨n,k⟩:=y;have hr:∀ y∈r,y.2=.free->∃ c,env.cells.lookup y.1=some c:=fun y hy=>h y (cr _ hy);rw [nK];unfold clo
   by_cases hk:k=.free
   ·subst hk;obtain ⟨c,e⟩:=h (n,.free) bn rfl;have e':env.cells.lookup n=some c:=e
    have hc:cellOf env n=Hn c:=by
     unfold cellOf;rw [e']
    simp only [ir,kR,hc,pure_bind,e',Option.getD_some];exact ih _ hr
   ·have hb:(k == Ff)=false:=by simpa using hk
    simp only [hb,jn,oC,pure_bind];exact ih _ hr
 have q:=go scope.names [] ha;unfold closureFor;simp only [bind_pure];exact q
theorem gU{scope:Scope}{env:Env}{x:Str}:∀ {names:List (Str × zb)},
  (names.map fun(n,k)=>if (k == Ff && env.scope.kind == .function && env.kindOf n == some .cell) then (n,MT) else (n,k)).lookup x =
   (names.lookup x).map fun k=>if (k == Ff && env.scope.kind == .function && env.kindOf x == some .cell) then MT else k
 | []=>rfl
 | (n,k)::r=>by
  have ih:=@gU scope env x r;show List.lookup x ((if (k == Ff && env.scope.kind == .function && env.kindOf n == some .cell)=true then (n,MT) else (n,k))::_)=_;cases hx:x == n with
  | true=>
   have hx':x=n:=by simpa using hx
   subst hx'
   by_cases hc:(k == Ff && env.scope.kind == .function && env.kindOf x == some .cell)=true
   ·rw [dE hc];simp only [iO,hx,il,hc,kR]
   ·rw [cK hc];simp only [iO,hx,il,cK hc]
  | false=>
   by_cases hc:(k == Ff && env.scope.kind == .function && env.kindOf n == some .cell)=true
   ·rw [dE hc];simp only [iO,hx];exact ih
   ·rw [cK hc];simp only [iO,hx];exact ih
theorem jz:∀(names:List (Str × zb)) (n:Nat) (acc:List (Str × ut)),cellsFrom n names acc=cellsFrom n names []++acc
 | [],_,_=>rfl
 | (x,k)::r,n,acc=>by
  unfold cellsFrom;split
  ·rw [jz r (n+1) ((x,n)::acc),jz r (n+1) [(x,n)],kM];rfl
  ·exact jz r n acc
theorem mG:∀ {names:List (Str × zb)} {n:Nat} {x:Str} {c:ut},(x,c)∈cellsFrom n names []->(x,MT)∈names/\n<=c
 | [],_,_,_,h=>by cases h
 | (y,k)::r,n,x,c,h=>by
  unfold cellsFrom at h;split at h
  ·rename_i hk
   rw [jz] at h;rcases cw.mp h with q | q
   ·obtain ⟨h1,h2⟩:=mG q;exact⟨cr _ h1,by omega⟩
   ·cases bj.mp q;have e:k=.cell:=by simpa using hk
    rw [e];exact⟨bn,ai _⟩
  ·obtain ⟨h1,h2⟩:=mG h;exact⟨cr _ h1,h2⟩
theorem sE{α:Type}{x:Str}:∀(l m:List (Str × α)),(l++m).lookup x=(l.lookup x).or (m.lookup x)
 | [],m=>by simp
 | (k,v)::r,m=>by
  rw [List.cons_append,iO,iO];cases x == k with
  | true=>rfl
  | false=>exact sE r m
theorem Fe:∀ {names:List (Str × zb)} {x:Str} {k k':zb},(names.map (·.1)).Nodup->names.lookup x=some k->(x,k')∈names->k'=k
 | [],_,_,_,_,h,_=>by cases h
 | (y,j)::r,x,k,k',hn,h,hm=>by
  rw [de] at hn;obtain ⟨n1,n2⟩:=fh.mp hn;rw [iO] at h;rcases bz.mp hm with e | e
  ·cases e;rw [show (y == y)=true by simp] at h;exact ck h
  ·cases hx:x == y with
   | true=>
    have hx':x=y:=by simpa using hx
    subst hx';exact absurd (bu.mpr ⟨_,e,rfl⟩) n1
   | false=>
    rw [hx] at h;exact Fe n2 h e
abbrev qC(C:ut)(cells:List (Str × ut))(names:List (Str × zb)):List (Str × ut):=cellsFrom (C+1) names (clo cells names [])
theorem jA{cells:List (Str × ut)}{names:List (Str × zb)}{x:Str}{c:ut}(h:(qC C cells names).lookup x=some c) :
  ((x,c)∈cellsFrom (C+1) names []/\(x,MT)∈names/\C+1<=c)\/(clo cells names []).lookup x=some c:=by
 unfold qC at h;rw [jz,sE] at h;cases q:(cellsFrom (C+1) names []).lookup x with
 | none=>
  rw [q] at h;exact .inr h
 | some d=>
  rw [q] at h;cases h;have m:=gh q;exact .inl ⟨m,mG m⟩
theorem xG{cells:List (Str × ut)}{names:List (Str × zb)}{x:Str}(hn:(names.map (·.1)).Nodup)(h:names.lookup x=some .free):(qC C cells names).lookup x=(clo cells names []).lookup x:=by
 unfold qC;rw [jz,sE];cases q:(cellsFrom (C+1) names []).lookup x with
 | none=>rfl
 | some d=>
  have m:=(mG (gh q)).1;cases Fe hn h m
theorem Ax{M:Model}{cl:List (Str × ut)}{Q:Env->ue->Prop}
  (hQ:∀ h',h'.Ns s.heap.objs.size (fun _=>none)->‹16›->CellsOk h' ‹40› (cellsFrom ‹40› scope.names [])->
   Q { scope:=scope,locals:=s.heap.objs.size,globals:=env.globals,cells:=cellsFrom ‹40› scope.names cl,qual:=env.qual,func:=none,code:=env.code,frame:=env.frame,builtins:=env.builtins } { s with heap:=h' }) :
  uv M A (newFunctionEnv scope env.globals cl [] env.qual none .none (some env)) Q E s:=by
 simp only [newFunctionEnv,Option.isSome_some,kR];refine af (wpAny_alloc ?_);refine af (wpAny_layCells _ (fun name kind cells=>by cases hkc:kind == MT <;> simp [hkc]) _ _ _ _ ?_);have ok:=cellsFrom_ok scope.names (s.heap.push { cls:=.type "dict",data:=.dict #[] }) ‹40› [] ⟨fun _ _ hm=>(nomatch hm),List.Pairwise.nil⟩ (by rw [ie]; exact ai _);rw [ie] at ok;rw [show ({ s with heap:=s.heap.push { cls:=.type "dict",data:=.dict #[] } }:ue).heap.objs.size=s.heap.objs.size+1 from ie ..];refine af ?_;rw [rS];exact aE (aE (hQ _ ((Heap.Ns.new s.heap (.type "dict")).keeps (pushCells_keeps _ _)) (fun b o e=>pushCells_keeps _ _ b o (av _ e)) ok))
def lF(X:Cx)(scope:Scope)(cl:List (Str × ut))(N:LS)(C:ut)(s₃:ue)(H₃:Hp)(fp:LA):Cx where
 prog:=X.prog
 w:=X.w
 K:=X.K
 mg:=X.mg
 base:=X.base
 A:=X.A
 N:=N
 s₀:=s₃
 H₀:=H₃
 env:=compEnvC scope cl C X.env
 outer:=X.stack
 stack:=X.stack
 ex:=fp
 calm:=X.calm
 fn:=fun x=>scope.names.lookup x == some .cell
 pn:=[]
 xe:=fun _ _=>False
structure aK (X:Cx) (scope:Scope) (own:LS) (fr:List Nat) (N:LS):Prop where
 kind:scope.kind=.function
 nodup:(scope.names.map (·.1)).Nodup
 names:∀ y∈scope.names,y.2=.local->scope.names.lookup y.1=some .local
 free:∀ y∈scope.names,y.2=.free->X.env.kindOf y.1=some .cell\/X.env.kindOf y.1=some .free
 len:N.length=own.length+fr.length
 Qt:∀(j i:Nat),fr[j]?=some i->∃ x,N[own.length+j]?=some x/\X.N[i]?=some x/\scope.names.lookup x=some .free
 frs:∀(j:Nat) (x:Str),N[j]?=some x->j < own.length->own[j]?=some x
def frv(σ:St)(fr:List Nat):St:=fr.map fun i=>(σ[i]?).join
def PTs(X:Cx)(ifs:List Expr)(t:TT):Prop:=
 ∀(pins:LO) (s:ue) (σ:St) (H:Hp) (Q:Bool->Hp->Prop),Inv X pins σ H s->t σ H Q->
  uv ‹9› X.A (forIn ifs true fun c r=>if r=true then do let ok <- isTrue c X.env (eval c X.env); Hn (My ok) else Hn (My r)) (TP X pins σ Q) X.xe s
def R8:TT:=fun _ H Q=>Q true H
theorem bJ:PTs X [] R8:=fun _ _ _ H _ I h=>wpAny_tests_nil ⟨H,I,h⟩
theorem jJ{c:Expr}{t:TT}(h:PT X c t):PTs X [c] t:=fun pins s σ H Q I hq=>wpAny_tests_one (h pins s σ H Q I hq)
theorem zB{elt target iter:Expr}{ifs:List Expr}{it acc:sr}(I:Nat->ue->Prop)
  (turn:∀ n s,I n s->uv ‹32› A (Hc it) (fun r s₁=>match r with
   | none=>R (.ok .next) s₁
   | some v=>uv ‹32› A (Vg target it v) (fun _ s₁'=>uv ‹32› A (assign target env v) (fun _ s₂=>
     uv ‹32› A (forIn ifs true fun c r=>if r=true then do let ok <- isTrue c env (eval c env); Hn (My ok) else Hn (My r)) (fun ok s₃=>
      if ok=true then uv ‹32› A (eval elt env) (fun x s₄=>
       uv ‹32› A (call (.builtin "list.append") [acc,x]) (fun _ s₅=>∃ m,m < n/\I m s₅) (fun _ _=>False) s₄) (fun _ _=>False) s₃
      else ∃ m,m < n/\I m s₃) (fun _ _=>False) s₂) (fun _ _=>False) s₁') (fun _ _=>False) s₁) (fun _ _=>False) s)
  (n:Nat) (h:I n s) :
  HH ‹32› A (.compLoop (.ListComp elt [⟨target,iter,ifs,0⟩] scope pos) 0 it acc env) R s:=by
 refine codeAny_loop rfl I (fun n s hI=>?_) n h;show uv _ A ((compTurn (.ListComp elt [⟨target,iter,ifs,0⟩] scope pos) 0 it acc env).onRaise (fun x=>do noteFrame x env; theTreesLotGoes x)) _ _ s;refine wpAny_noted ?_;rw [compTurn_list];refine af (wpAny_standAt (af (ib (turn n s hI) (fun r s₁ h₁=>?_) fun _ _ h'=>h'.elim)));cases r with
 | none=>exact aE h₁
 | some v=>
  refine af (ib h₁ (fun _ s₁' h₁'=>?_) fun _ _ h'=>h'.elim);refine af (ib h₁' (fun _ s₂ h₂=>af (ib h₂ (fun ok s₃ h₃=>?_) fun _ _ h'=>h'.elim)) fun _ _ h'=>h'.elim);cases ok with
  | false=>exact aE ⟨rfl,h₃⟩
  | true=>
   exact af (af (ib h₃ (fun x s₄ h₄=>af (ib h₄ (fun _ s₅ h₅=>aE (aE ⟨rfl,h₅⟩)) fun _ _ h'=>h'.elim)) fun _ _ h'=>h'.elim))
section
variable {X:Cx}{scope:Scope}{own N:LS}{fr:List Nat}{pins:LO}{σ:St}{H2 H3:Hp}{s2 s3:ue}
theorem aK.clo(S:aK X scope own fr N)(ok:X.Ok):∀ y∈scope.names,y.2=.free->∃ c,X.env.cells.lookup y.1=some c:=fun y hy e=>ok.has y.1 (S.free y hy e)
theorem aK.sub(S:aK X scope own fr N)(ok:X.Ok){x:Str}{c:ut}(h:(L2.clo X.env.cells scope.names []).lookup x=some c):X.env.cells.lookup x=some c:=by
 rcases Du (S.clo ok) h with q | q
 ·exact q
 ·simp at q
theorem aK.look(S:aK X scope own fr N)(ok:X.Ok){x:Str}(h:scope.names.lookup x=some .free){cl:List (Str × ut)} :
  (compEnvC scope cl C X.env).kindOf x=some .cell\/(compEnvC scope cl C X.env).kindOf x=some .free:=by
 show ((Vf scope X.env).names.lookup x)=_\/((Vf scope X.env).names.lookup x)=_;unfold Vf;show List.lookup x (List.map _ _)=_\/List.lookup x (List.map _ _)=_;rw [gU (scope:=scope),h];simp only [il];split
 ·exact .inl rfl
 ·exact .inr rfl
theorem Fb(S:aK X scope own fr N)(I:Inv X pins σ H3 s3)(hf:∀ b∈fp,pW X pins H3 b)(hlt:∀ b∈fp,b < s3.heap.objs.size) :
  (lF X scope ‹14› N s3.heap.objs.size s3 H3 fp).Ok where
 mod:=I.ok.mod
 kind:=S.kind
 glob:=I.ok.glob
 blt:=I.ok.blt
 above:=ai _
 inj:=fun x y c h1 h2=>by
  have old:∀ {z:Str},(L2.clo X.env.cells scope.names []).lookup z=some c->c < s3.heap.objs.size:=fun {z} h=>by
   obtain ⟨v,q⟩:=I.cell z c (S.sub I.ok h);exact q.lt
  have ap:=(cellsFrom_ok scope.names (s3.heap.push { cls:=.type "dict",data:=.dict #[] }) (s3.heap.objs.size+1) [] ⟨fun _ _ hm=>(nomatch hm),List.Pairwise.nil⟩ (by rw [ie]; exact ai _)).apart;rw [ie] at ap;rcases jA h1 with ⟨m1,_,l1⟩ | q1
  ·rcases jA h2 with ⟨m2,_,_⟩ | q2
   ·exact name_of_addr ap m1 m2
   ·exact absurd (oQ l1 (old q2)) (kN _)
  ·rcases jA h2 with ⟨m2,_,l2⟩ | q2
   ·exact absurd (oQ l2 (old q1)) (kN _)
   ·exact I.ok.inj x y c (S.sub I.ok q1) (S.sub I.ok q2)
 has:=fun x hx=>by
  have hx:(Vf scope X.env).names.lookup x=some .cell\/(Vf scope X.env).names.lookup x=some .free:=hx;unfold Vf at hx;have hx:List.lookup x (scope.names.map _)=some MT\/List.lookup x (scope.names.map _)=some Ff:=hx;rw [gU (scope:=scope)] at hx;cases e:scope.names.lookup x with
  | none=>rw [e] at hx; simp at hx
  | some k=>
   have hm:=gh e;rw [e] at hx;simp only [il] at hx
   have hk:k=.free\/k=.cell:=by
    by_cases hk:k=.free
    ·exact .inl hk
    ·have hb:(k == Ff)=false:=by simpa using hk
     simp only [hb,Bool.false_and,jn,oC] at hx;rcases hx with z | z
     ·exact .inr (ck z)
     ·exact .inl (ck z)
   rcases hk with hk | hk
   ·subst hk;obtain ⟨c,q⟩:=uY (cells:=X.env.cells) (acc:=[]) hm;exact⟨c,(xG S.nodup e).trans q⟩
   ·subst hk;exact fN.mp (lj scope.names _ _ (.inl e))
 cab:=fun x c h q=>by
  have e:scope.names.lookup x=some .cell:=kA.mp h;show s3.heap.objs.size<=c;have q':‹14›.lookup x=some c:=q;unfold qC at q';rw [jz,sE] at q';obtain ⟨d,z⟩:=fN.mp (lj scope.names (s3.heap.objs.size+1) [] (.inl e));rw [z] at q';cases q';have:=(mG (gh z)).2;omega
 hd:=I.ok.hd
 frames:=I.ok.frames
 stk:=.inl rfl
 exf:=fun b hb=>⟨dm (hlt b hb),fun x c e=>by
  rcases jA e with ⟨_,_,l⟩ | q
  ·exact eR (oQ (hlt b hb) l)
  ·exact(hf b hb).2.2.2.2.1 x c (S.sub I.ok q)⟩
 bs:=I.bs
 bsz:=cS I.ok.bsz I.sz
 Hg:=fun b o e hb=>by
  rcases (hf b hb).2.2.2.1 with z | z
  ·exact I.ok.Hg b o e z
  ·exact absurd (dS (dS (cn e) I.ok.bsz) z) (kN _)
 Ir:=fun b hb hm=>by
  rcases bz.mp (I.DQ b hm) with z | z
  ·exact(hf b hb).2.1 z
  ·exact(hf b hb).2.2.1 z
 uJ:=I.stack
 frf:=I.GK
theorem Ka(S:aK X scope own fr N)(I:Inv X pins σ H3 s3)(hf:∀ b∈fp,pW X pins H3 b)(hlt:∀ b∈fp,b < s3.heap.objs.size){h1:Heap}{t:Nat}{m:MG}
  (hn:h1.Ns s3.heap.objs.size m) (hk:∀ b o,s3.heap.get? b=some o->h1.get? b=some o) (hco:CellsOk h1 (s3.heap.objs.size+1) (cellsFrom (s3.heap.objs.size+1) scope.names [])) :
  Inv (lF X scope ‹14› N s3.heap.objs.size s3 H3 fp) [] (List.replicate own.length none++frv σ fr) H3 { s3 with heap:=h1,toks:=t } where
 ok:=Fb S I hf hlt
 os:=rfl
 bare:=I.bare
 base:=Un.kept hk
 loc:=by
  refine⟨m,hn,fun j x v e1 e2 e3=>?_⟩;have e1:N[j]?=some x:=e1
  by_cases hj:j < own.length
  ·rw [ij (by simpa using hj),List.getElem?_replicate] at e2;split at e2 <;> cases e2
  ·rw [ic (by simpa using hj),lP] at e2;unfold frv at e2;rw [bg] at e2;cases ef:fr[j - own.length]? with
   | none=>rw [ef] at e2; cases e2
   | some i=>
    rw [ef] at e2;obtain ⟨x',n1,n2,n3⟩:=S.Qt _ _ ef;rw [show own.length+(j - own.length)=j by omega,e1] at n1;cases n1;have e4:(σ[i]?).join=some v:=by simpa using e2
    have e5:σ[i]?=some (some v):=by
     cases q:σ[i]? with
     | none=>rw [q] at e4; cases e4
     | some z=>rw [q] at e4; have e4:z=some v:=e4; rw [e4]
    have hfree:=S.free _ (gh n3) rfl;obtain ⟨mX,hnX,hl⟩:=I.loc
    have hv:Vis X.env.scope x:=by
     rcases hfree with z | z
     ·exact .inr (.inl z)
     ·exact .inr (.inr z)
    obtain ⟨u,r,l⟩:=hl i x v n2 e5 hv;refine⟨u,r,.inr ⟨S.look I.ok n3,?_⟩⟩;rcases l with ⟨z,_⟩ | ⟨_,c,ec,hc⟩
    ·rcases hfree with y | y
     ·rw [z] at y; cases y
     ·rw [z] at y; cases y
    ·obtain ⟨c',e'⟩:=uY (cells:=X.env.cells) (acc:=[]) (gh n3);have:=S.sub I.ok e';rw [ec] at this;cases this;exact⟨c,(xG S.nodup n3).trans e',hc.keeps hk⟩
 cell:=fun x c e=>by
  rcases jA e with ⟨mm,_,_⟩ | q
  ·exact⟨none,(hco.empty x c mm).1⟩
  ·obtain ⟨v,z⟩:=I.cell x c (S.sub I.ok q);exact⟨v,z.keeps hk⟩
 free:=I.hok.fresh (ai _)
 lR:=fun x c e=>by
  rcases jA e with ⟨_,_,l⟩ | q
  ·exact I.hok.fresh (Nat.le_of_lt l)
  ·exact I.lR x c (S.sub I.ok q)
 pin:=fun p hp=>by
  have hp:p∈([]:LO):=hp;simp at hp
 hok:=I.hok.kept hk
 len:=by
  show _=N.length;rw [S.len,bX,lP];unfold frv;rw [aa]
end
inductive uH (own:Nat) (fr:List Nat) (g:TG) (tc:TT) (te:TE) (σ:St) (Q:VK) (J:It) (D:ut) (H0:Hp):Prop
 | mk (W:Nat->Nat->LV->Hp->Prop):(∃ m,W 0 m [] H0)->(∀ i m ys H,W i m ys H->(J.stop i H/\Q (.ref D) H)\/(J.go i H/\∀ x H',J.yld i H x H'->∀ σo:St,σo.length=own->g x (σo++frv σ fr) H' fun σ2 H2=>(∃ σo':St,σo'.length=own/\σ2=σo'++frv σ fr)/\tc σ2 H2 fun b H3=>if b=true then te σ2 H3 fun y H4=>ys.length < sizeLine/\H4 D=some (.lst ys)/\∃ m',m' < m/\W (i+1) m' (ys++[y]) (upd H4 D (.lst (ys++[y]))) else ∃ m',m' < m/\W (i+1) m' ys H3))->uH own fr g tc te σ Q J D H0
def PX(own:Nat)(fr:List Nat)(wi:TI)(g:TG)(tc:TT)(te:TE):TE:=fun σ H Q=>wi σ H fun J H1=>∀ D,H1 D=none->uH own fr g tc te σ Q J D (upd H1 D (.lst []))
structure tH (X:Cx) (scope:Scope) (N:LS) (tg elt:Expr) (ifs:List Expr) (g:TG) (tc:TT) (te:TE):Prop where
 tg:∀(cl:List (Str × ut)) (C:ut) (s₃:ue) (H₃:Hp) (fp:LA),PG (lF X scope cl N C s₃ H₃ fp) tg g
 ifs:∀(cl:List (Str × ut)) (C:ut) (s₃:ue) (H₃:Hp) (fp:LA),PTs (lF X scope cl N C s₃ H₃ fp) ifs tc
 elt:∀(cl:List (Str × ut)) (C:ut) (s₃:ue) (H₃:Hp) (fp:LA),PE (lF X scope cl N C s₃ H₃ fp) elt te
section
variable {X:Cx}{scope:Scope}{own N:LS}{fr:List Nat}{tg elt iter:Expr}{ifs:List Expr}{g:TG}{tc:TT}{te:TE}{wi:TI}{pos:Pos}
theorem Ag(hc:X.calm=true)(S:aK X scope own fr N)(CP:tH X scope N tg elt ifs g tc te){s2:ue}(I2:Inv X pins σ H2 s2){tn:Nat->Heap->Prop}
  (T:Turn X.prog X.w X.K tg J fp it tn) (st2:tn 0 s2.heap) (f2:∀ b∈fp,pW X pins H2 b) {Q:VK}  {RR:sr->ut->V3->ue->Prop}
  (hw:∀ D,H2 D=none->uH own.length fr g tc te σ Q J D (upd H2 D (.lst [])))
  (hR:∀ D C s' H' m,Inv X pins σ H' s'->pW X pins H' C->s'.heap.Ns C m->Q (.ref D) H'->RR (.ref D) C (.ok .next) s') :
  uv ‹9› X.A (newList []) (fun acc s₃=>uv ‹9› X.A (newFunctionEnv scope X.env.globals (clo X.env.cells scope.names []) [] X.env.qual none .none (some X.env)) (fun cenv s₄=>
   HH ‹9› X.A (.compStart (.ListComp elt [⟨tg,iter,ifs,0⟩] scope pos) 0 (.ref it) acc { cenv with scope:=Vf scope X.env }) (RR acc cenv.locals) s₄) E s₃) E s2:=by
 have hD:H2 s2.heap.objs.size=none:=I2.hok.fresh (ai _)
 have I3:Inv X pins σ (upd H2 s2.heap.objs.size (.lst [])) { s2 with heap:=s2.heap.push { cls:=.type "list",data:=.seq ([]:LU).toArray } }:=
  I2.Qq (t':=s2.toks) (ys:=[]) (its:=[]) .nil (dk _)
 have hltf:∀ b∈fp,b < s2.heap.objs.size:=fun b hb=>by
  obtain ⟨o,e,_⟩:=T.obj _ _ st2 b hb;exact cn e
 have f3:∀ b∈fp,pW X pins (upd H2 s2.heap.objs.size (.lst [])) b:=fun b hb=>⟨by rw [aA (dm (hltf b hb))]; exact(f2 b hb).1,(f2 b hb).2⟩;obtain ⟨W,⟨m0,w0⟩,turn⟩:=hw _ hD;refine fv (Ax fun h₁ hns₁ old₁ hco₁=>?_)
 suffices main:∀ s3:ue,s3={ s2 with heap:=s2.heap.push { cls:=.type "list",data:=.seq ([]:LU).toArray } }->Inv X pins σ (upd H2 s2.heap.objs.size (.lst [])) s3->∀ m:MG,h₁.Ns s3.heap.objs.size m->
   (∀ b o,s3.heap.get? b=some o->h₁.get? b=some o)->CellsOk h₁ (s3.heap.objs.size+1) (cellsFrom (s3.heap.objs.size+1) scope.names [])->HH ‹9› X.A (.compStart (.ListComp elt [⟨tg,iter,ifs,0⟩] scope pos) 0 (.ref it) (.ref s2.heap.objs.size) (compEnvC scope ‹14› s3.heap.objs.size X.env))
    (RR (.ref s2.heap.objs.size) s3.heap.objs.size) { s3 with heap:=h₁,toks:=s3.toks } from
  main _ rfl I3 _ hns₁ old₁ hco₁
 clear hns₁ old₁ hco₁;intro s3 hH3 I3 m3 hns₁ old hco;have e3:s3.heap=s2.heap.push { cls:=.type "list",data:=.seq ([]:LU).toArray }:=by rw [hH3]
 have hs3:s2.heap.objs.size < s3.heap.objs.size:=by rw [e3,ie]; exact Nat.lt_succ_self _
 have hlt3:∀ b∈fp,b < s3.heap.objs.size:=fun b hb=>oQ (hltf b hb) hs3;have I4:=Ka S I3 f3 hlt3 (t:=s3.toks) hns₁ old hco;have ok':=Fb S I3 f3 hlt3;have st4:tn 0 h₁:=T.keep 0 s2.heap h₁ st2 fun b hb o e=>old b o (by rw [e3]; exact av _ e)
 have stat:∀ {H':Hp},(∀ b∈fp,H' b=none)->∀ b∈fp,pW (lF X scope ‹14› N s3.heap.objs.size s3 (upd H2 s2.heap.objs.size (.lst [])) fp) [] H' b:=fun {H'} hn b hb=>
  ⟨hn b hb,dm (hlt3 b hb),ok'.Ir b hb,.inl hb,(ok'.exf b hb).2,fun p hp=>by
   have hp:p∈([]:LO):=hp;simp at hp⟩
 have loop:∀ s₄:ue,s₄={ s3 with heap:=h₁,toks:=s3.toks }->
   HH ‹9› X.A (.compLoop (.ListComp elt [⟨tg,iter,ifs,0⟩] scope pos) 0 (.ref it) (.ref s2.heap.objs.size) (compEnvC scope ‹14› s3.heap.objs.size X.env))
    (RR (.ref s2.heap.objs.size) s3.heap.objs.size) s₄:=by
  rintro s₄ rfl
  refine zB (fun n s'=>∃ i ys σo H',σo.length=own.length/\Inv (lF X scope ‹14› N s3.heap.objs.size s3 (upd H2 s2.heap.objs.size (.lst [])) fp) [] (σo++frv σ fr) H' s'/\
   tn i s'.heap/\(∀ b∈fp,H' b=none)/\W i n ys H') ?_ m0 ⟨0,[],List.replicate own.length none,_,lP,I4,st4,fun b hb=>(f3 b hb).1,w0⟩
  rintro n s5 ⟨i,ys,σo,H5,hσ,I5,st5,fr5,w5⟩;rcases turn i n ys H5 w5 with ⟨stop,qn⟩ | ⟨go,step⟩
  ·refine thn (T.done (lF X scope ‹14› N s3.heap.objs.size s3 (upd H2 s2.heap.objs.size (.lst [])) fp) rfl rfl rfl hc i [] s5 (σo++frv σ fr) H5 _ I5 (stat fr5) st5 stop) fun r s6 ⟨hr,I6⟩=>?_;subst hr;obtain ⟨m,hn6,_⟩:=I6.loc;refine hR _ _ s6 H5 m (I3.call' (ch:=fp) I6.os I6.base I6.hok I6.bare fun b hb=>⟨(f3 b hb).2.2.2.1,(f3 b hb).2.1,(f3 b hb).2.2.2.2.1,(f3 b hb).2.2.2.2.2⟩) (I3.lV (ai _) I6.free) hn6 qn
  ·refine thn (T.item (lF X scope ‹14› N s3.heap.objs.size s3 (upd H2 s2.heap.objs.size (.lst [])) fp) rfl rfl rfl hc i [] s5 (σo++frv σ fr) H5 _ I5 (stat fr5) st5 go) fun r s6 ⟨u,hr,h6⟩=>?_;subst hr;refine thn h6 fun _ s7 ⟨x,H7,I7,r7,y7,st7,fr7⟩=>?_;have I7':=I7.pinned (stat fr7) (T.obj _ _ st7)
   have again:∀ {σ8:St} {H8:Hp} {s8:ue} {zs:LV},Inv (lF X scope ‹14› N s3.heap.objs.size s3 (upd H2 s2.heap.objs.size (.lst [])) fp) ([]++wK fp s7.heap) (σ8++frv σ fr) H8 s8->σ8.length=own.length->
     (∃ m',m' < n/\W (i+1) m' zs H8)->∃ m,m < n/\∃ i ys σo H',σo.length=own.length/\Inv (lF X scope ‹14› N s3.heap.objs.size s3 (upd H2 s2.heap.objs.size (.lst [])) fp) [] (σo++frv σ fr) H' s8/\
      tn i s8.heap/\(∀ b∈fp,H' b=none)/\W i m ys H':=fun {σ8 H8 s8 zs} I8 h8 ⟨m',hm,w8⟩=>by
    refine⟨m',hm,i+1,zs,σ8,H8,h8,I8.rE,T.keep _ _ _ st7 fun b hb o e=>(I8.pin (b,o) (dQ _ (dQ _ (nC hb e)))).1,fun b hb=>?_,w8⟩;obtain ⟨o,e,d⟩:=T.obj _ _ st7 b hb;exact(I8.pin (b,o) (dQ _ (dQ _ (nC hb e)))).2.1
   refine thn (CP.tg _ _ _ _ _ _ s7 _ H7 x u _ I7' r7 (step x H7 y7 σo hσ)) fun _ s8 ⟨σ8,H8,I8,⟨σo',hσ',eσ⟩,q8⟩=>?_;subst eσ;refine thn (CP.ifs _ _ _ _ _ _ s8 _ H8 _ I8 q8) fun b s9 ⟨H9,I9,q9⟩=>?_;cases b with
   | false=>
    rw [cK aS] at q9 ⊢;exact again I9 hσ' q9
   | true=>
    rw [dE rfl] at q9 ⊢;refine thn (CP.elt _ _ _ _ _ _ s9 _ H9 _ I9 q9) fun z s10 ⟨y,H10,I10,r10,hz,hD10,q10⟩=>?_
    exact thn (iz _ s10 _ H10 (.ref s2.heap.objs.size) [y] (.ref s2.heap.objs.size) [z] (fun _ H=>∃ m',m' < n/\W (i+1) m' (ys++[y]) H) I10 rfl (.cons r10 .nil) ⟨_,ys,y,rfl,rfl,hD10,hz,q10⟩)
     fun _ s11 ⟨_,H11,I11,_,q11⟩=>again I11 hσ' q11
 exact codeAny_compStart_list (loop _ rfl) (T.self _ 0 _ _ _ st4 (loop _ rfl))
theorem bI(hc:X.calm=true)(S:aK X scope own fr N)(CP:tH X scope N tg elt ifs g tc te)(hi:PI X tg iter wi)(hs:∀ x,foldedSetIterable iter X.env x=Hn x:=by intro _; rfl) :
  PE X (.ListComp elt [⟨tg,iter,ifs,0⟩] scope pos) (PX own.length fr wi g tc te):=by
 exists 12;rw [eval_ListComp];refine wpAny_comprehension_free (use:=none) (g:=⟨tg,iter,ifs,0⟩) (gs:=[]) rfl hs (vM (S.clo I.ok)) S.kind S.names (thn (hi pins s σ H _ I h) fun v s1 h1=>thn h1 fun itv s2 h2=>?_);obtain ⟨it,fp,tn,J,H2,e,I2,T,st2,f2,hw⟩:=h2;subst e
 exact Ag (RR:=fun acc C=>compPost ‹9› X.A X.xe none (EP X pins σ Q) acc C) hc S CP I2 T st2 f2 hw fun D C s' H' m I' fC hn q=>
  ⟨m,hn,fun h' hb=>⟨.ref D,H',I'.turned (t':=s'.toks) (fun b o hne e=>hb.extBut b o hne e) fC.1 fC.2.1 fC.2.2.2.1 fC.2.2.2.2.1 fC.2.2.2.2.2,rfl,q⟩⟩
theorem j8{x:Str}{posc pos':Pos}(hc:X.calm=true)(hN:X.N.Nodup)(hi':X.N[i]?=some x)(hx:Loc X.env.scope x)(S:aK X scope own fr N)(CP:tH X scope N tg elt ifs g tc te)(hi:PI X tg iter wi)
  (hsw:swapsWith (.ListComp elt [⟨tg,iter,ifs,0⟩] scope posc) (some (.Name x pos')) pos.line X.env=Hn true:=by rfl)
  (hf:X.fn x=true\/X.env.scope.names.lookup x=some .local:=by first | exact .inl rfl | exact .inr rfl | assumption) (hs:∀ x,foldedSetIterable iter X.env x=Hn x:=by intro _; rfl) :
  PS X (.Assign [.Name x pos'] (.ListComp elt [⟨tg,iter,ifs,0⟩] scope posc) pos) (Qp (PX own.length fr wi g tc te) (Gq i)):=by
 intro pins s σ H D I h;rw [exec_Assign_Name_used _ _ _ _ hsw];refine af (wpAny_standAt (af ?_));show uv _ X.A (do let _ <- comprehension (.ListComp elt [⟨tg,iter,ifs,0⟩] scope posc) scope X.env _ (newList []) false (eval iter X.env) (some (assign (.Name x pos') X.env))) _ _ s
 refine af (ib (wpAny_comprehension_free (use:=some (assign (.Name x pos') X.env)) (g:=⟨tg,iter,ifs,0⟩) (gs:=[]) (Q:=fun _ s'=>SP X pins D .next s') rfl hs (vM (S.clo I.ok)) S.kind S.names
  (thn (hi pins s σ H _ I h) fun v s1 h1=>thn h1 fun itv s2 h2=>?_)) (fun _ _ q=>aE (aE q)) fun _ _ e=>e)
 obtain ⟨it,fp,tn,J,H2,e,I2,T,st2,f2,hw⟩:=h2;subst e;refine Ag (Q:=fun x H1=>Gq i x σ H1 D.nx) (RR:=fun acc C=>compPost ‹9› X.A X.xe (some (assign (.Name x pos') X.env)) (fun _ s'=>SP X pins D .next s') acc C) hc S CP I2 T st2 f2 hw fun Dd C s' H' m I' fC hn q=>?_;refine wpAny_assign_Name (yx I' hN hi' hx (show RelV (.ref Dd) (.ref Dd) from rfl) (fun s'' I'' ⟨a,hsb,ha⟩=>?_) hf)
 have hCa:C≠a:=by
  rcases ha with z | z
  ·rw [z]; exact fC.2.1
  ·exact fun e=>fC.2.2.2.2.1 x a z e.symm
 refine⟨m,hn.sameBut hsb hCa,fun h' hb=>?_⟩;exact⟨_,H',I''.turned (t':=s''.toks) (fun b o hne e=>hb.extBut b o hne e) fC.1 fC.2.1 fC.2.2.2.1 fC.2.2.2.2.1 fC.2.2.2.2.2,q⟩
end
inductive T where
 | non | int (i:Int) | str (x:Str) | tup (ts:List T)
mutual
def Dp(H:Hp):T->V->Prop
 | .non,v=>v=V.non
 | .int i,v=>v=V.int i
 | .str x,v=>v=V.str x
 | .tup ts,v=>∃ a xs,v=V.ref a/\H a=some (.tup xs)/\DpL H ts xs
def DpL(H:Hp):List T->LV->Prop
 | [],xs=>xs=[]
 | t::ts,xs=>∃ x r,xs=x::r/\Dp H t x/\DpL H ts r
end
def dH(H H':Hp):Prop:=∀ a xs,H a=some (.tup xs)->H' a=some (.tup xs)
theorem dH.refl(H:Hp):dH H H:=fun _ _ h=>h
theorem dH.trans(a:dH H H1)(b:dH H1 H2):dH H H2:=fun c o h=>b c o (a c o h)
theorem Same.tups(h:Same H H'):dH H H':=fun a xs e=>h a _ e
abbrev V9:=@Same.tups
mutual
theorem Dp.mono{H H':Hp}(h:dH H H'):∀ {t:T} {v:V},Dp H t v->Dp H' t v
 | .non,_,e=>by rw [Dp] at e ⊢; exact e
 | .int _,_,e=>by rw [Dp] at e ⊢; exact e
 | .str _,_,e=>by rw [Dp] at e ⊢; exact e
 | .tup ts,v,e=>by
  rw [Dp] at e ⊢;obtain ⟨a,xs,e,ha,hl⟩:=e;exact⟨a,xs,e,h a xs ha,DpL.mono h hl⟩
theorem DpL.mono{H H':Hp}(h:dH H H'):∀ {ts:List T} {xs:LV},DpL H ts xs->DpL H' ts xs
 | [],_,e=>by rw [DpL] at e ⊢; exact e
 | t::ts,xs,e=>by
  rw [DpL] at e ⊢;obtain ⟨x,r,e,h1,h2⟩:=e;exact⟨x,r,e,Dp.mono h h1,DpL.mono h h2⟩
end
theorem DpL.nil:DpL H [] []:=by rw [DpL]
theorem DpL.cons{H:Hp}{t:T}{ts:List T}{x:V}{xs:LV}(h:Dp H t x)(r:DpL H ts xs):DpL H (t::ts) (x::xs):=by
 rw [DpL];exact⟨x,xs,rfl,h,r⟩
theorem DpL.cases{t:T}{ts:List T}(h:DpL H (t::ts) xs):∃ x r,xs=x::r/\Dp H t x/\DpL H ts r:=by
 rw [DpL] at h;exact h
abbrev Wa:=@DpL.cases
theorem DpL.ni(h:DpL H [] xs):xs=[]:=by
 rw [DpL] at h;exact h
theorem Dp.int(i:Int):Dp H (.int i) (.int i):=by rw [Dp]
theorem Dp.str(x:Str):Dp H (.str x) (.str x):=by rw [Dp]
theorem Dp.oN{i:Int}(h:Dp H (.int i) v):v=.int i:=by
 rw [Dp] at h;exact h
theorem Dp.jm{x:Str}(h:Dp H (.str x) v):v=.str x:=by
 rw [Dp] at h;exact h
theorem Dp.eV{ts:List T}(h:Dp H (.tup ts) v):∃ a xs,v=V.ref a/\H a=some (.tup xs)/\DpL H ts xs:=by
 rw [Dp] at h;exact h
theorem Dp.tup{H:Hp}{ts:List T}{a:ut}{xs:LV}(h:H a=some (.tup xs))(r:DpL H ts xs):Dp H (.tup ts) (.ref a):=by
 rw [Dp];exact⟨a,xs,rfl,h,r⟩
theorem DpL.length{H:Hp}:∀ {ts:List T} {xs:LV},DpL H ts xs->xs.length=ts.length
 | [],xs,h=>by rw [h.ni]; rfl
 | t::ts,xs,h=>by
  obtain ⟨x,r,rfl,_,h2⟩:=h.cases;rw [dA,dA,h2.length]
theorem DpL.get{H:Hp}:∀ {ts:List T} {xs:LV} {i:Nat} {t:T},DpL H ts xs->ts[i]?=some t->∃ x,xs[i]?=some x/\Dp H t x
 | [],_,_,_,_,e=>by simp at e
 | t::ts,xs,0,t',h,e=>by
  obtain ⟨x,r,rfl,h1,_⟩:=h.cases;simp at e;subst e;exact⟨x,rfl,h1⟩
 | t::ts,xs,i+1,t',h,e=>by
  obtain ⟨x,r,rfl,_,h2⟩:=h.cases;obtain ⟨y,e1,e2⟩:=h2.get (i:=i) (t:=t') (by simpa using e);exact⟨y,by simpa using e1,e2⟩
theorem DpL.append{H:Hp}:∀ {ts us:List T} {xs ys:LV},DpL H ts xs->DpL H us ys->DpL H (ts++us) (xs++ys)
 | [],_,xs,_,h,g=>by rw [h.ni]; exact g
 | t::ts,us,xs,ys,h,g=>by
  obtain ⟨x,r,rfl,h1,h2⟩:=h.cases;exact .cons h1 (h2.append g)
theorem DpL.strs{H:Hp}:∀(ns:LS),DpL H (ns.map T.str) ‹31›
 | []=>.nil
 | n::ns=>.cons (Dp.str n) (DpL.strs ns)
abbrev Wb:=@DpL.strs
theorem DpL.jx{H:Hp}:∀ {ns:LS} {xs:LV},DpL H (ns.map T.str) xs->xs=ns.map V.str
 | [],_,h=>h.ni
 | n::ns,xs,h=>by
  obtain ⟨x,r,rfl,h1,h2⟩:=Wa (t:=T.str n) (ts:=ns.map T.str) h;rw [h1.jm,DpL.jx h2];rfl
mutual
theorem Dp.fn{H:Hp}:∀ {t t':T} {v:V},Dp H t v->Dp H t' v->t=t'
 | .non,t',v,h,g=>by
  rw [Dp] at h;subst h;cases t' <;> rw [Dp] at g
  all_goals first | rfl | (cases g; done) | (obtain ⟨_,_,e,_⟩:=g; cases e)
 | .int i,t',v,h,g=>by
  rw [Dp] at h;subst h;cases t' <;> rw [Dp] at g
  all_goals first | (cases g; rfl) | (cases g; done) | (obtain ⟨_,_,e,_⟩:=g; cases e)
 | .str i,t',v,h,g=>by
  rw [Dp] at h;subst h;cases t' <;> rw [Dp] at g
  all_goals first | (cases g; rfl) | (cases g; done) | (obtain ⟨_,_,e,_⟩:=g; cases e)
 | .tup ts,t',v,h,g=>by
  obtain ⟨a,xs,rfl,ha,hl⟩:=h.eV;cases t' with
  | tup us=>
   obtain ⟨b,ys,e,hb,gl⟩:=g.eV;cases e;rw [ha] at hb;cases hb;rw [DpL.fn hl gl]
  | _=>rw [Dp] at g; cases g
theorem DpL.fn{H:Hp}:∀ {ts us:List T} {xs:LV},DpL H ts xs->DpL H us xs->ts=us
 | [],us,xs,h,g=>by
  have e:=h.ni;subst e;cases us with
  | nil=>rfl
  | cons u us=>
   obtain ⟨_,_,e,_⟩:=g.cases;cases e
 | t::ts,us,xs,h,g=>by
  obtain ⟨x,r,rfl,h1,h2⟩:=h.cases;cases us with
  | nil=>
   have e:=g.ni;cases e
  | cons u us=>
   obtain ⟨_,_,e,g1,g2⟩:=g.cases;cases e;rw [Dp.fn h1 g1,DpL.fn h2 g2]
end
def Lv:Nat->T->Prop
 | _,.non=>True
 | _,.int _=>True
 | _,.str _=>True
 | 0,.tup _=>False
 | n+1,.tup ts=>∀ t∈ts,Lv n t
noncomputable def dcd (p:Prop):Bool:=@decide p (HQ p)
theorem dR{p:Prop}(h:p):dcd p=true:=@bo p (HQ p) h
theorem bD{p:Prop}(h:¬ p):dcd p=false:=@bE p (HQ p) h
theorem lQ{p:Prop}:dcd p=true↔p:=⟨fun h=>@eA p (HQ p) h,dR⟩
theorem kW{p q:Prop}(h:p↔q):dcd p=dcd q:=by rw [propext h]
theorem rA{p:Prop}{b:Bool}(h:b=true↔p):b=dcd p:=by
 by_cases hp:p
 ·rw [dR hp];exact h.mpr hp
 ·rw [bD hp];cases b with
  | false=>rfl
  | true=>exact absurd (h.mp rfl) hp
section
variable {X:Cx}{pins:LO}{σ:St}{H:Hp}{s:ue}
theorem iy(I:Inv X pins σ H s)(h:H a=some (.tup xs)):∃ its:LU,Vals xs its/\s.heap.IsTuple a its.toArray:=by
 obtain ⟨its,r,p,_⟩:=I.tuple (V7 h);exact⟨its,r,p⟩
theorem QJ(I:Inv X pins σ H s):∀(n:Nat) (A:xf) (t1 t2:T) (v1 v2:V) (u1 u2:sr),Lv n t1->A.units+n < cLine->Dp H t1 v1->Dp H t2 v2->RelV v1 u1->RelV v2 u2->xm A s u1 u2 (dcd (t1=t2)):=by
 have flat:∀(A:xf) (t1 t2:T) (v1 v2:V) (u1 u2:sr),pF v1=true->pF v2=true->Dp H t1 v1->Dp H t2 v2->RelV v1 u1->RelV v2 u2->eqV v1 v2=dcd (t1=t2)->xm A s u1 u2 (dcd (t1=t2)):=
  fun A t1 t2 v1 v2 u1 u2 f1 f2 _ _ r1 r2 e=>by
   rw [<- e];exact Kp r1 r2 f1 f2
 intro n
 induction n with
 | zero=>
  intro A t1 t2 v1 v2 u1 u2 hn hu d1 d2 r1 r2;have hu0:A.units < cLine:=by omega
  cases t1 with
  | tup ts=>exact(show False from hn).elim
  | non=>
   rw [Dp] at d1;subst d1;cases t2 with
   | tup us=>
    obtain ⟨b,ys,rfl,hb,_⟩:=d2.eV;obtain ⟨its,r,p⟩:=iy I hb;cases r1;cases r2;rw [bD (by intro h; cases h)];exact xm.none_tuple p hu0
   | non=>rw [Dp] at d2; subst d2; exact flat A _ _ _ _ _ _ rfl rfl (by rw [Dp]) (by rw [Dp]) r1 r2 (dR rfl).symm
   | int j=>rw [Dp] at d2; subst d2; exact flat A _ _ _ _ _ _ rfl rfl (by rw [Dp]) (by rw [Dp]) r1 r2 (bD (by intro h; cases h)).symm
   | str j=>rw [Dp] at d2; subst d2; exact flat A _ _ _ _ _ _ rfl rfl (by rw [Dp]) (by rw [Dp]) r1 r2 (bD (by intro h; cases h)).symm
  | int i=>
   rw [Dp] at d1;subst d1;cases t2 with
   | tup us=>
    obtain ⟨b,ys,rfl,hb,_⟩:=d2.eV;obtain ⟨its,r,p⟩:=iy I hb;obtain ⟨t,rfl⟩:=r1;cases r2;rw [bD (by intro h; cases h)];exact xm.int_tuple i t p hu0
   | non=>rw [Dp] at d2; subst d2; exact flat A _ _ _ _ _ _ rfl rfl (by rw [Dp]) (by rw [Dp]) r1 r2 (bD (by intro h; cases h)).symm
   | int j=>
    rw [Dp] at d2;subst d2;exact flat A _ _ _ _ _ _ rfl rfl (by rw [Dp]) (by rw [Dp]) r1 r2 (rA (by show (i == j)=true↔_; rw [kA]; exact⟨fun h=>by rw [h],fun h=>by cases h; rfl⟩))
   | str j=>rw [Dp] at d2; subst d2; exact flat A _ _ _ _ _ _ rfl rfl (by rw [Dp]) (by rw [Dp]) r1 r2 (bD (by intro h; cases h)).symm
  | str i=>
   rw [Dp] at d1;subst d1;cases t2 with
   | tup us=>
    obtain ⟨b,ys,rfl,hb,_⟩:=d2.eV;obtain ⟨its,r,p⟩:=iy I hb;obtain ⟨t,rfl⟩:=r1;cases r2;rw [bD (by intro h; cases h)];exact xm.str_tuple i t p hu0
   | non=>rw [Dp] at d2; subst d2; exact flat A _ _ _ _ _ _ rfl rfl (by rw [Dp]) (by rw [Dp]) r1 r2 (bD (by intro h; cases h)).symm
   | int j=>rw [Dp] at d2; subst d2; exact flat A _ _ _ _ _ _ rfl rfl (by rw [Dp]) (by rw [Dp]) r1 r2 (bD (by intro h; cases h)).symm
   | str j=>
    rw [Dp] at d2;subst d2;exact flat A _ _ _ _ _ _ rfl rfl (by rw [Dp]) (by rw [Dp]) r1 r2 (rA (by show (i == j)=true↔_; rw [kA]; exact⟨fun h=>by rw [h],fun h=>by cases h; rfl⟩))
 | succ n ih=>
  intro A t1 t2 v1 v2 u1 u2 hn hu d1 d2 r1 r2;cases t1 with
  | non=>exact(ih A .non t2 v1 v2 u1 u2 (by cases n <;> trivial) ‹26› d1 d2 r1 r2)
  | int i=>exact(ih A (.int i) t2 v1 v2 u1 u2 (by cases n <;> trivial) ‹26› d1 d2 r1 r2)
  | str i=>exact(ih A (.str i) t2 v1 v2 u1 u2 (by cases n <;> trivial) ‹26› d1 d2 r1 r2)
  | tup ts=>
   have hn:∀ t∈ts,Lv n t:=hn;have hu0:A.units < cLine:=by omega
   obtain ⟨a,xs,rfl,ha,hl⟩:=d1.eV;obtain ⟨its,r,p⟩:=iy I ha;cases r1;cases t2 with
   | non=>
    rw [Dp] at d2;subst d2;cases r2;rw [bD (by intro h; cases h)];exact xm.tuple_none p hu0
   | int j=>
    rw [Dp] at d2;subst d2;obtain ⟨t,rfl⟩:=r2;rw [bD (by intro h; cases h)];exact xm.tuple_int j t p hu0
   | str j=>
    rw [Dp] at d2;subst d2;obtain ⟨t,rfl⟩:=r2;rw [bD (by intro h; cases h)];exact xm.tuple_str j t p hu0
   | tup us=>
    obtain ⟨b,ys,rfl,hb,gl⟩:=d2.eV;obtain ⟨its2,q,p2⟩:=iy I hb;cases r2
    by_cases hab:a=b
    ·subst hab;rw [ha] at hb;cases hb;rw [dR (by rw [DpL.fn hl gl])];exact xm.same _
    ·have l1:its.toArray.size=ts.length:=by rw [cf,<- r.length,hl.length]
     have l2:its2.toArray.size=us.length:=by rw [cf,<- q.length,gl.length]
     have key:=Vl.tuples (A:=A) (s:=s) (e:=fun j=>dcd (ts[j]?=us[j]?)) p p2 hu0 (fun j h1 h2=>by
      have j1:j < ts.length:=by omega
      have j2:j < us.length:=by omega
      have e1:ts[j]?=some ts[j]:=ae j1;have e2:us[j]?=some us[j]:=ae j2;obtain ⟨x1,f1,g1⟩:=hl.get e1;obtain ⟨x2,f2,g2⟩:=gl.get e2;obtain ⟨w1,k1,m1⟩:=r.get f1;obtain ⟨w2,k2,m2⟩:=q.get f2
      have n1:its.toArray[j]=w1:=by
       have:its.toArray[j]?=some w1:=by simpa using k1
       rw [eW h1] at this;exact ck this
      have n2:its2.toArray[j]=w2:=by
       have:its2.toArray[j]?=some w2:=by simpa using k2
       rw [eW h2] at this;exact ck this
      rw [n1,n2];have:=ih A.in1 ts[j] us[j] x1 x2 w1 w2 (hn _ (bS j1)) (by show A.units+1+n < cLine; omega) g1 g2 m1 m2;rw [show dcd (ts[j]?=us[j]?)=dcd (ts[j]=us[j]) from kW (by rw [e1,e2]; exact⟨fun h=>ck h,fun h=>by rw [h]⟩)];exact this)
     have fin:=xm.of_refs hab key
     have ee:((List.range (min its.toArray.size its2.toArray.size)).all (fun j=>dcd (ts[j]?=us[j]?)) && its.toArray.size == its2.toArray.size)=dcd (T.tup ts=T.tup us):=by
      refine rA ?_;rw [l1,l2,eK,cz,kA];constructor
      ·rintro ⟨h1,h2⟩
       have:ts=us:=by
        apply me;intro j
        by_cases hj:j < ts.length
        ·exact lQ.mp (h1 j (fR.mpr ‹26›))
        ·rw [fc ‹26›,fc ‹26›]
       rw [this]
      ·intro h;cases h;exact⟨fun j _=>dR rfl,rfl⟩
     rw [ee] at fin;exact fin
end
section
variable {X:Cx}
end
section
variable {X:Cx}
inductive Tq (x:V) (lo:Option Int) (hi:Option Int) (H:Hp) (Q:VK):Prop
 | mk (z:_):x=.str z->z.length<=sizeLine->Q (.str (ym z lo hi)) H->Tq x lo hi H Q
theorem lE:SlR X Tq:=by
 intro pins s σ H x v vl vu lo hi sl Q I rx hs pl pu h;obtain ⟨z,rfl,hz,q⟩:=h;exists 16;obtain ⟨o,ho,hc,hd⟩:=hs;have fin:∀ (t':Tok) (k:Nat),EP X pins σ Q (.str (ym z lo hi) t') { s with toks:=k }:=fun t' k=>⟨.str _,H,I.tok k,⟨_,rfl⟩,q⟩;refine⟨"str",_,F.slot_str_getitem.lookup,rL _ _ _,?_⟩;cases pl with
 | none=>
  cases pu with
  | none=>exact kS (l:=none) (u:=none) (st:=none) ⟨o,ho,hc,hd⟩ rfl (qv ⟨cS (rf z _ _) hz,fin⟩)
  | int j uj=>exact kS (l:=none) (u:=some (j,uj)) (st:=none) ⟨o,ho,hc,hd⟩ rfl (qv ⟨cS (rf z _ _) hz,fin⟩)
 | int i ui=>
  cases pu with
  | none=>exact kS (l:=some (i,ui)) (u:=none) (st:=none) ⟨o,ho,hc,hd⟩ rfl (qv ⟨cS (rf z _ _) hz,fin⟩)
  | int j uj=>exact kS (l:=some (i,ui)) (u:=some (j,uj)) (st:=none) ⟨o,ho,hc,hd⟩ rfl (qv ⟨cS (rf z _ _) hz,fin⟩)
inductive Px (K:PySem.W.Frag) (Q:VK) (x:V) (y:V) (H2:Hp):Prop
 | mk (a xs i:_):x=.ref a->y=.int i->SqL K H2 a xs->((i=1/\∀ p,H2 p=none->Q (.ref p) (upd H2 p (.lst xs)))\/(i=-1/\∀ p,H2 p=none->Q (.ref p) (upd H2 p (.lst xs.reverse))))->Px K Q x y H2
def T9(K:PySem.W.Frag)(te tk:TE):TE:=fun σ H Q=>te σ H fun x H1=>tk σ H1 fun y H2=>Px K Q x y H2
theorem Ma(its:LU):VR its.toArray none none (some 1)=its.toArray:=by
 have e:VR its.toArray none none (some 1)=VR its.toArray none none none:=rfl;rw [e,qG];simp [HT.sIx]
theorem Js{e k:Expr}{tk:TE}{p2:Pos}(he:PE X e te)(hk:PE X k tk):PE X (.Subscript e (.Slice none none (some k) p2) pos) (T9 X.K te tk):=by
 exists 12;refine Subscript_ (thn (he pins s σ H _ I h) fun v s1 ⟨x,H1,I1,r1,q1⟩=>?_);refine wpAny_Slice ?_;rw [evalPart_none];refine aE ?_;refine aE ?_;rw [evalPart_some];refine thn (hk pins s1 σ H1 _ I1 q1) fun vk s3 ⟨y,H3,I3,r3,q3⟩=>?_;obtain ⟨a,xs,i,rfl,rfl,hq,q⟩:=q3;cases r1;obtain ⟨t,rfl⟩:=r3;have I4:Inv X pins σ H3 { s3 with heap:=s3.heap.push { cls:=.type "slice",data:=.fields #[.none,.none,.int i t] } }:=I3.kept (t':=s3.toks) fun b ob q=>av _ q;obtain ⟨its,r,ht,hz⟩:=I4.list hq;have hlen:its.toArray.size=xs.length:=by rw [cf]; exact r.length.symm
 show uv ‹9› X.A (Vt e (.Slice none none (some k) p2) (.ref a) (.ref s3.heap.objs.size)) (EP X pins σ Q) X.xe { s3 with heap:=s3.heap.push { cls:=.type "slice",data:=.fields #[.none,.none,.int i t] } }
 have fin:∀ ys:LV,ys.length<=sizeLine->∀ jts:LU,Vals ys jts->(∀ p,H3 p=none->Q (.ref p) (upd H3 p (.lst ys)))->
   EP X pins σ Q (.ref (s3.heap.push { cls:=.type "slice",data:=.fields #[.none,.none,.int i t] }).objs.size)
    { s3 with heap:=(s3.heap.push { cls:=.type "slice",data:=.fields #[.none,.none,.int i t] }).push { cls:=.type "list",data:=.seq jts.toArray } }:=fun ys hy jts rj hQ=>
  ⟨.ref _,_,I4.Qq (t':=s3.toks) rj hy,rfl,hQ _ I4.fresh⟩
 rcases q with ⟨rfl,q⟩ | ⟨rfl,q⟩
 ·refine tail_any (ops:=[.ref a,.ref s3.heap.objs.size]) ht.isList.typeIs oP.lookup (nr ht.isList (Heap.IsSliceOf.new ..) .none .none (.int 1 t) ‹6› ?_ (by rw [hlen]; exact hz)) ‹29›;rw [Ma];exact fin xs hz its r q
 ·refine tail_any (ops:=[.ref a,.ref s3.heap.objs.size]) ht.isList.typeIs oP.lookup (nr ht.isList (Heap.IsSliceOf.new ..) .none .none (.int (-1) t) ‹6› ?_ (by rw [hlen]; exact hz)) ‹29›;rw [PySem.W.krv_pick,List.toList_toArray];exact fin xs.reverse (by rw [List.length_reverse]; exact hz) its.reverse r.reverse q
end
open AutoSeq1 (wpAny_loadPart') in
open MeetsSeq MeetsSeq2 MeetsSeq3 SeqRoads2 SeqAt in
section
variable {prog:uC}{w:ww}{A:xf}{E:ES}{s:ue}
theorem nW{x:sr}(hit:s.heap.IsTupleIter it t i)(ht:s.heap.IsTuple t items)(hx:items[i]?=some x)
  (hQ:∀ h',h'.IsTupleIter it t (i+1)->Heap.SameBut it s.heap h'->Q x { s with heap:=h' }):uv ‹32› A (yz (.ref it)) Q E s:=by
 obtain ⟨ob,e1,e2,e3⟩:=id hit;obtain ⟨ot,g1,_,nn,g2⟩:=ht;unfold yz;refine af (eT (name:=Str.ofString "__next__") hit.typeIs kB (eM kB hit.typeIs F.entry_tuple_iterator_next ?_ (F.args_tuple_iterator_next_1 _)));show uv _ _ (Vy (.ref it) 0 >>= _) _ _ s; refine af (ff e1 e3 (x:=.ref t) rfl ?_);show uv _ _ (if (zg t == xF)=true then _ else _) _ _ s; rw [cK (show ¬ ((zg t == xF)=true) from aS)];show uv _ _ (Vy (.ref it) 1 >>= _) _ _ s; refine af (ff e1 e3 (x:=.int i 0) rfl ?_);show uv _ _ (seqItems? (.ref t) >>= _) _ _ s; refine af (iE g1 g2 ?_);simp only [ii,hx];refine af (kT e1 e3 ‹45› (aE ⟨x,rfl,aE (hQ _ ⟨_,ia _ e1 (kF (ik e3 _)),(oS ..).trans e2,?_⟩ (iA ..))⟩));rw [ik e3]; simp [rawInt]
theorem tK(hh:A.handled=none)(hit:s.heap.IsTupleIter it t i)(ht:s.heap.IsTuple t items)(hx:items[i]?=none)
  (hE:∀ h' e,Heap.ExtBut it s.heap h'->(∃ o,h'.get? e=some o/\o.cls=.type "StopIteration")->E (.ref e) { s with heap:=h' }):uv ‹32› A (yz (.ref it)) Q E s:=by
 obtain ⟨ob,e1,e2,e3⟩:=id hit;obtain ⟨ot,g1,_,nn,g2⟩:=ht;unfold yz;refine af (eT (name:=Str.ofString "__next__") hit.typeIs kB (eM kB hit.typeIs F.entry_tuple_iterator_next ?_ (F.args_tuple_iterator_next_1 _)));show uv _ _ (Vy (.ref it) 0 >>= _) _ _ s; refine af (ff e1 e3 (x:=.ref t) rfl ?_);show uv _ _ (if (zg t == xF)=true then _ else _) _ _ s; rw [cK (show ¬ ((zg t == xF)=true) from aS)];show uv _ _ (Vy (.ref it) 1 >>= _) _ _ s; refine af (ff e1 e3 (x:=.int i 0) rfl ?_);show uv _ _ (seqItems? (.ref t) >>= _) _ _ s; refine af (iE g1 g2 ?_);simp only [ii,hx];refine af (jp (af (kT e1 e3 ‹45› ?_)));show uv _ _ (newExc (.type "StopIteration") [] >>= _) _ _ _; refine af ?_;simp only [newExc,newTuple]; refine af (fv ?_ (by size_fits));refine af (m:=Vm _ _) (jI (a:=xF) (by first | rfl | (simp only [Vm]; rfl)) ?_);refine fv ?_ (by size_fits); simp only [raiseNew]; refine af (wpAny_handled ?_)
 first | rw [show A.in1.handled=none from hh] | rw [hh]
 refine af (aE (wpAny_throw (hE _ _ (((iA ..).extBut.push _).push _) ⟨_,bb _ rfl,rfl⟩)))
structure ZA (z TI TO i1 i2 t1 t2:ut):Prop where
 a1:TI≠z
 a2:TO≠z
 a3:i1≠z
 a4:i2≠z
 a5:TI≠TO
 a6:TI≠i1
 a7:TI≠i2
 a8:TO≠i1
 a9:TO≠i2
 b1:i1≠i2
 b2:t1≠z
 b3:t1≠TO
 b4:t1≠i1
 b5:t1≠i2
 b6:t2≠z
 b7:t2≠TO
 b8:t2≠i1
 b9:t2≠i2
theorem Hs{TI TO:ut}{k:Nat}{xs ys:AV}{x y a b:sr}(D:ZA z TI TO i1 i2 t1 t2)
  (hz:Vn s.heap z TI TO .none) (hTI:O3 s.heap TI (.ref i1) (.ref i2)) (hTO:O3 s.heap TO a b) (h1:s.heap.IsTupleIter i1 t1 k) (h2:s.heap.IsTupleIter i2 t2 k)
  (hl1:s.heap.IsTuple t1 xs) (hl2:s.heap.IsTuple t2 ys) (hx:xs[k]?=some x) (hy:ys[k]?=some y)
  (hQ:∀ h',Vn h' z TI TO (rawInt s.heap.objs.size)->O3 h' TO x y->h'.IsTupleIter i1 t1 (k+1)->h'.IsTupleIter i2 t2 (k+1)->O3 h' s.heap.objs.size x y->
   (∀ c o,c≠z->c≠TO->c≠i1->c≠i2->s.heap.get? c=some o->h'.get? c=some o)->Q ‹22› { s with heap:=h' }) :
  uv ‹32› A (uB.«zip.__next__» ⟨[.ref z],[]⟩) (fun fin s'=>∃ v,fin=.done (.ret v)/\Q v s') E s:=by
 show uv _ _ (Vy (.ref z) 2 >>= _) _ _ _; refine af (ff hz rfl (x:=.bool false) rfl ?_);show uv _ _ (Vy (.ref z) 3 >>= _) _ _ _; refine af (ff hz rfl (x:=.ref TI) rfl (af (iE hTI rfl ?_)));show uv _ _ (xn (.ref z) >>= _) _ _ _;unfold xn;refine af (af (ff hz rfl (x:=.none) rfl (aE ?_)));simp only [kR];refine af (jp (af (ff hz rfl (x:=.ref TO) rfl (af (fS hz ‹45› fun g1 z1 q1=>?_)))))
 replace z1:Vn g1 z TI TO .ellipsis:=z1
 simp only [List.zipIdx_cons,List.zipIdx_nil,nK,rS];refine af (af (af (qi ?_)));show uv _ _ (yz (.ref i1) >>= _) _ _ _;refine af (nW (h1.extBut q1.extBut D.a3) (hl1.extBut q1.extBut D.b2) hx fun g2 j2 q2=>aE ?_);have p2:O3 g2 TO a b:=q2.extBut _ _ D.a8 (q1.extBut _ _ D.a2 hTO);refine af (iE p2 rfl (af (qk p2 fun g3 p3 q3=>af (si (aE ?_)))))
 replace p3:O3 g3 TO x b:=p3
 refine af (af (qi ?_));show uv _ _ (yz (.ref i2) >>= _) _ _ _;refine af (nW (((h2.extBut q1.extBut D.a4).extBut q2.extBut D.b1.symm).extBut q3.extBut D.a9.symm) (((hl2.extBut q1.extBut D.b6).extBut q2.extBut D.b8).extBut q3.extBut D.b7) hy fun g4 j4 q4=>aE ?_);have p4:O3 g4 TO x b:=q4.extBut _ _ D.a9 p3;refine af (iE p4 rfl (af (qk p4 fun g5 p5 q5=>af (si (aE (aE ?_))))))
 replace p5:O3 g5 TO x y:=p5
 refine af (iE p5 rfl (af (wpAny_newTuple ?_)));have sz:g5.objs.size=s.heap.objs.size:=by rw [q5.1,q4.1,q3.1,q2.1,q1.1]
 have z5:Vn g5 z TI TO .ellipsis:=q5.extBut _ _ D.a2.symm (q4.extBut _ _ D.a4.symm (q3.extBut _ _ D.a2.symm (q2.extBut _ _ D.a3.symm z1)));have k5:∀ c o,c≠z->c≠TO->c≠i1->c≠i2->s.heap.get? c=some o->g5.get? c=some o:=fun c o c1 c2 c3 c4 e=>q5.extBut _ _ c2 (q4.extBut _ _ c4 (q3.extBut _ _ c2 (q2.extBut _ _ c3 (q1.extBut _ _ c1 e))));have j5:g5.IsTupleIter i1 t1 (k+1):=((j2.extBut q3.extBut D.a8.symm).extBut q4.extBut D.b1).extBut q5.extBut D.a8.symm;have l5:g5.IsTupleIter i2 t2 (k+1):=j4.extBut q5.extBut D.a9.symm;have zl:z < g5.objs.size:=cn z5;show uv _ _ (Be (.ref z) (.ref g5.objs.size) >>= _) _ _ _;refine af ?_;unfold Be;have z6:Vn (g5.push { cls:=.type "tuple",data:=.seq #[x,y] }) z TI TO .ellipsis:=av _ z5;refine af (fS z6 ‹45› fun g7 z7 q7=>?_)
 replace z7:Vn g7 z TI TO (rawInt g5.objs.size):=z7
 refine fS z7 ‹45› fun g8 z8 q8=>?_
 replace z8:Vn g8 z TI TO (rawInt g5.objs.size):=z8
 have up:∀ c o,c≠z->g5.get? c=some o->g8.get? c=some o:=fun c o c1 e=>q8.extBut _ _ c1 (q7.extBut _ _ c1 (av _ e));have n8:O3 g8 g5.objs.size x y:=q8.extBut _ _ (eR zl) (q7.extBut _ _ (eR zl) (bb _ rfl));rw [sz] at z8 n8;refine aE ⟨_,rfl,?_⟩;show Q (.ref g5.objs.size) _;rw [sz];refine hQ g8 z8 (up _ _ D.a2 p5) ?_ ?_ n8 fun c o c1 c2 c3 c4 e=>up c o c1 (k5 c o c1 c2 c3 c4 e)
 ·obtain ⟨o,e,r⟩:=j5; exact⟨o,up _ o D.a3 e,r⟩
 ·obtain ⟨o,e,r⟩:=l5; exact⟨o,up _ o D.a4 e,r⟩
theorem MJ{TI TO:ut}{k:Nat}{xs:AV}{a b:sr}{Q:Fin->ue->Prop}(hh:A.handled=none)(D:ZA z TI TO i1 i2 t1 t2)
  (hz:Vn s.heap z TI TO .none) (hTI:O3 s.heap TI (.ref i1) (.ref i2)) (hTO:O3 s.heap TO a b) (h1:s.heap.IsTupleIter i1 t1 k) (hl1:s.heap.IsTuple t1 xs) (hx:xs[k]?=none)
  (hE:∀ h' e,(∀ c o,c≠z->c≠TO->c≠i1->c≠i2->s.heap.get? c=some o->h'.get? c=some o)->(∃ o,h'.get? e=some o/\o.cls=.type "StopIteration")->E (.ref e) { s with heap:=h' }) :
  uv ‹32› A (uB.«zip.__next__» ⟨[.ref z],[]⟩) Q E s:=by
 show uv _ _ (Vy (.ref z) 2 >>= _) _ _ _; refine af (ff hz rfl (x:=.bool false) rfl ?_);show uv _ _ (Vy (.ref z) 3 >>= _) _ _ _; refine af (ff hz rfl (x:=.ref TI) rfl (af (iE hTI rfl ?_)));show uv _ _ (xn (.ref z) >>= _) _ _ _;unfold xn;refine af (af (ff hz rfl (x:=.none) rfl (aE ?_)));simp only [kR];refine af (jp (af (ff hz rfl (x:=.ref TO) rfl (af (fS hz ‹45› fun g1 z1 q1=>?_)))))
 replace z1:Vn g1 z TI TO .ellipsis:=z1
 simp only [List.zipIdx_cons,List.zipIdx_nil,nK,rS];refine af (af (af (qi ?_)));show uv _ _ (yz (.ref i1) >>= _) _ _ _;refine af (tK hh (h1.extBut q1.extBut D.a3) (hl1.extBut q1.extBut D.b2) hx fun g2 e q2 ⟨oe,e1,e2⟩=>?_);have z2:Vn g2 z TI TO .ellipsis:=q2 _ _ D.a3.symm z1;have hez:e≠z:=fun x=>by subst x; rw [z2] at e1; cases e1; simp at e2
 exact fS z2 ‹45› fun g3 _ q3=>hE g3 e (fun c o c1 _ c3 _ x=>q3.extBut _ _ c1 (q2 _ _ c3 (q1.extBut _ _ c1 x))) ⟨oe,q3.extBut _ _ hez e1,e2⟩
end
theorem Inv.wG{o:HO}(I:Inv X pins σ H s)(hf:∀ b∈fp,pW X pins H b)
  (k:∀ b u,b ∉ fp->s.heap.get? b=some u->h'.get? b=some u) (hp:s.heap.objs.size<=a) (new:cT X.prog X.w (upd H a o) h' a o):Inv X pins σ (upd H a o) { s with heap:=h',toks:=t' }:=by
 have hn:H a=none:=I.hok.fresh hp;have nf:∀ b u,H b=some u->b ∉ fp:=fun b u e hb=>by rw [(hf b hb).1] at e; cases e
 refine I.step (g':=s.gens) (d':=s.drawn) (ch:=fp) (fun b hb=>⟨(hf b hb).2.2.2.1,(hf b hb).2.1,(hf b hb).2.2.2.2.1,(hf b hb).2.2.2.2.2⟩) (fun b u _ _ hc e _=>k b u hc e) (fun b u _ _ hc e _=>⟨u.slots,k b u hc e⟩)
  (fun b u _ e n=>by rw [aA (dm (dS (cn e) hp))]; exact n) (fun b u hc e=>⟨u,k b u hc e⟩) (fun b xs e=>by rw [aA (au e hn)]; exact e)
  (fun b u v e=>by rw [aA (au e hn)]; exact e) (fun b ps e=>⟨#[],by rw [aA (au e hn),e]; simp⟩) (fun m hm=>?_) (fun b u e=>?_) I.bare
 ·obtain ⟨ob,es,ep,ho,r⟩:=hm;exact⟨ob,es,ep,k _ ob (fun z=>(hf _ z).2.1 rfl) ho,r⟩
 ·by_cases hb:b=a
  ·subst hb;rw [ak] at e;cases e;exact new
  ·rw [aA hb] at e;refine(I.hok b u e).stay (fun c v hc q=>k c v ?_ q) (fun c q=>by rw [aA (au q hn)]; exact q) fun c xs q=>by rw [aA (au q hn)]; exact q
   rcases hc with z | z
   ·rw [z]; exact nf b u e
   ·exact nf c _ z
theorem Inv.uM(I:Inv X pins σ H s)(hf:∀ b∈fp,pW X pins H b)
  (k:∀ b u,b ∉ fp->s.heap.get? b=some u->h'.get? b=some u):Inv X pins σ H { s with heap:=h',toks:=t' }:=by
 have nf:∀ b u,H b=some u->b ∉ fp:=fun b u e hb=>by rw [(hf b hb).1] at e; cases e
 refine I.step (g':=s.gens) (d':=s.drawn) (ch:=fp) (fun b hb=>⟨(hf b hb).2.2.2.1,(hf b hb).2.1,(hf b hb).2.2.2.2.1,(hf b hb).2.2.2.2.2⟩) (fun b u _ _ hc e _=>k b u hc e) (fun b u _ _ hc e _=>⟨u.slots,k b u hc e⟩)
  (fun b u _ e n=>n) (fun b u hc e=>⟨u,k b u hc e⟩) (fun b xs e=>e) (fun b u v e=>e) (fun b ps e=>⟨#[],by rw [e]; simp⟩) (fun m hm=>?_) (fun b u e=>?_) I.bare
 ·obtain ⟨ob,es,ep,ho,r⟩:=hm;exact⟨ob,es,ep,k _ ob (fun z=>(hf _ z).2.1 rfl) ho,r⟩
 ·refine(I.hok b u e).stay (fun c v hc q=>k c v ?_ q) (fun c q=>q) fun c xs q=>q;rcases hc with z | z
  ·rw [z]; exact nf b u e
  ·exact nf c _ z
def Itz(K:PySem.W.Frag)(t1 t2:ut):It:=
 ⟨fun i H=>∃ xs ys x y,SqT K H t1 xs/\SqT K H t2 ys/\xs[i]?=some x/\ys[i]?=some y,fun i H v H'=>∃ p,H p=none/\v=.ref p/\∀ xs ys x y,SqT K H t1 xs->SqT K H t2 ys->xs[i]?=some x->ys[i]?=some y->H'=upd H p (.tup [x,y]),
  fun i H=>∃ xs,SqT K H t1 xs/\xs.length<=i⟩
theorem mJ{TI TO:ut}(D:ZA z TI TO i1 i2 t1 t2):Turn P w K (.Tuple elts x1 tpos) (Itz K t1 t2) [z,TI,TO,i1,i2] z
  (fun i h=>Vn h z TI TO .none/\O3 h TI (.ref i1) (.ref i2)/\(∃ a b,O3 h TO a b)/\h.IsTupleIter i1 t1 i/\h.IsTupleIter i2 t2 i) where
 mem:=by simp
 obj:=fun i h st b hb=>by
  obtain ⟨hz,hTI,⟨a,c,hTO⟩,⟨o1,e1,_,d1⟩,⟨o2,e2,_,d2⟩⟩:=st;simp only [bz,dL,iF] at hb;rcases hb with rfl | rfl | rfl | rfl | rfl
  ·exact⟨_,hz,fun v q=>nomatch q⟩
  ·exact⟨_,hTI,fun v q=>nomatch q⟩
  ·exact⟨_,hTO,fun v q=>nomatch q⟩
  ·exact⟨_,e1,fun v q=>by rw [d1] at q; cases q⟩
  ·exact⟨_,e2,fun v q=>by rw [d2] at q; cases q⟩
 keep:=fun i h h' st k=>by
  obtain ⟨hz,hTI,⟨a,c,hTO⟩,⟨o1,e1,r1⟩,⟨o2,e2,r2⟩⟩:=st;exact⟨k z ‹45› _ hz,k TI ‹45› _ hTI,⟨a,c,k TO ‹45› _ hTO⟩,⟨o1,k i1 ‹45› _ e1,r1⟩,⟨o2,k i2 ‹45› _ e2,r2⟩⟩
 item:=by
  exists 4;obtain ⟨xs,ys,x,y,q1,q2,e1,e2⟩:=hg;obtain ⟨its,rv,p,hz'⟩:=I.tuple q1;obtain ⟨jts,rw',p',hz''⟩:=I.tuple q2;obtain ⟨u,hu,ru⟩:=rv.get e1;obtain ⟨u',hu',ru'⟩:=rw'.get e2;obtain ⟨hz,hTI,⟨a,c,hTO⟩,h1,h2⟩:=st;have hT:s.TypeIs (.ref z) "zip" := ⟨_,hz,rfl⟩;unfold Hc
  refine af (lL (eT (name:=Str.ofString "__next__") hT lz (eM lz hT Vz
   (Hs D hz hTI hTO h1 h2 (show s.heap.IsTuple t1 its.toArray from p) (show s.heap.IsTuple t2 jts.toArray from p') (x:=u) (y:=u') (by simpa using hu) (by simpa using hu') fun h' a1 a2 a3 a4 a5 a6=>aE ?_) (Vs _))))
  refine⟨_,rfl,wpAny_letOwnedTupleGo_zip a1 fun h2' a1' q'=>?_⟩;have hn:H s.heap.objs.size=none:=I.hok.fresh (ai _);have zlt:z < s.heap.objs.size:=cn hz;have tlt:TO < s.heap.objs.size:=cn hTO;have i1lt:i1 < s.heap.objs.size:=by obtain ⟨_,e,_⟩:=h1; exact cn e
  have i2lt:i2 < s.heap.objs.size:=by obtain ⟨_,e,_⟩:=h2; exact cn e
  have kk:∀ b ob,b ∉ [z,TI,TO,i1,i2]->s.heap.get? b=some ob->h2'.get? b=some ob:=fun b ob hb e=>by
   simp only [bz,dL,iF,sq] at hb;exact q'.extBut _ _ hb.1 (a6 b ob hb.1 hb.2.2.1 hb.2.2.2.1 hb.2.2.2.2 e)
  have I1:Inv X pins σ (upd H s.heap.objs.size (.tup [x,y])) { s with heap:=h2' }:=I.wG (t':=s.toks) hf kk (ai _)
   ⟨⟨by show 2<=sizeLine; decide,fun o e=>by rw [q'.extBut _ _ (eR zlt) a5] at e; cases e; rfl⟩,[u,u'],.cons ru (.cons ru' .nil),⟨_,q'.extBut _ _ (eR zlt) a5,rfl,_,rfl⟩⟩
  refine⟨.ref s.heap.objs.size,_,I1,rfl,⟨_,hn,rfl,fun xs' ys' x' y' k1 k2 k3 k4=>?_⟩,⟨a1',q'.extBut _ _ D.a1 (a6 _ _ D.a1 D.a5 D.a6 D.a7 hTI),⟨_,_,q'.extBut _ _ D.a2 a2⟩,a3.extBut q'.extBut D.a3,a4.extBut q'.extBut D.a4⟩,fun b hb=>?_⟩
  ·rw [I.qg k1 q1,e1] at k3;rw [I.qg k2 q2,e2] at k4;cases k3;cases k4;rfl
  ·have hb':=hb;simp only [bz,dL,iF] at hb'
   have hlt:b < s.heap.objs.size:=by
    rcases hb' with rfl | rfl | rfl | rfl | rfl
    ·exact zlt
    ·exact cn hTI
    ·exact tlt
    ·exact i1lt
    ·exact i2lt
   rw [aA (dm hlt)];exact(hf b hb).1
 done:=by
  exists 4;obtain ⟨xs,q1,e1⟩:=hg;obtain ⟨its,rv,p,hz'⟩:=I.tuple q1;obtain ⟨hz,hTI,⟨a,c,hTO⟩,h1,h2⟩:=st;have hT:s.TypeIs (.ref z) "zip" := ⟨_,hz,rfl⟩;have hl:=rv.length;unfold Hc
  refine af (lL (eT (name:=Str.ofString "__next__") hT lz (eM lz hT Vz
   (MJ (I.ok.hd hc) D hz hTI hTO h1 (show s.heap.IsTuple t1 its.toArray from p) (by simp; omega) fun h' e kk ⟨o,ho,hcl⟩=>?_) (Vs _))))
  refine af (ku (T:= "StopIteration") (b:=true) ⟨o,ho,hcl⟩ rV (aE ⟨rfl,I.uM (t':=s.toks) hf fun b u hb q=>?_⟩));simp only [bz,dL,iF,sq] at hb;exact kk b u hb.1 hb.2.2.1 hb.2.2.2.1 hb.2.2.2.2 q
 self:=fun _ _ _ _ _ st h=>wpAny_pyIter_zip st.1 h
abbrev zq1(h:Heap)(l1:ut):Heap:=h.push { cls:=.type "tuple_iterator",data:=.fields #[.ref l1,.int 0 0] }
abbrev zq2(h:Heap)(l1 l2:ut):Heap:=(zq1 h l1).push { cls:=.type "tuple_iterator",data:=.fields #[.ref l2,.int 0 0] }
abbrev zq3(h:Heap)(l1 l2:ut):Heap:=(zq2 h l1 l2).push { cls:=.type "tuple",data:=.seq #[.ref h.objs.size,.ref (zq1 h l1).objs.size] }
abbrev zq4(h:Heap)(l1 l2:ut):Heap:=(zq3 h l1 l2).push { cls:=.type "tuple",data:=.seq #[.none,.none] }
abbrev zq5(h:Heap)(l1 l2:ut):Heap:=(zq4 h l1 l2).push { cls:=.type "zip",data:=.fields #[.none,.bool false,.bool false,.ref (zq2 h l1 l2).objs.size,.ref (zq3 h l1 l2).objs.size] }
theorem Rv(l1 l2:ut)(xs ys:AV):Meets (uB.«zip.__new__» ⟨[.type "zip",.ref l1,.ref l2],[]⟩) (fun _ R s=>s.heap.IsTuple l1 xs/\s.heap.IsTuple l2 ys/\R (.ok (.ret (.ref (zq4 s.heap l1 l2).objs.size))) { s with heap:=zq5 s.heap l1 l2 }):=
 .of_wp fun prog w A R s h=>by
  obtain ⟨hp,g,d,tk,os⟩:=s;obtain ⟨hl1,hl2,h⟩:=h;have hsub:=sub_zip;have hL1:Heap.IsTuple (ue.heap ⟨hp,g,d,tk,os⟩) l1 xs:=hl1;have hL2:Heap.IsTuple (ue.heap ⟨hp.push { cls:=.type "tuple_iterator",data:=.fields #[.ref l1,.int 0 0] },g,d,tk,os⟩) l2 ys:=Heap.IsTuple.push hl2 _
  wp_walk using wpAny_pyIter_tuple hL1,wpAny_pyIter_tuple hL2
  exact⟨_,rfl,h⟩
theorem Nq{l1 l2:ut}{xs ys:AV}(hl1:s.heap.IsTuple l1 xs)(hl2:s.heap.IsTuple l2 ys)
  (h:Q (.ref (zq4 s.heap l1 l2).objs.size) { s with heap:=zq5 s.heap l1 l2 }):uv ‹32› A (call (.type "zip") [.ref l1,.ref l2]) Q E s:=by
 refine callType_new F.called_zip ‹6› (F.typeCall_zip_2 _ _) (F.newCall_zip_2 _ _) (fun obj=>F.args_object_init_3 obj _ _) F.entry_zip_new (Rv l1 l2 xs ys) ⟨hl1,hl2,?_⟩;show _/\_;exact⟨⟨_,bb _ rfl,rfl⟩,h⟩
theorem Ti{t1 t2:Nat}(h1:t1 < n)(h2:t2 < n):ZA (n+4) (n+2) (n+3) n (n+1) t1 t2:=by
 constructor <;> (change @Ne Nat _ _; omega)
section
variable {X:Cx}
inductive qX (K:PySem.W.Frag) (xs:LV) (H:Hp) (Q:VK):Prop
 | mk (p:ut) (bs:List Bool):xs=[.ref p]->SqL K H p (bs.map V.bl)->Q (.bl (bs.all id)) H->qX K xs H Q
theorem Ko(hc:X.calm=true):fj X (.builtin "all") (qX X.K):=by
 exists 9;obtain ⟨p,bs,rfl,hq,q⟩:=h;exists 14;obtain ⟨its,rv,pl,hz⟩:=I.list hq;have hl:=rv.length;rw [aa] at hl;refine call_all_walk (i5 pl.isList ?_);have plt:p < s.heap.objs.size:=by obtain ⟨o,e,_⟩:=pl.isList; exact cn e
 refine⟨s.heap.objs.size,_,_,_,_,_,fun i=>bs.getD i true,rfl,Walks.list (A:=X.A.in1) (I.ok.hd hc) s.heap.objs.size p (dm plt) its.toArray,⟨⟨_,bb _ rfl,rfl,rfl⟩,pl.isList.push _⟩,fun i v s' Q' E' hv hQ=>?_,fun h' tk kk=>?_⟩
 ·have hi:i < bs.length:=by
   have:=(Array.getElem?_eq_some_iff.mp hv).1;rw [cf] at this;omega
  obtain ⟨u,hu,ru⟩:=rv.get (i:=i) (x:=V.bl bs[i]) (by simp [hi]);have hv':its[i]?=some v:=by simpa using hv
  rw [hv'] at hu;cases hu;cases ru;refine gL ?_;simpa [hi] using hQ
 ·have ee:((List.range its.toArray.size).all fun i=>bs.getD i true)=bs.all id:=by
   rw [cf,<- hl];apply fg.mpr;rw [cz,cz];constructor
   ·intro h b hb;obtain ⟨i,hi,rfl⟩:=fF hb;have:=h i (fR.mpr hi);simpa [hi] using this
   ·intro h i hi;have hi':=fR.mp hi;have:=h bs[i] (bS hi');simpa [hi'] using this
  rw [ee];have I1:Inv X pins σ H { s with heap:=s.heap.push { cls:=.type "list_iterator",data:=.fields #[.ref p,.int 0 0] } }:=I.kept (t':=s.toks) fun b o e=>av _ e;refine⟨.bl _,H,I1.turned (t':=tk) (it:=s.heap.objs.size) (fun b o hb e=>kk b o (by simpa using hb) e) (I.hok.fresh (ai _)) (eR I.lt) (.inr I.sz) ?_ ?_,rfl,q⟩
  ·exact(I.lV (ai _) (I.hok.fresh (ai _))).2.2.2.2.1
  ·exact(I.lV (ai _) (I.hok.fresh (ai _))).2.2.2.2.2
def Its(x:Str):It:=⟨fun i _=>i < x.cps.size,fun i H v H'=>H'=H/\∃ c,x.cps[i]?=some c/\v=.str ⟨#[c]⟩,fun i _=>x.cps.size<=i⟩
theorem Jq(x:Str)(t:Tok)(it:ut):Turn P w K tg (Its x) [it] it (fun i h=>h.IsStrIter it "str_ascii_iterator" x t i) where
 mem:=by simp
 obj:=fun i h st b hb=>by
  have e:b=it:=by simpa using hb
  subst e;obtain ⟨o,e,c,d⟩:=st;exact⟨o,e,fun v z=>by rw [d] at z; cases z⟩
 keep:=fun i h h' st k=>by
  obtain ⟨o,e,r⟩:=st;exact⟨o,k it ‹45› o e,r⟩
 item:=by
  exists 4;have hg:i < x.cps.size:=hg;exists 11;refine wpAny_pyNext_ascii_item st (c:=x.cps[i]) (by simp [hg]) fun h' st' sb=>?_;have I1:Inv X pins σ H { s with heap:=h',toks:=s.toks+1 }:=I.turned (fun b o hb e=>(sb.2 b hb).trans e) f0 f1 f3 f4 f5;obtain ⟨o,e,c,d⟩:=id st';exact⟨_,rfl,Bb (s:={ s with heap:=h',toks:=s.toks+1 }) e c d ‹6› ⟨.str ⟨#[x.cps[i]]⟩,H,I1,⟨_,rfl⟩,⟨rfl,_,by simp [hg],rfl⟩,st',fun b hb=>(hf b hb).1⟩⟩
 done:=by
  exists 4;have hg:x.cps.size<=i:=hg;exists 11;exact wpAny_pyNext_ascii_end (I.ok.hd hc) st (by simp [hg]) fun h' eb=>⟨rfl,I.turned (t':=s.toks) (fun b o hb e=>eb b o hb e) f0 f1 f3 f4 f5⟩
 self:=fun _ _ _ _ _ st h=>wpAny_pyIter_striter_ascii st h
inductive Ql (R:It->Hp->Prop) (v:V) (H1:Hp):Prop
 | mk (x:_):v=.str x->x.cps.all (· < 128)=true->R (Its x) H1->Ql R v H1
def Uq(te:TE):TI:=fun σ H R=>te σ H fun v H1=>Ql R v H1
theorem Dw{e:Expr}(he:PE X e te):PI X tg e (Uq te):=by
 intro pins s σ H R I h;refine thn (he pins s σ H _ I h) fun v s1 ⟨y,H1,I1,r1,x,e,hx,q⟩=>?_;subst e;obtain ⟨t,rfl⟩:=r1;refine wpAny_pyIter_ascii hx ?_;refine⟨s1.heap.objs.size,[s1.heap.objs.size],_,_,H1,rfl,I1.kept (t':=s1.toks) fun b o e=>av _ e,Jq x t _,⟨_,bb _ rfl,rfl,rfl⟩,fun b hb=>?_,q⟩;have e:b=s1.heap.objs.size:=by simpa using hb
 subst e;exact I1.lV (ai _) ‹41›
inductive lU (K:PySem.W.Frag) (xs:LV) (H:Hp) (Q:VK):Prop
 | mk (x n t b:_):xs=[x,.ty n]->qZ K H x t->PySem.W.kitOne K t (.type n)=some b->Q (.bl b) H->lU K xs H Q
theorem uy:fj X (.builtin "isinstance") (lU X.K):=by
 exists 9;obtain ⟨x,n,t,b,rfl,ty,e,q⟩:=h;obtain ⟨u,w',rfl,ru,rw'⟩:=vals2 r;cases rw';exact Hv I ru ty e fun tk=>⟨.bl b,H,I.tok _,rfl,q⟩
theorem iR(K:PySem.W.Frag)(n:String):PySem.W.kitOne K (.type n) (.type n)=some true:=by
 unfold PySem.W.kitOne;rw [dE ‹45›]
end
theorem cT.ex{o:HO}(x:cT P w H h a o):∃ ob,h.get? a=some ob:=by
 cases o with
 | lst xs=>obtain ⟨_,_,_,_,e⟩:=x; exact⟨_,e⟩
 | tup xs=>obtain ⟨_,_,_,ob,e,_⟩:=x; exact⟨_,e⟩
 | dK kvs=>obtain ⟨_,_,_,_,o,_,_,e,_⟩:=x; exact⟨_,e⟩
 | dT kvs=>obtain ⟨_,_,_,_,o,_,_,e,_⟩:=x; exact⟨_,e⟩
 | set S n=>obtain ⟨o,_,_,_,e,_⟩:=x; exact⟨_,e⟩
 | ins C dx fs=>obtain ⟨_,_,_,e,_⟩:=x; exact⟨_,e⟩
 | own y=>exact x
 | xd fs=>obtain ⟨_,⟨_,_,_,e,_⟩,_⟩:=x; exact⟨_,e⟩
 | rng lo hi=>obtain ⟨_,_,_,e⟩:=x; exact⟨_,e⟩
 | frz ob u=>exact⟨_,x.1⟩
 | tbl ps=>exact⟨_,x⟩
 | met f y=>exact⟨_,x⟩
 | ext φ=>exact x.2.1
structure R3 (P:uC) (w:ww) (outer:List Env) (H:Hp) (s:ue) (e:ut) (cls:sr) (H':Hp) (B:Heap) (a0:sr) (s':ue):Prop where
 os:s'.os=s.os
 bare:Vj s'.gens
 un:Un (frs outer) [] H H' s.heap s'.heap
 hok:HOk P w H' s'.heap
 fl:Heap.FlyingW B outer e cls a0 s'.heap
 U8:∀ b,H' b≠none->∃ o,B.get? b=some o
 Va:∀ b o,s.heap.get? b=some o->b ∉ frs outer->∃ o,B.get? b=some o
section
variable {P:uC}{w:ww}{outer:List Env}{H H':Hp}{s s':ue}{e:ut}{cls a0:sr}{B h2:Heap}
end
section
variable {X:Cx}{pins:LO}{σ:St}{H H':Hp}{s s':ue}{e:ut}{cls a0:sr}{B h2:Heap}
end
section
variable {P:uC}{w:ww}{K:PySem.W.Frag}{mg:MG}{base:Heap}{N:LS}{qual:Str}{scope:Scope}{f:ut}{cd:sr}{A:xf}{outer:List Env}{s:ue}{H:Hp}{E:XK}
end
inductive Tc (ea C:ut) (h:Heap):Prop
 | mk (ob:_):h.get? ea=some ob->ob.cls=.ref C->Tc ea C h
structure XIn (K:PySem.W.Frag) (C:ut):Prop where
 ga:PySem.W.findIn K (.ref C) "__getattribute__" = some (some (.builtin "BaseException.__getattribute__"))
 hk:PySem.W.findIn K (.ref C) "__getattr__" = some none
 ca:PySem.W.findIn K (.ref C) "__class__" = some (some (.builtin "object.__class__"))
 gt:PySem.W.specialIn K (.builtin "object.__class__") "__get__" = some (some (.builtin "getset_descriptor.__get__"))
 tk:PySem.W.takesIn K (.builtin "object.__class__")=some true
 ob:PySem.W.mroIn K C (.type "object")=some true
 be:PySem.W.mroIn K C (.type "BaseException")=some true
 cl:(PySem.W.clsIn K C).isSome=true
section
open Builtin Builtin.ObjectAttr Builtin.Getset_descriptor PySem.W
variable {prog:uC}{w:ww}{K:PySem.W.Frag}{ea C:ut}
end
def Vc(ea C:ut):HO:=.ext (Tc ea C)
section
variable {X:Cx}
end
structure Vb (K:PySem.W.Frag) (mg:MG) (x:Str) (C:ut):Prop where
 m:mg x=some (.ref C)
 ex:PySem.W.excIn K C [.type "ValueError",.type "Exception",.type "BaseException",.type "object"] "ValueError.__new__" = true
 i:XIn K C
structure Fnd (K:PySem.W.Frag) (mg:MG) (x:Str) (st:Stmt) (ps:LS) (f:ut) (fd:vz):Prop where
 fn:Fun K x x st f fd
 b:Binds K fd ps []
 m:mg x=some (.ref f)
theorem aD{X:Cx}{x:Str}{st:Stmt}{ps:LS}{f:ut}{fd:vz}{k:Nat}{sp:Sp}{e:Expr}{es:List Expr}{t:TA}{p pos:Pos}(D:Fnd X.K X.mg x st ps f fd)(G:cA X.prog X.w X.K X.mg X.base CX0 k f fd ps sp)(hr:kZ k X.A)(hg:Gl X x)(ha:PA X (e::es) t)
  (hdb:(x == ("__debug__" : Str))=false:=by decide) (he:xx (e::es) X.env=(false,eval e X.env)::xx es X.env:=by rfl) (hpl:(NB pos (xx es X.env)).any (·.1)=false:=by rfl):PE X (.Call (.Name x p) (e::es) [] pos) (Qf sp [] E0 t):=
 Nt G hr hg D.m D.fn.kp D.b .nil Tw ha hdb he hpl
theorem bQ:ye "len" = some (.builtin "len"):=by decide +kernel
theorem aQ:ye "isinstance" = some (.builtin "isinstance"):=by decide +kernel
theorem wC:ye "int" = some (.type "int"):=by decide +kernel
theorem yF:ye "bool" = some (.type "bool"):=by decide +kernel
theorem vZ:ye "str" = some (.type "str"):=by decide +kernel
theorem bK:ye "tuple" = some (.type "tuple"):=by decide +kernel
theorem uZ:ye "list" = some (.type "list"):=by decide +kernel
theorem QS:ye "abs" = some (.builtin "abs"):=by decide +kernel
theorem iw:ye "all" = some (.builtin "all"):=by decide +kernel
theorem Kc:ye "any" = some (.builtin "any"):=by decide +kernel
theorem JL:ye "max" = some (.builtin "max"):=by decide +kernel
theorem Kw:ye "min" = some (.builtin "min"):=by decide +kernel
inductive Qj (t u:TS) (D:Ends) (σ:St) (H:Hp):Prop
 | mk (M:St->Hp->Prop):t { D with nx:=M } σ H->(∀ σ' H',M σ' H'->u D σ' H')->Qj t u D σ H
theorem mL{X:Cx}{st:Stmt}{rest:List Stmt}{t u:TS}(h1:PS X st t)(h2:PSs X rest u):PSs X (st::rest) (Qj t u):=by
 intro pins s σ H D I h;obtain ⟨M,h,hM⟩:=h;refine Vw (thn (h1 pins s σ H _ I h) fun f s1 q=>?_);cases f with
 | next=>
  obtain ⟨σ1,H1,I1,m1⟩:=q;exact h2 pins s1 σ1 H1 D I1 (hM σ1 H1 m1)
 | brk=>exact q
 | cont=>exact q
 | ret u=>exact q
def Off(p:ut)(H H':Hp):Prop:=∀ b o,b≠p->H b=some o->H' b=some o
theorem Off.refl(p:ut)(H:Hp):Off p H H:=fun _ _ _ e=>e
theorem Off.trans(a:Off p H H1)(b:Off p H1 H2):Off p H H2:=fun c o n e=>b c o n (a c o n e)
theorem Off.upd{o:HO}:Off p H (upd H p o):=fun c u n e=>by rw [aA n]; exact e
abbrev Wc:=@Off.upd
theorem Off.new{o:HO}(h:H q=none):Off p H (L2.upd H q o):=fun c u _ e=>by rw [aA (au e h)]; exact e
abbrev Wd:=@Off.new
theorem Same.off(h:Same H H'):Off p H H':=fun c u _ e=>h c u e
theorem Same.new{o:HO}(h:H q=none):Same H (upd H q o):=fun c u e=>by rw [aA (au e h)]; exact e
abbrev We:=@Same.new
theorem wI{α:Type}{xs:List α}{i:Int}(h0:0<=i)(h1:i < xs.length):∃ v,atI xs i=some v/\v∈xs/\xs[i.toNat]?=some v:=by
 have h:i.toNat < xs.length:=by omega
 refine⟨xs[i.toNat],?_,bS h,ae h⟩;have:=aJ (xs:=xs) (j:=i.toNat) (v:=xs[i.toNat]) (ae h);rw [Int.toNat_of_nonneg h0] at this;exact this
theorem Mx{i:Int}(h0:0<=i)(h1:i < ns.length):∃ x,atI ‹31› i=some (.str x)/\x∈ns/\ns[i.toNat]?=some x:=by
 obtain ⟨v,e,m,g⟩:=wI (xs:=ns.map V.str) h0 (by rw [aa]; exact h1);rw [bg] at g;cases q:ns[i.toNat]? with
 | none=>rw [q] at g; cases g
 | some x=>
  rw [q] at g;cases g;exact⟨x,e,eI q,rfl⟩
theorem Ni{as:LS}{a b:Int}:¬ HO.lst [.int a,.int b,.int c]=HO.lst (as.map V.str):=by
 intro h;cases as with
 | nil=>cases h
 | cons x r=>
  injection h with h;injection h with h;cases h
theorem iI{x:Str}:inV (.str x) ‹31›=decide (x∈ns):=by
 unfold inV;rw [List.any_map];apply fg.mpr;rw [iP,decide_eq_true_iff];constructor
 ·rintro ⟨y,hy,e⟩;have:(y == x)=true:=e;rw [kA] at this;rw [<- this];exact hy
 ·intro h;exact⟨x,h,by show (x == x)=true; simp⟩
theorem jg(ns:LS):‹31›.all pF=true:=by
 rw [lr,cz];exact fun _ _=>rfl
theorem NK(h:X.K=K):OpR X (xN .In) (rIn K false):=by subst h; exact yD
theorem Lg{es:List Expr}{k:Nat}{t:TGs}(hk:X.K=K)(hc:X.calm=true)(h:PGs X es t)(hn:(JS es X.env).length=n:=by rfl)(hst:(JS es X.env).findIdx? (·.1)=none:=by rfl) :
  PG X (.Tuple es k pos) (NP K n t):=by subst hk; exact JZ hc h hn hst
def okF(scope:Scope)(N0 N own:LS)(fr:List Nat)(j:Nat):Bool:=match fr[j]? with
 | none=>false
 | some i=>match N[own.length+j]?,N0[i]? with
  | some x,some y=>(x == y) && (scope.names.lookup x == some .free)
  | _,_=>false
def CSc(scX:Scope)(N0:LS)(scope:Scope)(own:LS)(fr:List Nat)(N:LS):Prop:=
 scope.kind=.function/\(scope.names.map (·.1)).Nodup/\(∀ y∈scope.names,y.2=.local->scope.names.lookup y.1=some .local)/\(∀ y∈scope.names,y.2=.free->scX.names.lookup y.1=some .cell\/scX.names.lookup y.1=some .free)/\
  N.length=own.length+fr.length/\(∀ j∈List.range fr.length,okF scope N0 N own fr j=true)/\N.take own.length=own
instance (scX:Scope) (N0:LS) (scope:Scope) (own:LS) (fr:List Nat) (N:LS):Decidable (CSc scX N0 scope own fr N):=by
 unfold CSc
 infer_instance
theorem aK.of(own:LS)(fr:List Nat)(N:LS)(scX:Scope)(N0:LS)(hsc:X.env.scope=scX)(hN:X.N=N0)(h:CSc scX N0 scope own fr N):aK X scope own fr N where
 kind:=h.1
 nodup:=h.2.1
 names:=h.2.2.1
 free:=fun y hy e=>by
  show X.env.scope.names.lookup y.1=_\/X.env.scope.names.lookup y.1=_;rw [hsc];exact h.2.2.2.1 y hy e
 len:=h.2.2.2.2.1
 Qt:=fun j i e=>by
  have hj:j < fr.length:=(bv.mp e).1;have q:=h.2.2.2.2.2.1 j (fR.mpr hj);unfold okF at q;rw [e] at q;simp only at q;cases e1:N[own.length+j]? with
  | none=>rw [e1] at q; simp at q
  | some x=>
   cases e2:N0[i]? with
   | none=>rw [e1,e2] at q; simp at q
   | some y=>
    rw [e1,e2] at q;simp only [eK,kA] at q;exact⟨x,rfl,by rw [hN,e2,q.1],q.2⟩
 frs:=fun j x e hj=>by
  rw [<- h.2.2.2.2.2.2,kP hj];exact e
abbrev Wf:=@aK.of
theorem jY{x:Str}(h:scope.names.lookup x=some .cell):(Vf scope env).names.lookup x=some .cell:=by
 unfold Vf;show List.lookup x (List.map _ _)=_;rw [gU (scope:=scope),h];rfl
theorem aK.of2{sc0:Scope}{e0:Env}(own:LS)(fr:List Nat)(N:LS)(N0:LS)(hsc:X.env.scope=Vf sc0 e0)(hN:X.N=N0)(h:CSc sc0 N0 scope own fr N):aK X scope own fr N where
 kind:=h.1
 nodup:=h.2.1
 names:=h.2.2.1
 free:=fun y hy e=>by
  show X.env.scope.names.lookup y.1=_\/X.env.scope.names.lookup y.1=_;rw [hsc];rcases h.2.2.2.1 y hy e with z | z
  ·exact .inl (jY z)
  ·unfold Vf;show List.lookup y.1 (List.map _ _)=_\/List.lookup y.1 (List.map _ _)=_;rw [gU (scope:=sc0),z];simp only [il];split
   ·exact .inl rfl
   ·exact .inr rfl
 len:=h.2.2.2.2.1
 Qt:=fun j i e=>by
  have hj:j < fr.length:=(bv.mp e).1;have q:=h.2.2.2.2.2.1 j (fR.mpr hj);unfold okF at q;rw [e] at q;simp only at q;cases e1:N[own.length+j]? with
  | none=>rw [e1] at q; simp at q
  | some x=>
   cases e2:N0[i]? with
   | none=>rw [e1,e2] at q; simp at q
   | some y=>
    rw [e1,e2] at q;simp only [eK,kA] at q;exact⟨x,rfl,by rw [hN,e2,q.1],q.2⟩
 frs:=fun j x e hj=>by
  rw [<- h.2.2.2.2.2.2,kP hj];exact e
section
variable {X:Cx}{pins:LO}{σ:St}{H:Hp}{s:ue}
abbrev Cx.suite(X:Cx)(ea:ut):Cx:={ X with A:=X.A.mark (some (.ref ea)),calm:=false,xe:=fun _ _=>False }
end
inductive XP (X:Cx) (pins:LO) (σ:St) (E:XK) (e:sr) (s':ue):Prop
 | mk (ea C H s H' B a0:_):e=.ref ea->Inv X pins σ H s->R3 X.prog X.w X.stack H s ea (.ref C) H' B a0 s'->E (.ref C) none H'->XP X pins σ E e s'
structure Tt (k:Nat) (A:xf):Prop where
 dp:A.depth+3 * k+5 < recursionLimit
 un:A.units+16 * k+200 < cLine
structure U4 (P:uC) (w:ww) (K:PySem.W.Frag) (mg:MG) (base:Heap) (k:Nat) (f:ut) (fd:vz) (ps:LS) (sp:Sp):Prop where
 len:∀ vs H Q E,sp vs H Q E->vs.length=ps.length
 run:∀(A:xf) (outer:List Env) (s:ue) (H:Hp) (args:Args) (us:LU) (vs:LV) (Q:VK),Tt k A->KD P w K mg base A outer s H->Vp s fd args (ps.zip us)->Vals vs us->sp vs H Q E0->
  HH (vy P w) A (.call (.ref f) args) (CR CX0 outer P w H s Q E0) s
def RT(_ j:Int):Prop:=0 < j/\j < 1606938044258990275541962092341162602522202993782792835301376
theorem KY:OpR X (Eg .FloorDiv) (rI RT fun i j=>.int (i / j)):=opI fun i j _ _ _ _ _ hc q=>by
 have h1:(0:Int) < j:=hc.1;have h2:j < 1606938044258990275541962092341162602522202993782792835301376:=hc.2;refine floordiv_int ‹26› (by rw [Int.fdiv_eq_ediv_of_nonneg i ‹26›]; exact q) (.inl (PyProof.noPylong_of_log2 ?_));have h3:j.natAbs≠0:=by omega
 have h4:j.natAbs < 2 ^ 200:=by
  have e:(2:Nat) ^ 200=1606938044258990275541962092341162602522202993782792835301376:=by decide +kernel
  rw [e];omega
 exact oQ ((Nat.log2_lt h3).mpr h4) ‹6›
inductive DG (x:V) (y:V) (H:Hp) (Q:VK):Prop
 | mk (a b:ut) (ys:LV):x=.ref a->y=.ref b->H a=some (.tup [])->H b=some (.tup ys)->Q (.ref b) H->DG x y H Q
theorem Aj:OpR X (Eg .Add) DG:=by
 exists 6;obtain ⟨a,b,ys,rfl,rfl,ha,hb,q⟩:=h;cases rx;cases ry;obtain ⟨its,r,p⟩:=iy I ha;obtain ⟨its2,r2,p2⟩:=iy I hb;have e0:its=[]:=r.lO.mpr rfl;subst e0;obtain ⟨⟨cls,dd,data,sl⟩,ho,hc,n,hd⟩:=id p;obtain ⟨⟨cls2,dd2,data2,sl2⟩,ho2,hc2,n2,hd2⟩:=id p2;simp only at hc hd hc2 hd2;subst hc hd hc2 hd2;exact concat_meets ⟨_,ho,rfl⟩ ⟨_,ho2,rfl⟩ Vx seq_tuple_add oB n4 (nk _ _) (tuple_addW0 a b [].toArray its2.toArray n n2 dd dd2 sl sl2 rfl) ⟨ho,ho2,⟨.ref b,H,I,rfl,q⟩⟩
theorem Kz:OpR X (Eg .Add) (fun x y H Q=>Lf X.K x y H Q\/DG x y H Q):=Fy.or Aj
section
variable {X:Cx}{pins:LO}{σ:St}{H:Hp}{s:ue}{d:ut}{u u':HO}
theorem Inv.swap(I:Inv X pins σ H s)(e:H d=some u)(h1:∀ xs,u≠.tup xs)(h2:∀ o v,X.H₀ d≠some (.frz o v))(h3:∀ ps,u≠.tbl ps)(h4:∀ y,u≠.own y)(new:cT X.prog X.w (upd H d u') s.heap d u'):Inv X pins σ (upd H d u') s:=by
 have nd:∀ b,H b=none->b≠d:=fun b h z=>by rw [z,e] at h; cases h
 refine⟨I.ok,I.os,I.bare,⟨I.base.keep,I.base.slot,fun b o q n nx=>?_,I.base.there,fun b xs q=>?_,fun b o v q=>?_,fun b ps q=>?_⟩,I.loc,I.cell,?_,fun x c q=>?_,fun p hp=>?_,fun b o q=>?_,I.len⟩
 ·have:=I.base.free b o q n nx;rw [aA (nd b this)];exact this
 ·have:=I.base.tups b xs q;rw [aA (fun z=>by rw [z,e] at this; exact h1 xs (ck this))];exact this
 ·have:=I.base.wg b o v q;rw [aA (fun z=>by rw [z] at q; exact h2 o v q)];exact this
 ·obtain ⟨more,this⟩:=I.base.zF b ps q;exact⟨more,by rw [aA (fun z=>by rw [z,e] at this; exact h3 _ (ck this))]; exact this⟩
 ·rw [aA (nd _ I.free)];exact I.free
 ·rw [aA (nd _ (I.lR x c q))];exact I.lR x c q
 ·obtain ⟨q1,q2,q3,q4,q5⟩:=I.pin p hp;exact⟨q1,by rw [aA (nd _ q2)]; exact q2,q3,q4,q5⟩
 ·by_cases hb:b=d
  ·subst hb;rw [ak] at q;cases q;exact new
  ·rw [aA hb] at q;refine(I.hok b o q).stay (fun _ _ _ z=>z) (fun c z=>?_) fun c xs z=>?_
   ·rw [aA (fun w=>by rw [w,e] at z; exact h4 _ (ck z))];exact z
   ·rw [aA (fun w=>by rw [w,e] at z; exact h1 _ (ck z))];exact z
theorem Rw(I:Inv X pins σ H s)(e:H d=some (.dK kvs)):∀ o v,X.H₀ d≠some (.frz o v):=fun o v q=>by
 have:=I.base.wg d o v q;rw [e] at this;cases this
theorem Inv.freeze(I:Inv X pins σ H s)(e:H d=some (.dK kvs)):∃ o,s.heap.get? d=some o/\Inv X pins σ (upd H d ‹39›) s:=by
 obtain ⟨o,ho⟩:=(I.hok d _ e).ex;exact⟨o,ho,I.swap e (fun _ z=>nomatch z) (Rw I e) (fun _ z=>nomatch z) (fun _ z=>nomatch z) ⟨ho,I.hok d _ e⟩⟩
theorem Inv.UW(I:Inv X pins σ H s)(e:H d=some ‹39›)(h:∀ o v,X.H₀ d≠some (.frz o v)):Inv X pins σ (upd H d (.dK kvs)) s:=by
 refine I.swap e (fun _ z=>nomatch z) h (fun _ z=>nomatch z) (fun _ z=>nomatch z) ?_;have q:cT X.prog X.w H s.heap d (.frz o (.dK kvs)):=I.hok d _ e;exact q.2
end
def Itd(o:Obj)(d:ut)(kvs:LK0):It:=
 ⟨fun i H=>H d=some ‹39›/\i < kvs.length,fun i H x H'=>H'=H/\∃ kv,kvs[i]?=some kv/\x=kV kv.1,fun i H=>H d=some ‹39›/\kvs.length<=i⟩
theorem Ae{k:Key}{v:sr}(h:(bU P w).is k v=true):RelV (kV k) v:=by
 rw [Dh] at h;rcases dM h with ⟨i,t,rfl,rfl⟩ | ⟨x,t,rfl,rfl⟩
 ·exact⟨t,rfl⟩
 ·exact⟨t,rfl⟩
theorem fM{α β:Type}{F:α->β->Prop}:∀ {l₁:List α} {l₂:List β},Paired F l₁ l₂->∀(i:Nat) (h1:i < l₁.length) (h2:i < l₂.length),F l₁[i] l₂[i]
 | _,_,.nil,i,h1,_=>by simp at h1
 | _,_,.cons r t,0,_,_=>r
 | _,_,.cons r t,i+1,h1,h2=>fM t i (by simpa using h1) (by simpa using h2)
theorem xu{es:Array Hm}(hd:o.data=.dict es ep)(d it:ut)(kvs:LK0):Turn P w K tg (Itd o d kvs) [it] it (fun i h=>h.IsKeyIter it d i kvs.length ep) where
 mem:=by simp
 obj:=fun i h st b hb=>by
  have e:b=it:=by simpa using hb
  subst e;obtain ⟨o,e,c,d⟩:=st;exact⟨o,e,fun v z=>by rw [d] at z; cases z⟩
 keep:=fun i h h' st k=>st.at fun o e=>k it ‹45› o e
 item:=by
  exists 4;obtain ⟨hq,hi⟩:=hg;obtain ⟨ho,hz,hs,vs,rv,od,es',ep',ho',r1,r2,r3⟩:=(show cT X.prog X.w H s.heap d ‹39› from I.hok d _ hq);rw [ho] at ho';cases ho';rw [hd] at r2;cases r2;have hl:vs.length=kvs.length:=(cE rv).symm;have hm:s.heap.DictAt (bU X.prog X.w) d vs ep:=⟨_,_,ho,r1,hd,r3⟩;exists 11;have hv:vs[i]?=some ((vs[i]'‹26›).1,(vs[i]'‹26›).2):=ae ‹26›;have hk:(kvs[i]).1=(vs[i]'‹26›).1:=(fM rv i hi ‹26›).1;rw [<- hl] at st;refine wpAny_pyNext_dict_item st hm hv fun key h' hkey st' sb=>?_;have I1:Inv X pins σ H { s with heap:=h' }:=I.turned (t':=s.toks) (fun b o hb e=>(sb.2 b hb).trans e) f0 f1 f3 f4 f5;obtain ⟨oi,ei,ci,di⟩:=id st'
  refine⟨key,rfl,Bb ei ci di ‹6› ⟨kV (kvs[i]).1,H,I1,by rw [hk]; exact Ae hkey,⟨rfl,kvs[i],ae hi,rfl⟩,by rw [<- hl]; exact st',fun b hb=>by
   have e:b=it:=by simpa using hb
   rw [e]; exact f0⟩⟩
 done:=by
  exists 4;obtain ⟨hq,hi⟩:=hg;obtain ⟨ho,hz,hs,vs,rv,od,es',ep',ho',r1,r2,r3⟩:=(show cT X.prog X.w H s.heap d ‹39› from I.hok d _ hq);rw [ho] at ho';cases ho';rw [hd] at r2;cases r2;have hl:vs.length=kvs.length:=(cE rv).symm;have hm:s.heap.DictAt (bU X.prog X.w) d vs ep:=⟨_,_,ho,r1,hd,r3⟩;exists 11;rw [<- hl] at st;exact wpAny_pyNext_dict_end (I.ok.hd hc) st hm (fc ‹26›) fun h' eb=>⟨rfl,I.turned (t':=s.toks) (fun b o hb e=>eb b o hb e) f0 f1 f3 f4 f5⟩
 self:=fun _ _ _ _ _ st h=>wpAny_pyIter_keyiter st h
section
variable {X:Cx}
inductive MP (R:It->Hp->Prop) (x:V) (H1:Hp):Prop
 | mk (d:ut) (kvs:LK0):x=.ref d->H1 d=some (.dK kvs)->(∀ o,R (Itd o d kvs) (upd H1 d ‹39›))->MP R x H1
def Ss(te:TE):TI:=fun σ H R=>te σ H fun x H1=>MP R x H1
theorem xQ{d:ut}{R:It->Hp->Prop}(I:Inv X pins σ H s)(hd:H d=some (.dK kvs))(h:∀ o,R (Itd o d kvs) (upd H d ‹39›)) :
  uv ‹9› X.A (pyIter (.ref d)) (PIE X pins σ tg R) E s:=by
 obtain ⟨o,ho,I1⟩:=I.freeze hd;obtain ⟨hz,hs,vs,rv,od,es,ep,ho',r1,r2,r3⟩:=(show cT X.prog X.w H s.heap d (.dK kvs) from I.hok d _ hd);rw [ho] at ho';cases ho';have hl:vs.length=kvs.length:=(cE rv).symm;refine wpAny_pyIter_dict (knd:=bU X.prog X.w) (kvs:=vs) (ep:=ep) hs ⟨_,_,ho,r1,r2,r3⟩ ?_;have I2:=I1.kept (t':=s.toks) (h':=s.heap.push { cls:=.type "dict_keyiterator",data:=.fields #[.ref d,.int 0 0,.int vs.length 0,.int ep 0] }) fun b o e=>av _ e;refine⟨s.heap.objs.size,[s.heap.objs.size],_,_,_,rfl,I2,xu r2 d s.heap.objs.size kvs,?_,fun b hb=>?_,h o⟩
 ·exact⟨_,bb _ rfl,rfl,by rw [hl]; rfl⟩
 ·have e:b=s.heap.objs.size:=by simpa using hb
  subst e;exact I1.lV (ai _) ‹41›
theorem M8{l:Expr}(hl:PE X l te):PI X tg l (Ss te):=by
 intro pins s σ H R I h;refine thn (hl pins s σ H _ I h) fun v s1 ⟨x,H1,I1,r,d,kvs,e,hd,q⟩=>?_;subst e;cases r;exact xQ I1 hd q
inductive qT (K:PySem.W.Frag) (xs:LV) (H:Hp) (Q:VK):Prop
 | mk (p:ut) (bs:List Bool):xs=[.ref p]->SqL K H p (bs.map V.bl)->Q (.bl (bs.any id)) H->qT K xs H Q
theorem J0(hc:X.calm=true):fj X (.builtin "any") (qT X.K):=by
 exists 9;obtain ⟨p,bs,rfl,hq,q⟩:=h;exists 14;obtain ⟨its,rv,pl,hz⟩:=I.list hq;have hl:=rv.length;rw [aa] at hl;refine call_any_walk (i5 pl.isList ?_);have plt:p < s.heap.objs.size:=by obtain ⟨o,e,_⟩:=pl.isList; exact cn e
 refine⟨s.heap.objs.size,_,_,_,_,_,fun i=>bs.getD i false,rfl,Walks.list (A:=X.A.in1) (I.ok.hd hc) s.heap.objs.size p (dm plt) its.toArray,⟨⟨_,bb _ rfl,rfl,rfl⟩,pl.isList.push _⟩,fun i v s' Q' E' hv hQ=>?_,fun h' tk kk=>?_⟩
 ·have hi:i < bs.length:=by
   have:=(Array.getElem?_eq_some_iff.mp hv).1;rw [cf] at this;omega
  obtain ⟨u,hu,ru⟩:=rv.get (i:=i) (x:=V.bl bs[i]) (by simp [hi]);have hv':its[i]?=some v:=by simpa using hv
  rw [hv'] at hu;cases hu;cases ru;refine gL ?_;simpa [hi] using hQ
 ·have ee:((List.range its.toArray.size).any fun i=>bs.getD i false)=bs.any id:=by
   rw [cf,<- hl];apply fg.mpr;rw [iP,iP];constructor
   ·rintro ⟨i,hi,h⟩;have hi':=fR.mp hi;exact⟨bs[i],bS hi',by simpa [hi'] using h⟩
   ·rintro ⟨b,hb,h⟩;obtain ⟨i,hi,rfl⟩:=fF hb;exact⟨i,fR.mpr hi,by simpa [hi] using h⟩
  rw [ee];have I1:Inv X pins σ H { s with heap:=s.heap.push { cls:=.type "list_iterator",data:=.fields #[.ref p,.int 0 0] } }:=I.kept (t':=s.toks) fun b o e=>av _ e;refine⟨.bl _,H,I1.turned (t':=tk) (it:=s.heap.objs.size) (fun b o hb e=>kk b o (by simpa using hb) e) (I.hok.fresh (ai _)) (eR I.lt) (.inr I.sz) ?_ ?_,rfl,q⟩
  ·exact(I.lV (ai _) (I.hok.fresh (ai _))).2.2.2.2.1
  ·exact(I.lV (ai _) (I.hok.fresh (ai _))).2.2.2.2.2
end
def Ite(K:PySem.W.Frag)(a:ut):It:=
 ⟨fun i H=>∃ xs x,SqL K H a xs/\xs[i]?=some x,fun i H v H'=>∃ p,H p=none/\v=.ref p/\∀ xs x,SqL K H a xs->xs[i]?=some x->H'=upd H p (.tup [.int i,x]),fun i H=>∃ xs,SqL K H a xs/\xs.length<=i⟩
theorem xT{l:ut}(hne:e≠it):Turn P w K (.Tuple elts x1 tpos) (Ite K l) [e,it] e
  (fun i h=>(∃ old,Vo h e it i old)/\h.IsListIter it l i) where
 mem:=by simp
 obj:=fun i h st b hb=>by
  obtain ⟨⟨old,he⟩,o,ei,c,d⟩:=st;simp only [bz,dL,iF] at hb;rcases hb with rfl | rfl
  ·exact⟨_,he,fun v q=>nomatch q⟩
  ·exact⟨o,ei,fun v z=>by rw [d] at z; cases z⟩
 keep:=fun i h h' st k=>by
  obtain ⟨⟨old,he⟩,o,ei,r⟩:=st;exact⟨⟨old,k e ‹45› _ he⟩,o,k it ‹45› _ ei,r⟩
 item:=by
  exists 4;obtain ⟨xs,x,hq,hx⟩:=hg;obtain ⟨its,rv,p,hz⟩:=I.list hq;obtain ⟨u,hu,ru⟩:=rv.get hx;obtain ⟨⟨old,he⟩,hit⟩:=st;refine wpAny_pyNext_enum_item he hit p.isList (x:=u) (by simpa using hu) hne fun h' a1 a2 a3 a4 a5=>?_;refine⟨_,rfl,wpAny_letOwnedTupleGo_enum a1 fun h2' a1' q'=>?_⟩;have hn:H s.heap.objs.size=none:=I.hok.fresh (ai _);have elt:e < s.heap.objs.size:=cn he;have ilt:it < s.heap.objs.size:=by obtain ⟨_,e,_⟩:=hit; exact cn e
  have kk:∀ b ob,b ∉ [e,it]->s.heap.get? b=some ob->h2'.get? b=some ob:=fun b ob hb ee=>by
   simp only [bz,dL,iF,sq] at hb;exact q'.extBut _ _ hb.1 (a5 b ob hb.1 hb.2 ee)
  have I1:Inv X pins σ (upd H s.heap.objs.size (.tup [.int i,x])) { s with heap:=h2',toks:=s.toks+1 }:=I.wG (t':=s.toks+1) hf kk (ai _)
   ⟨⟨by show 2<=sizeLine; decide,fun o ee=>by rw [q'.extBut _ _ (eR elt) a3] at ee; cases ee; rfl⟩,[.int i s.toks,u],.cons ⟨_,rfl⟩ (.cons ru .nil),⟨_,q'.extBut _ _ (eR elt) a3,rfl,_,rfl⟩⟩
  refine⟨.ref s.heap.objs.size,_,I1,rfl,⟨_,hn,rfl,fun xs' x' k1 k3=>?_⟩,⟨⟨_,by simpa using a1'⟩,a2.extBut q'.extBut hne.symm⟩,fun b hb=>?_⟩
  ·rw [I.Al k1 hq,hx] at k3;cases k3;rfl
  ·have hb':=hb;simp only [bz,dL,iF] at hb'
   have hlt:b < s.heap.objs.size:=by
    rcases hb' with rfl | rfl
    ·exact elt
    ·exact ilt
   rw [aA (dm hlt)];exact(hf b hb).1
 done:=by
  exists 4;obtain ⟨xs,hq,hx⟩:=hg;obtain ⟨its,rv,p,hz⟩:=I.list hq;obtain ⟨⟨old,he⟩,hit⟩:=st;have hl:=rv.length;refine wpAny_pyNext_enum_end (I.ok.hd hc) he hit p.isList (by simp; omega) fun h' eb=>⟨rfl,I.uM (t':=s.toks) hf fun b u hb q=>?_⟩;simp only [bz,dL,iF,sq] at hb;exact eb b u hb.2 q
 self:=fun _ _ _ _ _ st h=>by
  obtain ⟨⟨old,he⟩,_⟩:=st;exact mf he h
section
variable {X:Cx}
inductive JG (K:PySem.W.Frag) (R:It->Hp->Prop) (vs:LV) (H1:Hp):Prop
 | mk (a xs:_):vs=[.ref a]->SqL K H1 a xs->R (Ite K a) H1->JG K R vs H1
def Sh(K:PySem.W.Frag)(ta:TA):TI:=fun σ H R=>ta σ H fun vs H1=>JG K R vs H1
theorem zx{a:Expr}{p:Pos}(hg:Gl X "enumerate")(hm:X.mg "enumerate" = none)(ha:PA X [a] ta)
  (he:xx [a] X.env=(false,eval a X.env)::xx [] X.env:=by rfl) (hpl:(NB pos (xx [] X.env)).any (·.1)=false:=by rfl):PI X (.Tuple elts x1 tpos) (.Call (.Name "enumerate" p) [a] [] pos) (Sh X.K ta):=by
 intro pins s σ H R I h;have boot_enum:ye "enumerate" = some (.type "enumerate"):=by decide +kernel
 refine kz (rm I hg hm boot_enum ?_);refine i4 (thn (ha pos pins s σ H _ I h) fun us s1 ⟨vs,H1,I1,r1,t1,xs,e,q1,q⟩=>?_) he hpl;subst e;obtain ⟨u,rfl,ru⟩:=vals1 r1;cases ru;obtain ⟨its,rv,p1,hz1⟩:=I1.list q1;refine call_enumerate_list p1.isList fun h' hE hI hsz hk=>?_;refine mf hE ?_;have I2:Inv X pins σ H1 { s1 with heap:=h' }:=I1.kept (t':=s1.toks) hk;have hne:s1.heap.objs.size+1≠s1.heap.objs.size:=by change @Ne Nat _ _; omega
 refine⟨s1.heap.objs.size+1,[s1.heap.objs.size+1,s1.heap.objs.size],_,Ite X.K t1,H1,rfl,I2,xT hne,⟨⟨_,hE⟩,hI⟩,fun b hb=>?_,q⟩
 have hle:s1.heap.objs.size<=b:=by
  simp only [bz,dL,iF] at hb;rcases hb with h | h <;> rw [h] <;> first | exact ai _ | exact Nat.le_add_right _ _
 exact I1.lV hle (I1.hok.fresh hle)
end
theorem qt:entryFor table "dict.update.loop" = some uB.«dict.update.loop»:=entryFor_of_fast (by kernel_rfl)
theorem jj:plainId "dict.update.loop" = true:=by decide +kernel
theorem Bf:typeLookup (.type "tuple") "keys" = Hn none:=by rw [qA,lS]; kernel_rfl
section
variable {prog:uC}{w:ww}{A:xf}{E:ES}{s:ue}
theorem Hi{xs:AV}{k:Nat}{Q:Option sr->ue->Prop}(hx:s.heap.get? a=some o)(hc:o.cls=.type "tuple")(hdat:o.data=.seq xs k)(hd:o.dict=none)(hA:A.handled=none)
  (h:∀ h' tk,‹16›->Q none { s with heap:=h',toks:=tk }):uv ‹32› A (getAttr? (.ref a) "keys") Q E s:=by
 obtain ⟨c,dct,dat,sl⟩:=o;simp only at hc hdat hd;subst hc hdat hd;obtain ⟨hp,g,d,tk,os⟩:=s;have hT:∀ tk',(⟨hp,g,d,tk',os⟩:ue).TypeIs (.ref a) "tuple" := fun _=>⟨_,hx,rfl⟩;have f1:=sub_AttributeError;have f3:=mI.lookup;have f4:=mI.bind (.ref a);have f5:=am_tuple_getattr_none;have hm:=Bf;unfold getAttr? getAttrBy? getAttrBy
 repeat (any_goals (first | assumption | exact hT _ | ((with_reducible show uv _ _ (call (sr.builtin "tuple.__getattribute__") _ _) _ _ _); refine nS mI (hT _) am_entry_tuple_getattribute (F.args_tuple_getattribute_2 _ _) (meets_getattribute_miss_tuple a xs k sl "keys" _ hm ‹5›) ⟨hx,hA,fun h' tk' e hx'=>?_⟩) | wp_step))
 have kk:=hx'.keeps;obtain ⟨t',u',he⟩:=hx'.there;show uv _ _ (Q3 _ _ _ _ _ _ _) _ _ _;unfold Q3
 repeat (any_goals (first | assumption | wp_step))
 all_goals exact h _ _ kk
end
section
variable {X:Cx}{pins:LO}{σ:St}{A:xf}
def rK(H:Hp)(xs:LV)(kvs:LK0):Prop:=xs.length=kvs.length/\∀(i:Nat) (kv:Key × V),kvs[i]?=some kv->∃ p,xs[i]?=some (.ref p)/\H p=some (.tup [kV kv.1,kv.2])
theorem Pq{d:ut}{k:Key}{r:sr}{Q:Unit->ue->Prop}(I:Inv X pins σ H s)(e:H d=some (.dK kvs))(l:kvs.length < sizeLine)(ry:RelV (kV k) u)(rv:RelV v r)
  (h:∀ h',Heap.SameBut d s.heap h'->Inv X pins σ (upd H d (.dK (putK kvs k v))) { s with heap:=h',toks:=s.toks+1 }->Q () { s with heap:=h',toks:=s.toks+1 }):uv ‹9› A (dictSet d u r) Q E s:=by
 obtain ⟨z,hd,vs,rel,dd⟩:=MN I.hok e;have hz:vs.length<=sizeLine:=by rw [<- rel.length]; exact z
 have hl:(putK kvs k v).length<=sizeLine:=by have:=fU kvs k v; omega
 refine wpAny_dictSet_pairs (hsz:=hz) (uh ry) dd fun h' dd' hs=>h _ hs ?_;have he:∃ q,h'.get? d=some q:=let ⟨q,_,_,hq,_⟩:=dd'; ⟨q,hq⟩;exact uR (t':=s.toks+1) I (by rw [e]; exact True.intro) hs he (CV hl hd (rel.put k rv) dd')
theorem uG(kvs:LK0)(kv:Key × V):cD [] (kvs++[kv])=putK (cD [] kvs) kv.1 kv.2:=by
 unfold cD;rw [List.foldl_append];rfl
theorem Nf{d:ut}(hh:A.handled=none)(ha:H a=some (.tup xs))(hp:rK H xs kvs)(hn:kvs.length<=1000)(hd:H d=none)(hid:it≠d)(hia:it≠a)
  (hR:∀ s',Inv X pins σ (upd H d (.dK (cD [] kvs))) s'->R (.ok (.ret .none)) s') :
  ∀(k i:Nat) (s:ue),kvs.length - i=k->i<=kvs.length->Inv X pins σ ‹21› s->s.heap.IsTupleIter it a i->(∀ H':Hp,H' it=none->pW X pins H' it)->H it=none->
   HH ‹9› A (.builtin "dict.update.loop" ⟨[.ref d,.ref it,rawInt i,.none],[]⟩) R s:=by
 intro k;have had:a≠d:=au ha hd;exists 5
 induction k with
 | zero=>
  intro i s hk hi I hit hf hi0;have hin:i=kvs.length:=by omega
  have ha':‹21› a=some (.tup xs):=by rw [aA had]; exact ha
  obtain ⟨its,rv,p,_⟩:=I.tuple (V7 ha');have hit0:‹21› it=none:=by rw [aA hid]; exact hi0
  obtain ⟨f0,f1,f2,f3,f4,f5⟩:=hf _ hit0;refine gI qt ?_;rw [eS jj _];show uv _ A.in1 (Hc (.ref it) >>= _) _ _ s;refine af (n9 hh hit (show s.heap.IsTuple a its.toArray from p) (by have:=rv.length; have:=hp.1; simp; omega) fun h' eb=>?_);refine af (aE (aE ?_));have I1:=I.turned (t':=s.toks) (fun b o hb e=>eb b o hb e) f0 f1 f3 f4 f5;rw [hin,aw (ai _)] at I1;exact hR _ I1
 | succ k ih=>
  intro i s hk hi I hit hf hi0;have hlt:i < kvs.length:=by omega
  have ha':‹21› a=some (.tup xs):=by rw [aA had]; exact ha
  obtain ⟨its,rv,p,_⟩:=I.tuple (V7 ha');have hit0:‹21› it=none:=by rw [aA hid]; exact hi0
  obtain ⟨f0,f1,f2,f3,f4,f5⟩:=hf _ hit0;obtain ⟨pr,ex,hpr⟩:=hp.2 i kvs[i] (ae hlt);obtain ⟨u,hu,ru⟩:=rv.get ex;cases ru;refine gI qt ?_;rw [eS jj _];show uv _ A.in1 (Hc (.ref it) >>= _) _ _ s;refine af (n0 hit (show s.heap.IsTuple a its.toArray from p) (x:=.ref pr) (by simpa using hu) fun h' hit' sb=>?_);have I1:=I.turned (t':=s.toks) (fun b o hb e=>sb.extBut b o hb e) f0 f1 f3 f4 f5;have hpd:pr≠d:=au hpr hd;obtain ⟨jts,rj,⟨oj,gj,cj,nj,dj⟩,_⟩:=I1.tuple (V7 (show ‹21› pr=some (.tup [kV kvs[i].1,kvs[i].2]) by rw [aA hpd]; exact hpr));obtain ⟨v1,v2,rfl,r1,r2⟩:=rj.two;have hT:({ s with heap:=h' }:ue).TypeIs (.ref pr) "tuple" := ⟨oj,gj,cj⟩;refine af (eL ?_);refine af (wpAny_tryCatch ?_);unfold uB.Dict.pairItems;refine af (wpAny_typeOf hT ?_);rw [dE ‹6›];refine af (iE gj dj (aE ?_));show uv _ _ (UT [v1,v2] (dictSet d v1 v2)) _ _ _;refine eL (Pq I1 ak ?_ r1 r2 fun h2 sb2 I2=>?_)
  ·have:=jH (kvs.take i) [];rw [bc,nI] at this;omega
  rw [cX] at I2
  have et:kvs.take (i+1)=kvs.take i++[kvs[i]]:=by
   rw [jS,ae hlt];rfl
  rw [<- uG,<- et] at I2;refine aE ⟨iN jj _,?_⟩;exact ih (i+1) _ ‹26› hlt I2 (hit'.extBut sb2.extBut hid) hf hi0
end
section
variable {X:Cx}
inductive rJ (xs:LV) (H:Hp) (Q:VK):Prop
 | mk (a ps kvs:_):xs=[.ref a]->H a=some (.tup ps)->rK H ps kvs->kvs.length<=1000->(∀ d,H d=none->Q (.ref d) (upd H d (.dK (cD [] kvs))))->rJ xs H Q
theorem Ed(hc:X.calm=true):fj X (.type "dict") rJ:=by
 exists 9;obtain ⟨a,ps,kvs,rfl,ha,hp,hn,q⟩:=h;exists 14;have hh:X.A.handled=none:=I.ok.hd hc;refine callType_codes (Q₁:=fun obj s₁=>obj=.ref s.heap.objs.size/\s₁={ s with heap:=s.heap.push { cls:=.type "dict",data:=.dict #[] } }) F.kt_called_dict (F.kt_typeCall_dict_1 _) F.entry_dict_init (kt_code_dict_new _ ⟨rfl,rfl⟩) ?_;rintro obj s₁ ⟨rfl,rfl⟩;have hd:H s.heap.objs.size=none:=I.hok.fresh (ai _)
 have I1:Inv X pins σ (upd H s.heap.objs.size (.dK [])) { s with heap:=s.heap.push { cls:=.type "dict",data:=.dict #[] } }:=
  I.laid (t':=s.toks) (fun b o e=>av _ e) (ai _) (rG s.heap (dS I.big (ai _)))
 have had:a≠s.heap.objs.size:=au ha hd;have ha1:(upd H s.heap.objs.size (.dK [])) a=some (.tup ps):=by rw [aA had]; exact ha
 obtain ⟨⟨_,nd⟩,its,rv,o,go,co,n,dto⟩:=I1.hok a _ ha1;have hnew:(s.heap.push { cls:=.type "dict",data:=.dict #[] }).DictOf (bU X.prog X.w) s.heap.objs.size []:=Heap.DictOf.new s.heap;refine⟨hnew.typeIs,F.args_dict_init_2 _ _,?_⟩;unfold uB.«dict.__init__»;refine af ?_;unfold uB.Dict.selfAndRest;refine af (wpAny_notOrdered_dict hnew.typeIs ?_);show uv _ _ (Hn (s.heap.objs.size,[zg a])) _ _ _;refine aE ?_;show uv _ _ (HR "dict.__init__" s.heap.objs.size (.ref a) [] .none) _ _ _;unfold HR;have hT:({ s with heap:=s.heap.push { cls:=.type "dict",data:=.dict #[] } }:ue).TypeIs (.ref a) "tuple" := ⟨o,go,co⟩;refine af (wpAny_typeOf hT ?_);rw [dE ‹6›];refine af (Hi go co dto (nd o go) hh fun h2 tk2 k2=>?_);rw [dE (by rfl)];have I2:=I1.kept (t':=tk2) k2;refine af (jp ?_);refine af (wpAny_pyIter_tuple (show Heap.IsTuple h2 a its.toArray from ⟨o,k2 a o go,co,n,dto⟩) ?_);have I3:=I2.kept (t':=tk2) (h':=h2.push { cls:=.type "tuple_iterator",data:=.fields #[.ref a,.int 0 0] }) fun b o e=>av _ e
 have hle:s.heap.objs.size < h2.objs.size:=by
  obtain ⟨o',e'⟩:∃ o',(s.heap.push { cls:=.type "dict",data:=.dict #[] }).get? s.heap.objs.size=some o':=⟨_,bb _ rfl⟩;exact cn (k2 _ _ e')
 have hif:(upd H s.heap.objs.size (.dK [])) h2.objs.size=none:=I2.hok.fresh (ai _);refine aE ⟨iN jj _,?_⟩;have al:a < h2.objs.size:=cn (k2 a o go);have hi0:H h2.objs.size=none:=by rw [aA (eR hle)] at hif; exact hif
 refine Nf (A:=X.A.in1) (H:=H) (a:=a) (d:=s.heap.objs.size) (it:=h2.objs.size) (xs:=ps) (kvs:=kvs) hh ha hp hn hd (eR hle) (eR al) (fun s' I'=>?_) kvs.length 0 _ ‹45› (dk _) I3 ⟨_,bb _ rfl,rfl,rfl⟩ (fun H' hH'=>?_) hi0
 ·exact⟨rfl,⟨.ref s.heap.objs.size,_,I',rfl,q _ hd⟩⟩
 ·obtain ⟨g1,g2⟩:=I2.lV (ai _) hif;exact⟨hH',g2⟩
end
section
variable {X:Cx}
abbrev Cd:=@Vi
theorem size_rep(xs:Array Nat):∀(k:Nat) (acc:Array Nat),(List.foldl (fun x1 x2=>x1++x2) acc (List.replicate k xs)).size=acc.size+k * xs.size
 | 0,acc=>by simp
 | k+1,acc=>by
  rw [List.replicate_succ,List.foldl_cons,size_rep xs k,Array.size_append,Nat.succ_mul];omega
def ig(x:Str)(n:Int):Str:=if n < 1 then Str.empty else if (n == 1 || x.length == 0)=true then x else ⟨(List.replicate n.toNat x.cps).foldl (·++·) #[]⟩
inductive yh (a:V) (b:V) (H:Hp) (Q:VK):Prop
 | mk (x n:_):a=.str x->b=.int n->0<=n->n<=1000->x.length<=1000->Q (.str (ig x n)) H->yh a b H Q
theorem uP:OpR X (Eg .Mult) yh:=by
 intro pins s σ H a b u v Q I ra rb h;obtain ⟨x,n,rfl,rfl,h0,h1,hx,q⟩:=h;obtain ⟨t,rfl⟩:=ra;obtain ⟨t',rfl⟩:=rb;exists 5
 have hm:x.length * n.toNat<=1000000:=by
  have:x.length * n.toNat<=1000 * 1000:=Nat.mul_le_mul hx ‹26›;omega
 have h3:Cd (x.length * n.toNat)=false:=by
  unfold Cd;exact bE ‹26›
 refine P.mul_str ?_ ?_ (fun _ _=>h3) ?_
 ·rw [bE ‹26›,bE ‹26›];rfl
 ·intro hn _ hgt
  have h4:(x.length:Int) * n<=2 ^ 63 - 1:=by
   have:(x.length:Int) * n<=1000 * 1000:=Int.mul_le_mul ‹26› h1 h0 ‹6›;omega
  have:=(Int.le_ediv_iff_mul_le (by omega:0 < n)).mpr h4;omega
 ·unfold ig at q
  by_cases c1:n < 1
  ·rw [dE c1] at q ⊢;exact⟨by decide,.str _,H,I.tok _,⟨_,rfl⟩,q⟩
  ·rw [cK c1] at q ⊢
   by_cases c2:(n == 1 || x.length == 0)=true
   ·rw [dE c2] at q ⊢;exact⟨.str _,H,I,⟨_,rfl⟩,q⟩
   ·rw [cK c2] at q ⊢;refine⟨?_,.str _,H,I.tok _,⟨_,rfl⟩,q⟩;show (List.foldl (fun x1 x2=>x1++x2) #[] (List.replicate n.toNat x.cps)).size<=sizeLine;rw [size_rep];have:x.cps.size=x.length:=rfl;have:n.toNat * x.cps.size=x.length * n.toNat:=by rw [this,Nat.mul_comm]
    rw [VB];omega
end
end L2
end
section
namespace L2
open PySem PySem.Spec PyProof.Rows PySem.W
variable {n:Nat}{a:ut}{Q:ES}
def KOk{α:Type}(n:Nat)(P:α->Prop):KasT α->Prop
 | .ret a=>P a
 | .ask i j k=>i < n/\j < n/\∀ b,KOk n P (k b)
theorem KOk.bind{α β:Type}{n:Nat}{P:α->Prop}{Q:β->Prop}{f:α->KasT β}(hf:∀ a,P a->KOk n Q (f a)):∀ {t:KasT α},KOk n P t->KOk n Q (t.bind f)
 | .ret a,h=>hf a h
 | .ask i j k,h=>⟨h.1,h.2.1,fun b=>KOk.bind hf (h.2.2 b)⟩
theorem KOk.wp{α:Type}{n:Nat}{P:α->Prop}{Q:α->ue->Prop}{s:ue}{cmp:Nat->Nat->(Bool->ue->Prop)->ue->Prop}(hc:∀ i j C,i < n->j < n->(∀ b,C b s)->cmp i j C s)(hq:∀ a,P a->Q a s):∀ {t:KasT α},KOk n P t->t.kasWp cmp Q s
 | .ret a,h=>hq a h
 | .ask i j k,h=>hc i j _ h.1 h.2.1 fun b=>KOk.wp hc hq (h.2.2 b)
def Pm(n:Nat)(p:Array Nat):Prop:=p.Perm (List.range n).toArray
theorem Pm.lt{p:Array Nat}(h:Pm n p)(h0:0 < n)(i:Nat):p.getD i 0 < n:=by
 by_cases hi:i < p.size
 ·have e:p.getD i 0=p[i]:=by simp [Array.getD,hi]
  rw [e];have m:p[i]∈(List.range n).toArray:=h.mem_iff.mp (Array.getElem_mem hi);simpa using m
 ·have e:p.getD i 0=0:=by simp [Array.getD,hi]
  rw [e];exact h0
theorem Pm.rev{p:Array Nat}(h:Pm n p)(i j:Nat):Pm n (kas_rev p i j):=Array.Perm.trans (mirror_perm p i j _) h
theorem Pm.bub{p:Array Nat}(h:Pm n p)(k d:Nat):Pm n (bubble p k d):=Array.Perm.trans (bubble_perm p k d) h
section
variable {n:Nat}(h0:0 < n)
include h0
theorem Di{p:Array Nat}(h:Pm n p):∀(f m:Nat),KOk n (fun _=>True) (kas_asc p f m)
 | 0,m=>trivial
 | f+1,m=>⟨h.lt h0 _,h.lt h0 _,fun b=>by
   cases b with
   | true=>exact trivial
   | false=>exact Di h f (m+1)⟩
theorem uN:∀(f:Nat) {p:Array Nat} (m q:Nat),Pm n p->KOk n (fun r=>Pm n r.1) (kas_desc f p m q)
 | 0,p,m,q,h=>h
 | f+1,p,m,q,h=>⟨h.lt h0 _,h.lt h0 _,fun b=>by
   cases b with
   | true=>
    show KOk n _ (if true=true then _ else _);rw [dE rfl];split
    ·exact uN f _ _ (h.rev _ _)
    ·exact uN f _ _ h
   | false=>
    refine⟨h.lt h0 _,h.lt h0 _,fun d=>?_⟩;cases d with
    | true=>exact h
    | false=>exact uN f _ _ h⟩
theorem Br(m nrem:Nat){p:Array Nat}(h:Pm n p):KOk n (fun r=>Pm n r.2) (kas_tail3 m nrem p):=by
 unfold kas_tail3;refine KOk.bind (P:=fun _=>True) (fun a _=>?_) (Di h0 (h.rev 0 m) _ _);exact h.rev 0 m
theorem ug(m nrem:Nat){p:Array Nat}(h:Pm n p):KOk n (fun r=>Pm n r.2) (kas_descPart m nrem p):=by
 refine KOk.bind (fun r hr=>?_) (uN h0 _ _ _ h);split
 ·exact Br h0 _ _ (hr.rev _ _)
 ·exact Br h0 _ _ hr
theorem JB(nrem:Nat){p:Array Nat}(h:Pm n p):KOk n (fun r=>Pm n r.2) (kas_count nrem p):=by
 refine KOk.bind (fun r _=>?_) (Di h0 h _ _);split
 ·exact h
 ·split
  ·refine⟨h.lt h0 _,h.lt h0 _,fun b=>?_⟩;cases b with
   | true=>exact h
   | false=>exact ug h0 _ _ (h.rev _ _)
  ·exact ug h0 _ _ h
theorem vD{p:Array Nat}(h:Pm n p)(k:Nat):∀(f l r:Nat),KOk n (fun _=>True) (kas_place p k f l r)
 | 0,l,r=>trivial
 | f+1,l,r=>by
  unfold kas_place;split
  ·exact trivial
  ·refine⟨h.lt h0 _,h.lt h0 _,fun b=>?_⟩;cases b with
   | true=>exact vD h k f _ _
   | false=>exact vD h k f _ _
theorem LQ:∀(f:Nat) {p:Array Nat} (k:Nat),Pm n p->KOk n (Pm n) (kas_bin f p k)
 | 0,p,k,h=>h
 | f+1,p,k,h=>KOk.bind (fun l _=>LQ f (k+1) (h.bub _ _)) (vD h0 h k _ _ _)
theorem Ot:KOk n (Pm n) (kas_sort n):=by
 refine KOk.bind (fun r hr=>?_) (JB h0 n (Array.Perm.refl _));split
 ·exact LQ h0 _ _ hr
 ·exact hr
end
theorem Pm.out{vs:LU}{p:Array Nat}(h:Pm vs.length p):(p.toList.map fun i=>vs.getD i xF).Perm vs:=by
 have h1:p.toList.Perm (List.range vs.length):=by simpa using h.toList
 have h2:=h1.map fun i=>vs.getD i xF
 have h3:(List.range vs.length).map (fun i=>vs.getD i xF)=vs:=by
  apply qc ‹45›;intro i a b;simp [b]
 rw [h3] at h2;exact h2
section
variable {prog:uC}{w:ww}{A:xf}{E:ES}{s:ue}
structure QV (prog:uC) (w:ww) (A:xf) (κ:VP) (vs:LU) (h:Heap):Prop where
 kind:∀ (s':ue) (Q:VP->ue->Prop) (E:ES),(∀ b o,h.get? b=some o->s'.heap.get? b=some o)->Q κ s'->uv ‹32› A (keyKind' vs.toArray) Q E s'
 lt:∀ x∈vs,∀ y∈vs,∀ (s':ue) (C:Bool->ue->Prop),(∀ b o,h.get? b=some o->s'.heap.get? b=some o)->(∀ b,C b s')->uv ‹32› A (keyLt' κ x y) C (fun _ _=>False) s'
theorem wO{vs:LU}{P:Fin->ue->Prop}{h₀:Heap}{κ:VP}(ho:s.heap.get? a=some (zz "list" vs.toArray n))(h64:vs.length < 64)(keep:∀ b o,h₀.get? b=some o->s.heap.get? b=some o/\b≠a)
  (hc:2<=vs.length->QV prog w A κ vs h₀)
  (h:∀ out:AV,out.toList.Perm vs->P (.done (.ret .none)) { s with heap:=sortedHeap s.heap a vs out }) :
  uv ‹32› A (uB.«list.sort» ⟨[.ref a],[]⟩) P E s:=by
 rw [list_sort_plain];have ha:a < s.heap.objs.size:=cn ho;refine af (listItems_at ho rfl ?_);refine af (listUpdate_at ho rfl ?_ (by rw [cf,cy]; omega) (dk _));obtain ⟨e1,ho1⟩:∃ e1,(s.heap.update a (Obj.mapSeq fun _=>#[])).get? a=some (zz "list" #[] e1):=⟨_,get?_update_seq ho (fun _=>#[])⟩;refine af (seqEpoch_at ho1 rfl ?_);refine af (wpAny_newTuple ?_ (by show vs.length<=_; rw [cy]; omega));refine af (sk ?_ (dk _));refine eL ?_
 have ho6:(((s.heap.update a (Obj.mapSeq fun _=>#[])).push (zz "tuple" vs.toArray 0)).push (zz "list" #[] 0)).get? a=some (zz "list" #[] e1):=by
  rw [pe _ _ _ (by rw [size_push',Heap.size_update]; exact dm (i6 ha)),pe _ _ _ (by rw [Heap.size_update]; exact dm ha)];exact ho1
 have kp:∀ b o,h₀.get? b=some o->(((s.heap.update a (Obj.mapSeq fun _=>#[])).push (zz "tuple" vs.toArray 0)).push (zz "list" #[] 0)).get? b=some o:=fun b o e=>by
  obtain ⟨e',ne⟩:=keep b o e;exact av _ (av _ ((kr _ _ (kL ne)).trans e'))
 show uv ‹32› A _ P E { s with heap:=((s.heap.update a (Obj.mapSeq fun _=>#[])).push (zz "tuple" vs.toArray 0)).push (zz "list" #[] 0) };dsimp only;have hsz:vs.toArray.size=vs.length:=by simp
 have fin:∀ st':SortSt,failedOf st'=none->((arrOf st').map (·.2)).toList.Perm vs->uv ‹32› A (do
   let touched:=(<- seqEpoch a) != e1
   uB.List.listUpdate (.ref a) fun _=>(arrOf st').map (·.2)
   if let some e:=failedOf st' then rule "list.sort.comparison-raised"; throw e
   if touched then rule "list.sort.modified"; raiseError "ValueError" "list modified during sort"
   ret .none) P E { s with heap:=((s.heap.update a (Obj.mapSeq fun _=>#[])).push (zz "tuple" vs.toArray 0)).push (zz "list" #[] 0) }:=fun st' hf hp=>by
  refine af (seqEpoch_at ho6 rfl ?_)
  refine af (listUpdate_at ho6 rfl ?_ (dk _) (by
   have:=hp.length_eq;rw [fE] at this;show ((arrOf st').map (·.2)).size<=_;rw [this,cy];omega))
  rw [hf];simp only [bne_self_eq_false,jn,oC];exact aE (h _ hp)
 by_cases h2:vs.toArray.size < 2
 ·rw [dE h2,dE h2];refine af (aE ?_);rw [StateT.run_pure];refine af (aE ?_);refine fin (SortSt.mk' general' (vs.toArray.zip vs.toArray) #[] 7 none) rfl ?_
  have e:((vs.toArray.zip vs.toArray).map (·.2)).toList=vs:=by
   simp only [List.zip_toArray,List.map_toArray];exact List.map_snd_zip (ai _)
  show ((vs.toArray.zip vs.toArray).map (·.2)).toList.Perm vs;rw [e]
 ·rw [cK h2,cK h2];rw [hsz] at h2;have C:=hc ‹26›;refine af (C.kind _ _ _ kp ?_)
  refine af (ib (kat_run (ks:=vs) (Q:=fun st' s'=>s'={ s with heap:=((s.heap.update a (Obj.mapSeq fun _=>#[])).push (zz "tuple" vs.toArray 0)).push (zz "list" #[] 0) }/\failedOf st'=none/\((arrOf st').map (·.2)).toList.Perm vs)
   (G:=fun p s'=>s'={ s with heap:=((s.heap.update a (Obj.mapSeq fun _=>#[])).push (zz "tuple" vs.toArray 0)).push (zz "list" #[] 0) }/\Pm vs.length p) rfl ‹26› h64 (fun p st' s' _ e1 e2 ⟨e3,e4⟩=>⟨e3,e2,?_⟩) ?_) ?_ fun _ _ e=>e)
  ·rw [kat_snds rfl e1];exact e4.out
  ·refine KOk.wp (fun i j Cc hi hj hC=>?_) (fun p hp=>⟨rfl,hp⟩) (Ot ‹26›)
   have gm:∀ i,i < vs.length->vs.getD i xF∈vs:=fun i hi=>by
    have:vs.getD i xF=vs[i]:=by simp [hi]
    rw [this];exact bS hi
   exact C.lt _ (gm i hi) _ (gm j hj) _ _ kp hC
  ·rintro ⟨⟨⟩,st'⟩ s' ⟨rfl,hf,hp⟩;exact fin st' hf hp
theorem Em{l:ut}{vs:LU}{κ:VP}(hl:s.heap.IsList l vs.toArray)(h64:vs.length < 64)(hc:2<=vs.length->QV prog w A.in1.in1 κ vs s.heap)
  (h:∀ out:AV,out.toList.Perm vs->Q (.ref ‹40›) { s with heap:=sortedAll s.heap vs out }) :
  uv ‹32› A (call (.builtin "sorted") [.ref l]) Q E s:=by
 refine mM kind_sorted plain_sorted entry_sorted (args_sorted1 _) ?_;unfold uB.«sorted»;refine af (m:=checkCount "sorted" 1 1 _) (aE ?_);refine af (collect_list hl ?_ (by rw [cy]; omega));refine af (sk ?_ (by rw [cy]; omega))
 have hsz:((s.heap.push (zz "list" #[] 0)).update s.heap.objs.size (Obj.mapSeq (·++vs.toArray))).objs.size=s.heap.objs.size+1:=by
  rw [Heap.size_update,size_push']
 have hoL:(((s.heap.push (zz "list" #[] 0)).update s.heap.objs.size (Obj.mapSeq (·++vs.toArray))).push ‹37›).get? ‹40›=some (zz "list" vs.toArray 0):=by
  rw [<- hsz]; exact bb _ rfl
 have keep:∀ b o,s.heap.get? b=some o->(((s.heap.push (zz "list" #[] 0)).update s.heap.objs.size (Obj.mapSeq (·++vs.toArray))).push ‹37›).get? b=some o/\b≠s.heap.objs.size+1:=fun b o q=>by
  have hlt:b < s.heap.objs.size:=cn q;refine⟨?_,dm (i6 hlt)⟩;rw [pe _ _ _ (by rw [hsz]; exact dm (i6 hlt)),Heap.get?_update_ne _ _ _ _ (dm hlt),pe _ _ _ (dm hlt)];exact q
 show uv _ _ _ _ _ { s with heap:=((s.heap.push (zz "list" #[] 0)).update s.heap.objs.size (Obj.mapSeq (·++vs.toArray))).push ‹37› };rw [hsz];refine af (eL (eM slot_list_sort ⟨_,hoL,rfl⟩ entry_list_sort (wO hoL h64 keep hc fun out a1=>⟨_,rfl,?_⟩) (args_list_sort _)));exact aE ⟨_,rfl,h out a1⟩
end
theorem Vals.perm:∀ {us ws:LU},us.Perm ws->∀ {xs:LV},Vals xs ws->∃ ys,ys.Perm xs/\Vals ys us:=by
 intro us ws h
 induction h with
 | nil=>exact fun {xs} r=>⟨xs,.refl _,r⟩
 | cons a _ ih=>
  intro xs r;cases r with
  | cons q t=>
   obtain ⟨ys,p,r'⟩:=ih t;exact⟨_::ys,p.cons _,.cons q r'⟩
 | swap a b l=>
  intro xs r;cases r with
  | cons q t=>
   cases t with
   | cons q' t'=>exact⟨_,.swap _ _ _,.cons q' (.cons q t')⟩
 | trans _ _ i1 i2=>
  intro xs r;obtain ⟨ys,p,r'⟩:=i2 r;obtain ⟨zs,p',r''⟩:=i1 r';exact⟨zs,p'.trans p,r''⟩
def Qz(b:Bool)(y:V):Prop:=if b then (∃ x,y=.str x) else ∃ i,y=.int i
section
variable {X:Cx}
inductive qH (K:PySem.W.Frag) (b:Bool) (xs:LV) (H:Hp) (Q:VK):Prop
 | mk (l ps:_):xs=[.ref l]->SqL K H l ps->ps.length < 64->(∀ x∈ps,∃ p i y,x=.ref p/\H p=some (.tup [.int i,y])/\Qz b y)->(∀ d qs,qs.Perm ps->H d=none->Q (.ref d) (upd H d (.lst qs)))->qH K b xs H Q
theorem Ar(b:Bool):fj X (.builtin "sorted") (qH X.K b):=by
 exists 9;obtain ⟨l,ps,rfl,hl,h64,hp,q⟩:=h;exists 14;obtain ⟨its,rv,pl,hz⟩:=I.list hl;have hlen:=rv.length
 have item:∀ v∈its,∃(p:ut) (o:Obj) (i:Int) (t:Tok) (y:sr) (n:Nat),v=.ref p/\s.heap.get? p=some o/\o.cls=.type "tuple" /\ o.data=.seq #[.int i t,y] n/\(if b then ∃ x t',y=Tu x t' else ∃ j t',y=PP j t'):=fun v hv=>by
  obtain ⟨i,hi,rfl⟩:=fF hv;have hi':i < ps.length:=by omega
  obtain ⟨w',hw,rw'⟩:=rv.get (i:=i) (x:=ps[i]) (ae hi');rw [ae hi] at hw;cases hw;obtain ⟨p,j,y,e,hH,hy⟩:=hp ps[i] (bS hi');rw [e] at rw';have rw':its[i]=.ref p:=rw';obtain ⟨jts,rj,⟨o,go,co,n,dn⟩,_⟩:=I.tuple (V7 hH);obtain ⟨v1,v2,rfl,⟨t,rfl⟩,r2⟩:=rj.two;refine⟨p,o,j,t,v2,n,rw',go,co,dn,?_⟩;unfold Qz at hy;cases b with
  | true=>
   obtain ⟨x,rfl⟩:=(by simpa using hy:∃ x,y=V.str x);obtain ⟨t',rfl⟩:=r2;simp
  | false=>
   obtain ⟨x,rfl⟩:=(by simpa using hy:∃ x,y=V.int x);obtain ⟨t',rfl⟩:=r2;simp
 have hcmp:2<=its.length->QV X.prog X.w X.A.in1.in1 (tuples' ((Hb "int") != Hb "tuple")) its s.heap:=fun h2=>by
  refine⟨fun s' Q' E' kp hq=>?_,fun x hx y hy s' C kp hC=>?_⟩
  ·have tups:∀ vs:LU,(∀ v∈vs,v∈its)->∃ fs:LU,KatTups s'.heap vs fs/\fs.length=vs.length/\∀ f∈fs,∃ i t,f=PP i t:=by
    intro vs
    induction vs with
    | nil=>exact fun _=>⟨[],.nil,rfl,fun _ h=>nomatch h⟩
    | cons v vs ih=>
     intro hm;obtain ⟨fs,k,e,hf⟩:=ih fun v hv=>hm v (cr _ hv);obtain ⟨p,o,i,t,y,n,rfl,go,co,dn,_⟩:=item v (hm v bn);refine⟨.int i t::fs,.cons (kp p o go) co dn rfl k,by rw [dA,dA,e],fun f hf'=>?_⟩;rcases bz.mp hf' with rfl | h'
     ·exact⟨i,t,rfl⟩
     ·exact hf f h'
   obtain ⟨fs,k,e,hf⟩:=tups its fun _ h=>h;refine kat_kind (T:=.type "int") k ‹26› (fun v hv=>?_) rfl hq;obtain ⟨i,t,rfl⟩:=hf v hv;exact .now
  ·obtain ⟨p,o,i,t,y1,n,rfl,go,co,dn,h1⟩:=item x hx;obtain ⟨p',o',i',t',y2,n',rfl,go',co',dn',h1'⟩:=item y hy;refine kat_lt (kp p o go) dn (kp p' o' go') dn' ?_;show KatLex _ _ _ _ _ _ [(PP i t,PP i' t'),(y1,y2)] 0 s';refine kat_cons (Vv (kat_go (fun _=>kat_yes ?_) fun _=>kat_no ?_))
   ·cases b with
    | true=>
     obtain ⟨x1,u1,rfl⟩:=(by simpa using h1:∃ x t',y1=Tu x t');obtain ⟨x2,u2,rfl⟩:=(by simpa using h1':∃ x t',y2=Tu x t');refine kat_cons (wpAny_eqBool_str (kat_go (fun _=>kat_yes (kat_nil (hC _))) fun _=>kat_no ?_));exact kat_one _ _ (lt_str (hC _))
    | false=>
     obtain ⟨x1,u1,rfl⟩:=(by simpa using h1:∃ x t',y1=PP x t');obtain ⟨x2,u2,rfl⟩:=(by simpa using h1':∃ x t',y2=PP x t');refine kat_cons (Vv (kat_go (fun _=>kat_yes (kat_nil (hC _))) fun _=>kat_no ?_));exact kat_one _ _ (PyProof.Rows.lt_int (hC _))
   ·exact oneLt_int (hC _)
 refine Em pl.isList ‹26› hcmp fun out hperm=>?_;obtain ⟨ys,py,ry⟩:=rv.perm hperm;obtain ⟨e,he⟩:=sortedAll_at s.heap its out;have hd:H ‹40›=none:=I.hok.fresh (sj _);refine⟨.ref ‹40›,_,I.laid (t':=s.toks) (o:=.lst ys) (fun b o q=>sortedAll_old q) (sj _) ⟨by rw [py.length_eq]; exact hz,out.toList,e,ry,by rw [mi]; exact he⟩,rfl,q _ ys py hd⟩
end
end L2
end
section
namespace L2
open PySem PySem.Spec PyProof.Rows
variable {J:It}{i n own:Nat}{fr:List Nat}{g:TG}{tc:TT}{te tl:TE}{σ:St}{D a it p q:ut}{A:xf}{H H':Hp}{c:Int}{B:Prop}{b:Str}{K:PySem.W.Frag}{xs:LV}{tb:TS}{o:Obj}{kvs:LK0}{tg:Expr}{pins:LO}{R:V3->ue->Prop}
theorem tU:ye "sorted" = some (.builtin "sorted"):=by decide +kernel
theorem zy:ye "dict" = some (.type "dict"):=by decide +kernel
section
variable {X:Cx}{K:PySem.W.Frag}
theorem Dv(h:X.K=K)(hc:X.calm=true):fj X (.builtin "any") (qT K):=by subst h; exact J0 hc
end
theorem bA{Q:VK}{H0:Hp}(Pv:Nat->LV->Hp->Prop)(h0:Pv 0 [] H0)(stop:∀ ys H,Pv n ys H->J.stop n H/\Q (.ref D) H)
  (go:∀ i ys H,i < n->Pv i ys H->J.go i H/\∀ x H',J.yld i H x H'->∀ σo:St,σo.length=own->g x (σo++frv σ fr) H' fun σ2 H2=>(∃ σo':St,σo'.length=own/\σ2=σo'++frv σ fr)/\
   tc σ2 H2 fun b H3=>if b=true then te σ2 H3 fun y H4=>ys.length < sizeLine/\H4 D=some (.lst ys)/\∃ m',m' < n - i/\(m'=n - (i+1)/\i+1<=n/\Pv (i+1) (ys++[y]) (upd H4 D (.lst (ys++[y])))) else ∃ m',m' < n - i/\(m'=n - (i+1)/\i+1<=n/\Pv (i+1) ys H3)) :
  uH own fr g tc te σ Q J D H0:=by
 refine⟨fun i m ys H=>m=n - i/\i<=n/\Pv i ys H,⟨n,by simp,dk _,h0⟩,?_⟩;rintro i m ys H ⟨rfl,hi,p⟩
 by_cases hlt:i < n
 ·exact .inr (go i ys H hlt p)
 ·have e:i=n:=by omega
  subst e;exact .inl (stop ys H p)
theorem aW(h:i < n){P:Prop}(p:P):∃ m',m' < n - i/\(m'=n - (i+1)/\i+1<=n/\P):=⟨n - (i+1),by omega,rfl,h,p⟩
theorem own1{σo:St}(h:σo.length=1):∃ o,σo=[o]:=by
 cases σo with
 | nil=>cases h
 | cons o r=>
  cases r with
  | nil=>exact⟨o,rfl⟩
  | cons _ _=>cases h
theorem Og{σo:St}(h:σo.length=2):∃ o o',σo=[o,o']:=by
 cases σo with
 | nil=>cases h
 | cons o r=>
  cases r with
  | nil=>cases h
  | cons o' r=>
   cases r with
   | nil=>exact⟨o,o',rfl⟩
   | cons _ _=>cases h
theorem tG{α β:Type}{f:α->β}:∀ {l:List α},(∀ a∈l,∀ b∈l,f a=f b->a=b)->l.Nodup->(l.map f).Nodup
 | [],_,_=>ke
 | a::r,hi,hn=>by
  obtain ⟨h1,h2⟩:=fh.mp hn;rw [de];refine fh.mpr ⟨fun m=>?_,tG (fun x hx y hy=>hi x (cr _ hx) y (cr _ hy)) h2⟩;obtain ⟨b,hb,e⟩:=bu.mp m;exact h1 (hi b (cr _ hb) a bn e ▸ hb)
theorem dh{α:Type}[DecidableEq α]:∀ {l m:List α},l.Nodup->(∀ x∈l,x∈m)->l.length<=m.length
 | [],_,_,_=>dk _
 | a::r,m,hn,hs=>by
  obtain ⟨h1,h2⟩:=fh.mp hn;have hm:a∈m:=hs a bn
  have:=dh (l:=r) (m:=m.erase a) h2 fun x hx=>by
   have ne:x≠a:=fun e=>h1 (e ▸ hx);exact(List.mem_erase_of_ne ne).mpr (hs x (cr _ hx))
  have e:=List.length_erase_of_mem hm;have p:0 < m.length:=List.length_pos_of_mem hm;rw [dA];omega
theorem Rq{k:Nat}(hr:kZ k A):A.units+10 < cLine:=by
 have:=hr.units;omega
inductive Pu (H:Hp) (p:ut):Prop
 | mk (a b c:Int):H p=some (.lst [.int a,.int b,.int c])->Pu H p
theorem Pu.ne{u:ut}{us:LS}(h:Pu H p)(g:H u=some (.lst (us.map V.str))):u≠p:=by
 obtain ⟨a,b,c,e⟩:=h;exact(eG e g Ni).symm
theorem Pu.upd{a b:Int}:Pu (upd H p (.lst [.int a,.int b,.int c])) p:=⟨a,b,c,ak⟩
abbrev Wg:=@Pu.upd
theorem Pu.same(h:Pu H p)(s:Same H H'):Pu H' p:=by
 obtain ⟨a,b,c,e⟩:=h;exact⟨a,b,c,s p _ e⟩
theorem Pu.neN(h:Pu H p)(g:H q=none):p≠q:=by
 obtain ⟨a,b,c,e⟩:=h;exact au e g
theorem Pu.aA{o:HO}(h:Pu H p)(g:p≠q):Pu (L2.upd H q o) p:=by
 obtain ⟨a,b,c,e⟩:=h;exact⟨a,b,c,by rw [L2.aA g]; exact e⟩
theorem eO{c A:Prop}[Decidable c](h:c)(a:A):if c then A else B:=by
 rw [dE h];exact a
theorem eU{c A:Prop}[Decidable c](h:¬ c)(b:B):if c then A else B:=by
 rw [cK h];exact b
def abc:Str:= "abcdefghijklmnopqrstuvwxyz"
def letters:LS:=abc.cps.toList.map fun c=>⟨#[c]⟩
theorem uz:letters.length=26:=by decide +kernel
theorem uW:abc.cps.size=26:=by decide +kernel
theorem jM:∀ x∈letters,x.length=1:=by
 intro x hx;obtain ⟨c,_,rfl⟩:=bu.mp hx;rfl
theorem wU:letters.Nodup:=by decide +kernel
theorem Az{a z:Str}(ha:a.length=1)(hb:b.length=1)(h:a++z=b++z):a=b:=by
 obtain ⟨⟨a⟩⟩:=a;obtain ⟨⟨b⟩⟩:=b
 have h':(a++z.cps.toList)=(b++z.cps.toList):=by
  have e:∀ y:List Nat,((⟨⟨y⟩⟩:Str)++z).cps.toList=y++z.cps.toList:=fun y=>by
   show ((⟨y⟩:Array Nat)++z.cps).toList=_;rw [mS]
  rw [<- e,<- e,h]
 have:=List.append_cancel_right h';rw [this]
theorem dF(a b:Str):(a++b).length=a.length+b.length:=by
 show (a.cps++b.cps).size=_;rw [Array.size_append];rfl
theorem Bt{us:LS}(h:us.length<=25)(z:Str):∃ c∈letters,¬ (c++z)∈us:=by
 apply fb;intro hn;have all:∀ c∈letters,(c++z)∈us:=fun c hc=>fb fun hx=>hn ⟨c,hc,hx⟩
 have nd:(letters.map (·++z)).Nodup:=by
  exact tG (fun a ha b hb e=>Az (jM a ha) (jM b hb) e) wU
 have:=dh nd fun x hx=>by
  obtain ⟨c,hc,rfl⟩:=bu.mp hx;exact all c hc
 rw [aa,uz] at this;omega
theorem jD(z:Str)(lo hi:Option Int):(ym z lo hi).length<=z.length:=rf z lo hi
theorem Ml{D:Ends}(Pv:Nat->St->Hp->Prop)(h0:Pv 0 σ H)(hl:∀ i σ H,i<=xs.length->Pv i σ H->SqL K H a xs)
  (hs:∀ i x σ H p,xs[i]?=some x->Pv i σ H->H p=none->g (.ref p) σ (upd H p (.tup [.int i,x])) fun σ2 H2=>tb { D with nx:=Pv (i+1),ct:=Pv (i+1),bk:=D.nx } σ2 H2) (hd:∀ σ H,Pv xs.length σ H->D.nx σ H) :
  ∃ W:Nat->Nat->St->Hp->Prop,(∃ m,W 0 m σ H)/\∀ i m σ H,W i m σ H->
   ((Ite K a).stop i H/\D.nx σ H)\/((Ite K a).go i H/\∃ N:St->Hp->Prop,‹10›/\∀ x H',(Ite K a).yld i H x H'->g x σ H' fun σ2 H2=>tb { D with nx:=N,ct:=N,bk:=D.nx } σ2 H2):=by
 refine⟨fun i m σ H=>m=xs.length - i/\i<=xs.length/\Pv i σ H,⟨xs.length,by simp,dk _,h0⟩,?_⟩;rintro i m σ H ⟨rfl,hi,p⟩;have q:=hl i σ H hi p
 by_cases hlt:i < xs.length
 ·refine .inr ⟨⟨xs,xs[i],q,by simp [hlt]⟩,Pv (i+1),fun σ' H' p'=>⟨xs.length - (i+1),by omega,rfl,hlt,p'⟩,fun x H' y=>?_⟩;obtain ⟨r,hr,rfl,y⟩:=y;have e:=y xs xs[i] q (by simp [hlt]);subst e;exact hs i xs[i] σ _ r (by simp [hlt]) p hr
 ·have e:i=xs.length:=by omega
  subst e;exact .inl ⟨⟨xs,q,ai _⟩,hd σ H p⟩
theorem wD{d:ut}{D:Ends}(Pv:Nat->St->Hp->Prop)(h0:Pv 0 σ H)(hl:∀ i σ H,i<=kvs.length->Pv i σ H->H d=some ‹39›)
  (hs:∀ i kv σ H,kvs[i]?=some kv->Pv i σ H->g (kV kv.1) σ H fun σ2 H2=>tb { D with nx:=Pv (i+1),ct:=Pv (i+1),bk:=D.nx } σ2 H2) (hd:∀ σ H,Pv kvs.length σ H->D.nx σ H) :
  ∃ W:Nat->Nat->St->Hp->Prop,(∃ m,W 0 m σ H)/\∀ i m σ H,W i m σ H->
   ((Itd o d kvs).stop i H/\D.nx σ H)\/((Itd o d kvs).go i H/\∃ N:St->Hp->Prop,‹10›/\∀ x H',(Itd o d kvs).yld i H x H'->g x σ H' fun σ2 H2=>tb { D with nx:=N,ct:=N,bk:=D.nx } σ2 H2):=by
 refine⟨fun i m σ H=>m=kvs.length - i/\i<=kvs.length/\Pv i σ H,⟨kvs.length,by simp,dk _,h0⟩,?_⟩;rintro i m σ H ⟨rfl,hi,p⟩;have q:=hl i σ H hi p
 by_cases hlt:i < kvs.length
 ·refine .inr ⟨⟨q,hlt⟩,Pv (i+1),fun σ' H' p'=>⟨kvs.length - (i+1),by omega,rfl,hlt,p'⟩,fun x H' y=>?_⟩;obtain ⟨rfl,kv,e,rfl⟩:=y;exact hs i kv σ _ e p
 ·have e:i=kvs.length:=by omega
  subst e;exact .inl ⟨⟨q,ai _⟩,hd σ H p⟩
section
variable {X:Cx}{K:PySem.W.Frag}
inductive Sd (K:PySem.W.Frag) (x:V) (y:V) (H:Hp) (Q:VK):Prop
 | mk (a b:ut) (xs:LV):x=.ref a->y=.ref b->SqL K H a xs->SqL K H b []->Q (.bl (!xs.isEmpty)) H->Sd K x y H Q
inductive Tr (K:PySem.W.Frag) (x:V) (y:V) (H:Hp) (Q:VK):Prop
 | mk (a b:ut) (xs:LV):x=.ref a->y=.ref b->SqL K H a xs->SqL K H b []->Q (.bl xs.isEmpty) H->Tr K x y H Q
theorem Le(hK:X.K=K)(hu:X.A.units < cLine):OpR X (xN .NotEq) (Sd K):=by
 subst hK;exists 6;obtain ⟨a,b,xs,rfl,rfl,ha,hb,q⟩:=h;cases rx;cases ry;obtain ⟨its,r,p,_⟩:=I.list ha;obtain ⟨its2,r2,p2,_⟩:=I.list hb;have e2:its2=[]:=r2.lO.mpr rfl;subst e2;cases xs with
 | nil=>
  have e1:its=[]:=r.lO.mpr rfl;subst e1;exact SeqAt.RcNeAt.lists (A:=X.A) (s:=s) (e:=fun _=>true) p.isList p2.isList rfl hu (fun j h1 _=>by simp at h1) X.prog X.w X.xe _ ⟨.bl false,H,I,rfl,q⟩
 | cons x0 xr=>
  have hl:=r.length;refine SeqAt.RcNeAt.lists_lengths (A:=X.A) (s:=s) p.isList p2.isList ?_ hu X.prog X.w X.xe _ ⟨.bl true,H,I,rfl,q⟩;rw [dA] at hl;have:its.length≠0:=by omega
  simpa using this
theorem Rp(hK:X.K=K)(hu:X.A.units < cLine):OpR X (xN .Eq) (Tr K):=by
 subst hK;exists 6;obtain ⟨a,b,xs,rfl,rfl,ha,hb,q⟩:=h;cases rx;cases ry;obtain ⟨its,r,p,_⟩:=I.list ha;obtain ⟨its2,r2,p2,_⟩:=I.list hb;have e2:its2=[]:=r2.lO.mpr rfl;subst e2;cases xs with
 | nil=>
  have e1:its=[]:=r.lO.mpr rfl;subst e1;exact Vl.lists (A:=X.A) (s:=s) (e:=fun _=>true) p.isList p2.isList rfl hu (fun j h1 _=>by simp at h1) X.prog X.w X.xe _ ⟨.bl true,H,I,rfl,q⟩
 | cons x0 xr=>
  have hl:=r.length;refine Vl.lists_lengths (A:=X.A) (s:=s) p.isList p2.isList ?_ hu X.prog X.w X.xe _ ⟨.bl false,H,I,rfl,q⟩;rw [dA] at hl;have:its.length≠0:=by omega
  simpa using this
inductive Pj (K:PySem.W.Frag) (R:It->Hp->Prop) (x:V) (H1:Hp):Prop
 | mk (a:_):x=.ref a->((∃ xs,SqT K H1 a xs/\R (Itt K a) H1)\/∃ xs,SqL K H1 a xs/\R (Itl K a) H1)->Pj K R x H1
def T6(K:PySem.W.Frag)(tl:TE):TI:=fun σ H R=>tl σ H fun x H1=>Pj K R x H1
theorem oO{l:Expr}(hl:PE X l tl)(hK:X.K=K):PI X tg l (T6 K tl):=by
 subst hK;intro pins s σ H R I h;refine thn (hl pins s σ H _ I h) fun v s1 ⟨x,H1,I1,r1,a,e,q1⟩=>?_;subst e;cases r1;rcases q1 with ⟨xs,hq,q⟩ | ⟨xs,hq,q⟩
 ·obtain ⟨its,rv,p,hz⟩:=I1.tuple hq;refine wpAny_pyIter_tuple (show s1.heap.IsTuple a its.toArray from p) ?_;refine⟨s1.heap.objs.size,[s1.heap.objs.size],_,_,H1,rfl,I1.kept (t':=s1.toks) fun b o e=>av _ e,vG a _,⟨_,bb _ rfl,rfl,rfl⟩,fun b hb=>?_,q⟩;have e:b=s1.heap.objs.size:=by simpa using hb
  subst e;exact I1.lV (ai _) ‹41›
 ·obtain ⟨its,rv,p,hz⟩:=I1.list hq;refine i5 p.isList ?_;refine⟨s1.heap.objs.size,[s1.heap.objs.size],_,_,H1,rfl,I1.kept (t':=s1.toks) fun b o e=>av _ e,sV a _,⟨_,bb _ rfl,rfl,rfl⟩,fun b hb=>?_,q⟩;have e:b=s1.heap.objs.size:=by simpa using hb
  subst e;exact I1.lV (ai _) ‹41›
inductive TF (K:PySem.W.Frag) (neg:Bool) (x:V) (y:V) (H:Hp) (Q:VK):Prop
 | mk (p:ut) (xs:LV):x=.non->y=.ref p->SqL K H p xs->(∀ z∈xs,z=.non\/∃ a ys,z=.ref a/\H a=some (.tup ys))->Q (.bl (if neg then !decide (V.non∈xs) else decide (V.non∈xs))) H->TF K neg x y H Q
theorem Ie(hK:X.K=K)(hu:X.A.units+10 < cLine):OpR X (xN .NotIn) (TF K true):=by
 subst hK;exists 6;obtain ⟨p,xs,rfl,rfl,hp,hx,q⟩:=h;cases rx;cases ry;obtain ⟨its,r,pl,_⟩:=I.list hp
 have key:∀ {zs:LV} {us:LU},Vals zs us->(∀ z∈zs,z=.non\/∃ a ys,z=.ref a/\H a=some (.tup ys))->(∀ u∈us,xm X.A.in1 s u .none (decide (u=xF)))/\us.any (fun u=>decide (u=xF))=decide (V.non∈zs):=by
  intro zs us hr
  induction hr with
  | nil=>exact fun _=>⟨(fun _ h=>by cases h),rfl⟩
  | @cons z u' zs us r0 t ih=>
   intro hz;obtain ⟨i1,i2⟩:=ih fun z hz'=>hz z (cr _ hz');rcases hz z bn with rfl | ⟨a,ys,rfl,ha⟩
   ·have e:u'=xF:=r0;subst e;refine⟨fun w hw=>?_,by simp⟩;rcases bz.mp hw with rfl | h
    ·have:=xm.same (A:=X.A.in1) (s:=s) xF;rw [bo rfl];exact this
    ·exact i1 w h
   ·have e:u'=zg a:=r0;subst e;obtain ⟨jts,_,pt⟩:=iy I ha;refine⟨fun w hw=>?_,?_⟩
    ·rcases bz.mp hw with rfl | h
     ·rw [bE (by intro z; cases z)];exact xm.tuple_none pt (by show X.A.units+1 < cLine; omega)
     ·exact i1 w h
    ·rw [ny,i2,bE (by intro z; cases z),Bool.false_or];simp
 obtain ⟨k1,k2⟩:=key r hx;refine SeqAt.notIn_listAt (fun u=>decide (u=xF)) pl.isList (fun y hy=>k1 y (by simpa using hy)) ?_;rw [List.any_toArray,k2];exact⟨.bl _,H,I,rfl,q⟩
end
section
variable {X:Cx}{K:PySem.W.Frag}
inductive gG (H:Hp) (v:V) (ys:LV):Prop
 | mk (p:_):v=.ref p->(H p=some (.lst ys)\/H p=some (.tup ys))->gG H v ys
theorem Gs{bs:List Bool}(tn:Nat->Heap->Prop)(hb:bs.length=xs.length)
  (item:∀(i:Nat) (hi:i < xs.length) (s:ue) (Q:Option sr->ue->Prop) (E:ES),Inv X pins σ H s->tn i s.heap->(∀ u h',RelV xs[i] u->Inv X pins σ H { s with heap:=h' }->tn (i+1) h'->Q (some u) { s with heap:=h' })->uv ‹9› A.in1 (Hc (.ref it)) Q E s)
  (done:∀(s:ue) (Q:Option sr->ue->Prop) (E:ES),Inv X pins σ H s->tn xs.length s.heap->(∀ h',Inv X pins σ H { s with heap:=h' }->Q none { s with heap:=h' })->uv ‹9› A.in1 (Hc (.ref it)) Q E s)
  (tru:∀(i:Nat) (hi:i < xs.length) (hj:i < bs.length),∃ ys,gG H xs[i] ys/\bs[i]=!ys.isEmpty)
  (hR:∀ s',Inv X pins σ H s'->R (.ok (.ret (.bool (bs.any id)))) s') :
  ∀(k i:Nat) (s:ue),xs.length - i=k->i<=xs.length->(∀(j:Nat) (hj:j < bs.length),j < i->bs[j]=false)->Inv X pins σ H s->tn i s.heap->HH ‹9› A (.builtin "any.loop" ⟨[.ref it],[]⟩) R s:=by
 intro k
 induction k with
 | zero=>
  intro i s hk hi hf I ht;have hin:i=xs.length:=by omega
  subst hin;refine gI F.entry_any_loop ?_;rw [eS mE _];show uv _ A.in1 (Hc (.ref it) >>= _) _ _ s;refine af (done s _ _ I ht fun h' I'=>?_);refine af (jp (aE ?_))
  have e:bs.any id=false:=by
   apply Bool.eq_false_iff.mpr;intro h;obtain ⟨b,hb',hb1⟩:=iP.mp h;obtain ⟨j,hj,rfl⟩:=fF hb';rw [hf j hj ‹26›] at hb1;cases hb1
  have:=hR _ I';rw [e] at this;exact this
 | succ k ih=>
  intro i s hk hi hf I ht;have hlt:i < xs.length:=by omega
  have hlb:i < bs.length:=by omega
  refine gI F.entry_any_loop ?_;rw [eS mE _];show uv _ A.in1 (Hc (.ref it) >>= _) _ _ s;refine af (item i hlt s _ _ I ht fun u h' ru I' ht'=>?_);obtain ⟨ys,⟨p,ep,hp⟩,eb⟩:=tru i hlt hlb;rw [ep] at ru;cases ru;have hs:sizeLine=16777216:=cy;have hl63:=oY
  have step:∀(s2:ue),Inv X pins σ H s2->s2.heap=h'->uv ‹9› A.in1 (do
    letGo [zg p]
    if bs[i]=true then do rule "any.true-item"; ret (.bool true) else again (.builtin "any.loop" ⟨[.ref it],[]⟩)) (fun fin s'=>(match fin with | .done f=>R (.ok f) s' | .again c=>Code.quiet c/\HH ‹9› A c R s')) (fun e s'=>R (.error e) s') s2:=fun s2 I2 e2=>by
   refine af (si ?_);cases hbi:bs[i] with
   | true=>
    simp only [kR];refine af (jp (aE ?_));have e:bs.any id=true:=iP.mpr ⟨bs[i],bS hlb,hbi⟩;have:=hR _ I2;rw [e] at this;exact this
   | false=>
    simp only [jn,oC];refine aE ⟨iN mE _,ih (i+1) _ ‹26› hlt (fun j hj hji=>?_) I2 (by rw [e2]; exact ht')⟩
    by_cases hji':j=i
    ·subst hji';exact hbi
    ·exact hf j hj ‹26›
  rcases hp with hp | hp
  ·obtain ⟨its,r,pl,hz⟩:=I'.list (V6 hp);have hlen:=r.length;refine af (eL (wpAny_truthy_list pl.isList (by simp only [cf]; omega) ?_));rw [nZ r,<- eb];exact step _ (I'.tok _) rfl
  ·obtain ⟨its,r,pl,hz⟩:=I'.tuple (V7 hp);have hlen:=r.length;refine af (eL (truthy_tuple pl (by simp only [cf]; omega) ?_));rw [nZ r,<- eb];exact step _ (I'.tok _) rfl
end
section
variable {X:Cx}{K:PySem.W.Frag}
inductive ur (vs:LV) (H:Hp) (Q:VK):Prop
 | mk (p:ut) (xs:LV) (bs:List Bool):vs=[.ref p]->(H p=some (.lst xs)\/H p=some (.tup xs))->bs.length=xs.length->(∀(i:Nat) (hi:i < xs.length) (hj:i < bs.length),∃ ys,gG H xs[i] ys/\bs[i]=!ys.isEmpty)->Q (.bl (bs.any id)) H->ur vs H Q
theorem HF(hc:X.calm=true):fj X (.builtin "any") ur:=by
 exists 9;obtain ⟨p,xs,bs,rfl,hp,hb,tru,q⟩:=h;exists 14;have hh:X.A.handled=none:=I.ok.hd hc;refine call_function_tree F.kind_any F.plain_any F.entry_any (F.args_any1 _) ?_;unfold uB.«any»;refine af (m:=oneArg "any" _) (aE ?_);rcases hp with hp | hp
 ·obtain ⟨its,rv,pl,hz⟩:=I.list (V6 hp);have hl:=rv.length;refine af (i5 pl.isList ?_);have I1:=I.kept (t':=s.toks) (h':=s.heap.push { cls:=.type "list_iterator",data:=.fields #[.ref p,.int 0 0] }) fun b o e=>av _ e;have fp:=I.lV (ai _) (I.hok.fresh (ai s.heap.objs.size));obtain ⟨f0,f1,f2,f3,f4,f5⟩:=fp;refine aE ⟨iN mE _,Gs (X:=X) (pins:=pins) (σ:=σ) (H:=H) (A:=X.A) (it:=s.heap.objs.size) (xs:=xs) (bs:=bs) (fun i h=>h.IsListIter s.heap.objs.size p i) hb ?_ ?_ tru (fun s' I'=>?_) xs.length 0 _ ‹45› (dk _) (by intro j hj h; omega) I1 ⟨_,bb _ rfl,rfl,rfl⟩⟩
  ·intro i hi s2 Q2 E2 I2 t2 k;obtain ⟨its2,rv2,pl2,_⟩:=I2.list (V6 hp);obtain ⟨u,hu,ru⟩:=rv2.get (i:=i) (x:=xs[i]) (ae hi);exact n5 t2 pl2.isList (x:=u) (by simpa using hu) fun h' st' sb=>k u h' ru (I2.turned (t':=s2.toks) (fun b o hb e=>(sb.2 b hb).trans e) f0 f1 f3 f4 f5) st'
  ·intro s2 Q2 E2 I2 t2 k;obtain ⟨its2,rv2,pl2,_⟩:=I2.list (V6 hp);have hl2:=rv2.length;exact pV hh t2 pl2.isList (by simp; omega) fun h' eb=>k h' (I2.turned (t':=s2.toks) (fun b o hb e=>eb b o hb e) f0 f1 f3 f4 f5)
  ·exact⟨.bl _,H,I',rfl,q⟩
 ·obtain ⟨its,rv,pl,hz⟩:=I.tuple (V7 hp);have hl:=rv.length;refine af (wpAny_pyIter_tuple (show s.heap.IsTuple p its.toArray from pl) ?_);have I1:=I.kept (t':=s.toks) (h':=s.heap.push { cls:=.type "tuple_iterator",data:=.fields #[.ref p,.int 0 0] }) fun b o e=>av _ e;have fp:=I.lV (ai _) (I.hok.fresh (ai s.heap.objs.size));obtain ⟨f0,f1,f2,f3,f4,f5⟩:=fp;refine aE ⟨iN mE _,Gs (X:=X) (pins:=pins) (σ:=σ) (H:=H) (A:=X.A) (it:=s.heap.objs.size) (xs:=xs) (bs:=bs) (fun i h=>h.IsTupleIter s.heap.objs.size p i) hb ?_ ?_ tru (fun s' I'=>?_) xs.length 0 _ ‹45› (dk _) (by intro j hj h; omega) I1 ⟨_,bb _ rfl,rfl,rfl⟩⟩
  ·intro i hi s2 Q2 E2 I2 t2 k;obtain ⟨its2,rv2,pl2,_⟩:=I2.tuple (V7 hp);obtain ⟨u,hu,ru⟩:=rv2.get (i:=i) (x:=xs[i]) (ae hi);exact n0 t2 (show s2.heap.IsTuple p its2.toArray from pl2) (x:=u) (by simpa using hu) fun h' st' sb=>k u h' ru (I2.turned (t':=s2.toks) (fun b o hb e=>sb.extBut b o hb e) f0 f1 f3 f4 f5) st'
  ·intro s2 Q2 E2 I2 t2 k;obtain ⟨its2,rv2,pl2,_⟩:=I2.tuple (V7 hp);have hl2:=rv2.length;exact n9 hh t2 (show s2.heap.IsTuple p its2.toArray from pl2) (by simp; omega) fun h' eb=>k h' (I2.turned (t':=s2.toks) (fun b o hb e=>eb b o hb e) f0 f1 f3 f4 f5)
  ·exact⟨.bl _,H,I',rfl,q⟩
theorem Dn{a:Expr}{ta:TE}(hK:X.K=K)(ha:PE X a ta)(he:∀ whole,isTrue a X.env whole=(do let v <- whole; standAt a.pos; UT [v] (truthy v))) :
  PT X a (fun σ H Q=>ta σ H fun x H'=>∃ k,O1 K x H' k/\Q k H'):=by subst hK; exact vN ha he
theorem FP(hK:X.K=K):SlR X (fun x lo hi H Q=>Oz K x lo hi H Q\/Mi K x lo hi H Q):=by subst hK; exact Ly.or zU
theorem rD(hK:X.K=K):IxR X (fun x y H Q=>Lj K x y H Q\/Mv K x y H Q):=by subst hK; exact K7.or sH
end
end L2
end
section
namespace L2
open PySem PySem.Spec PyProof.Rows PySem.W
variable {Q:ES}
section
variable {prog:uC}{w:ww}{A:xf}{E:ES}{s:ue}{T:String}{r d:ut}{n:Nat}{P:Nat->sr->Prop}{OK:Heap->Prop}
theorem Aq{Q:LU->ue->Prop}(K:KdlSrc prog w T r d n P OK)(hh:A.handled=none)(hok:OK s.heap)(hn:n<=sizeLine)
  (hQ:∀ (h':Heap) (tk:Nat) (acc:AV),‹16›->ItemsOf P acc n->Q acc.toList { s with heap:=h',toks:=tk }):uv ‹32› A (collect (.ref r)) Q E s:=by
 obtain ⟨l1,l2⟩:=K.there _ hok;unfold collect;refine af (rX (gI F.entry_proto_collect ?_));rw [eS F.plain_proto_collect _];show uv _ A.in1 (newList [] >>= fun l=>again (.builtin "list.__iadd__" ⟨[l,.ref r],[]⟩)) _ _ s;refine af (fv ?_);refine aE ⟨iN pE _,gI F.entry_list_iadd ?_⟩;rw [eS pE _];show uv _ A.in1 (M3 ‹22› (.ref r) ‹22›) _ _ _
 have fin':∀ s':ue,(∃ (h':Heap) (tk:Nat) (acc:AV) (c:Nat),s'={ s with heap:=h',toks:=tk }/\‹16›/\h'.get? s.heap.objs.size=some { cls:=.type "list",dict:=none,data:=.seq acc c,slots:=#[] }/\ItemsOf P acc n)->
   uv ‹32› A (do
    let o <- load s.heap.objs.size
    match o.data with
    | .seq xs _=>Hn xs.toList
    | _=>unsupported "internal:collect") Q E s':=by
  rintro s' ⟨h',tk,acc,c,rfl,kp,hS,hacc⟩;exact af (wpAny_load hS (aE (hQ h' tk acc kp hacc)))
 refine ib (kdl_extend (s:={ s with heap:=s.heap.push { cls:=.type "list",data:=.seq ([]:LU).toArray } }) (A:=A)
  (R:=fun r' s'=>r'=.ok (.ret ‹22›)/\∃ (h':Heap) (tk:Nat) (acc:AV) (c:Nat),s'={ s with heap:=h',toks:=tk }/\‹16›/\h'.get? s.heap.objs.size=some { cls:=.type "list",dict:=none,data:=.seq acc c,slots:=#[] }/\ItemsOf P acc n)
  K hh (K.keep _ _ hok fun b _ o e=>av _ e) s.heap.objs.size (eR l1) (eR l2) _ 0 (bb _ rfl)
  (fun h' tk acc c kp hS hacc=>⟨rfl,h',tk,acc,c,rfl,fun b o e=>kp b o (dm (cn e)) (av _ e),hS,hacc⟩) hn) (fun fin s' h=>?_) (fun e s' h=>?_)
 ·cases fin with
  | done f=>
   obtain ⟨e,h⟩:=h;cases e;exact fin' s' h
  | again c'=>exact⟨h.1,oq h.2 fun r s'' hr=>by obtain ⟨rfl,hr⟩:=hr; exact fin' s'' hr⟩
 ·exact absurd h.1 ‹45›
theorem vJ(K:KdlSrc prog w "dict" r d n P OK)(hh:A.handled=none)(hok:OK s.heap)(hn:n<=sizeLine)
  (hQ:∀ (h':Heap) (tk:Nat) (acc:AV),‹16›->ItemsOf P acc n->Q (.ref h'.objs.size) { s with heap:=h'.push { cls:=.type "tuple",data:=.seq acc },toks:=tk }) :
  uv ‹32› A (call (.type "tuple") [.ref r]) Q E s:=by
 refine callType_codes (Q₁:=fun obj s₁=>s₁.TypeIs obj "tuple" /\ Q obj s₁) F.called_tuple (F.typeCall_tuple_1 _) F.entry_object_init (codeAny_call_builtin ‹5› F.entry_tuple_new (jI (F.newCall_tuple_1 _) ?_)) fun obj s₁ h₁=>?_
 ·have hT:∀ tk',({ s with toks:=tk' }:ue).TypeIs (.ref r) "dict" := fun tk'=>K.type _ hok;obtain ⟨hp,g,dd,tk,os⟩:=s;have hsub:=sub_tuple_self;have hinit:=init_tuple_lookup;have hmh:=madeHere_tuple;have hT0:Vu ⟨hp,g,dd,tk,os⟩ (.ref r) "dict" := hT tk
  wp_walk using wpAny_typeOf hT0,Aq (A:=A.in1.in1) K hh hok hn
  intro h' tk' acc kp hacc;show uv _ _ (By acc.toList.toArray >>= fun v=>ret v) _ _ _;unfold By;refine af (fv ?_ (by show acc.toList.toArray.size<=sizeLine; simp; rw [hacc.1]; exact hn));have e:acc.toList.toArray=acc:=by simp
  rw [e];refine aE ⟨⟨_,bb _ rfl,rfl⟩,hQ h' tk' acc kp hacc⟩
 ·exact⟨h₁.1,F.args_object_init_2 _ _,object_init_meets F.called_tuple.init.lookup F.called_tuple.made ‹6› prog w A.in1 _ s₁ ⟨h₁.1,rfl,h₁.2⟩⟩
end
end L2
end
section
namespace L2
open PySem PySem.Spec PyProof.Rows
variable {X:Cx}{items:AV}{Q:ES}{a e it:ut}{i n own x1:Nat}{c:Int}{old:sr}{P:uC}{w:ww}{K:PySem.W.Frag}{elts:List Expr}{pos tpos:Pos}{ta:TA}{xs ys:LV}{g:TG}{tb:TS}{σ:St}{H H':Hp}{v:V}{fr:List Nat}{tc:TT}{te:TE}{tg:Expr}{o:Obj}{b:Str}
section
variable {X:Cx}
theorem Iw:∀(ks:LK0) (ws:List (Key × sr)) (us:LU),KV ks ws->us.length=ws.length->(∀(j:Nat) (v:sr),us[j]?=some v->∃ k x,ws[j]?=some (k,x)/\(bU X.prog X.w).is k v=true)->Vals (ks.map fun kv=>kV kv.1) us:=by
 intro ks ws us rr
 induction rr generalizing us with
 | nil=>
  intro hl _;cases us with
  | nil=>exact .nil
  | cons _ _=>cases hl
 | @cons p w' ks ws r t ih=>
  intro hl hi;cases us with
  | nil=>cases hl
  | cons u us=>
   obtain ⟨k,x,e1,e2⟩:=hi 0 u rfl;cases e1;exact .cons (by show RelV (kV p.1) u; rw [r.1]; exact Ae e2) (ih us (by simpa using hl) fun j v e=>hi (j+1) v e)
inductive qO (xs:LV) (H:Hp) (Q:VK):Prop
 | mk (d kvs:_):xs=[.ref d]->Rd H d (.dK kvs)->(∀ l,H l=none->Q (.ref l) (upd H l (.tup (kvs.map fun kv=>kV kv.1))))->qO xs H Q
theorem Bc(hc:X.calm=true):fj X (.type "tuple") qO:=by
 exists 9;obtain ⟨d,kvs,rfl,hd,q⟩:=h;exists 14;have hh:X.A.handled=none:=I.ok.hd hc;obtain ⟨hz,hs,vs,rv,od,es,ep,ho,r1,r2,r3⟩:=(show cT X.prog X.w H s.heap d (.dK kvs) from hd.ok I.hok);have hl:vs.length=kvs.length:=(cE rv).symm;refine vJ (PySem.W.kdl_dict (knd:=bU X.prog X.w) (kvs:=vs) (ep:=ep) hs) hh ⟨_,_,ho,r1,r2,r3⟩ ‹26› fun h' tk acc kp it=>?_;obtain ⟨i1,i2⟩:=it;have rk:=Iw (X:=X) kvs vs acc.toList rv (by rw [fE]; exact i1) fun j v e=>i2 j v (by simpa using e);have I1:Inv X pins σ H { s with heap:=h',toks:=tk }:=I.kept (t':=tk) kp
 have I2:Inv X pins σ (upd H h'.objs.size (.tup (kvs.map fun kv=>kV kv.1))) { s with heap:=h'.push { cls:=.type "tuple",data:=.seq acc },toks:=tk }:=
  I1.laid (t':=tk) (fun b o e=>av _ e) (ai _) (show cT X.prog X.w _ _ _ (.tup (kvs.map fun kv=>kV kv.1)) from ⟨⟨by rw [aa]; exact hz,pJ _ _⟩,acc.toList,rk,by rw [mi]; exact IsTup.new _ _⟩)
 exact⟨.ref h'.objs.size,_,I2,rfl,q _ ‹41›⟩
end
section
variable {prog:uC}{w:ww}{A:xf}{E:ES}{s:ue}
theorem IK(l:ut)(items:AV)(n:Nat)(dct:Option ut)(sl:Array (Option sr)) :
  Meets (uB.«enumerate.__new__» ⟨[.type "enumerate",.ref l],[]⟩) (fun _ R s=>s.heap.get? l=some { cls:=.type "tuple",dict:=dct,data:=.seq items n,slots:=sl }/\
   R (.ok (.ret (.ref (s.heap.push { cls:=.type "tuple_iterator",data:=.fields #[.ref l,.int 0 0] }).objs.size)))
    { s with heap:=(s.heap.push { cls:=.type "tuple_iterator",data:=.fields #[.ref l,.int 0 0] }).push { cls:=.type "enumerate",data:=.fields #[.none,.bool false,.ref s.heap.objs.size,rawInt 0,.none,.none] } }):=
 .of_wp fun prog w A R s h=>by
  obtain ⟨hp,g,d,tk,os⟩:=s;obtain ⟨hl,h⟩:=h;have hsub:=sub_enumerate;have hL:Heap.IsTuple (ue.heap ⟨hp,g,d,tk,os⟩) l items:=⟨_,hl,rfl,n,rfl⟩
  wp_walk using kQ hl
  refine wpAny_stack_any fun st=>aE ?_;split
  ·rename_i c _ _ _ _ _
   cases (c == Hb "enumerate")
   ·wp_walk using kQ hl,wpAny_pyIter_tuple hL
    exact⟨_,rfl,h⟩
   ·wp_walk using kQ hl,wpAny_pyIter_tuple hL
    exact⟨_,rfl,h⟩
  ·wp_walk using kQ hl,wpAny_pyIter_tuple hL
   exact⟨_,rfl,h⟩
theorem Dm{l:ut}(hL:s.heap.IsTuple l items)
  (h:∀ h',Vo h' ‹40› s.heap.objs.size 0 .none->h'.IsTupleIter s.heap.objs.size l 0->‹16›->Q (.ref ‹40›) { s with heap:=h' }) :
  uv ‹32› A (call (.type "enumerate") [.ref l]) Q E s:=by
 obtain ⟨⟨c,dct,dt,sl⟩,hl,hc,n,hd⟩:=hL;have hc:c=.type "tuple" := hc;have hd:dt=.seq items n:=hd;subst hc hd;refine callType_new F.called_enumerate ‹6› (F.typeCall_enumerate_1 _) (F.newCall_enumerate_1 _) (fun obj=>F.args_object_init_2 obj _) F.entry_enumerate_new (IK l items n dct sl) ⟨hl,?_⟩;have hz:(s.heap.push { cls:=.type "tuple_iterator",data:=.fields #[.ref l,.int 0 0] }).objs.size=s.heap.objs.size+1:=ie ..;show _/\_;rw [hz]
 have he:Vo ((s.heap.push { cls:=.type "tuple_iterator",data:=.fields #[.ref l,.int 0 0] }).push { cls:=.type "enumerate",data:=.fields #[.none,.bool false,.ref s.heap.objs.size,rawInt 0,.none,.none] }) ‹40› s.heap.objs.size 0 .none:=by
  rw [<- hz];exact bb _ rfl
 exact⟨⟨_,he,rfl⟩,h _ he ⟨_,av _ (bb _ rfl),rfl,rfl⟩ fun b o e=>av _ (av _ e)⟩
end
section
variable {prog:uC}{w:ww}{A:xf}{E:ES}{s:ue}
theorem Dl{l:ut}{x:sr}(he:Vo s.heap e it c old)(hit:s.heap.IsTupleIter it l i)(hl:s.heap.IsTuple l items)(hx:items[i]?=some x)(hne:e≠it)
  (hQ:∀ h',IsEnumOut h' e it (c+1) x s.heap.objs.size->h'.IsTupleIter it l (i+1)->h'.get? s.heap.objs.size=some { cls:=.type "tuple",data:=.seq #[.int c s.toks,x] }->
   (∀ b o,b≠e->b≠it->s.heap.get? b=some o->h'.get? b=some o)->Q ‹22› { s with heap:=h',toks:=s.toks+1 }) :
  uv ‹32› A (uB.«enumerate.__next__» ⟨[.ref e],[]⟩) (fun fin s'=>∃ v,fin=.done (.ret v)/\Q v s') E s:=by
 obtain ⟨hp,g,d,tk,os⟩:=s;have elt:e < hp.objs.size:=cn he;show uv _ _ (Vy (.ref e) 2 >>= _) _ _ _;refine af (ff he rfl (x:=.ref it) rfl ?_);refine af (nW hit hl hx fun h1 t1 b1=>?_);have e1:Vo h1 e it c old:=(b1.2 e hne).trans he;show uv _ _ (Vy (.ref e) 3 >>= _) _ _ ⟨h1,g,d,tk,os⟩;refine af (ff e1 rfl (x:=rawInt c) rfl ?_);show uv _ _ (Vy (.ref e) 4 >>= _) _ _ ⟨h1,g,d,tk,os⟩;refine af (ff e1 rfl (x:=.none) rfl ?_);show uv _ _ (mkInt c >>= _) _ _ ⟨h1,g,d,tk,os⟩;refine af (wpAny_mkInt ?_);show uv _ _ (VD (.ref e) 3 (rawInt (c+1)) >>= _) _ _ ⟨h1,g,d,tk+1,os⟩;refine af (fS e1 ‹45› fun h2 e2 b2=>?_)
 replace e2:Vo h2 e it (c+1) old:=e2
 show uv _ _ (VD (.ref e) 4 .none >>= _) _ _ ⟨h2,g,d,tk+1,os⟩;refine af (fS e2 ‹45› fun h3 e3 b3=>?_)
 replace e3:Vo h3 e it (c+1) old:=e3
 show uv _ _ (newTuple [.int c tk,x] >>= _) _ _ ⟨h3,g,d,tk+1,os⟩;refine af (wpAny_newTuple ?_);have hsz:h3.objs.size=hp.objs.size:=b3.1.trans (b2.1.trans b1.1);have e4:Vo (h3.push { cls:=.type "tuple",data:=.seq #[.int c tk,x] }) e it (c+1) old:=av _ e3
 have g4:(h3.push { cls:=.type "tuple",data:=.seq #[.int c tk,x] }).get? hp.objs.size=some { cls:=.type "tuple",data:=.seq #[.int c tk,x] }:=by
  rw [<- hsz];exact bb _ rfl
 have k4:∀ b o,b≠e->b≠it->hp.get? b=some o->(h3.push { cls:=.type "tuple",data:=.seq #[.int c tk,x] }).get? b=some o:=fun b o c1 c2 z=>
  av _ (b3.extBut b o c1 (b2.extBut b o c1 (b1.extBut b o c2 z)))
 have t4:(h3.push { cls:=.type "tuple",data:=.seq #[.int c tk,x] }).IsTupleIter it l (i+1):=by
  obtain ⟨o,ho,r⟩:=(t1.extBut b2.extBut (kL hne)).extBut b3.extBut (kL hne);exact⟨o,av _ ho,r⟩
 have gt:hp.objs.size≠e:=eR elt;show uv _ _ (xn (.ref e) >>= _) _ _ ⟨h3.push { cls:=.type "tuple",data:=.seq #[.int c tk,x] },g,d,tk+1,os⟩;rw [hsz];generalize h3.push { cls:=.type "tuple",data:=.seq #[.int c tk,x] }=h4 at e4 g4 k4 t4;refine af ?_;unfold xn;refine af (ff e4 rfl (x:=.none) rfl (aE ?_));simp only [kR];refine af (jp ?_);refine af (ff e4 rfl (x:=old) rfl ?_);refine af (fS e4 ‹45› fun h5 e5 b5=>?_)
 replace e5:Vo h5 e it (c+1) x:=e5
 show uv _ _ (Be (.ref e) (.ref hp.objs.size) >>= _) _ _ ⟨h5,g,d,tk+1,os⟩;refine af ?_;unfold Be;refine af (fS e5 ‹45› fun h6 e6 b6=>?_)
 replace e6:IsEnumOut h6 e it (c+1) x hp.objs.size:=e6
 refine fS e6 ‹45› fun h7 e7 b7=>?_
 replace e7:IsEnumOut h7 e it (c+1) x hp.objs.size:=e7
 refine af (si (aE ⟨_,rfl,hQ h7 e7 ?_ ?_ ?_⟩))
 ·exact((t4.extBut b5.extBut (kL hne)).extBut b6.extBut (kL hne)).extBut b7.extBut (kL hne)
 ·exact b7.extBut _ _ gt (b6.extBut _ _ gt (b5.extBut _ _ gt g4))
 ·exact fun b o c1 c2 z=>b7.extBut b o c1 (b6.extBut b o c1 (b5.extBut b o c1 (k4 b o c1 c2 z)))
theorem Dj{l:ut}{x:sr}{Q:Option sr->ue->Prop}(he:Vo s.heap e it c old)(hit:s.heap.IsTupleIter it l i)(hl:s.heap.IsTuple l items)(hx:items[i]?=some x)(hne:e≠it)
  (hQ:∀ h',IsEnumOut h' e it (c+1) x s.heap.objs.size->h'.IsTupleIter it l (i+1)->h'.get? s.heap.objs.size=some { cls:=.type "tuple",data:=.seq #[.int c s.toks,x] }->
   (∀ b o,b≠e->b≠it->s.heap.get? b=some o->h'.get? b=some o)->Q (some ‹22›) { s with heap:=h',toks:=s.toks+1 }) :
  uv ‹32› A (Hc (.ref e)) Q E s:=by
 have hT:s.TypeIs (.ref e) "enumerate" := ⟨_,he,rfl⟩;unfold Hc;exact af (lL (eT (name:=Str.ofString "__next__") hT lT (eM lT hT F.entry_enumerate_next (Dl he hit hl hx hne fun h' a b c k=>aE (hQ h' a b c k)) (F.args_enumerate_next_1 _))))
theorem Hz{l:ut}{Q:Option sr->ue->Prop}(hh:A.handled=none)(he:Vo s.heap e it c old)(hit:s.heap.IsTupleIter it l i)(hl:s.heap.IsTuple l items)(hx:items[i]?=none)
  (hQ:∀ h',Heap.ExtBut it s.heap h'->Q none { s with heap:=h' }):uv ‹32› A (Hc (.ref e)) Q E s:=by
 have hT:s.TypeIs (.ref e) "enumerate" := ⟨_,he,rfl⟩;unfold Hc;refine af (lL (eT (name:=Str.ofString "__next__") hT lT (eM lT hT F.entry_enumerate_next ?_ (F.args_enumerate_next_1 _))));show uv _ _ (Vy (.ref e) 2 >>= _) _ _ _;refine af (ff he rfl (x:=.ref it) rfl ?_);refine af (tK hh hit hl hx fun h' x' k' hx'=>?_);obtain ⟨o,ho,hc⟩:=hx';exact af (ku (T:= "StopIteration") (b:=true) ⟨o,ho,hc⟩ rV (aE (hQ _ k')))
end
def Cy(K:PySem.W.Frag)(a:ut):It:=
 ⟨fun i H=>∃ xs x,SqT K H a xs/\xs[i]?=some x,fun i H v H'=>∃ p,H p=none/\v=.ref p/\∀ xs x,SqT K H a xs->xs[i]?=some x->H'=upd H p (.tup [.int i,x]),fun i H=>∃ xs,SqT K H a xs/\xs.length<=i⟩
theorem CZ{l:ut}(hne:e≠it):Turn P w K (.Tuple elts x1 tpos) (Cy K l) [e,it] e
  (fun i h=>(∃ old,Vo h e it i old)/\h.IsTupleIter it l i) where
 mem:=by simp
 obj:=fun i h st b hb=>by
  obtain ⟨⟨old,he⟩,o,ei,c,d⟩:=st;simp only [bz,dL,iF] at hb;rcases hb with rfl | rfl
  ·exact⟨_,he,fun v q=>nomatch q⟩
  ·exact⟨o,ei,fun v z=>by rw [d] at z; cases z⟩
 keep:=fun i h h' st k=>by
  obtain ⟨⟨old,he⟩,o,ei,r⟩:=st;exact⟨⟨old,k e ‹45› _ he⟩,o,k it ‹45› _ ei,r⟩
 item:=by
  exists 4;obtain ⟨xs,x,hq,hx⟩:=hg;obtain ⟨its,rv,p,hz⟩:=I.tuple hq;obtain ⟨u,hu,ru⟩:=rv.get hx;obtain ⟨⟨old,he⟩,hit⟩:=st;refine Dj he hit (show s.heap.IsTuple l its.toArray from p) (x:=u) (by simpa using hu) hne fun h' a1 a2 a3 a5=>?_;refine⟨_,rfl,wpAny_letOwnedTupleGo_enum a1 fun h2' a1' q'=>?_⟩;have hn:H s.heap.objs.size=none:=I.hok.fresh (ai _);have elt:e < s.heap.objs.size:=cn he;have ilt:it < s.heap.objs.size:=by obtain ⟨_,e,_⟩:=hit; exact cn e
  have kk:∀ b ob,b ∉ [e,it]->s.heap.get? b=some ob->h2'.get? b=some ob:=fun b ob hb ee=>by
   simp only [bz,dL,iF,sq] at hb;exact q'.extBut _ _ hb.1 (a5 b ob hb.1 hb.2 ee)
  have I1:Inv X pins σ (upd H s.heap.objs.size (.tup [.int i,x])) { s with heap:=h2',toks:=s.toks+1 }:=I.wG (t':=s.toks+1) hf kk (ai _)
   ⟨⟨by show 2<=sizeLine; decide,fun o ee=>by rw [q'.extBut _ _ (eR elt) a3] at ee; cases ee; rfl⟩,[.int i s.toks,u],.cons ⟨_,rfl⟩ (.cons ru .nil),⟨_,q'.extBut _ _ (eR elt) a3,rfl,_,rfl⟩⟩
  refine⟨.ref s.heap.objs.size,_,I1,rfl,⟨_,hn,rfl,fun xs' x' k1 k3=>?_⟩,⟨⟨_,by simpa using a1'⟩,a2.extBut q'.extBut hne.symm⟩,fun b hb=>?_⟩
  ·rw [I.qg k1 hq,hx] at k3;cases k3;rfl
  ·have hb':=hb;simp only [bz,dL,iF] at hb'
   have hlt:b < s.heap.objs.size:=by
    rcases hb' with rfl | rfl
    ·exact elt
    ·exact ilt
   rw [aA (dm hlt)];exact(hf b hb).1
 done:=by
  exists 4;obtain ⟨xs,hq,hx⟩:=hg;obtain ⟨its,rv,p,hz⟩:=I.tuple hq;obtain ⟨⟨old,he⟩,hit⟩:=st;have hl:=rv.length;refine Hz (I.ok.hd hc) he hit (show s.heap.IsTuple l its.toArray from p) (by simp; omega) fun h' eb=>⟨rfl,I.uM (t':=s.toks) hf fun b u hb q=>?_⟩;simp only [bz,dL,iF,sq] at hb;exact eb b u hb.2 q
 self:=fun _ _ _ _ _ st h=>by
  obtain ⟨⟨old,he⟩,_⟩:=st;exact mf he h
section
variable {X:Cx}{K:PySem.W.Frag}
inductive Eu (K:PySem.W.Frag) (R:It->Hp->Prop) (vs:LV) (H1:Hp):Prop
 | mk (a:_):vs=[.ref a]->((∃ xs,SqL K H1 a xs/\R (Ite K a) H1)\/∃ xs,SqT K H1 a xs/\R (Cy K a) H1)->Eu K R vs H1
def Ro(K:PySem.W.Frag)(ta:TA):TI:=fun σ H R=>ta σ H fun vs H1=>Eu K R vs H1
theorem BJ{a:Expr}{p:Pos}(hK:X.K=K)(hg:Gl X "enumerate")(hm:X.mg "enumerate" = none)(ha:PA X [a] ta)
  (he:xx [a] X.env=(false,eval a X.env)::xx [] X.env:=by rfl) (hpl:(NB pos (xx [] X.env)).any (·.1)=false:=by rfl):PI X (.Tuple elts x1 tpos) (.Call (.Name "enumerate" p) [a] [] pos) (Ro K ta):=by
 subst hK;intro pins s σ H R I h;have boot_enum:ye "enumerate" = some (.type "enumerate"):=by decide +kernel
 refine kz (rm I hg hm boot_enum ?_);refine i4 (thn (ha pos pins s σ H _ I h) fun us s1 ⟨vs,H1,I1,r1,t1,e,q1⟩=>?_) he hpl;subst e;obtain ⟨u,rfl,ru⟩:=vals1 r1;cases ru;have hne:s1.heap.objs.size+1≠s1.heap.objs.size:=by change @Ne Nat _ _; omega
 have fp:∀ b∈[s1.heap.objs.size+1,s1.heap.objs.size],pW X pins H1 b:=fun b hb=>by
  have hle:s1.heap.objs.size<=b:=by
   simp only [bz,dL,iF] at hb;rcases hb with h | h <;> rw [h] <;> first | exact ai _ | exact Nat.le_add_right _ _
  exact I1.lV hle (I1.hok.fresh hle)
 rcases q1 with ⟨xs,q1,q⟩ | ⟨xs,q1,q⟩
 ·obtain ⟨its,rv,p1,hz1⟩:=I1.list q1;refine call_enumerate_list p1.isList fun h' hE hI hsz hk=>?_;refine mf hE ?_;exact⟨s1.heap.objs.size+1,[s1.heap.objs.size+1,s1.heap.objs.size],_,Ite X.K t1,H1,rfl,I1.kept (t':=s1.toks) hk,xT hne,⟨⟨_,hE⟩,hI⟩,fp,q⟩
 ·obtain ⟨its,rv,p1,hz1⟩:=I1.tuple q1;refine Dm (show s1.heap.IsTuple t1 its.toArray from p1) fun h' hE hI hk=>?_;refine mf hE ?_;exact⟨s1.heap.objs.size+1,[s1.heap.objs.size+1,s1.heap.objs.size],_,Cy X.K t1,H1,rfl,I1.kept (t':=s1.toks) hk,CZ hne,⟨⟨_,hE⟩,hI⟩,fp,q⟩
end
theorem Im{D:Ends}(Pv:Nat->St->Hp->Prop)(h0:Pv 0 σ H)(hl:∀ i σ H,i<=xs.length->Pv i σ H->SqT K H a xs)
  (hs:∀ i x σ H p,xs[i]?=some x->Pv i σ H->H p=none->g (.ref p) σ (upd H p (.tup [.int i,x])) fun σ2 H2=>tb { D with nx:=Pv (i+1),ct:=Pv (i+1),bk:=D.nx } σ2 H2) (hd:∀ σ H,Pv xs.length σ H->D.nx σ H) :
  ∃ W:Nat->Nat->St->Hp->Prop,(∃ m,W 0 m σ H)/\∀ i m σ H,W i m σ H->
   ((Cy K a).stop i H/\D.nx σ H)\/((Cy K a).go i H/\∃ N:St->Hp->Prop,‹10›/\∀ x H',(Cy K a).yld i H x H'->g x σ H' fun σ2 H2=>tb { D with nx:=N,ct:=N,bk:=D.nx } σ2 H2):=by
 refine⟨fun i m σ H=>m=xs.length - i/\i<=xs.length/\Pv i σ H,⟨xs.length,by simp,dk _,h0⟩,?_⟩;rintro i m σ H ⟨rfl,hi,p⟩;have q:=hl i σ H hi p
 by_cases hlt:i < xs.length
 ·refine .inr ⟨⟨xs,xs[i],q,by simp [hlt]⟩,Pv (i+1),fun σ' H' p'=>⟨xs.length - (i+1),by omega,rfl,hlt,p'⟩,fun x H' y=>?_⟩;obtain ⟨r,hr,rfl,y⟩:=y;have e:=y xs xs[i] q (by simp [hlt]);subst e;exact hs i xs[i] σ _ r (by simp [hlt]) p hr
 ·have e:i=xs.length:=by omega
  subst e;exact .inl ⟨⟨xs,q,ai _⟩,hd σ H p⟩
abbrev Sv(g:TG)(tb:TS)(D:Ends)(σ:L2.St)(J:It)(H1:Hp):Prop:=∃ W:Nat->Nat->L2.St->Hp->Prop,(∃ m,W 0 m σ H1)/\∀ i m σ H,W i m σ H->
 (J.stop i H/\D.nx σ H)\/(J.go i H/\∃ N:L2.St->Hp->Prop,‹10›/\∀ x H',J.yld i H x H'->g x σ H' fun σ2 H2=>tb { D with nx:=N,ct:=N,bk:=D.nx } σ2 H2)
theorem gG.same(h:gG H v ys)(s:Same H H'):gG H' v ys:=by
 obtain ⟨p,e,h⟩:=h;exact⟨p,e,h.elim (fun z=>.inl (s p _ z)) fun z=>.inr (s p _ z)⟩
theorem yJ{D:Ends}{σ:L2.St}(hq:gG H (.ref a) xs)(Pv:Nat->L2.St->Hp->Prop)(h0:Pv 0 σ H)
  (keep:∀ i σ H',i<=xs.length->Pv i σ H'->∀ o,H a=some o->H' a=some o)
  (hs:∀ i x σ H,xs[i]?=some x->Pv i σ H->g x σ H fun σ2 H2=>tb { D with nx:=Pv (i+1),ct:=Pv (i+1),bk:=D.nx } σ2 H2) (hd:∀ σ H,Pv xs.length σ H->D.nx σ H) :
  (∃ xs,SqT K H a xs/\Sv g tb D σ (Itt K a) H)\/∃ xs,SqL K H a xs/\Sv g tb D σ (Itl K a) H:=by
 obtain ⟨p,e,h⟩:=hq;cases e;rcases h with h | h
 ·exact .inr ⟨xs,V6 h,rZ (K:=K) (a:=a) (xs:=xs) Pv h0 (fun i σ H' hi p=>V6 (keep i σ H' hi p _ h)) hs hd⟩
 ·exact .inl ⟨xs,V7 h,qu (K:=K) (a:=a) (xs:=xs) Pv h0 (fun i σ H' hi p=>V7 (keep i σ H' hi p _ h)) hs hd⟩
theorem wz{σ:L2.St}{Q:VK}(hq:gG H (.ref a) xs)(Pv:ut->Nat->LV->Hp->Prop)
  (h0:∀ D,H D=none->Pv D 0 [] (upd H D (.lst []))) (keep:∀ D i ys H',H D=none->Pv D i ys H'->∀ o,H a=some o->H' a=some o) (stop:∀ D ys H',H D=none->Pv D xs.length ys H'->Q (.ref D) H')
  (go:∀ D i x ys H',H D=none->i < xs.length->xs[i]?=some x->Pv D i ys H'->∀ σo:L2.St,σo.length=own->g x (σo++frv σ fr) H' fun σ2 H2=>(∃ σo':L2.St,σo'.length=own/\σ2=σo'++frv σ fr)/\
   tc σ2 H2 fun b H3=>if b=true then te σ2 H3 fun y H4=>ys.length < sizeLine/\H4 D=some (.lst ys)/\∃ m',m' < xs.length - i/\(m'=xs.length - (i+1)/\i+1<=xs.length/\Pv D (i+1) (ys++[y]) (upd H4 D (.lst (ys++[y])))) else ∃ m',m' < xs.length - i/\(m'=xs.length - (i+1)/\i+1<=xs.length/\Pv D (i+1) ys H3)) :
  (∃ xs,SqT K H a xs/\∀ D,H D=none->uH own fr g tc te σ Q (Itt K a) D (upd H D (.lst [])))\/∃ xs,SqL K H a xs/\∀ D,H D=none->uH own fr g tc te σ Q (Itl K a) D (upd H D (.lst [])):=by
 obtain ⟨p,e,h⟩:=hq;cases e;rcases h with h | h
 ·refine .inr ⟨xs,V6 h,fun D hD=>bA (n:=xs.length) (Pv D) (h0 D hD) (fun ys H' p=>⟨⟨xs,V6 (keep D _ ys H' hD p _ h),ai _⟩,stop D ys H' hD p⟩) fun i ys H' hi p=>?_⟩;have ex:xs[i]?=some xs[i]:=ae hi;have hl:=V6 (K:=K) (keep D i ys H' hD p _ h);refine⟨⟨xs,xs[i],hl,ex⟩,?_⟩;rintro x H2 ⟨rfl,yy⟩ σo ho;exact go D i x ys H2 hD hi (yy xs hl) p σo ho
 ·refine .inl ⟨xs,V7 h,fun D hD=>bA (n:=xs.length) (Pv D) (h0 D hD) (fun ys H' p=>⟨⟨xs,V7 (keep D _ ys H' hD p _ h),ai _⟩,stop D ys H' hD p⟩) fun i ys H' hi p=>?_⟩;have ex:xs[i]?=some xs[i]:=ae hi;have hl:=V7 (K:=K) (keep D i ys H' hD p _ h);refine⟨⟨xs,xs[i],hl,ex⟩,?_⟩;rintro x H2 ⟨rfl,yy⟩ σo ho;exact go D i x ys H2 hD hi (yy xs hl) p σo ho
theorem CG{σ:L2.St}{Q:VK}(hq:gG H (.ref a) xs)(Pv:ut->Nat->LV->Hp->Prop)
  (h0:∀ D,H D=none->Pv D 0 [] (upd H D (.lst []))) (keep:∀ D i ys H',H D=none->Pv D i ys H'->∀ o,H a=some o->H' a=some o) (stop:∀ D ys H',H D=none->Pv D xs.length ys H'->Q (.ref D) H')
  (go:∀ D i x ys H' p,H D=none->i < xs.length->xs[i]?=some x->Pv D i ys H'->H' p=none->∀ σo:L2.St,σo.length=own->g (.ref p) (σo++frv σ fr) (upd H' p (.tup [.int i,x])) fun σ2 H2=>(∃ σo':L2.St,σo'.length=own/\σ2=σo'++frv σ fr)/\
   tc σ2 H2 fun b H3=>if b=true then te σ2 H3 fun y H4=>ys.length < sizeLine/\H4 D=some (.lst ys)/\∃ m',m' < xs.length - i/\(m'=xs.length - (i+1)/\i+1<=xs.length/\Pv D (i+1) (ys++[y]) (upd H4 D (.lst (ys++[y])))) else ∃ m',m' < xs.length - i/\(m'=xs.length - (i+1)/\i+1<=xs.length/\Pv D (i+1) ys H3)) :
  (∃ xs,SqL K H a xs/\∀ D,H D=none->uH own fr g tc te σ Q (Ite K a) D (upd H D (.lst [])))\/∃ xs,SqT K H a xs/\∀ D,H D=none->uH own fr g tc te σ Q (Cy K a) D (upd H D (.lst [])):=by
 obtain ⟨p,e,h⟩:=hq;cases e;rcases h with h | h
 ·refine .inl ⟨xs,V6 h,fun D hD=>bA (n:=xs.length) (Pv D) (h0 D hD) (fun ys H' p=>⟨⟨xs,V6 (keep D _ ys H' hD p _ h),ai _⟩,stop D ys H' hD p⟩) fun i ys H' hi p=>?_⟩;have ex:xs[i]?=some xs[i]:=ae hi;have hl:=V6 (K:=K) (keep D i ys H' hD p _ h);refine⟨⟨xs,xs[i],hl,ex⟩,?_⟩;rintro x H2 ⟨q,hq,rfl,yy⟩ σo ho;have e2:=yy xs xs[i] hl ex;subst e2;exact go D i xs[i] ys H' q hD hi ex p hq σo ho
 ·refine .inr ⟨xs,V7 h,fun D hD=>bA (n:=xs.length) (Pv D) (h0 D hD) (fun ys H' p=>⟨⟨xs,V7 (keep D _ ys H' hD p _ h),ai _⟩,stop D ys H' hD p⟩) fun i ys H' hi p=>?_⟩;have ex:xs[i]?=some xs[i]:=ae hi;have hl:=V7 (K:=K) (keep D i ys H' hD p _ h);refine⟨⟨xs,xs[i],hl,ex⟩,?_⟩;rintro x H2 ⟨q,hq,rfl,yy⟩ σo ho;have e2:=yy xs xs[i] hl ex;subst e2;exact go D i xs[i] ys H' q hD hi ex p hq σo ho
def U0(H:Hp)(vs:LV)(rows:LL):Prop:=Paired (fun(v:V) (r:LS)=>gG H v (r.map V.str)) vs rows
section
variable {X:Cx}
inductive FJ (R:It->Hp->Prop) (x:V) (H1:Hp):Prop
 | mk (d:ut) (kvs:LK0):x=.ref d->((H1 d=some (.dK kvs)/\∀ o,R (Itd o d kvs) (upd H1 d ‹39›))\/∃ o,H1 d=some ‹39›/\R (Itd o d kvs) H1)->FJ R x H1
def Ds(te:TE):TI:=fun σ H R=>te σ H fun x H1=>FJ R x H1
theorem Lh{l:Expr}(hl:PE X l te):PI X tg l (Ds te):=by
 intro pins s σ H R I h;refine thn (hl pins s σ H _ I h) fun v s1 ⟨x,H1,I1,r,d,kvs,e,q⟩=>?_;subst e;cases r;rcases q with ⟨hd,q⟩ | ⟨o,hd,q⟩
 ·exact xQ I1 hd q
 ·obtain ⟨ho,hz,hs,vs,rv,od,es,ep,ho',r1,r2,r3⟩:=(show cT X.prog X.w H1 s1.heap d ‹39› from I1.hok d _ hd);rw [ho] at ho';cases ho';have hl:vs.length=kvs.length:=(cE rv).symm;refine wpAny_pyIter_dict (knd:=bU X.prog X.w) (kvs:=vs) (ep:=ep) hs ⟨_,_,ho,r1,r2,r3⟩ ?_;have I2:=I1.kept (t':=s1.toks) (h':=s1.heap.push { cls:=.type "dict_keyiterator",data:=.fields #[.ref d,.int 0 0,.int vs.length 0,.int ep 0] }) fun b o e=>av _ e;refine⟨s1.heap.objs.size,[s1.heap.objs.size],_,_,_,rfl,I2,xu r2 d s1.heap.objs.size kvs,?_,fun b hb=>?_,q⟩
  ·exact⟨_,bb _ rfl,rfl,by rw [hl]; rfl⟩
  ·have e:b=s1.heap.objs.size:=by simpa using hb
   subst e;exact I1.lV (ai _) ‹41›
end
def HS:Key->PyData
 | .inl i=>.int i
 | .inr x=>.str x
mutual
def noL:PyData->Bool
 | .none | .bool _ | .int _ | .str _=>true
 | .list _=>false
 | .tuple xs=>R9 xs
 | .dict kvs=>Tg kvs
def R9:LP->Bool
 | []=>true
 | x::xs=>noL x && R9 xs
def Tg:List (PyData × PyData)->Bool
 | []=>true
 | (_,v)::r=>noL v && Tg r
end
mutual
inductive RdV (H:Hp):V->PyData->Prop
 | non:RdV H .non .none
 | bl (b:Bool):RdV H (.bl b) (.bool b)
 | int (i:Int):RdV H (.int i) (.int i)
 | str (x:Str):RdV H (.str x) (.str x)
 | tup {a:ut} {xs:LV} {ds:LP}:H a=some (.tup xs)->RdA H xs ds->RdV H (.ref a) (.tuple ds)
 | lst {a:ut} {xs:LV} {ds:LP}:H a=some (.lst xs)->RdA H xs ds->RdV H (.ref a) (.list ds)
 | dct {a:ut} {kvs:LK0} {ds:LP}:H a=some (.dK kvs)->RdA H (kvs.map (·.2)) ds->RdV H (.ref a) (.dict ((kvs.map fun p=>HS p.1).zip ds))
inductive RdA (H:Hp):LV->LP->Prop
 | nil:RdA H [] []
 | cons {v:V} {d:PyData} {vs:LV} {ds:LP}:RdV H v d->RdA H vs ds->RdA H (v::vs) (d::ds)
end
theorem RdA.length{H:Hp}:∀ {vs:LV} {ds:LP},RdA H vs ds->vs.length=ds.length
 | _,_,.nil=>rfl
 | _,_,.cons _ r=>by simp [RdA.length r]
theorem RdA.strs(H:Hp):∀ xs:LS,RdA H (xs.map V.str) (xs.map PyData.str)
 | []=>.nil
 | x::xs=>.cons (.str x) (RdA.strs H xs)
section
variable {X:Cx}{pins:LO}{σ:St}{H:Hp}{s:ue}
end
def Lw(x:Str):Prop:=∀ c∈x.cps.toList,c∈abc.cps.toList
theorem Lw.empty:Lw Str.empty:=fun c hc=>nomatch hc
theorem Lw.nil:Lw "" := by
 unfold Lw;decide +kernel
theorem Lw.app{x y:Str}(h:Lw x)(g:Lw y):Lw (x++y):=fun c hc=>by
 have hc:c∈(x.cps++y.cps).toList:=hc;rw [mS] at hc;rcases cw.mp hc with q | q
 ·exact h c q
 ·exact g c q
theorem Lw.one{c:Nat}(h:c∈abc.cps.toList):Lw ⟨#[c]⟩:=fun d hd=>by
 rw [bj.mp (show d∈[c] from hd)];exact h
theorem Lw.letter{x:Str}(h:x∈letters):Lw x:=by
 obtain ⟨c,hc,rfl⟩:=bu.mp h;exact Lw.one hc
theorem Lw.slice{x:Str}(h:Lw x)(lo hi:Option Int):Lw (ym x lo hi):=by
 unfold ym;split
 ·exact h
 ·intro c hc;obtain ⟨i,_,e⟩:=ky.mp (show c∈(List.filterMap (x.cps[·]?) _) from hc);exact h c (iX.mpr (Array.mem_of_getElem? e))
theorem zK{c:Nat}{xs:Array Nat}:∀ {k:Nat} {acc:Array Nat},c∈(List.foldl (fun x1 x2=>x1++x2) acc (List.replicate k xs)).toList->c∈acc.toList\/c∈xs.toList
 | 0,_,h=>.inl h
 | k+1,acc,h=>by
  rcases zK (k:=k) (acc:=acc++xs) h with q | q
  ·rw [mS] at q;exact cw.mp q
  ·exact .inr q
theorem Lw.rep{x:Str}(h:Lw x)(n:Int):Lw (ig x n):=by
 unfold ig;split
 ·exact Lw.empty
 ·split
  ·exact h
  ·intro c hc;rcases zK hc with q | q
   ·exact nomatch q
   ·exact h c q
theorem Qn:∀ c∈abc.cps.toList,97<=c/\c<=122:=by decide +kernel
theorem qU{xs:List Nat}{i:Int}{c:Nat}(h:atI xs i=some c):c∈xs:=by
 unfold atI at h;obtain ⟨j,_,e⟩:=Option.bind_eq_some_iff.mp h;exact eI e
def U5(H:Hp)(us:LV)(tbl:List (List Int)):Prop:=Paired (fun(v:V) (js:List Int)=>∃ a,v=.ref a/\H a=some (.tup (js.map V.int))) us tbl
section
variable {prog:uC}{w:ww}{A:xf}{E:ES}{s:ue}
theorem uF{l:ut}{T:String}{vs:LU}{ss:LS}(hT:T = "list" \/ T = "tuple")(ho:s.heap.get? l=some o)(hc:o.cls=.type T)(hd:o.data=.seq vs.toArray n)(hS:V1 vs ss)(h64:vs.length < 64)
  (h:∀(h1:Heap) (out:AV) (ss':LS),(∀ b o',s.heap.get? b=some o'->h1.get? b=some o')->V1 out.toList ss'->ss'.Perm ss->sortedS ss'=true->Q (.ref h1.objs.size) { s with heap:=sortedHeap (h1.push ‹37›) h1.objs.size vs out }) :
  uv ‹32› A (call (.builtin "sorted") [.ref l]) Q E s:=by
 refine mM kind_sorted plain_sorted entry_sorted (args_sorted1 _) ?_;unfold uB.«sorted»;refine af (m:=checkCount "sorted" 1 1 _) (aE ?_);refine af (wpAny_collect_seq l hT ho hc hd (fun h1 kp=>?_) (by rw [cf,cy]; omega));have e0:vs.toArray.toList=vs:=by simp
 rw [e0];refine af (sk ?_ (by rw [cy]; omega));have hoL:(h1.push ‹37›).get? h1.objs.size=some (zz "list" vs.toArray 0):=bb _ rfl;show uv _ _ _ _ _ { s with heap:=h1.push ‹37› };refine af (eL (eM slot_list_sort ⟨_,hoL,rfl⟩ entry_list_sort (list_sort_treeK strKind_oneLt hoL hS.keysOf (fun v₁ v₂ rest e=>keyKind_strs (by rw [<- e]; exact hS)) h64 fun st' a1 a2=>⟨_,rfl,?_⟩) (args_list_sort _)));obtain ⟨ss',b1,b2,b3⟩:=sorted_out_str hS a1 a2;exact aE ⟨_,rfl,h h1 _ ss' kp b1 b2 b3⟩
end
theorem qR:∀ {ss:LS} {us:LU},Vals (ss.map V.str) us->V1 us ss
 | [],_,.nil=>.nil
 | x::ss,_,.cons r t=>by
  obtain ⟨k,rfl⟩:=r;exact .cons x k (qR t)
theorem mZ:∀ {ss:LS} {us:LU},V1 us ss->Vals (ss.map V.str) us
 | _,_,.nil=>.nil
 | _,_,.cons y t h=>.cons ⟨t,rfl⟩ (mZ h)
def leS(a b:Str):Prop:=a.cps.toList<=b.cps.toList
theorem KN{a:Str}(h:ltCps b.cps.toList a.cps.toList=false):leS a b:=by
 rw [ltCps_eq] at h;exact List.not_lt.mp (of_decide_eq_false h)
theorem xq{a c:Str}(h:leS a b)(g:leS b c):leS a c:=List.le_trans h g
theorem vH{a:Str}(h:leS a b)(g:leS b a):a=b:=by
 have e:a.cps.toList=b.cps.toList:=List.le_antisymm h g;have e2:a.cps=b.cps:=Array.toList_inj.mp e;cases a;cases b;cases e2;rfl
theorem qm:∀(l:LS) (p:Str),risingS p l=true->(p::l).Pairwise leS
 | [],p,_=>List.pairwise_singleton _ _
 | x::r,p,h=>by
  have h:(!ltCps x.cps.toList p.cps.toList && risingS x r)=true:=h;rw [eK,Bool.not_eq_true'] at h;have h1:=KN h.1;have ih:=qm r x h.2;refine List.pairwise_cons.mpr ⟨fun y hy=>?_,ih⟩;rcases bz.mp hy with rfl | hy
  ·exact h1
  ·exact xq h1 (List.rel_of_pairwise_cons ih hy)
theorem Eo{a b:LS}(hp:a.Perm b)(ha:sortedS a=true)(hb:sortedS b=true):a=b:=by
 have pw:∀ l:LS,sortedS l=true->l.Pairwise leS:=fun l h=>by
  cases l with
  | nil=>exact .nil
  | cons x r=>exact qm r x h
 first
  | exact hp.eq_of_pairwise (fun x y _ _ h1 h2=>vH h1 h2) (pw a ha) (pw b hb)
  | exact List.Perm.eq_of_pairwise (fun x y _ _ h1 h2=>vH h1 h2) (pw a ha) (pw b hb) hp
section
variable {X:Cx}
inductive oW (K:PySem.W.Frag) (xs:LV) (H:Hp) (Q:VK):Prop
 | mk (p ss:_):xs=[.ref p]->(SqL K H p (ss.map V.str)\/SqT K H p (ss.map V.str))->ss.length < 64->(∀ d ss',ss'.Perm ss->sortedS ss'=true->H d=none->Q (.ref d) (upd H d (.lst (ss'.map V.str))))->oW K xs H Q
theorem za:fj X (.builtin "sorted") (oW X.K):=by
 exists 9;obtain ⟨p,ss,rfl,hq,h64,q⟩:=h;obtain ⟨u,rfl,rx⟩:=vals1 r;cases rx
 have fin:∀(its:LU) (h1:Heap) (out:AV) (ss':LS),(∀ b o',s.heap.get? b=some o'->h1.get? b=some o')->V1 out.toList ss'->ss'.Perm ss->sortedS ss'=true->EP X pins σ Q (.ref h1.objs.size) { s with heap:=sortedHeap (h1.push (zz "list" its.toArray 0)) h1.objs.size its out }:=fun its h1 out ss' kp b1 b2 b3=>by
  have I1:Inv X pins σ H { s with heap:=h1 }:=I.kept (t':=s.toks) kp;have hoL:(h1.push (zz "list" its.toArray 0)).get? h1.objs.size=some (zz "list" its.toArray 0):=bb _ rfl;obtain ⟨e,he⟩:=sortedHeap_at (out:=out) hoL;refine⟨.ref h1.objs.size,_,I1.laid (t':=s.toks) (o:=.lst (ss'.map V.str)) (fun b o e'=>?_) (ai _) ⟨?_,out.toList,e,mZ b1,by rw [mi]; exact he⟩,rfl,q _ ss' b2 b3 ‹41›⟩
  ·have hlt:b < h1.objs.size:=cn e';rw [sortedHeap_old (dm hlt) (by rw [size_push']; exact i6 hlt)];exact av _ e'
  ·rw [aa,b2.length_eq,cy];omega
 rcases hq with hq | hq
 ·obtain ⟨its,r',pl,hz⟩:=I.list hq;have hlen:=r'.length;rw [aa] at hlen;obtain ⟨o,ho,hc,n,hd⟩:=pl.isList;exact uF (.inl rfl) ho hc hd (qR r') ‹26› (fin its)
 ·obtain ⟨its,r',pl,hz⟩:=I.tuple hq;have hlen:=r'.length;rw [aa] at hlen;obtain ⟨o,ho,hc,n,hd⟩:=pl;exact uF (.inr rfl) ho hc hd (qR r') ‹26› (fin its)
end
section
variable {X:Cx}
end
end L2
end
section
namespace HT
open PySem PySem.Spec PyProof.Rows
variable {sl t:ut}{items:Array sr}{vl vu:sr}{hi lo:Option Int}{Q:sr->ue->Prop}
section
variable {prog:uC}{w:ww}{A:xf}{E:sr->ue->Prop}{s:ue}
theorem qz(ht:IsTup s.heap t items)(hs:s.heap.IsSliceOf sl vl vu .none)(pl:VL vl lo)(pu:VL vu hi)
  (hw:sIx items.size 0 lo=0/\sIx items.size items.size hi=items.size) (h:Q (.ref t) s):uv ‹32› A (Vk (.ref t) (.ref sl)) Q E s:=by
 obtain ⟨os,hos,hcs,hds⟩:=id hs;have hTs:s.TypeIs (.ref sl) "slice" := ⟨os,hos,hcs⟩;unfold Vk
 try with_reducible refine eL ?_
 first | refine af (aE ?_) | skip
 refine af (wpAny_sequenceKey ht.typeIs ‹6› ?_)
 refine af (eT (name:=Str.ofString "__getitem__") ht.typeIs hU
  (eM hU ht.typeIs entry_tuple_getitem ?_ (args_tuple_getitem _ _)))
 show uv _ _ (uB.Tuple.tupleItemsOf (.ref t) >>= _) _ _ s;refine af (tupleItemsOf_ ht ?_);refine af (wpAny_typeOf hTs ?_);rw [dE ‹6›];refine af (mO hs pl pu ?_)
 have hyes:(((sIx items.size 0 lo:Nat):Int) == 0 && (1:Int) == 1 && (sIx items.size items.size hi - sIx items.size 0 lo) == items.size)=true:=by
  rw [hw.1,hw.2];simp
 show uv _ _ (if (((sIx items.size 0 lo:Nat):Int) == 0 && (1:Int) == 1 && (sIx items.size items.size hi - sIx items.size 0 lo) == items.size)=true then _ else _) _ _ s;rw [dE hyes];unfold uB.Tuple.tupleIsExact;refine af (af (wpAny_typeOf ht.typeIs (aE ?_)));rw [dE ‹6›];refine af (jp ?_);exact aE ⟨_,rfl,aE h⟩
end
end HT
namespace L2
open PySem PySem.Spec PyProof.Rows
variable {D a i1 i2 t1 t2 z:ut}{P prog:uC}{w:ww}{K:PySem.W.Frag}{elts:List Expr}{ep i n x1:Nat}{pos tpos:Pos}{ta:TA}{h h':Heap}{ks ns:LS}{o:Obj}{A:xf}{E Q:ES}{s:ue}{its:LU}{rows:LL}{H H':Hp}{vs:LV}{X:Cx}{v:V}{d:PyData}{ds:LP}
section
variable {X:Cx}
inductive QB (K:PySem.W.Frag) (x:V) (lo:Option Int) (hi:Option Int) (H:Hp) (Q:VK):Prop
 | mk (a xs:_):x=.ref a->H a=some (.tup xs)->(∀ p H',H' p=some (.tup (eF xs lo hi))->Same H H'->Q (.ref p) H')->QB K x lo hi H Q
theorem O6:SlR X (QB X.K):=by
 intro pins s σ H x v vl vu lo hi sl Q I rx hs pl pu h;obtain ⟨a,xs,rfl,hx,q⟩:=h
 by_cases hw:HT.sIx xs.length 0 lo=0/\HT.sIx xs.length xs.length hi=xs.length
 ·cases rx;obtain ⟨its,r,ht,hz⟩:=I.tuple (V7 (K:=X.K) hx);have hlen:its.toArray.size=xs.length:=by rw [cf]; exact r.length.symm
  refine⟨"tuple",_,hU.lookup,ht.typeIs,?_⟩;refine HT.qz ht hs pl pu (by rw [hlen]; exact hw) ?_
  have e:eF xs lo hi=xs:=by
   unfold eF;rw [hw.1,hw.2];simp
  exact⟨.ref a,H,I,rfl,q a H (by rw [e]; exact hx) (V8 H)⟩
 ·exact Ly pins s σ H (.ref a) v vl vu lo hi sl Q I rx hs pl pu ⟨a,xs,rfl,V7 hx,hw,fun p hp=>q p _ ak (We hp)⟩
inductive Pn (x:V) (y:V) (H:Hp) (Q:VK):Prop
 | mk (a b xs ys:_):x=.ref a->y=.ref b->H a=some (.tup xs)->H b=some (.tup ys)->xs≠[]->xs.length+ys.length<=sizeLine->(∀ p H',H' p=some (.tup (xs++ys))->Same H H'->Q (.ref p) H')->Pn x y H Q
theorem NT:OpR X (Eg .Add) Pn:=by
 exists 6;obtain ⟨a,b,xs,ys,rfl,rfl,ha,hb,hne,hz,q⟩:=h;exact Fy pins s σ H (.ref a) (.ref b) v u Q I rx ry ⟨a,b,xs,ys,rfl,rfl,V7 ha,V7 hb,hne,hz,fun e=>q a H (by rw [e,gu]; exact ha) (V8 H),fun _ p hp=>q p _ ak (We hp)⟩
end
section
variable {prog:uC}{w:ww}{A:xf}{E:ES}{s:ue}
theorem G5{TI TO:ut}{k:Nat}{xs ys:AV}{x a b:sr}{Q:Fin->ue->Prop}(hh:A.handled=none)(D:ZA z TI TO i1 i2 t1 t2)
  (hz:Vn s.heap z TI TO .none) (hTI:O3 s.heap TI (.ref i1) (.ref i2)) (hTO:O3 s.heap TO a b) (h1:s.heap.IsTupleIter i1 t1 k) (h2:s.heap.IsTupleIter i2 t2 k) (hl1:s.heap.IsTuple t1 xs) (hl2:s.heap.IsTuple t2 ys) (hx:xs[k]?=some x) (hy:ys[k]?=none)
  (hE:∀ h' e,(∀ c o,c≠z->c≠TO->c≠i1->c≠i2->s.heap.get? c=some o->h'.get? c=some o)->(∃ o,h'.get? e=some o/\o.cls=.type "StopIteration")->E (.ref e) { s with heap:=h' }) :
  uv ‹32› A (uB.«zip.__next__» ⟨[.ref z],[]⟩) Q E s:=by
 show uv _ _ (Vy (.ref z) 2 >>= _) _ _ _; refine af (ff hz rfl (x:=.bool false) rfl ?_);show uv _ _ (Vy (.ref z) 3 >>= _) _ _ _; refine af (ff hz rfl (x:=.ref TI) rfl (af (iE hTI rfl ?_)));show uv _ _ (xn (.ref z) >>= _) _ _ _;unfold xn;refine af (af (ff hz rfl (x:=.none) rfl (aE ?_)));simp only [kR];refine af (jp (af (ff hz rfl (x:=.ref TO) rfl (af (fS hz ‹45› fun g1 z1 q1=>?_)))))
 replace z1:Vn g1 z TI TO .ellipsis:=z1
 simp only [List.zipIdx_cons,List.zipIdx_nil,nK,rS];refine af (af (af (qi ?_)));show uv _ _ (yz (.ref i1) >>= _) _ _ _;refine af (nW (h1.extBut q1.extBut D.a3) (hl1.extBut q1.extBut D.b2) hx fun g2 j2 q2=>aE ?_);have p2:O3 g2 TO a b:=q2.extBut _ _ D.a8 (q1.extBut _ _ D.a2 hTO);refine af (iE p2 rfl (af (qk p2 fun g3 p3 q3=>af (si (aE ?_)))));refine af (af (qi ?_));show uv _ _ (yz (.ref i2) >>= _) _ _ _;refine af (tK hh (((h2.extBut q1.extBut D.a4).extBut q2.extBut D.b1.symm).extBut q3.extBut D.a9.symm) (((hl2.extBut q1.extBut D.b6).extBut q2.extBut D.b8).extBut q3.extBut D.b7) hy fun g4 e q4 ⟨oe,e1,e2⟩=>?_);have z4:Vn g4 z TI TO .ellipsis:=q4 _ _ D.a4.symm (q3.extBut _ _ D.a2.symm (q2.extBut _ _ D.a3.symm z1));have hez:e≠z:=fun x=>by subst x; rw [z4] at e1; cases e1; simp at e2
 exact fS z4 ‹45› fun g5 _ q5=>hE g5 e (fun c o c1 c2 c3 c4 x=>q5.extBut _ _ c1 (q4 _ _ c4 (q3.extBut _ _ c2 (q2.extBut _ _ c3 (q1.extBut _ _ c1 x))))) ⟨oe,q5.extBut _ _ hez e1,e2⟩
end
def Ry(K:PySem.W.Frag)(t1 t2:ut):It:=
 ⟨fun i H=>∃ xs ys x y,SqT K H t1 xs/\SqT K H t2 ys/\xs[i]?=some x/\ys[i]?=some y,fun i H v H'=>∃ p,H p=none/\v=.ref p/\∀ xs ys x y,SqT K H t1 xs->SqT K H t2 ys->xs[i]?=some x->ys[i]?=some y->H'=upd H p (.tup [x,y]),
  fun i H=>∃ xs ys,SqT K H t1 xs/\SqT K H t2 ys/\(xs.length<=i\/ys.length<=i)⟩
theorem G6{TI TO:ut}(D:ZA z TI TO i1 i2 t1 t2):Turn P w K (.Tuple elts x1 tpos) (Ry K t1 t2) [z,TI,TO,i1,i2] z
  (fun i h=>Vn h z TI TO .none/\O3 h TI (.ref i1) (.ref i2)/\(∃ a b,O3 h TO a b)/\h.IsTupleIter i1 t1 i/\h.IsTupleIter i2 t2 i) where
 mem:=(mJ (P:=P) (w:=w) (K:=K) (elts:=elts) (x1:=x1) (tpos:=tpos) D).mem
 obj:=(mJ (P:=P) (w:=w) (K:=K) (elts:=elts) (x1:=x1) (tpos:=tpos) D).obj
 keep:=(mJ (P:=P) (w:=w) (K:=K) (elts:=elts) (x1:=x1) (tpos:=tpos) D).keep
 item:=(mJ (P:=P) (w:=w) (K:=K) (elts:=elts) (x1:=x1) (tpos:=tpos) D).item
 done:=by
  exists 4;obtain ⟨xs,ys,q1,q2,e1⟩:=hg
  by_cases hx:xs.length<=i
  ·exact(mJ (P:=X.prog) (w:=X.w) (K:=X.K) (elts:=elts) (x1:=x1) (tpos:=tpos) D).done X rfl rfl rfl hc i pins s σ H E I hf st ⟨xs,q1,hx⟩
  ·have hy:=e1.resolve_left hx;obtain ⟨its,rv,p,hz'⟩:=I.tuple q1;obtain ⟨jts,rw',p',hz''⟩:=I.tuple q2;have hl:=rv.length;have hl2:=rw'.length;have hxi:i < xs.length:=by omega
   obtain ⟨u,hu,ru⟩:=rv.get (ae hxi);obtain ⟨hz,hTI,⟨a,c,hTO⟩,h1,h2⟩:=st;have hT:s.TypeIs (.ref z) "zip" := ⟨_,hz,rfl⟩;unfold Hc
   refine af (lL (eT (name:=Str.ofString "__next__") hT lz (eM lz hT Vz
    (G5 (I.ok.hd hc) D hz hTI hTO h1 h2 (show s.heap.IsTuple t1 its.toArray from p) (show s.heap.IsTuple t2 jts.toArray from p') (x:=u) (by simpa using hu) (by simp; omega) fun h' e kk ⟨o,ho,hcl⟩=>?_) (Vs _))))
   refine af (ku (T:= "StopIteration") (b:=true) ⟨o,ho,hcl⟩ rV (aE ⟨rfl,I.uM (t':=s.toks) hf fun b u hb q=>?_⟩));simp only [bz,dL,iF,sq] at hb;exact kk b u hb.1 hb.2.2.1 hb.2.2.2.1 hb.2.2.2.2 q
 self:=(mJ (P:=P) (w:=w) (K:=K) (elts:=elts) (x1:=x1) (tpos:=tpos) D).self
section
variable {X:Cx}
inductive Kh (K:PySem.W.Frag) (R:It->Hp->Prop) (vs:LV) (H1:Hp):Prop
 | mk (a b xs ys:_):vs=[.ref a,.ref b]->SqT K H1 a xs->SqT K H1 b ys->R (Ry K a b) H1->Kh K R vs H1
def R4(K:PySem.W.Frag)(ta:TA):TI:=fun σ H R=>ta σ H fun vs H1=>Kh K R vs H1
theorem Nj{a b:Expr}{p:Pos}(hg:Gl X "zip")(hm:X.mg "zip" = none)(ha:PA X [a,b] ta)
  (he:xx [a,b] X.env=(false,eval a X.env)::xx [b] X.env:=by rfl) (hpl:(NB pos (xx [b] X.env)).any (·.1)=false:=by rfl):PI X (.Tuple elts x1 tpos) (.Call (.Name "zip" p) [a,b] [] pos) (R4 X.K ta):=by
 intro pins s σ H R I h;refine kz (rm I hg hm boot_zip ?_);refine i4 (thn (ha pos pins s σ H _ I h) fun us s1 ⟨vs,H1,I1,r1,t1,t2,xs,ys,e,q1,q2,q⟩=>?_) he hpl;subst e;obtain ⟨u,w',rfl,ru,rw'⟩:=vals2 r1;cases ru;cases rw';obtain ⟨its,rv,p1,hz1⟩:=I1.tuple q1;obtain ⟨jts,rv2,p2,hz2⟩:=I1.tuple q2;refine Nq (show s1.heap.IsTuple t1 its.toArray from p1) (show s1.heap.IsTuple t2 jts.toArray from p2) ?_;have b1:(zq1 s1.heap t1).objs.size=s1.heap.objs.size+1:=ie ..;have b2:(zq2 s1.heap t1 t2).objs.size=s1.heap.objs.size+2:=by rw [ie,b1]
 have b3:(zq3 s1.heap t1 t2).objs.size=s1.heap.objs.size+3:=by rw [ie,b2]
 have b4:(zq4 s1.heap t1 t2).objs.size=s1.heap.objs.size+4:=by rw [ie,b3]
 have c1:t1 < s1.heap.objs.size:=p1.lt;have c2:t2 < s1.heap.objs.size:=p2.lt;have hz:Vn (zq5 s1.heap t1 t2) (zq4 s1.heap t1 t2).objs.size (zq2 s1.heap t1 t2).objs.size (zq3 s1.heap t1 t2).objs.size .none:=bb _ rfl
 have DD:ZA (zq4 s1.heap t1 t2).objs.size (zq2 s1.heap t1 t2).objs.size (zq3 s1.heap t1 t2).objs.size s1.heap.objs.size (zq1 s1.heap t1).objs.size t1 t2:=by
  rw [b4,b2,b3,b1];exact Ti c1 c2
 refine wpAny_pyIter_zip hz ?_;have I2:Inv X pins σ H1 { s1 with heap:=zq5 s1.heap t1 t2 }:=I1.kept (t':=s1.toks) fun b o e=>av _ (av _ (av _ (av _ (av _ e))))
 refine⟨(zq4 s1.heap t1 t2).objs.size,[(zq4 s1.heap t1 t2).objs.size,(zq2 s1.heap t1 t2).objs.size,(zq3 s1.heap t1 t2).objs.size,s1.heap.objs.size,(zq1 s1.heap t1).objs.size],_,Ry X.K t1 t2,H1,rfl,I2,
  G6 DD,⟨hz,?_,⟨.none,.none,?_⟩,?_,?_⟩,fun b hb=>?_,q⟩
 ·exact av _ (av _ (bb _ rfl))
 ·exact av _ (bb _ rfl)
 ·exact⟨_,av _ (av _ (av _ (av _ (bb _ rfl)))),rfl,rfl⟩
 ·exact⟨_,av _ (av _ (av _ (bb _ rfl))),rfl,rfl⟩
 ·have hle:s1.heap.objs.size<=b:=by
   rw [b4,b2,b3,b1] at hb;simp only [bz,dL,iF] at hb;rcases hb with h | h | h | h | h <;> rw [h] <;> first | exact ai _ | exact Nat.le_add_right _ _
  exact I1.lV hle (I1.hok.fresh hle)
end
section
variable {X:Cx}
inductive Qa (x:V) (y:V) (H:Hp) (Q:VK):Prop
 | mk (a b xs ys:_):x=.ref a->y=.ref b->H a=some (.tup xs)->H b=some (.tup ys)->xs.length+ys.length<=sizeLine->(∀ p H',H' p=some (.tup (xs++ys))->Same H H'->Q (.ref p) H')->Qa x y H Q
theorem cP:OpR X (Eg .Add) Qa:=by
 exists 6;obtain ⟨a,b,xs,ys,rfl,rfl,ha,hb,hz,q⟩:=h;cases xs with
 | nil=>exact Aj pins s σ H (.ref a) (.ref b) v u Q I rx ry ⟨a,b,ys,rfl,rfl,ha,hb,q b H hb (V8 H)⟩
 | cons x0 xr=>exact NT pins s σ H (.ref a) (.ref b) v u Q I rx ry ⟨a,b,x0::xr,ys,rfl,rfl,ha,hb,kU _ _,hz,q⟩
end
section
variable {X:Cx}
end
structure Shw (d:PyData) (n k:Nat):Prop where
 sh:d.showable=true
 sz:d.shown.length<=n
 dp:d.depth<=k
def Cps(x:Str):Prop:=∀ c∈x.cps.toList,c < 16 ^ 8
mutual
def toD:T->PyData
 | .non=>.none
 | .int i=>.int i
 | .str x=>.str x
 | .tup ts=>.tuple (mD ts)
def mD:List T->LP
 | []=>[]
 | t::ts=>toD t::mD ts
end
theorem lu:∀ ts:List T,mD ts=ts.map toD
 | []=>by rw [mD,List.map_nil]
 | t::ts=>by rw [mD,de,lu ts]
mutual
theorem Dp.rd{H:Hp}:∀ {t:T} {v:V},Dp H t v->RdV H v (toD t)
 | .non,_,e=>by rw [Dp] at e; rw [toD,e]; exact .non
 | .int i,_,e=>by rw [Dp] at e; rw [toD,e]; exact .int i
 | .str x,_,e=>by rw [Dp] at e; rw [toD,e]; exact .str x
 | .tup ts,v,e=>by
  rw [Dp] at e;obtain ⟨a,xs,rfl,ha,hl⟩:=e;rw [toD];exact .tup ha (DpL.rd hl)
theorem DpL.rd{H:Hp}:∀ {ts:List T} {xs:LV},DpL H ts xs->RdA H xs (mD ts)
 | [],_,e=>by rw [DpL] at e; rw [mD,e]; exact .nil
 | t::ts,xs,e=>by
  rw [DpL] at e;obtain ⟨x,r,rfl,h1,h2⟩:=e;rw [mD];exact .cons (Dp.rd h1) (DpL.rd h2)
end
section
variable {X:Cx}{K:PySem.W.Frag}
end
section
variable {prog:uC}{w:ww}{A:xf}{R:V3->ue->Prop}{I:ut}{fp wr:LA}{G:Array VM->Array VM->Prop}{n:Nat}{P:Nat->sr->Prop}{St:Nat->ue->Prop}
theorem Ku{knd:KeyKind prog w Str}{S:Str->Bool}(x:h.SetOf knd a S n)(k:∀ o,h.get? a=some o->h'.get? a=some o):h'.SetOf knd a S n:=by
 obtain ⟨o,es,ep,t,ho,rest⟩:=x;exact⟨o,es,ep,t,k _ ho,rest⟩
end
section
variable {X:Cx}
def HN(P:uC)(w:ww)(a:ut)(n:Nat):HO:=.ext fun h=>∃ S:Str->Bool,h.SetOf (strKind P w) a S n
inductive oE (P:uC) (w:ww) (xs:LV) (H:Hp) (Q:VK):Prop
 | mk (a n:_):xs=[.ref a]->H a=some (HN P w a n)->Q (.int n) H->oE P w xs H Q
theorem iK:fj X (.builtin "len") (oE X.prog X.w):=by
 exists 9;obtain ⟨a,n,rfl,ha,q⟩:=h;exists 14;obtain ⟨⟨S,o,es,ep,t,ho,hex,hd,_,_,hb,hf,rfl⟩,_⟩:=I.hok a _ ha;refine call_len_set ho hex hd hf (by unfold RC at hb; omega) ⟨.int es.size,H,I.tok _,⟨_,rfl⟩,q⟩
end
def tx:sr->Str
 | .str x _=>x
 | _=> ""
def oH(P:uC)(w:ww)(h:Heap)(a:ut)(ks:LS):Prop:=
 ∃ o es ep t,h.get? a=some o/\o.ExactSet/\o.data=.set es ep t/\ElemsOf (strKind P w) es.toList/\ks=es.toList.map (fun e=>tx e.2)/\ks.Nodup
  /\ es.size < RC/\t.fits es.size=true/\t.led=!w.params.followText "set-order" /\ (t.plain=true->es.size=0)
theorem oH.at(x:oH P w h a ks)(k:∀ o,h.get? a=some o->h'.get? a=some o):oH P w h' a ks:=by
 obtain ⟨o,es,ep,t,ho,r⟩:=x;exact⟨o,es,ep,t,k _ ho,r⟩
theorem vB{e:Int × sr}{k:Str}(h:(strKind P w).is k e.2=true):∃ t,e.2=.str k t:=by
 obtain ⟨i,v⟩:=e;cases v <;> simp [PySem.strKind,sr.isStrOf] at h;exact⟨_,by rw [h]⟩
theorem oH.setOf(x:oH P w h a ks):h.SetOf (strKind P w) a (fun k=>decide (k∈ks)) ks.length:=by
 obtain ⟨o,es,ep,t,ho,hx,hd,el,rfl,nd,hb,hf,_⟩:=x;refine⟨o,es,ep,t,ho,hx,hd,el,fun k=>?_,hb,hf,by simp⟩;rw [decide_eq_true_eq,bu];refine⟨fun⟨e,he,q⟩=>⟨e,he,?_⟩,fun⟨e,he,q⟩=>⟨e,he,?_⟩⟩
 ·obtain ⟨⟨k',hk,_⟩,_⟩:=el e he;obtain ⟨t',e'⟩:=vB hk;rw [e'] at q hk;rw [e',show k=k' from q.symm];exact hk
 ·obtain ⟨t',e'⟩:=vB q;rw [e'];rfl
theorem Hy(t:yo)(n:Nat):(t.orStandIn n).led=t.led:=by
 unfold yo.orStandIn;split <;> rfl
theorem Ol(t:yo)(es:Array (Int × sr))(h:Int)(x:sr):(layNew t es h x).2.1.led=t.led:=by
 unfold layNew;split
 ·exact Hy _ _
 ·rfl
theorem Hx(t:yo)(es:Array (Int × sr))(n:Nat):(VF t es n).2.1.led=t.led/\(t.plain=false->(VF t es n).2.1.plain=false):=by
 unfold VF;split
 ·rename_i t' order e
  have e2:t'.led=t.led/\t'.plain=t.plain:=by
   unfold yo.relaid yo.laid at e;cases q:yo.layClean (yo.sizeAbove n - 1) (es.map (·.1)) with
   | none=>rw [q] at e; cases e
   | some ow=>
    rw [q] at e;exists 10;injection e with e1 e2;rw [<- e1];exact⟨rfl,rfl⟩
  dsimp only;split
  ·exact⟨e2.1,fun z=>e2.2.trans z⟩
  ·exact⟨rfl,fun _=>rfl⟩
 ·exact⟨rfl,fun _=>rfl⟩
section
variable {prog:uC}{w:ww}{A:xf}{E:ES}{s:ue}
theorem Gj{es:Array (Int × sr)}{t:yo}(ho:h.get? a=some o)(hx:o.ExactSet)(hd:o.data=.set es ep t)(es':Array (Int × sr))(t':yo) :
  ∃ o' ep',(h.update a (Obj.putSet es' t')).get? a=some o'/\o'.ExactSet/\o'.data=.set es' ep' t':=by
 have e:=putSet_of es' t' hd;have g:=ia (Obj.putSet es' t') ho (by rw [e]; rfl);rw [e] at g;exact⟨_,_,g,hx,rfl⟩
theorem add_str{x:Str}{tk:Tok}{Q:Bool->ue->Prop}(hM:oH prog w s.heap a ks)(hb:ks.length+1 < RC)(h0:x∈ks->Q false s)
  (h1:x ∉ ks->∀ h' ks',Heap.SameBut a s.heap h'->oH prog w h' a ks'->ks'.Perm (ks++[x])->Q true { s with heap:=h' }) :
  uv ‹32› A (setAddHashed a (.str x tk) ((strKind prog w).hash x)) Q E s:=by
 have hk:(strKind prog w).is x (.str x tk)=true:=strKind_is _ _ _ _;have mem:=hM.setOf;obtain ⟨o,es,ep,t,ho,hx,hd,el,ek,nd,hs,hf,ld,pl⟩:=hM;obtain ⟨o9,es9,ep9,t9,g1,g3,g2,g4,mem,g5⟩:=mem;rw [ho] at g1;cases g1;rw [hd] at g2;cases g2;have hlen:ks.length=es.size:=by rw [ek]; simp
 unfold setAddHashed setAddHashedIn;refine eL (af (km ho hd hf ?_));dsimp only;rw [dE (byScan_of rfl hs el)];unfold setAddByScan;refine af (af (jp (af (wpAny_setScan_of hk ho hd hf el ?_))));cases hr:List.findIdx? (fun e=>(strKind prog w).is x e.2) es.toList with
 | some j=>
  obtain ⟨hj,hp,_⟩:=List.findIdx?_eq_some_iff_getElem.mp hr;exact aE (aE (h0 (eA ((mem x).mpr ⟨_,bS hj,hp⟩))))
 | none=>
  have hno:x ∉ ks:=fun hm=>by
   obtain ⟨e,he,hp⟩:=(mem x).mp (bo hm);have:=List.findIdx?_eq_none_iff.mp hr e he;rw [hp] at this;cases this
  dsimp only;have p1:=layNew_perm t es ((strKind prog w).hash x) (.str x tk);have f1:=layNew_fits t es ((strKind prog w).hash x) (.str x tk);have l1:=Ol t es ((strKind prog w).hash x) (.str x tk);rw [Array.toList_push] at p1;generalize layNew t es ((strKind prog w).hash x) (.str x tk)=L at p1 f1 l1 ⊢;obtain ⟨es1,t1,du,gave⟩:=L;dsimp only at p1 f1 l1 ⊢;have el1:ElemsOf (strKind prog w) es1.toList:=(el.push hk rfl).perm p1
  have pk:(es1.toList.map fun e=>tx e.2).Perm (ks++[x]):=by
   have:=p1.map (fun e:Int × sr=>tx e.2);rw [aI,<- ek] at this;exact this
  have nd1:(ks++[x]).Nodup:=by
   rw [i7];exact⟨nd,by simp,fun p hp q hq e=>hno (by rw [<- bj.mp hq,<- e]; exact hp)⟩
  have z1:es1.size=ks.length+1:=by
   have:=pk.length_eq;simpa using this
  have gw:∀(b:Bool) {s₁:ue} {Q':Unit->ue->Prop},Q' () s₁->uv ‹32› A (match b with | true=>rule "set.scan.the-table-gave-way" | false=>Hn ()) Q' E s₁:=
   fun b s₁ Q' q=>by cases b <;> first | exact aE q | exact jp q
  refine af (gw _ ?_)
  have tail:∀ t2:yo,t2.fits es1.size=true->t2.led=t.led->t2.plain=false->uv ‹32› A (do
    storeSet a es1 t2
    if (!du && t2.tooFull)=true then do
      (match (VF t2 es1 (JP es1.size)).2.2 with | true=>rule "set.scan.the-table-gave-way" | false=>Hn ())
      storeSet a (VF t2 es1 (JP es1.size)).1 (VF t2 es1 (JP es1.size)).2.1
      Hn (some true)
     else Hn (some true)) (fun r s'=>r=some true/\Q true s') E s:=fun t2 f2 l2 q2=>by
   refine af (wpAny_storeSet_of ho hd ?_ (fits_of_scanBound ‹26›));obtain ⟨o2,ep2,ho2,hx2,hd2⟩:=Gj ho hx hd es1 t2;have sb:=iA s.heap a (Obj.putSet es1 t2);split
   ·have p3:=relayAll_perm t2 es1 (JP es1.size);have f3:=relayAll_fits t2 es1 (JP es1.size);obtain ⟨l3,q3⟩:=Hx t2 es1 (JP es1.size);generalize VF t2 es1 (JP es1.size)=L3 at p3 f3 l3 q3 ⊢;obtain ⟨es3,t3,g3⟩:=L3;dsimp only at p3 f3 l3 q3 ⊢;have z3:es3.size=es1.size:=by simpa using p3.length_eq
    refine af (gw _ ?_);refine af (wpAny_storeSet_of ho2 hd2 ?_ (fits_of_scanBound ‹26›));obtain ⟨o4,ep4,ho4,hx4,hd4⟩:=Gj ho2 hx2 hd2 es3 t3;have pk3:=(p3.map (fun e:Int × sr=>tx e.2)).trans pk;refine aE ⟨rfl,h1 hno _ _ (sb.trans (iA _ a _)) ⟨o4,es3,ep4,t3,ho4,hx4,hd4,el1.perm p3,rfl,pk3.nodup_iff.mpr nd1,by omega,f3,l3.trans (l2.trans ld),fun e=>?_⟩ pk3⟩;rw [q3 q2] at e;cases e
   ·refine aE ⟨rfl,h1 hno _ _ sb ⟨o2,es1,ep2,t2,ho2,hx2,hd2,el1,rfl,pk.nodup_iff.mpr nd1,by omega,f2,l2.trans ld,fun e=>?_⟩ pk⟩;rw [q2] at e;cases e
  split
  ·refine af ?_;rw [hashByValue_scannable 8 (x:=.str x tk) rfl];refine aE ?_;refine ib (tail { t1 with plain:=false } (yo.fits_plain_off f1) l1 rfl) (fun r s' ⟨e,q⟩=>?_) (fun _ _ h=>h);rw [e];exact aE q
  ·rename_i hp
   refine af (aE ?_);refine ib (tail t1 f1 l1 (by simpa using hp)) (fun r s' ⟨e,q⟩=>?_) (fun _ _ h=>h);rw [e];exact aE q
end
def un(ns:LS):Nat->Nat
 | 0=>0
 | i+1=>if decide (ns.getD i "" ∈ ns.take i)=true then un ns i else un ns i+1
theorem xP(ns:LS):∀ i,un ns i<=i
 | 0=>ai _
 | i+1=>by
  have:=xP ns i;rw [un];split <;> omega
theorem Qi(ns:LS):∀ i,i<=ns.length->(un ns i=i↔(ns.take i).Nodup)
 | 0,_=>by simp [un]
 | i+1,h=>by
  have ih:=Qi ns i ‹26›;have hl:=xP ns i;have hil:i < ns.length:=h;have ex:ns.getD i "" = ns[i]:=by simp [hil]
  have et:ns.take (i+1)=ns.take i++[ns[i]]:=by rw [jS,ae hil]; rfl
  rw [un,ex,et,i7]
  by_cases hm:ns[i]∈ns.take i
  ·rw [dE (bo hm)];refine⟨fun e=>by omega,fun q=>absurd rfl (q.2.2 _ hm _ bn)⟩
  ·rw [cK (by rw [bE hm]; exact aS)];refine⟨fun e=>⟨ih.mp ‹26›,by simp,fun a ha b hb e'=>?_⟩,fun q=>by rw [ih.mpr q.1]⟩;rw [bj.mp hb] at e';exact hm (e' ▸ ha)
theorem mq(ns:LS):un ns ns.length=ns.length↔ns.Nodup:=by
 rw [Qi ns ns.length (ai _),aw (ai _)]
section
variable {prog:uC}{w:ww}{A:xf}{R:V3->ue->Prop}{I:ut}{fp wr:LA}{G:Array VM->Array VM->Prop}{n:Nat}{P:Nat->sr->Prop}{St:Nat->ue->Prop}
def Out(ns:LS)(i:Nat)(ks:LS):Prop:=(∀ x,x∈ks↔x∈ns.take i)/\ks.length=un ns i
theorem LR(W:WalksS prog w A.in1 I fp wr G n P St)(S:ut)(hSf:S ∉ fp)(ns:LS)(hn:ns.length=n)
  (hval:∀ i v,P i v->∃ t,v=.str (ns.getD i "") t) (hb:n+1 < RC) :
  ∀(k i:Nat) (s:ue) (ks:LS),n - i=k->i<=n->St i s->oH prog w s.heap S ks->Out ns i ks->
   (∀ s' ks',Moved (S::wr) G s s'->oH prog w s'.heap S ks'->Out ns n ks'->R (.ok (.ret .none)) s')->
   HH ‹32› A (.builtin "set.update.loop" ⟨[.ref S,.ref I],[]⟩) R s:=by
 have hSw:S ∉ wr:=fun h=>hSf (W.sub _ h);have hsub:∀ b∈wr,b∈S::wr:=fun b hb=>cr _ hb;intro k
 induction k with
 | zero=>
  intro i s ks hk hi hst hS hO hR;have hin:i=n:=by omega
  subst hin;refine gI F.entry_set_update_loop ?_;rw [eS kX _];show uv _ A.in1 (Hc (.ref I) >>= _) _ _ s;refine af (W.done s _ _ hst fun s' hm=>?_);show uv _ A.in1 (ret xF) _ _ s';exact aE (hR s' ks (hm.mono hsub) (hS.at fun o e=>hm.heap S _ hSw e) hO)
 | succ k ih=>
  intro i s ks hk hi hst hS hO hR;have hlt:i < n:=by omega
  refine gI F.entry_set_update_loop ?_;rw [eS kX _];show uv _ A.in1 (Hc (.ref I) >>= _) _ _ s;refine af (W.item i s _ _ hlt hst fun v s' hP hst' hm=>?_);obtain ⟨t,rfl⟩:=hval i v hP;have hS':=hS.at fun o e=>hm.heap S o hSw e;have hil:i < ns.length:=by omega
  have ex:ns.getD i "" = ns[i]:=by simp [hil]
  have et:ns.take (i+1)=ns.take i++[ns[i]]:=by rw [jS,ae hil]; rfl
  rw [ex];show uv _ A.in1 (UT [Tu ns[i] t] (setAdd S (.str ns[i] t)) >>= _) _ _ s';refine af (eL ?_);unfold setAdd;refine eL ?_;refine af ((strKind prog w).pyHash (k:=ns[i]) (strKind_is _ _ _ _) ?_);have ul:=xP ns i
  have go:∀ (h':Heap) (ks':LS),Heap.SameBut S s'.heap h'->oH prog w h' S ks'->Out ns (i+1) ks'->HH ‹32› A (.builtin "set.update.loop" ⟨[.ref S,.ref I],[]⟩) R { s' with heap:=h',toks:=s'.toks+1 }:=fun h' ks' hsb hS2 hO2=>by
   refine ih (i+1) _ ks' ‹26› hlt (W.frame _ s' _ _ hst' (sj _) fun b hb o e=>?_) hS2 hO2 fun s'' ks'' hm'' hS'' hO''=>?_
   ·rw [hsb.2 b (fun h:b=S=>hSf (by rw [<- h]; exact hb))]; exact e
   ·refine hR s'' ks'' (Moved.trans W.gtrans ((hm.mono hsub).then_heap (sj _) fun b o hb e=>?_) hm'') hS'' hO'';rw [hsb.2 b (fun h:b=S=>hb (by rw [h]; exact bn))]; exact e
  refine add_str (s:={ s' with toks:=s'.toks+1 }) hS' (by rw [hO.2]; omega) (fun hin=>?_) (fun hno h' ks' hsb hS2 hp=>?_)
  ·refine aE ⟨iN kX _,go _ ks (Heap.SameBut.refl S s'.heap) hS' ⟨fun x=>?_,?_⟩⟩
   ·rw [et,cw,bj,hO.1 x];exact⟨.inl,fun h=>h.elim id fun e=>e ▸ (hO.1 _).mp hin⟩
   ·rw [un,ex,dE (bo ((hO.1 _).mp hin))];exact hO.2
  ·refine aE ⟨iN kX _,go h' ks' hsb hS2 ⟨fun x=>?_,?_⟩⟩
   ·rw [et,hp.mem_iff,cw,cw,hO.1 x]
   ·rw [un,ex,cK (by rw [bE fun h=>hno ((hO.1 _).mpr h)]; exact aS),hp.length_eq,bX,hO.2];rfl
end
theorem Nx(a:sr)(h:Q ‹22› { s with heap:=s.heap.push { cls:=.type "set",dict:=none,data:=.set #[] 0 (.fresh 0 0 (!w.params.followText "set-order")) } }) :
  HH ‹32› A (.call (.builtin "set.__new__") ⟨[.type "set",a],[]⟩) (wants Q E) s:=by
 refine codeAny_of_tree ?_;show uv _ A.in1 (checkBuiltinCall "set.__new__" ⟨[.type "set",a],[]⟩ >>= fun _=>again (.builtin "set.__new__" ⟨[.type "set",a],[]⟩)) _ _ s;refine af (jI (F.newCall_set_1 a) (aE ⟨iN F.plain_set_new _,gI F.entry_set_new ?_⟩));rw [eS F.plain_set_new _];unfold uB.«set.__new__» uB.Frozenset.newClass;have hsub:=sub_set_self;obtain ⟨hp,g,d,tk,os⟩:=s;dsimp only
 wp_walk
 refine VG (aE ?_);dsimp only;simp only [newObj];exact af (wpAny_alloc (aE (aE h)))
theorem tR{l:ut}{T:String}(hT:T = "list" \/ T = "tuple")(hh:A.handled=none)(hl:∃ o,s.heap.get? l=some o/\o.cls=.type T/\∃ m,o.data=.seq its.toArray m)
  (hi:∀(i:Nat) v,its[i]?=some v->∃ t,v=.str (ns.getD i "") t) (hn:ns.length=its.length) (hb:ns.length+1 < RC)
  (h:∀ (h':Heap) (tk:Nat) (ks:LS),oH prog w h' s.heap.objs.size ks->Out ns ns.length ks->(∀ b o,b < s.heap.objs.size->s.heap.get? b=some o->h'.get? b=some o)->Q ‹22› { s with heap:=h',toks:=tk }) :
  uv ‹32› A (call (.type "set") [.ref l]) Q E s:=by
 obtain ⟨c,tl,hmro⟩:=ly.mro;have hmade:=ly.made;have hsub:=ly.sub;refine wpAny_call (codeAny_of_tree ?_);show uv _ _ (callAny (.type "set") _) _ _ _;refine aE ⟨Code.quiet_builtin _ ‹5›,gI F.entry_type_call ?_⟩;rw [xf.under_plain (weight_type_call_type "set" [.ref l] []) rfl];have h1:=ly.notType;have h2:=ly.canCreate;have hct:=F.typeCall_set_1 (.ref l)
 repeat (any_goals (first | assumption | wp_step))
 generalize hO0:({ cls:=.type "set",dict:=none,data:=.set #[] 0 (.fresh 0 0 (!w.params.followText "set-order")) }:Obj)=O0;refine oq (Nx (.ref l) (E:=E) (Q:=fun obj s₁=>obj=.ref s.heap.objs.size/\s₁={ s with heap:=s.heap.push O0 }) (by rw [hO0]; exact⟨rfl,rfl⟩)) fun r s₁ hr=>?_;cases r with
 | error e=>exact hr
 | ok fl=>
  cases fl with
  | ret obj=>
   obtain ⟨rfl,rfl⟩:=hr;have e0:(s.heap.push O0).objs.size=s.heap.objs.size+1:=ie ..;have old:∀ b o,s.heap.get? b=some o->(s.heap.push O0).get? b=some o:=fun b o e=>av _ e;have hS:(s.heap.push O0).get? s.heap.objs.size=some O0:=bb _ (by rw [<- hO0]; rfl);have hll:l < s.heap.objs.size:=let ⟨_,ho,_⟩:=hl; cn ho;have hl1:∃ o,(s.heap.push O0).get? l=some o/\o.cls=.type T/\∃ m,o.data=.seq its.toArray m:=let ⟨o,ho,q⟩:=hl; ⟨o,old _ _ ho,q⟩;generalize s.heap.push O0=h0 at e0 old hS hl1;subst hO0;have hTs:Vu { s with heap:=h0 } ‹22› "set" := ⟨_,hS,rfl⟩;have hli:=ly.init.lookup;have hbi:=ly.init.bind ‹22›
   repeat (any_goals (first | assumption | wp_step))
   refine oq (codeAny_call_builtin (R:=wants (fun r s₂=>r=.none/\∃ h' tk ks,s₂={ s with heap:=h',toks:=tk }/\
     oH prog w h' s.heap.objs.size ks/\Out ns ns.length ks/\(∀ b o,b < s.heap.objs.size->s.heap.get? b=some o->h'.get? b=some o)) E) ly.init.plain F.entry_set_init (check_set_init_1 hTs ?_)) fun r₂ s₂ hr₂=>?_
   ·have hh3:A.in1.in1.in1.handled=none:=by simp [hh]
    have hneI:l≠h0.objs.size:=by rw [e0]; exact dm (i6 hll)
    have hsz:its.toArray.size=ns.length:=by rw [cf,hn]
    have hSf:s.heap.objs.size ∉ [h0.objs.size,l]:=by
     simp only [bz,bj,dL,iF,sq];exact⟨by rw [e0]; exact dm (Nat.lt_succ_self _),eR hll⟩
    have key:∀(oI:Obj) (St:Nat->ue->Prop) (R:V3->ue->Prop),WalksS prog w A.in1.in1.in1 h0.objs.size [h0.objs.size,l] [h0.objs.size] (fun a b=>b=a) its.toArray.size (fun i v=>its.toArray[i]?=some v) St->St 0 { s with heap:=h0.push oI }->
      (∀ s' ks',Moved [s.heap.objs.size,h0.objs.size] (fun a b=>b=a) { s with heap:=h0.push oI } s'->oH prog w s'.heap s.heap.objs.size ks'->Out ns its.toArray.size ks'->R (.ok (.ret .none)) s')->
      HH ‹32› A.in1.in1 (.builtin "set.update.loop" ⟨[.ref s.heap.objs.size,.ref h0.objs.size],[]⟩) R { s with heap:=h0.push oI }:=fun oI St R W st hR=>by
     refine LR W s.heap.objs.size hSf ns hsz.symm (fun i v hv=>hi i v (by simpa using hv)) ‹26› (its.toArray.size - 0) 0 _ [] ‹26› (dk _) st ?_ ⟨fun x=>by simp,rfl⟩ hR;exact⟨_,#[],0,_,av _ hS,⟨rfl,rfl,rfl⟩,rfl,(fun e he=>nomatch he),rfl,.nil,by unfold RC; decide,rfl,rfl,fun _=>rfl⟩
    have fin:∀(oI:Obj) (s':ue) (ks':LS),Moved [s.heap.objs.size,h0.objs.size] (fun a b=>b=a) { s with heap:=h0.push oI } s'->oH prog w s'.heap s.heap.objs.size ks'->Out ns its.toArray.size ks'->(∃ h' tk ks,s'={ s with heap:=h',toks:=tk }/\
      oH prog w h' s.heap.objs.size ks/\Out ns ns.length ks/\(∀ b o,b < s.heap.objs.size->s.heap.get? b=some o->h'.get? b=some o)):=fun oI s' ks' hm hS' hO'=>by
     obtain ⟨h',g',d',tk',os'⟩:=s';have eg:g'=s.gens:=hm.gens;have ed:d'=s.drawn:=hm.drawn;have eo:os'=s.os:=hm.os;subst eg; subst ed; subst eo;rw [hsz] at hO';refine⟨h',tk',ks',rfl,hS',hO',fun b o hb e=>?_⟩;exact hm.heap b o (by simp only [bz,bj,dL,iF,sq]; exact⟨dm hb,by rw [e0]; exact dm (i6 hb)⟩) (av _ (old b o e))
    have hl2:=hl1;obtain ⟨⟨ocls,odict,odata,oslots⟩,hol,hcl,nl,hdl⟩:=hl1;simp only at hcl hdl;subst hcl; subst hdl;unfold uB.«set.__init__» noKeywords uB.Frozenset.updateFrom;generalize hPI:pyIter=PI;rcases hT with rfl | rfl
    ·have hsls:=F.sub_list_set;have hslf:=F.sub_list_frozenset;have hne:(Hb "list" == Hb "dict")=false:=by decide
     wp_walk
     subst hPI;refine i5 hl2 (af (rX ?_));refine key _ _ _ (Walks.list hh3 _ l hneI its.toArray).toS ⟨⟨_,bb _ rfl,rfl,rfl⟩,Heap.IsList.push hl2 _⟩ fun s' ks' hm hS' hO'=>?_;exact aE (aE ⟨rfl,fin _ s' ks' hm hS' hO'⟩)
    ·have hsls:=F.sub_tuple_set;have hslf:=F.sub_tuple_frozenset;have hne:(Hb "tuple" == Hb "dict")=false:=by decide
     wp_walk
     subst hPI;refine wpAny_pyIter_tuple hl2 (af (rX ?_));refine key _ _ _ (Walks.tuple hh3 _ l hneI its.toArray).toS ⟨⟨_,bb _ rfl,rfl,rfl⟩,Heap.IsTuple.push hl2 _⟩ fun s' ks' hm hS' hO'=>?_;exact aE (aE ⟨rfl,fin _ s' ks' hm hS' hO'⟩)
   ·cases r₂ with
    | error e=>exact hr₂
    | ok fl₂=>
     cases fl₂ with
     | ret r=>
      obtain ⟨rfl,h',tk,ks,rfl,hS',hO',hk'⟩:=hr₂
      repeat (any_goals (first | assumption | wp_step))
      exact h _ _ _ hS' hO' hk'
     | _=>exact hr₂.elim
  | _=>exact hr.elim
section
variable {X:Cx}
inductive uE (K:PySem.W.Frag) (P:uC) (w:ww) (xs:LV) (H:Hp) (Q:VK):Prop
 | mk (l:ut) (ns:LS):xs=[.ref l]->(SqL K H l ‹31›\/SqT K H l ‹31›)->ns.length<=3000->(∀ d,H d=none->Q (.ref d) (upd H d (HN P w d (un ns ns.length))))->uE K P w xs H Q
theorem mK(hc:X.calm=true):fj X (.type "set") (uE X.K X.prog X.w):=by
 exists 9;obtain ⟨l,ns,rfl,hl,hn,q⟩:=h;exists 14;have hh:X.A.handled=none:=I.ok.hd hc
 have fin:∀ (h':Heap) (tk:Nat) (ks:LS),oH X.prog X.w h' s.heap.objs.size ks->Out ns ns.length ks->(∀ b o,b < s.heap.objs.size->s.heap.get? b=some o->h'.get? b=some o)->EP X pins σ Q ‹22› { s with heap:=h',toks:=tk }:=fun h' tk ks hS hO hk=>by
  have hS:=hS.setOf;rw [hO.2] at hS;refine⟨.ref s.heap.objs.size,_,I.laid (o:=HN X.prog X.w s.heap.objs.size (un ns ns.length)) (fun b u e=>hk b u (cn e) e) (ai _) ⟨⟨_,hS⟩,?_,fun h1 h2 ⟨S',x⟩ k=>⟨S',Ku x k⟩⟩,rfl,q _ (I.hok.fresh (ai _))⟩;obtain ⟨o,_,_,_,ho,_⟩:=hS;exact⟨o,ho⟩
 have val:∀ {its:LU},Vals ‹31› its->∀(i:Nat) v,its[i]?=some v->∃ t,v=.str (ns.getD i "") t:=fun {its} rv i v hv=>by
  have hlen:=rv.length;rw [aa] at hlen
  have hil:i < ns.length:=by
   have:=(bv.mp hv).1;omega
  obtain ⟨w',hw,rw'⟩:=rv.get (i:=i) (x:=.str ns[i]) (by rw [bg,ae hil]; rfl);rw [hv] at hw;cases hw;obtain ⟨t,rfl⟩:=rw';exact⟨t,by simp [hil]⟩
 rcases hl with hl | hl
 ·obtain ⟨its,rv,pl,hz⟩:=I.list hl;have hlen:=rv.length;rw [aa] at hlen;exact tR (.inl rfl) hh pl.isList (ns:=ns) (val rv) ‹26› (by unfold RC; omega) fin
 ·obtain ⟨its,rv,pl,hz⟩:=I.tuple hl;have hlen:=rv.length;rw [aa] at hlen;exact tR (.inr rfl) hh pl (ns:=ns) (val rv) ‹26› (by unfold RC; omega) fin
end
def cY(rows:LL)(x:Str):Bool:=rows.any fun o=>decide (x∈o.drop 1)
def freeOf(rows:LL):LS->LS
 | []=>[]
 | x::_=>if cY rows x=true then [] else [x]
def frees(rows:LL):LS:=rows.flatMap (freeOf rows)
def cJ(x:Str)(r:LS):LS:=r.filter fun y=>decide (y≠x)
def full(rows:LL):LL:=rows.filter fun r=>!r.isEmpty
inductive Mg:LL->Option LS->Prop where
 | nil:Mg [] (some [])
 | stuck {rows:LL}:rows≠[]->frees rows=[]->Mg rows none
 | step {rows:LL} {x:Str} {more:LS} {r:Option LS}:frees rows=x::more->Mg (full (rows.map (cJ x))) r->Mg rows (r.map (x::·))
theorem Mg.det{r:Option LS}(h:Mg rows r):∀ {r':Option LS},Mg rows r'->r=r':=by
 induction h with
 | nil=>
  intro r' h';cases h' with
  | nil=>rfl
  | stuck h _=>exact absurd rfl h
  | step h _=>cases h
 | stuck h1 h2=>
  intro r' h';cases h' with
  | nil=>exact absurd rfl h1
  | stuck _ _=>rfl
  | step h _=>rw [h2] at h; cases h
 | step h1 _ ih=>
  intro r' h';cases h' with
  | nil=>cases h1
  | stuck _ h=>rw [h1] at h; cases h
  | step h hr=>
   rw [h1] at h;cases h;rw [ih hr]
def tot(rows:LL):Nat:=(rows.map List.length).sum
theorem gB(r:LS)(rows:LL):tot (r::rows)=r.length+tot rows:=by
 unfold tot;rw [de,List.sum_cons]
theorem su:∀(rows:LL),tot (full rows)=tot rows
 | []=>rfl
 | r::rows=>by
  unfold full;rw [fz];have ih:=su rows;unfold full at ih;cases r with
  | nil=>
   rw [gB,<- ih];simp
  | cons y r=>simp only [pM,r8,kR]; rw [gB,gB,ih]
theorem yK(x:Str)(r:LS):(cJ x r).length<=r.length:=fe _ _
theorem vf(x:Str):∀(rows:LL),tot (rows.map (cJ x))<=tot rows
 | []=>ai _
 | r::rows=>by
  rw [de,gB,gB];have:=vf x rows;have:=yK x r;omega
theorem rC{x:Str}:∀ {rows:LL},(∃ r∈rows,x∈r)->tot (rows.map (cJ x)) < tot rows
 | [],⟨_,h,_⟩=>nomatch h
 | r::rows,⟨q,hq,hx⟩=>by
  rw [de,gB,gB];have h1:=vf x rows;have h2:=yK x r;rcases bz.mp hq with rfl | h
  ·have:(cJ x q).length < q.length:=by
    unfold cJ;refine Nat.lt_of_le_of_ne (fe _ _) fun e=>?_;have:=List.length_filter_eq_length_iff.mp e x hx;simp at this
   omega
  ·have:=rC ⟨q,h,hx⟩;omega
theorem sZ{x:Str}(h:x∈frees rows):∃ r∈rows,r.head?=some x:=by
 obtain ⟨r,hr,hx⟩:=List.mem_flatMap.mp h;refine⟨r,hr,?_⟩;cases r with
 | nil=>cases hx
 | cons y r=>
  have hx:x∈(if cY rows y=true then [] else [y]):=hx
  by_cases hh:cY rows y=true
  ·rw [dE hh] at hx;cases hx
  ·rw [cK hh] at hx;rw [bj.mp hx];rfl
theorem vm{r:LS}(h:r∈rows):r.length<=tot rows:=by
 induction rows with
 | nil=>cases h
 | cons q rows ih=>
  rw [gB];rcases bz.mp h with rfl | h
  ·omega
  ·have:=ih h;omega
theorem pK:∀(rows:LL),(full rows).length<=tot rows
 | []=>ai _
 | r::rows=>by
  have ih:=pK rows;unfold full at ih ⊢;rw [fz,gB];cases r with
  | nil=>simpa using ih
  | cons y r=>simp only [pM,r8,kR,dA]; omega
def jX(H:Hp)(vs:LV)(rows:LL):Prop:=Paired (fun(v:V) (r:LS)=>∃ a,v=.ref a/\H a=some (.tup (r.map V.str))) vs rows
def R5(H:Hp)(vs:LV)(rows:LL):Prop:=Paired (fun(v:V) (r:LS)=>∃ a,v=.ref a/\H a=some (.lst (r.map V.str))) vs rows
theorem jX.mono(h:jX H vs rows)(s:dH H H'):jX H' vs rows:=V4 h fun v r ⟨a,e,q⟩=>⟨a,e,s a _ q⟩
def qF(H:Hp)(D:ut)(vs:LV)(rows:LL):Prop:=Paired (fun(v:V) (r:LS)=>∃ a,v=.ref a/\a≠D/\H a=some (.lst (r.map V.str))) vs rows
theorem qF.l(h:qF H D vs rows):R5 H vs rows:=V4 h fun v r ⟨a,e,_,q⟩=>⟨a,e,q⟩
theorem qF.mono(h:qF H D vs rows)(s:Same H H'):qF H' D vs rows:=V4 h fun v r ⟨a,e,n,q⟩=>⟨a,e,n,s a _ q⟩
def oF(H:Hp)(D E:ut)(vs:LV)(rows:LL):Prop:=Paired (fun(v:V) (r:LS)=>∃ a,v=.ref a/\a≠D/\a≠E/\H a=some (.lst (r.map V.str))) vs rows
theorem oF.x{E:ut}(h:oF H D E vs rows):qF H E vs rows:=V4 h fun v r ⟨a,e,_,n,q⟩=>⟨a,e,n,q⟩
theorem oF.grow{E:ut}{o:HO}(h:oF H D E vs rows)(s:Same H H'):oF (upd H' D o) D E vs rows:=V4 h fun v r ⟨a,e,n,n',q⟩=>⟨a,e,n,n',by rw [aA n]; exact s a _ q⟩
theorem oF.mono{E:ut}(h:oF H D E vs rows)(s:Same H H'):oF H' D E vs rows:=V4 h fun v r ⟨a,e,n,n',q⟩=>⟨a,e,n,n',s a _ q⟩
theorem qF.get{H:Hp}{D:ut}{vs:LV}{rows:LL}(h:qF H D vs rows){i:Nat}(hi:i < vs.length):∃(a:ut) (hr:i < rows.length),vs[i]?=some (.ref a)/\a≠D/\H a=some (.lst (rows[i].map V.str)):=by
 have hr:i < rows.length:=by rw [<- cE h]; exact hi
 obtain ⟨a,e,n,q⟩:=fM h i hi hr;exact⟨a,hr,by rw [ae hi,e],n,q⟩
theorem at0(y:Str)(r:LS):atI ((y::r).map V.str) 0=some (.str y):=aJ (j:=0) rfl
theorem Bm(R:LL):∀(rows:LL),(rows.flatMap (freeOf R)).length<=rows.length
 | []=>ai _
 | r::rows=>by
  rw [pS,bX,dA];have:=Bm R rows
  have:(freeOf R r).length<=1:=by
   cases r with
   | nil=>exact dk _
   | cons y r=>
    show (if cY R y=true then [] else [y]).length<=1;split <;> simp
  omega
theorem dY{α β:Type}{F:α->β->Prop}{as:List α}{bs:List β}{a:α}{b:β}(h:Paired F as bs)(hy:F a b):Paired F (as++[a]) (bs++[b]):=by
 induction h with
 | nil=>exact .cons hy .nil
 | cons a _ ih=>exact .cons a ih
theorem jX.get{H:Hp}{vs:LV}{rows:LL}(h:jX H vs rows){i:Nat}(hi:i < vs.length):∃(a:ut) (hr:i < rows.length),vs[i]?=some (.ref a)/\H a=some (.tup (rows[i].map V.str)):=by
 have hr:i < rows.length:=by rw [<- cE h]; exact hi
 obtain ⟨a,e,q⟩:=fM h i hi hr;exact⟨a,hr,by rw [ae hi,e],q⟩
theorem take_snoc{α:Type}{l:List α}(h:i < l.length):l.take (i+1)=l.take i++[l[i]]:=by
 rw [jS,ae h];rfl
theorem qj(rows:LL)(r:LS):full (rows++[r])=full rows++(if r.isEmpty=true then [] else [r]):=by
 unfold full;rw [iS];congr 1;cases r <;> rfl
theorem cg{σ:L2.St}{A B:Hp->Prop}(h:A H):R8 σ H (fun b H3=>if b=true then A H3 else B H3):=by
 show (if true=true then A H else B H);rw [dE rfl];exact h
def Uk(H:Hp)(x:Str)(r:Option LS)(v:V):Prop:=match r with
 | none=>v=.non
 | some os=>∃ q,v=.ref q/\H q=some (.tup ((x::os).map V.str))
theorem N6(r:LS):eF (r.map V.str) (some 1) none=(r.drop 1).map V.str:=by
 unfold eF;rw [aa];have e1:HT.sIx r.length 0 (some 1)=min 1 r.length:=HT.rR r.length 0 1;have e2:HT.sIx r.length r.length none=r.length:=rfl;rw [e1,e2,<- List.map_drop,<- nz];congr 1;cases r with
 | nil=>rfl
 | cons y r=>
  have:min 1 (y::r).length=1:=by simp
  rw [this];exact aw ‹45›
def Nm(x:Str):Prop:=1<=x.length/\x.length<=6/\Lw x
theorem kE{x:Str}{j:Int}(h0:0<=j)(h:j<=x.length):(ym x none (some j)).length=j.toNat:=by
 have e:x.cps.toList.length=x.length:=fE;show (StrLaws.sliceText x none (some j)).length=_;rw [StrLaws.sliceText_to ⟨h0,by rw [e]; exact h⟩];show (List.toArray _).size=_;rw [cf,bc,jb,e];omega
theorem vI{x:Str}{i:Int}(h0:0<=i)(h:i<=x.length):(ym x (some i) none).length=x.length - i.toNat:=by
 have e:x.cps.toList.length=x.length:=fE;show (StrLaws.sliceText x (some i) none).length=_;rw [StrLaws.sliceText_from ⟨h0,by rw [e]; exact h⟩];show (List.toArray _).size=_;rw [cf,bc,jb,e];omega
theorem Q9(x:Str):(ym x none (some 5)).length<=5:=by
 by_cases h:5<=x.length
 ·rw [kE ‹6› ‹26›];decide
 ·exact cS (jD x _ _) ‹26›
theorem Pa{x:Str}:(ig x 6).length=6 * x.length:=by
 unfold ig;rw [cK ‹6›];split
 ·rename_i h
  have h0:x.length=0:=by simpa using h
  rw [h0]
 ·show (List.foldl (fun x1 x2=>x1++x2) #[] (List.replicate (6:Int).toNat x.cps)).size=_;rw [size_rep,VB,Nat.zero_add];rfl
theorem TV{x:Str}(h:Nm x)(i:Nat):Nm (ym (ig x 6) none (some (if 0+(i:Int)+1 < 6 then 0+(i:Int)+1 else 6))):=by
 obtain ⟨h1,h6,hl⟩:=h;have e6:(ig x 6).length=6 * x.length:=Pa;have hj:∃ j:Int,(if 0+(i:Int)+1 < 6 then 0+(i:Int)+1 else 6)=j/\1<=j/\j<=6:=⟨_,rfl,by split <;> omega,by split <;> omega⟩;obtain ⟨j,e,j1,j6⟩:=hj;rw [e];have:=kE (x:=ig x 6) (j:=j) ‹26› ‹26›;exact⟨by omega,by omega,(hl.rep _).slice _ _⟩
theorem SJ{x:Str}(h:Nm x){pl:Int}{c:Nat}(h0:0<=pl)(hp:pl < x.length)(hc:c∈abc.cps.toList):Nm (ym x none (some pl)++⟨#[c]⟩++ym x (some (pl+1)) none):=by
 obtain ⟨h1,h6,hl⟩:=h;have a:=kE (x:=x) h0 ‹26›;have b:=vI (x:=x) (i:=pl+1) ‹26› ‹26›
 have e:(ym x none (some pl)++⟨#[c]⟩++ym x (some (pl+1)) none).length=x.length:=by
  rw [dF,dF,a,b];show pl.toNat+1+_=_;omega
 exact⟨by rw [e]; exact h1,by rw [e]; exact h6,((hl.slice _ _).app (Lw.one hc)).app (hl.slice _ _)⟩
inductive T3 (x:V) (y:V) (H:Hp) (Q:VK):Prop
 | mk (c j:_):x=.str ⟨#[c]⟩->y=.str j->Q (.bl (decide (c∈j.cps.toList))) H->T3 x y H Q
theorem KQ:OpR X (xN .In) T3:=by
 exists 6;obtain ⟨c,j,rfl,rfl,q⟩:=h;exists 16;obtain ⟨t',rfl⟩:=ry;refine in_str ⟨.bl _,H,I,rfl,?_⟩;rw [PySem.StrLaws.found_one];exact q
def tyD:PyData->String
 | .none=> "NoneType"
 | .bool _=> "bool"
 | .int _=> "int"
 | .str _=> "str"
 | .list _=> "list"
 | .tuple _=> "tuple"
 | .dict _=> "dict"
theorem RdV.ty(h:RdV H v d):qZ K H v (.type (tyD d)):=by
 cases h with
 | non=>exact .non
 | bl b=>exact .bl b
 | int i=>exact .int i
 | str x=>exact .str x
 | tup e _=>exact .tup e
 | lst e _=>exact .lst e
 | dct e _=>exact .dK e
def iZ:PyData->Bool
 | .tuple _=>true
 | _=>false
def wQ:PyData->Bool
 | .str _=>true
 | _=>false
theorem lN(K:PySem.W.Frag)(d:PyData):PySem.W.kitOne K (.type (tyD d)) (.type "tuple")=some (iZ d):=by
 cases d <;> first | exact iR K "tuple" | rfl
theorem Fi(K:PySem.W.Frag)(d:PyData):PySem.W.kitOne K (.type (tyD d)) (.type "str")=some (wQ d):=by
 cases d <;> first | exact iR K "str" | rfl
theorem jt(h:iZ d=true):∃ ds,d=.tuple ds:=by
 cases d <;> first | exact⟨_,rfl⟩ | cases h
theorem Cv(h:wQ d=true):∃ x,d=.str x:=by
 cases d <;> first | exact⟨_,rfl⟩ | cases h
theorem RdV.bV(h:RdV H v (.tuple ds)):∃ a xs,v=.ref a/\H a=some (.tup xs)/\RdA H xs ds:=by
 cases h with
 | tup e q=>exact⟨_,_,rfl,e,q⟩
theorem RdV.jm{x:Str}(h:RdV H v (.str x)):v=.str x:=by
 cases h;rfl
theorem RdA.get{H:Hp}:∀ {vs:LV} {ds:LP},RdA H vs ds->∀ {i:Nat} {d:PyData},ds[i]?=some d->∃ v,vs[i]?=some v/\RdV H v d
 | _,_,.nil,_,_,h=>nomatch h
 | _,_,.cons q r,0,_,h=>by cases h; exact⟨_,rfl,q⟩
 | _,_,.cons q r,i+1,_,h=>RdA.get r h
theorem RdA.jx{H:Hp}:∀ {xs:LS} {vs:LV},RdA H vs (xs.map PyData.str)->vs=xs.map V.str
 | [],_,.nil=>rfl
 | x::xs,_,.cons q r=>by rw [q.jm,RdA.jx r]; rfl
mutual
theorem RdV.bH{H H':Hp}(s:Same H H'):∀ {v:V} {d:PyData},RdV H v d->RdV H' v d
 | _,_,.non=>.non
 | _,_,.bl b=>.bl b
 | _,_,.int i=>.int i
 | _,_,.str x=>.str x
 | _,_,.tup e q=>.tup (s _ _ e) (RdA.bH s q)
 | _,_,.lst e q=>.lst (s _ _ e) (RdA.bH s q)
 | _,_,.dct e q=>.dct (s _ _ e) (RdA.bH s q)
theorem RdA.bH{H H':Hp}(s:Same H H'):∀ {vs:LV} {ds:LP},RdA H vs ds->RdA H' vs ds
 | _,_,.nil=>.nil
 | _,_,.cons q r=>.cons (RdV.bH s q) (RdA.bH s r)
end
mutual
theorem RdV.dp{H:Hp}:∀(t:T) {v:V},RdV H v (toD t)->Dp H t v
 | .non,v,h=>by
  rw [toD] at h;cases h;rw [Dp]
 | .int i,v,h=>by
  rw [toD] at h;cases h;rw [Dp]
 | .str x,v,h=>by
  rw [toD] at h;cases h;rw [Dp]
 | .tup ts,v,h=>by
  rw [toD] at h;obtain ⟨a,xs,rfl,e,q⟩:=h.bV;exact L2.Dp.tup e (RdA.dp ts q)
theorem RdA.dp{H:Hp}:∀(ts:List T) {vs:LV},RdA H vs (mD ts)->DpL H ts vs
 | [],vs,h=>by
  rw [mD] at h;cases h;exact .nil
 | t::ts,vs,h=>by
  rw [mD] at h;cases h with
  | cons q r=>exact .cons (RdV.dp t q) (RdA.dp ts r)
end
def Asc(x:Str):Prop:=x.cps.all (· < 128)=true
theorem Asc.of{x:Str}(h:∀ c∈x.cps.toList,c < 128):Asc x:=Su.mpr fun c hc=>bo (h c (iX.mpr hc))
theorem Asc.to{x:Str}(h:Asc x):∀ c∈x.cps.toList,c < 128:=fun c hc=>by
 have:=Su.mp h c (iX.mp hc);simpa using this
theorem Lw.asc{x:Str}(h:Lw x):Asc x:=.of fun c hc=>Nat.lt_of_le_of_lt (Qn c (h c hc)).2 ‹6›
theorem Asc.app{x y:Str}(h:Asc x)(g:Asc y):Asc (x++y):=.of fun c hc=>by
 have hc:c∈(x.cps++y.cps).toList:=hc;rw [mS] at hc;rcases cw.mp hc with q | q
 ·exact h.to c q
 ·exact g.to c q
theorem Asc.slice{x:Str}(h:Asc x)(lo hi:Option Int):Asc (ym x lo hi):=.of fun c hc=>by
 unfold ym at hc;split at hc
 ·exact h.to c hc
 ·obtain ⟨i,_,e⟩:=ky.mp (show c∈(List.filterMap (x.cps[·]?) _) from hc);exact h.to c (iX.mpr (Array.mem_of_getElem? e))
mutual
def gd:PyData->Prop
 | .none | .bool _=>True
 | .int i=>(0<=i/\i < 1000000000)\/i=-1\/i=-3
 | .str x=>x.length<=4000/\Asc x
 | .list xs | .tuple xs=>gdA xs
 | .dict kvs=>gdK kvs
def gdA:LP->Prop
 | []=>True
 | d::ds=>gd d/\gdA ds
def gdK:List (PyData × PyData)->Prop
 | []=>True
 | (k,v)::r=>gd k/\gd v/\gdK r
end
mutual
def wt:PyData->Nat
 | .none | .bool _ | .int _=>1
 | .str x=>x.length+1
 | .list xs | .tuple xs=>1+wtA xs
 | .dict kvs=>1+wtK kvs
def wtA:LP->Nat
 | []=>0
 | d::ds=>wt d+wtA ds
def wtK:List (PyData × PyData)->Nat
 | []=>0
 | (k,v)::r=>wt k+wt v+wtK r
end
theorem ql:∀(ds es:LP),wtA (ds++es)=wtA ds+wtA es
 | [],es=>by rw [List.nil_append,wtA,Nat.zero_add]
 | d::ds,es=>by rw [List.cons_append,wtA,wtA,ql ds es,Nat.add_assoc]
theorem Qs:∀ d:PyData,1<=wt d
 | .none | .bool _ | .int _=>by rw [wt]; exact ai _
 | .str x=>by rw [wt]; omega
 | .list xs | .tuple xs=>by rw [wt]; omega
 | .dict kvs=>by rw [wt]; omega
theorem uX:∀ ds:LP,ds.length<=wtA ds
 | []=>dk _
 | d::ds=>by
  have:=uX ds;have:=Qs d;rw [wtA,dA];omega
structure Th (d:PyData):Prop where
 g:gd d
 w:wt d<=1900
 dp:d.depth<=50
 nl:d.hasDict=true->noL d=true
end L2
end
section
namespace HT
open PySem PySem.Spec PyProof.Rows
section
variable {prog:uC}{w:ww}{A:xf}{E:sr->ue->Prop}{s:ue}
end
end HT
namespace L2
open PySem PySem.Spec PyProof.Rows
section
variable {X:Cx}
end
theorem d8(xs:LV)(i:Nat):eF xs none (some (i:Int))=xs.take i:=by
 unfold eF;rw [HT.Ac,HT.rR,List.drop_zero,Nat.sub_zero];rcases Nat.le_total i xs.length with h | h
 ·rw [Nat.min_eq_left h]
 ·rw [Nat.min_eq_right h,aw (ai _),aw h]
theorem dU(xs:LV)(i:Nat):eF xs (some (i:Int)) none=xs.drop i:=by
 unfold eF;rw [HT.Ac,HT.rR];rcases Nat.le_total i xs.length with h | h
 ·rw [Nat.min_eq_left h,aw (by rw [jb]; exact ai _)]
 ·rw [Nat.min_eq_right h,List.drop_of_length_le (ai _),List.drop_of_length_le h,List.take_nil]
theorem RdA.append{H:Hp}:∀ {vs us:LV} {ds es:LP},RdA H vs ds->RdA H us es->RdA H (vs++us) (ds++es)
 | _,_,_,_,.nil,h=>h
 | _,_,_,_,.cons q r,h=>.cons q (RdA.append r h)
end L2
end
section
namespace PySem.SeqAt
open AutoSeq1 (wpAny_loadPart')
open MeetsSeq
end PySem.SeqAt
namespace L2
open PySem PySem.Spec PyProof.Rows
section
variable {X:Cx}
end
end L2
end
section
namespace K09
open PySem L2
def top(i:Nat):Stmt:=PySem.Challenge.pw_warmrows_k09_what_tables_are.main.body.getD i (.Pass ⟨0,0,0,0⟩)
structure Adr where
 jO:ut × vz
 fu:ut × vz
 j9:ut × vz
 nM:ut × vz
 jC:ut × vz
 kinds_of:ut × vz
 jF:ut × vz
 cR:ut × vz
 gY:ut × vz
 fJ:ut × vz
 nA:ut × vz
 iV:ut × vz
 iU:ut × vz
 jc:ut × vz
 nH:ut × vz
 lB:ut × vz
 jE:ut × vz
 lG:ut × vz
 fH:ut × vz
 fK:ut × vz
 d9:ut × vz
 jB:ut × vz
 nT:ut × vz
 ji:ut × vz
 je:ut × vz
 gW:ut × vz
 aV:ut × vz
 jk:ut × vz
 fZ:ut × vz
 gF:ut × vz
 gb:ut × vz
 iu:ut × vz
 lg:ut × vz
 iY:ut × vz
 gZ:ut × vz
 fL:ut × vz
 dN:ut × vz
 dB:ut × vz
 fW:ut × vz
 gP:ut × vz
 iD:ut × vz
 fV:ut × vz
 dI:ut × vz
 jw:ut × vz
 ju:ut × vz
 gR:ut × vz
 fX:ut × vz
 iW:ut × vz
 law:ut × vz
structure Defs (K:PySem.W.Frag) (mg:MG) (t:Adr):Prop where
 jO:Fnd K mg "is_whole" (top 4) ["thing"] t.jO.1 t.jO.2
 fu:Fnd K mg "is_tuple_of" (top 5) ["thing","many"] t.fu.1 t.fu.2
 j9:Fnd K mg "is_name" (top 6) ["thing"] t.j9.1 t.j9.2
 nM:Fnd K mg "is_kind" (top 7) ["thing","kinds"] t.nM.1 t.nM.2
 jC:Fnd K mg "are_kinds" (top 8) ["thing","kinds"] t.jC.1 t.jC.2
 kinds_of:Fnd K mg "kinds_of" (top 9) ["rows"] t.kinds_of.1 t.kinds_of.2
 jF:Fnd K mg "is_family" (top 10) ["thing"] t.jF.1 t.jF.2
 cR:Fnd K mg "elders_first" (top 11) ["family"] t.cR.1 t.cR.2
 gY:Fnd K mg "tell_orders" (top 13) ["family"] t.gY.1 t.gY.2
 fJ:Fnd K mg "quarrel_among" (top 14) ["kinds","told"] t.fJ.1 t.fJ.2
 nA:Fnd K mg "rows_by" (top 15) ["elders","told"] t.nA.1 t.nA.2
 iV:Fnd K mg "merge_rows" (top 16) ["kind","rows"] t.iV.1 t.iV.2
 iU:Fnd K mg "first_free" (top 17) ["left"] t.iU.1 t.iU.2
 jc:Fnd K mg "ring_among" (top 18) ["left"] t.jc.1 t.jc.2
 nH:Fnd K mg "hold_of" (top 19) ["name","left"] t.nH.1 t.nH.2
 lB:Fnd K mg "is_table" (top 23) ["thing"] t.lB.1 t.lB.2
 jE:Fnd K mg "family_of" (top 24) ["table"] t.jE.1 t.jE.2
 lG:Fnd K mg "is_order" (top 25) ["thing","told"] t.lG.1 t.lG.2
 fH:Fnd K mg "has_good_rest" (top 26) ["row"] t.fH.1 t.fH.2
 fK:Fnd K mg "are_few_names" (top 27) ["thing"] t.fK.1 t.fK.2
 d9:Fnd K mg "is_body_number" (top 28) ["thing"] t.d9.1 t.d9.2
 jB:Fnd K mg "are_deeds" (top 29) ["thing"] t.jB.1 t.jB.2
 nT:Fnd K mg "is_deed" (top 30) ["thing"] t.nT.1 t.nT.2
 ji:Fnd K mg "_law_cell" (top 32) ["_law_script","_law_k"] t.ji.1 t.ji.2
 je:Fnd K mg "_law_cells" (top 33) ["_law_script","_law_first","_law_least","_law_most"] t.je.1 t.je.2
 gW:Fnd K mg "_law_purse" (top 34) ["_law_cell_here"] t.gW.1 t.gW.2
 aV:Fnd K mg "_law_take" (top 35) ["_law_purse_here","_law_many"] t.aV.1 t.aV.2
 jk:Fnd K mg "_law_word" (top 36) ["_law_purse_here","_law_used"] t.jk.1 t.jk.2
 fZ:Fnd K mg "_law_names" (top 37) ["_law_purse_here","_law_many","_law_used"] t.fZ.1 t.fZ.2
 gF:Fnd K mg "_law_some" (top 38) ["_law_purse_here","_law_menu","_law_most"] t.gF.1 t.gF.2
 gb:Fnd K mg "_law_merge" (top 39) ["_law_kind","_law_rows"] t.gb.1 t.gb.2
 iu:Fnd K mg "_law_elders" (top 40) ["_law_purse_here","_law_names_here","_law_shape","_law_orders_here"] t.iu.1 t.iu.2
 lg:Fnd K mg "_law_own" (top 41) ["_law_purse_here","_law_deeds"] t.lg.1 t.lg.2
 iY:Fnd K mg "_law_table" (top 42) ["_law_purse_here","_law_many","_law_deeds","_law_fields"] t.iY.1 t.iY.2
 gZ:Fnd K mg "_law_odd" (top 43) ["_law_purse_here"] t.gZ.1 t.gZ.2
 fL:Fnd K mg "_law_bend_row" (top 44) ["_law_purse_here","_law_row_here"] t.fL.1 t.fL.2
 dN:Fnd K mg "_law_bend_word" (top 45) ["_law_purse_here","_law_word_here"] t.dN.1 t.dN.2
 dB:Fnd K mg "_law_bend" (top 46) ["_law_purse_here","_law_thing_here","_law_deep"] t.dB.1 t.dB.2
 fW:Fnd K mg "_law_orders" (top 47) ["_law_family"] t.fW.1 t.fW.2
 gP:Fnd K mg "_law_whole" (top 48) ["_law_thing_here","_law_least"] t.gP.1 t.gP.2
 iD:Fnd K mg "_law_name" (top 49) ["_law_thing_here"] t.iD.1 t.iD.2
 fV:Fnd K mg "_law_unlike" (top 50) ["_law_thing_here","_law_most"] t.fV.1 t.fV.2
 dI:Fnd K mg "_law_copy" (top 51) ["_law_thing_here"] t.dI.1 t.dI.2
 jw:Fnd K mg "_law_row" (top 52) ["_law_row_here"] t.jw.1 t.jw.2
 ju:Fnd K mg "_law_due" (top 53) ["_law_thing_here"] t.ju.1 t.ju.2
 gR:Fnd K mg "_law_turned" (top 54) ["_law_purse_here","_law_table_here"] t.gR.1 t.gR.2
 fX:Fnd K mg "_law_renamed" (top 55) ["_law_purse_here","_law_table_here","_law_old"] t.fX.1 t.fX.2
 iW:Fnd K mg "_law_thing" (top 56) ["_law_purse_here","_law_table_here"] t.iW.1 t.iW.2
 law:Fnd K mg "law" (top 57) ["_law_script"] t.law.1 t.law.2
 S7:mg "abs" = none
 jL:mg "all" = none
 P0:mg "any" = none
 Ea:mg "bool" = none
 Ep:mg "dict" = none
 oU:mg "enumerate" = none
 Bd:mg "int" = none
 aX:mg "isinstance" = none
 cI:mg "len" = none
 yV:mg "list" = none
 PJ:mg "max" = none
 Qg:mg "min" = none
 nY:mg "range" = none
 xK:mg "set" = none
 wA:mg "sorted" = none
 Ad:mg "str" = none
 bY:mg "tuple" = none
 RP:mg "zip" = none
structure Glb (mg:MG):Prop where
 HW:∃ tk,mg "LETTERS" = some (.str abc tk)
 wF:∃ tk,mg "MOST_LETTERS" = some (.int 6 tk)
 zO:∃ tk,mg "MOST_KINDS" = some (.int 7 tk)
 yG:∃ tk,mg "MOST_NAMES" = some (.int 3 tk)
 Af:∃ tk,mg "MOST_BODY" = some (.int 99 tk)
theorem Am:bw ["thing"] ["thing"] (aG (top 4)):=‹0›
theorem vC:bw ["thing","many"] ["thing","many"] (aG (top 5)):=‹0›
theorem DP:bw ["thing"] ["thing"] (aG (top 6)):=‹0›
theorem Df:bw ["thing","kinds"] ["thing","kinds"] (aG (top 7)):=‹0›
theorem zf:bw ["thing","kinds"] ["thing","kinds"] (aG (top 8)):=‹0›
theorem Cu:bw ["rows"] ["rows"] (aG (top 9)):=‹0›
theorem rN:bw ["thing","kinds"] ["thing"] (aG (top 10)):=‹0›
theorem dW:bw ["family","placed","waiting","ready","kind"] ["family"] (aG (top 11)):=‹0›
theorem gQ:bw ["family","elders_of","told","kind","quarrel"] ["family"] (aG (top 13)):=‹0›
theorem mR:bw ["kinds","told","kind"] ["kinds","told"] (aG (top 14)):=‹0›
theorem Ec:bw ["elders","told"] ["elders","told"] (aG (top 15)):=‹0›
theorem iJ:bw ["kind","rows","order","left","first"] ["kind","rows"] (aG (top 16)):=‹0›
theorem iT:bw ["left","held","row","name"] ["left"] (aG (top 17)):=‹0›
theorem iM:bw ["left","name","holds","ring"] ["left"] (aG (top 18)):=‹0›
theorem wN:bw ["name","left","number"] ["name","left"] (aG (top 19)):=‹0›
theorem oJ:bw ["thing","family","told"] ["thing"] (aG (top 23)):=‹0›
theorem yX:bw ["table"] ["table"] (aG (top 24)):=‹0›
theorem BZ:bw ["thing","told"] ["thing","told"] (aG (top 25)):=‹0›
theorem sY:bw ["row"] ["row"] (aG (top 26)):=‹0›
theorem tW:bw ["thing"] ["thing"] (aG (top 27)):=‹0›
theorem rP:bw ["thing"] ["thing"] (aG (top 28)):=‹0›
theorem zN:bw ["thing"] ["thing"] (aG (top 29)):=‹0›
theorem CT:bw ["thing"] ["thing"] (aG (top 30)):=‹0›
theorem kj:bw ["_law_script","_law_k","_law_state","_law_cell_here"] ["_law_script","_law_k"] (aG (top 32)):=‹0›
theorem qM:bw ["_law_script","_law_first","_law_least","_law_most","_law_many"] ["_law_script","_law_first","_law_least","_law_most"] (aG (top 33)):=‹0›
theorem lZ:bw ["_law_cell_here","_law_digits"] ["_law_cell_here"] (aG (top 34)):=‹0›
theorem nR:bw ["_law_purse_here","_law_many","_law_state","_law_taken"] ["_law_purse_here","_law_many"] (aG (top 35)):=‹0›
theorem jr:bw ["_law_purse_here","_law_used","_law_word_here","_law_k","_law_first"] ["_law_purse_here","_law_used"] (aG (top 36)):=‹0›
theorem cQ:bw ["_law_purse_here","_law_many","_law_used","_law_pick","_law_word_here","_law_place","_law_first","_law_names_here","_law_k","_law_sign","_law_near"] ["_law_purse_here","_law_many","_law_used"] (aG (top 37)):=‹0›
theorem kh:bw ["_law_purse_here","_law_menu","_law_most","_law_some_here","_law_k","_law_one"] ["_law_purse_here","_law_menu","_law_most"] (aG (top 38)):=‹0›
theorem gD:bw ["_law_kind","_law_rows","_law_order","_law_good"] ["_law_kind","_law_rows"] (aG (top 39)):=‹0›
theorem lA:bw ["_law_purse_here","_law_names_here","_law_shape","_law_orders_here","_law_elders_here"] ["_law_purse_here","_law_names_here","_law_shape","_law_orders_here"] (aG (top 40)):=‹0›
theorem ud:bw ["_law_purse_here","_law_deeds","_law_some_here"] ["_law_purse_here","_law_deeds"] (aG (top 41)):=‹0›
theorem cZ:bw ["_law_purse_here","_law_many","_law_deeds","_law_fields","_law_shape","_law_names_here","_law_rows","_law_orders_here","_law_k","_law_kind","_law_elders_here","_law_number","_law_places"] ["_law_purse_here","_law_many","_law_deeds","_law_fields"] (aG (top 42)):=‹0›
theorem jh:bw ["_law_purse_here","_law_menu","_law_pick","_law_deep","_law_k"] ["_law_purse_here"] (aG (top 43)):=‹0›
theorem d7:bw ["_law_purse_here","_law_row_here","_law_pick","_law_at","_law_other","_law_turn"] ["_law_purse_here","_law_row_here"] (aG (top 44)):=‹0›
theorem gJ:bw ["_law_purse_here","_law_word_here","_law_pick","_law_at","_law_sign"] ["_law_purse_here","_law_word_here"] (aG (top 45)):=‹0›
theorem jo:bw ["_law_purse_here","_law_thing_here","_law_deep","_law_at","_law_bent","_law_menu"] ["_law_purse_here","_law_thing_here","_law_deep"] (aG (top 46)):=‹0›
theorem fQ:bw ["_law_family","_law_elders_here","_law_orders_here","_law_turn","_law_kind","_law_rows"] ["_law_family"] (aG (top 47)):=‹0›
theorem wX:bw ["_law_thing_here","_law_least"] ["_law_thing_here","_law_least"] (aG (top 48)):=‹0›
theorem zL:bw ["_law_thing_here"] ["_law_thing_here"] (aG (top 49)):=‹0›
theorem vO:bw ["_law_thing_here","_law_most"] ["_law_thing_here","_law_most"] (aG (top 50)):=‹0›
theorem j7:bw ["_law_thing_here","_law_twin","_law_key"] ["_law_thing_here"] (aG (top 51)):=‹0›
theorem pI:bw ["_law_row_here","_law_one","_law_names_here"] ["_law_row_here"] (aG (top 52)):=‹0›
theorem lM:bw ["_law_thing_here","_law_kinds","_law_row_here","_law_orders_here"] ["_law_thing_here"] (aG (top 53)):=‹0›
theorem cG:bw ["_law_purse_here","_law_table_here","_law_at","_law_kinds","_law_family","_law_orders_here","_law_none","_law_rows","_law_k","_law_row_here","_law_order"] ["_law_purse_here","_law_table_here"] (aG (top 54)):=‹0›
theorem dX:bw ["_law_purse_here","_law_table_here","_law_old","_law_pick","_law_new","_law_rows","_law_row_here","_law_names_here","_law_order"] ["_law_purse_here","_law_table_here","_law_old"] (aG (top 55)):=‹0›
theorem dJ:bw ["_law_purse_here","_law_table_here","_law_spoil","_law_at","_law_row_here","_law_place","_law_one","_law_order"] ["_law_purse_here","_law_table_here"] (aG (top 56)):=‹0›
theorem lX:bw ["_law_script","_law_purse_here","_law_many","_law_deeds","_law_fields","_law_table_here","_law_cell_here","_law_thing_here","_law_handed","_law_told"] ["_law_script"] (aG (top 57)):=‹0›
end K09
end
section
namespace L2
open PySem PySem.Spec PyProof.Rows
variable {h h':Heap}{a p:ut}{ep i n:Nat}{Q:ES}{o:Obj}{α:Type}{ks:LS}
theorem sW:ye "set" = some (.type "set"):=by decide +kernel
section
variable {prog:uC}{w:ww}{A:xf}{E:ES}{s:ue}
inductive Rg (h:Heap) (a t:ut) (i:Int):Prop
 | mk (o:_):h.get? a=some o->o.cls=.type "reversed" -> o.data=.fields #[.ref t,rawInt i]->Rg h a t i
end
def jy(h:Heap)(a:ut)(es:Array (Int × sr))(ep:Nat)(t:yo):Prop:=∃ o,h.get? a=some o/\o.data=.set es ep t
theorem jy.at{es:Array (Int × sr)}{t:yo}(x:jy h a es ep t)(k:∀ o,h.get? a=some o->h'.get? a=some o):jy h' a es ep t:=let ⟨o,ho,hd⟩:=x; ⟨o,k _ ho,hd⟩
def eZ(h:Heap)(I a:ut)(f:sr)(i n ep:Nat):Prop:=∃ o,h.get? I=some o/\o.cls=.type "set_iterator" /\ o.data=.fields #[f,rawInt i,.ref a,rawInt n,rawInt ep]
theorem eZ.at{I:ut}{f:sr}(x:eZ h I a f i n ep)(k:∀ o,h.get? I=some o->h'.get? I=some o):eZ h' I a f i n ep:=let ⟨o,ho,q⟩:=x; ⟨o,k _ ho,q⟩
theorem gC:Slot "set_iterator" "__next__" "set_iterator.__next__" :=
 .of (owner:= "set_iterator") (n:= "__next__") (by rw [qA,lS]; kernel_rfl) ‹5› ‹5› ‹5›
  (by first | exact .inl ‹5› | exact .inr ‹5›) (by rw [sf]; kernel_rfl)
theorem qI:Slot "set_iterator" "__iter__" "set_iterator.__iter__" :=
 .of (owner:= "set_iterator") (n:= "__iter__") (by rw [qA,lS]; kernel_rfl) ‹5› ‹5› ‹5›
  (by first | exact .inl ‹5› | exact .inr ‹5›) (by rw [sf]; kernel_rfl)
theorem yw:Manifest.owners.lookup (String.ofList ['r','o','t','a','r','e','t','i','_','t','e','s'].reverse)=some Manifest.sig_set_iterator:=by kernel_rfl
theorem pH:entryFor table "set_iterator.__next__" = some uB.«set_iterator.__next__»:=entryFor_of_tree (by kernel_rfl)
theorem qL(a:sr):argsOk "set_iterator.__next__" ⟨[a],[]⟩:=by
 unfold argsOk; rw [signature?_of (id:= "set_iterator.__next__") (n:=['_','_','t','x','e','n','_','_']) (o:=['r','o','t','a','r','e','t','i','_','t','e','s']) (by kernel_rfl) yw]; kernel_rfl
theorem wW(a:sr):argsOk "set_iterator.__iter__" ⟨[a],[]⟩:=by
 unfold argsOk; rw [signature?_of (id:= "set_iterator.__iter__") (n:=['_','_','r','e','t','i','_','_']) (o:=['r','o','t','a','r','e','t','i','_','t','e','s']) (by kernel_rfl) yw]; kernel_rfl
theorem wM:entryFor table "set_iterator.__iter__" = some uB.«dict_keyiterator.__iter__»:=
 entryFor_alias (id':= "dict_keyiterator.__iter__") (by kernel_rfl) (by first | rfl | decide +kernel | (unfold String.splitOn; simp +decide [String.splitOnAux])) ‹5› (by kernel_rfl)
theorem zj:entryFor table "set.__iter__" = some uB.«frozenset.__iter__»:=
 entryFor_alias (id':= "frozenset.__iter__") (by kernel_rfl) (by first | rfl | decide +kernel | (unfold String.splitOn; simp +decide [String.splitOnAux])) ‹5› (by kernel_rfl)
section
variable {prog:uC}{w:ww}{A:xf}{E:ES}{s:ue}{I a:ut}{f:sr}{i n ep:Nat}{es:Array (Int × sr)}{t:yo}
theorem eZ.typeIs(x:eZ s.heap I a f i n ep):s.TypeIs (.ref I) "set_iterator" := let ⟨o,ho,hc,_⟩:=x; ⟨o,ho,hc⟩
theorem Bw(x:eZ s.heap I a f i n ep)(h:Q (.ref I) s):uv ‹32› A (pyIter (.ref I)) Q E s:=by
 have hT:=x.typeIs;refine wpAny_pyIter_slot hT qI (eM qI hT wM ?_ (wW _));show uv _ _ (ret (.ref I)) _ _ s;exact aE ⟨_,rfl,"set_iterator",_,hT,gC.lookup,h⟩
theorem BK{vs:AV}{Q:Option sr->ue->Prop}(hh:A.handled=none)(ho:s.heap.get? I=some o)(hd:o.data=.fields vs)(hv:vs.size=5)
  (hQ:∀ h',Heap.ExtBut I s.heap h'->Q none { s with heap:=h' }) :
  uv ‹32› A.in1 (VD (.ref I) 2 .none >>= fun _=>newExc (.type "StopIteration") [] >>= fun e=>raiseNew e)
   (fun(fin:Fin) s'=>False) (fun e s'=>uv ‹32› A (isInstance e (.type "StopIteration") >>= fun b=>if b=true then Hn none else throw e) Q E s') s:=by
 refine af (kT ho hd (by rw [hv]; decide) ?_);have ext:Heap.ExtBut I s.heap (s.heap.update I (Obj.mapFields (fun vs=>vs.setIfInBounds 2 .none))):=fun b u hb e=>(iA ..).extBut b u hb e;refine af ?_;simp only [newExc,newTuple];refine af (fv ?_ (by size_fits));refine af (m:=Vm _ _) (jI (a:=xF) (by first | rfl | (simp only [Vm]; rfl)) ?_);refine fv ?_ (by size_fits);simp only [raiseNew];refine af (wpAny_handled ?_)
 first | rw [show A.in1.handled=none from hh] | rw [hh]
 refine af (aE (wpAny_throw ?_));refine af (ku (T:= "StopIteration") (b:=true) ⟨_,bb _ rfl,rfl⟩ rV ?_);exact aE (hQ _ ((ext.push _).push _))
end
section
variable {prog:uC}{w:ww}{A:xf}{E:ES}{s:ue}{I a:ut}{f:sr}{i n ep:Nat}{es:Array (Int × sr)}{t:yo}
theorem rB{Q:Array (Int × sr)->ue->Prop}(x:jy s.heap a es ep t)(hf:t.fits es.size=true)(h:Q es s):uv ‹32› A (setEntries a) Q E s:=by
 obtain ⟨o,ho,hd⟩:=x;unfold setEntries;exact af (km ho hd hf (aE h))
theorem GC{sl:Nat}{r:Option (sr × Nat)}{Q:Option sr->ue->Prop}(hh:A.handled=none)(it:eZ s.heap I a (rawInt sl) i es.size ep)(st:jy s.heap a es ep t)(hf:t.fits es.size=true)
  (hn:∀ (A':xf) (Q':Option (sr × Nat)->ue->Prop) (E':ES),Q' r s->uv ‹32› A' (V2 a sl i ep) Q' E' s)
  (hs:∀ x sl',r=some (x,sl')->∀ h',eZ h' I a (rawInt sl') (i+1) es.size ep->Heap.ExtBut I s.heap h'->Q (some x) { s with heap:=h' })
  (he:r=none->∀ h',Heap.ExtBut I s.heap h'->Q none { s with heap:=h' }):uv ‹32› A (Hc (.ref I)) Q E s:=by
 obtain ⟨o,ho,hc,hd⟩:=id it;unfold Hc
 refine af (lL (eT (name:=Str.ofString "__next__") it.typeIs gC
  (eM gC it.typeIs pH ?_ (qL _))))
 unfold uB.«set_iterator.__next__»;refine af (jI (a:=(zg I,[])) rfl ?_)
 try dsimp only
 refine af (wpAny_fieldsOf ho hd ?_);show uv _ _ (setEntries a >>= _) _ _ s;refine af (rB st hf ?_);rw [cK ‹45›]
 try dsimp only
 show uv _ _ (V2 a (sl:Int).toNat (i:Int).toNat (ep:Int).toNat >>= _) _ _ s;rw [ii,ii,ii];refine af (hn _ _ _ ?_);cases r with
 | none=>
  refine ib (BK hh ho hd rfl (he rfl)) (fun _ _ h=>h.elim) (fun _ _ h=>h)
 | some p=>
  obtain ⟨x,sl'⟩:=p;show uv _ _ (VD (.ref I) 0 (rawInt (sl':Int)) >>= fun _=>VD (.ref I) 1 (rawInt ((i:Int)+1)) >>= fun _=>ret x) _ _ s;refine af (kT ho hd ‹45› ?_);have ho1:=ia (fun x=>Obj.mapFields (fun vs=>vs.setIfInBounds 0 (rawInt (sl':Int))) x) ho (kF (ik hd (fun vs=>vs.setIfInBounds 0 (rawInt (sl':Int)))));have hd1:=ik hd (fun vs=>vs.setIfInBounds 0 (rawInt (sl':Int)));refine af (kT (s:={ s with heap:=_ }) ho1 hd1 ‹45› ?_);refine aE ⟨x,rfl,aE (hs x sl' rfl _ ?_ fun b u hb e=>(iA ..).extBut b u hb ((iA ..).extBut b u hb e))⟩
  exact⟨_,ia _ ho1 (kF (ik hd1 _)),(oS ..).trans ((oS ..).trans hc),by
   rw [ik hd1]; simp⟩
theorem Fx{js:List Nat}{Q:Option sr->ue->Prop}(hh:A.handled=none)(it:eZ s.heap I a (.ref p) i es.size ep)(st:jy s.heap a es ep t)(hf:t.fits es.size=true)
  (hp:∃ o m,s.heap.get? p=some o/\o.data=.seq (js.map fun(j:Nat)=>rawInt (j:Int)).toArray m) (hj:∀ j∈js,j < es.size)
  (hs:∀ j e,js[i]?=some j->es[j]?=some e->∀ h',eZ h' I a (.ref p) (i+1) es.size ep->Heap.ExtBut I s.heap h'->Q (some e.2) { s with heap:=h' })
  (he:js.length<=i->∀ h',Heap.ExtBut I s.heap h'->Q none { s with heap:=h' }):uv ‹32› A (Hc (.ref I)) Q E s:=by
 obtain ⟨o,ho,hc,hd⟩:=id it;obtain ⟨op,m,hop,hdp⟩:=hp;unfold Hc
 refine af (lL (eT (name:=Str.ofString "__next__") it.typeIs gC
  (eM gC it.typeIs pH ?_ (qL _))))
 unfold uB.«set_iterator.__next__»;refine af (jI (a:=(zg I,[])) rfl ?_)
 try dsimp only
 refine af (wpAny_fieldsOf ho hd ?_);show uv _ _ (setEntries a >>= _) _ _ s;refine af (rB st hf ?_);rw [cK ‹45›]
 try dsimp only
 show uv _ _ (seqItems? (.ref p) >>= _) _ _ s;refine af (iE hop hdp ?_);dsimp only;rw [ii];cases hi:js[i]? with
 | none=>
  have e1:(js.map fun(j:Nat)=>rawInt (j:Int)).toArray[i]?=none:=by simp [hi]
  rw [e1];have hl:js.length<=i:=List.getElem?_eq_none_iff.mp hi;show uv _ _ (VD (.ref I) 0 (rawInt 0) >>= fun _=>_) _ _ s;refine af (kT ho hd ‹45› ?_);have ho1:=ia (fun x=>Obj.mapFields (fun vs=>vs.setIfInBounds 0 (rawInt 0)) x) ho (kF (ik hd (fun vs=>vs.setIfInBounds 0 (rawInt 0))));have hd1:=ik hd (fun vs=>vs.setIfInBounds 0 (rawInt 0));refine ib (BK (s:={ s with heap:=_ }) hh ho1 hd1 ‹45› fun h' ex=>he hl h' fun b u hb e=>ex b u hb ((iA ..).extBut b u hb e)) (fun _ _ h=>h.elim) (fun _ _ h=>h)
 | some j=>
  have e1:(js.map fun(j:Nat)=>rawInt (j:Int)).toArray[i]?=some (rawInt (j:Int)):=by simp [hi]
  rw [e1];have hjl:=hj j (eI hi);show uv _ _ (setNextDrawn a (j:Int).toNat (ep:Int).toNat >>= _) _ _ s;rw [ii,ii];unfold setNextDrawn;obtain ⟨oa,hoa,hda⟩:=st;refine af (af (km hoa hda hf ?_));dsimp only;rw [cK ‹45›];have e2:es[j]?=some es[j]:=by simp [hjl]
  refine af (aE ?_);rw [e2];refine aE ?_;show uv _ _ (VD (.ref I) 1 (rawInt ((i:Int)+1)) >>= fun _=>ret es[j].2) _ _ s;refine af (kT ho hd ‹45› ?_);refine aE ⟨_,rfl,aE (hs j es[j] hi e2 _ ?_ fun b u hb e=>(iA ..).extBut b u hb e)⟩
  exact⟨_,ia _ ho (kF (ik hd _)),(oS ..).trans hc,by
   rw [ik hd]; simp⟩
end
theorem yL{α:Type}:∀ {l:List α} {j:Nat} (h:j < l.length),(l[j]::l.eraseIdx j).Perm l
 | x::l,0,h=>by simp
 | x::l,j+1,h=>by
  have ih:=yL (l:=l) (j:=j) (by simpa using h);simp only [List.getElem_cons_succ,List.eraseIdx_cons_succ];exact(List.Perm.swap _ _ _).trans (ih.cons x)
theorem GD{α:Type}(next:Nat->Nat):∀(n k:Nat) (l:List α) (out:Array α),l.length<=n->(Up.go next n k l out).toList.Perm (out.toList++l)
 | 0,k,l,out,h=>by
  obtain rfl:l=[]:=List.length_eq_zero_iff.mp ‹26›;simp [Up.go]
 | n+1,k,l,out,h=>by
  rw [Up.go];cases l with
  | nil=>simp
  | cons x l=>
   have hm:next k % (x::l).length < (x::l).length:=Nat.mod_lt _ ‹45›;generalize next k % (x::l).length=j at hm;rw [ae hm];refine(GD next n (k+1) _ _ (by rw [List.length_eraseIdx_of_lt hm]; simp at h ⊢; omega)).trans ?_;rw [Array.toList_push,kM];exact(yL hm).append_left _
theorem Ip(next:Nat->Nat)(xs:Array α):(Up next xs).toList.Perm xs.toList:=by
 have:=GD next xs.size 0 xs.toList #[] ‹45›;simpa [Up] using this
section
variable {prog:uC}{w:ww}{A:xf}{E:ES}{s:ue}{I a:ut}{f:sr}{i n ep:Nat}{es:Array (Int × sr)}{t:yo}
theorem wp_choose{src:Source}{Q:Nat->ue->Prop}(hn:0 < n)(h:∀ i d',i < n->Q i { s with drawn:=d' }):uv ‹32› A (choose src n) Q E s:=
 fun _ _ _=>⟨by omega,h _ _ (Nat.mod_lt _ hn)⟩
theorem Gr{α:Type}:∀(n:Nat) (l:List α) (s:ue) (Q:List α->ue->Prop),l.length<=n->(∀ ys d',ys.Perm l->Q ys { s with drawn:=d' })->uv ‹32› A (drawOrder n l) Q E s
 | 0,l,s,Q,hl,h=>by
  obtain rfl:l=[]:=List.length_eq_zero_iff.mp ‹26›;exact aE (h [] s.drawn .nil)
 | n+1,[],s,Q,hl,h=>aE (h [] s.drawn .nil)
 | n+1,x::l,s,Q,hl,h=>by
  show uv _ _ (choose .order (x::l).length >>= _) _ _ s;refine af (wp_choose ‹45› fun j d' hj=>?_);rw [ae hj];refine af (Gr n _ _ _ (by rw [List.length_eraseIdx_of_lt hj]; simp at hl ⊢; omega) fun ys d2 hp=>?_);exact aE (h _ d2 ((hp.cons _).trans (yL hj)))
theorem uO{Q:Bool->ue->Prop}(h:Q (w.params.followText "set-order") s):uv ‹32› A setsByText Q E s:=by
 unfold setsByText;exact af (VG (aE h))
theorem Cg(hh:A.handled=none)(hne:a≠I)(hf:t.fits es.size=true)(vs:LU)(sl:Nat->Nat)
  (hn:∀(i:Nat) (s:ue) (A':xf) (Q':Option (sr × Nat)->ue->Prop) (E':ES),i<=vs.length->jy s.heap a es ep t->Q' ((vs[i]?).map fun v=>(v,sl (i+1))) s->uv ‹32› A' (V2 a (sl i) i ep) Q' E' s) :
  Walks prog w A I [I,a] [I] vs.length (fun i v=>vs[i]?=some v) (fun i h=>eZ h I a (rawInt (sl i)) i es.size ep/\jy h a es ep t) where
 sub:=fun b hb=>by simp at hb; simp [hb]
 frame:=fun _ _ _ st hk=>⟨st.1.at fun o e=>hk I ‹45› o e,st.2.at fun o e=>hk a ‹45› o e⟩
 item:=fun i s Q E hi st hQ=>by
  refine GC hh st.1 st.2 hf (fun A' Q' E' q=>hn i s A' Q' E' ‹26› st.2 q) (fun x sl' e h' it ex=>?_) (fun e=>?_)
  ·rw [ae hi] at e;cases e;exact hQ _ h' s.toks (ae hi) ⟨it,st.2.at fun o e=>ex a o hne e⟩ fun b o hb e=>ex b o (fun h=>hb (by simp [h])) e
  ·rw [ae hi] at e;cases e
 done:=fun s Q E st hQ=>by
  refine GC hh st.1 st.2 hf (fun A' Q' E' q=>hn _ s A' Q' E' (ai _) st.2 q) (fun x sl' e=>?_) (fun e h' ex=>hQ h' s.toks fun b o hb e=>ex b o (fun h=>hb (by simp [h])) e);rw [fc (ai _)] at e;cases e
 self:=fun _ _ _ _ st hQ=>Bw st.1 hQ
theorem Li(hh:A.handled=none)(hne:a≠I)(hpI:p≠I)(hf:t.fits es.size=true)(js:List Nat)(hj:∀ j∈js,j < es.size) :
  Walks prog w A I [I,a,p] [I] js.length (fun i v=>(js.map fun j=>(es.getD j (0,xF)).2)[i]?=some v) (fun i h=>eZ h I a (.ref p) i es.size ep/\jy h a es ep t/\∃ o m,h.get? p=some o/\o.data=.seq (js.map fun(j:Nat)=>rawInt (j:Int)).toArray m) where
 sub:=fun b hb=>by simp at hb; simp [hb]
 frame:=fun _ _ _ st hk=>⟨st.1.at fun o e=>hk I ‹45› o e,st.2.1.at fun o e=>hk a ‹45› o e,let ⟨o,m,ho,q⟩:=st.2.2; ⟨o,m,hk p ‹45› o ho,q⟩⟩
 item:=fun i s Q E hi st hQ=>by
  refine Fx hh st.1 st.2.1 hf st.2.2 hj (fun j e hi' he h' it ex=>?_) (fun e=>by omega);refine hQ _ h' s.toks ?_ ⟨it,st.2.1.at fun o e=>ex a o hne e,let ⟨o,m,ho,q⟩:=st.2.2; ⟨o,m,ex p o hpI ho,q⟩⟩ fun b o hb e=>ex b o (fun h=>hb (by simp [h])) e;rw [bg,hi'];simp [Array.getD_eq_getD_getElem?,he]
 done:=fun s Q E st hQ=>by
  refine Fx hh st.1 st.2.1 hf st.2.2 hj (fun j e hi'=>?_) (fun e h' ex=>hQ h' s.toks fun b o hb e=>ex b o (fun h=>hb (by simp [h])) e);rw [fc (ai _)] at hi';cases hi'
 self:=fun _ _ _ _ st hQ=>Bw st.1 hQ
end
section
variable {prog:uC}{w:ww}{A:xf}{E:ES}{s:ue}{a:ut}{ep:Nat}{es:Array (Int × sr)}{t:yo}
theorem getD_map(es:Array (Int × sr)):(List.range es.size).map (fun j=>(es.getD j (0,xF)).2)=es.toList.map (·.2):=by
 refine qc ‹45› fun i h1 h2=>?_;simp at h1;simp [Array.getD_eq_getD_getElem?,h1]
theorem Hf{sl:Nat}{Q:Option (sr × Nat)->ue->Prop}(hw:w.params.followText "set-order" = true)(st:jy s.heap a es ep t)(hf:t.fits es.size=true)
  (h:Q (((Up (w.params.setOrder a ep) es)[i]?).map fun e=>(e.2,sl)) s):uv ‹32› A (V2 a sl i ep) Q E s:=by
 obtain ⟨o,ho,hd⟩:=st;unfold V2;refine af (km ho hd hf ?_);dsimp only;refine af (uO ?_);rw [hw];show uv _ _ (if (ep != ep)=true then _ else _) _ _ s;rw [cK ‹45›];refine af (m:=setWalk a) ?_;unfold setWalk;refine af (km ho hd hf ?_);dsimp only;refine af (uO ?_);rw [hw];show uv _ _ (ask >>= _) _ _ s;exact af (VG (aE (aE h)))
theorem JD{sl:Nat}{Q:Option (sr × Nat)->ue->Prop}(hw:w.params.followText "set-order" = false)(hl:t.led=true)(hs:es.size<=1)(st:jy s.heap a es ep t)(hf:t.fits es.size=true)
  (h:Q (match es[Hd t.place sl]?,t.place[Hd t.place sl]? with | some (_,x),some j=>some (x,j+1) | _,_=>none) s):uv ‹32› A (V2 a sl i ep) Q E s:=by
 obtain ⟨o,ho,hd⟩:=st;unfold V2;refine af (km ho hd hf ?_);dsimp only;refine af (uO ?_);rw [hw];show uv _ _ (if (!t.plain && decide (es.size > 1))=true then _ else _) _ _ s;rw [cK (by rw [bE ‹26›]; simp)];show uv _ _ ((if (!t.led && !es.isEmpty)=true then unsupported "set:maker-not-led" else Hn ()) >>= _) _ _ s;rw [cK (by rw [hl]; simp)];exact af (aE (aE h))
theorem Jp(hc:s.TypeIs (.ref a) "set")(st:jy s.heap a es ep t)(hf:t.fits es.size=true)(hl:t.led=!w.params.followText "set-order")(hp:t.plain=true->es.size=0)(hz:es.size<=sizeLine)
  (h:∀ (h':Heap) (d':Drawn) (I:ut) (fp:LA) (vs:LU) (St:Nat->Heap->Prop),‹16›->vs.Perm (es.toList.map (·.2))->(∀ b∈fp,b=a\/s.heap.objs.size<=b)->s.heap.objs.size<=I->
   (∀ A':xf,A'.handled=none->Walks prog w A' I fp [I] vs.length (fun i v=>vs[i]?=some v) St)->St 0 h'->Q (.ref I) { s with heap:=h',drawn:=d' }):uv ‹32› A (pyIter (.ref a)) Q E s:=by
 have halt:a < s.heap.objs.size:=let ⟨_,ho,_⟩:=st; cn ho;refine wpAny_pyIter_slot hc F.slot_set_iter (eM F.slot_set_iter hc zj ?_ (F.args_set_iter_1 _));unfold uB.«frozenset.__iter__»;refine af (m:=uB.Frozenset.slot0 _ _) (jI (a:=a) rfl ?_)
 have mk:∀(f:sr) (h1:Heap) (d1:Drawn) (fp:LA) (vs:LU) (St:Nat->Heap->Prop),(∀ b o,s.heap.get? b=some o->h1.get? b=some o)->s.heap.objs.size<=h1.objs.size->vs.Perm (es.toList.map (·.2))->(∀ b∈fp,b=a\/s.heap.objs.size<=b)->
   (∀ A':xf,A'.handled=none->Walks prog w A' h1.objs.size fp [h1.objs.size] vs.length (fun i v=>vs[i]?=some v) St)->(∀ h',eZ h' h1.objs.size a f 0 es.size ep->jy h' a es ep t->(∀ b o,h1.get? b=some o->h'.get? b=some o)->St 0 h')->
   uv ‹32› A.in1 (setEpoch a >>= fun e=>newFields "set_iterator" [f,rawInt 0,.ref a,rawInt es.size,rawInt e] >>= fun v=>ret v)
    (fun fin s'=>∃ v,fin=Fin.done (Flow.ret v)/\∃ T f,s'.TypeIs v T/\typeLookup (.type T) "__next__" = Hn (some f)/\Q v s') E { s with heap:=h1,drawn:=d1 }:=fun f h1 d1 fp vs St k1 z1 pm fps W st0=>by
  have st1:jy h1 a es ep t:=st.at fun o e=>k1 a o e;obtain ⟨o,ho,hd⟩:=st1;refine af (wpAny_setEpoch_of (s:={ s with heap:=h1,drawn:=d1 }) ho hd hf ?_);refine af ?_;show uv _ _ (newObj (.type "set_iterator") (.fields #[f,rawInt 0,.ref a,rawInt es.size,rawInt ep])) _ _ _;refine fv ?_ (by size_fits);have it:eZ (h1.push { cls:=.type "set_iterator",data:=.fields #[f,rawInt 0,.ref a,rawInt es.size,rawInt ep] }) h1.objs.size a f 0 es.size ep:=⟨_,bb _ rfl,rfl,rfl⟩;refine aE ⟨_,rfl,"set_iterator",_,⟨_,bb _ rfl,rfl⟩,gC.lookup,?_⟩;exact h _ d1 _ fp vs St (fun b o e=>av _ (k1 b o e)) pm fps z1 W (st0 _ it ⟨o,av _ ho,hd⟩ fun b o e=>av _ e)
 have hne:a≠s.heap.objs.size:=dm halt;obtain ⟨o,ho,hd⟩:=id st;refine af (m:=uB.Frozenset.sizeOf a) ?_;unfold uB.Frozenset.sizeOf;refine af (rB st hf (aE ?_));refine af (m:=setDrawn a) ?_;unfold setDrawn;refine af (km ho hd hf ?_);dsimp only;refine af (uO (aE ?_));show uv _ _ (if (!w.params.followText "set-order" && (!t.plain && decide (es.size > 1)))=true then _ else _) _ _ s
 have fp2:∀ b∈[s.heap.objs.size,a],b=a\/s.heap.objs.size<=b:=fun b hb=>by
  rcases bz.mp hb with rfl | hb
  ·exact .inr (ai _)
  ·exact .inl (bj.mp hb)
 cases hw:w.params.followText "set-order" with
 | true=>
  rw [cK ‹45›];refine af (aE ?_);have pm:=(Ip (w.params.setOrder a ep) es).map (fun e:Int × sr=>e.2);refine mk (rawInt 0) s.heap s.drawn [s.heap.objs.size,a] ((Up (w.params.setOrder a ep) es).toList.map (·.2)) (fun i h=>eZ h s.heap.objs.size a (rawInt ((fun _=>0:Nat->Nat) i:Nat)) i es.size ep/\jy h a es ep t) (fun b o e=>e) (ai _) pm fp2 (fun A' hh=>?_) (fun h' i1 s1 _=>⟨i1,s1⟩);refine Cg hh hne hf _ (fun _=>0) fun i s' A2 Q' E' hi st' q=>Hf hw st' hf ?_;rw [bg,kG] at q;cases e:(Up (w.params.setOrder a ep) es)[i]? <;> rw [e] at q <;> exact q
 | false=>
  have hled:t.led=true:=by rw [hl,hw]; rfl
  by_cases h1:es.size<=1
  ·rw [cK (by rw [bE (show ¬ es.size > 1 by omega)]; simp)];refine af (aE ?_)
   have hps:t.place.size=es.size:=by
    simp only [yo.fits,eK,kA] at hf;exact hf.1
   refine mk (rawInt 0) s.heap s.drawn [s.heap.objs.size,a] (es.toList.map (·.2)) (fun i h=>eZ h s.heap.objs.size a (rawInt ((fun i=>if i=0 then 0 else t.place.getD 0 0+1:Nat->Nat) i:Nat)) i es.size ep/\jy h a es ep t) (fun b o e=>e) (ai _) .rfl fp2 (fun A' hh=>?_) (fun h' i1 s1 _=>⟨i1,s1⟩);refine Cg hh hne hf _ (fun i=>if i=0 then 0 else t.place.getD 0 0+1) fun i s' A2 Q' E' hi st' q=>JD hw hled h1 st' hf ?_;rw [aa,fE] at hi;rcases (by omega:es.size=0\/es.size=1) with z | z
   ·obtain rfl:es=#[]:=Array.eq_empty_of_size_eq_zero z;have q:Q' none s':=by simpa using q
    simpa using q
   ·obtain ⟨e,rfl⟩:=Array.size_eq_one_iff.mp z;obtain ⟨j,hj⟩:=Array.size_eq_one_iff.mp (hps.trans z);rw [hj] at q ⊢;rcases (by simp at hi; omega:i=0\/i=1) with rfl | rfl
    ·have b0:Hd #[j] 0=0:=by simp [Hd,Hd.go]
     simp [b0] at q ⊢;exact q
    ·have b1:Hd #[j] (j+1)=1:=by simp [Hd,Hd.go]
     simp [b1] at q ⊢;exact q
  ·have hpl:t.plain=false:=by
    cases e:t.plain with
    | false=>rfl
    | true=>have:=hp e; omega
   rw [dE (by rw [hpl,bo (show es.size > 1 by omega)]; rfl)];refine af (Gr es.size (List.range es.size) s _ ‹45› fun js d' pj=>?_);have hjl:js.length=es.size:=by simpa using pj.length_eq
   refine af (fv (s:={ s with drawn:=d' }) ?_ (by show ((js.map fun(i:Nat)=>rawInt (i:Int)).toArray).size<=sizeLine; simp; omega));have pne:s.heap.objs.size≠s.heap.objs.size+1:=by omega
   have e0:(s.heap.push { cls:=.type "tuple",data:=.seq (js.map fun(i:Nat)=>rawInt (i:Int)).toArray }).objs.size=s.heap.objs.size+1:=ie ..;have lenm:(js.map fun j=>(es.getD j (0,xF)).2).length=js.length:=aa _;refine mk ‹22› _ d' [s.heap.objs.size+1,a,s.heap.objs.size] (js.map fun j=>(es.getD j (0,xF)).2) (fun i h=>eZ h ‹40› a ‹22› i es.size ep/\jy h a es ep t/\∃ o m,h.get? s.heap.objs.size=some o/\o.data=.seq (js.map fun(j:Nat)=>rawInt (j:Int)).toArray m) (fun b o e=>av _ e) (by rw [e0]; omega) ?_ (fun b hb=>?_) (fun A' hh=>?_) (fun h' i1 s1 k1=>?_)
   ·rw [<- getD_map];exact pj.map _
   ·simp only [bz,dL,iF] at hb;rcases hb with rfl | rfl | rfl
    ·exact .inr ‹26›
    ·exact .inl rfl
    ·exact .inr (ai _)
   ·rw [e0,lenm];exact Li hh (dm (i6 halt)) pne hf js fun j hj=>fR.mp (pj.mem_iff.mp hj)
   ·rw [e0] at i1;exact⟨i1,s1,_,_,k1 _ _ (bb _ rfl),rfl⟩
end
section
variable {prog:uC}{w:ww}{A:xf}{E:ES}{s:ue}{a:ut}{ep:Nat}{es:Array (Int × sr)}{t:yo}
theorem Mq{Q:Bool->ue->Prop}(hT:s.TypeIs (.ref a) "set")(h:Q false s):uv ‹32› A (uB.List.listLengthHint (.ref a)) Q E s:=by
 unfold uB.List.listLengthHint;refine af (wpAny_specialOf hT F.slot_set_len.lookup ?_);generalize hid:("set.__len__" : String)=id0
 wp_delta
 rw [show splitId id0=some ("set","__len__") by subst hid; decide +kernel];subst hid;refine af (ku (T:= "set") (b:=true) hT (by rw [sf]; kernel_rfl) ?_);refine qB (fun z=>absurd z ‹6›) (fun _=>?_);refine qB (fun _=>?_) (fun z=>absurd ‹5› z);exact af (wpAny_typeOf hT (aE h))
theorem BX{Q:LU->ue->Prop}(hh:A.handled=none)(hc:s.TypeIs (.ref a) "set")(st:jy s.heap a es ep t)(hf:t.fits es.size=true)(hl:t.led=!w.params.followText "set-order")(hp:t.plain=true->es.size=0)(hz:es.size<=sizeLine)
  (hQ:∀ (h':Heap) (tk:Nat) (d':Drawn) (vs:LU),‹16›->vs.Perm (es.toList.map (·.2))->Q vs { s with heap:=h',toks:=tk,drawn:=d' }):uv ‹32› A (collect (.ref a)) Q E s:=by
 have halt:a < s.heap.objs.size:=let ⟨_,ho,_⟩:=st; cn ho;unfold collect;refine af (rX (gI F.entry_proto_collect ?_));rw [eS F.plain_proto_collect _];show uv _ A.in1 (newList [] >>= fun l=>again (.builtin "list.__iadd__" ⟨[l,.ref a],[]⟩)) _ _ s;refine af (fv ?_);refine aE ⟨iN pE _,gI F.entry_list_iadd ?_⟩;rw [eS pE _];show uv _ A.in1 (M3 ‹22› (.ref a) ‹22›) _ _ _;have old:∀ b o,s.heap.get? b=some o->(s.heap.push { cls:=.type "list",data:=.seq ([]:LU).toArray }).get? b=some o:=fun b o e=>av _ e;have hS:(s.heap.push { cls:=.type "list",data:=.seq ([]:LU).toArray }).get? s.heap.objs.size=some { cls:=.type "list",dict:=none,data:=.seq #[] 0,slots:=#[] }:=bb _ rfl;have hsz:(s.heap.push { cls:=.type "list",data:=.seq ([]:LU).toArray }).objs.size=s.heap.objs.size+1:=ie ..;generalize s.heap.push { cls:=.type "list",data:=.seq ([]:LU).toArray }=h0 at old hS hsz;have hT0:Vu { s with heap:=h0 } (.ref a) "set" := let ⟨o,ho,q⟩:=hc; ⟨o,old _ _ ho,q⟩;unfold M3;refine af (wpAny_typeOf hT0 ?_);have e1:uB.List.listSameRef ‹22› (.ref a)=false:=by simp [uB.List.listSameRef,eR halt]
 simp only [e1,show (Hb "set" == Hb "list")=false from by decide,show (Hb "set" == Hb "tuple")=false from by decide,Bool.or_false,jn,oC];refine af (Jp (s:={ s with heap:=h0 }) hT0 (st.at fun o e=>old a o e) hf hl hp hz fun h' d' I fp vs St k1 pm fps hI W st0=>?_);have hT1:Vu { s with heap:=h',drawn:=d' } (.ref a) "set" := let ⟨o,ho,q⟩:=hT0; ⟨o,k1 _ _ ho,q⟩;refine af (eL (Mq hT1 ?_))
 have hSf:s.heap.objs.size ∉ fp:=fun hm=>by
  rcases fps _ hm with z | z
  ·exact absurd z (eR halt)
  ·have z:h0.objs.size<=s.heap.objs.size:=z;omega
 have hI:h0.objs.size<=I:=hI;have vl:vs.length=es.size:=by simpa using pm.length_eq
 have hS1:=k1 _ _ hS;refine qB (fun _=>?_) (fun z=>absurd ‹5› z);refine af (jp (af ?_));show uv _ _ (updateSeq s.heap.objs.size (·.push .none) >>= fun _=>updateSeq s.heap.objs.size (·.pop)) _ _ _;refine af (wpAny_updateSeq hS1 rfl ?_);have hS2:=ia (Obj.mapSeq (·.push xF)) hS1 rfl;refine wpAny_updateSeq (hz:=by seq_fits) hS2 rfl ?_;have hS3:=ia (Obj.mapSeq (·.pop)) hS2 rfl
 have k3:∀ b o,b≠s.heap.objs.size->h'.get? b=some o->((h'.update s.heap.objs.size (Obj.mapSeq (·.push xF))).update s.heap.objs.size (Obj.mapSeq (·.pop))).get? b=some o:=fun b o hb e=>
  (kr _ _ (kL hb)).trans ((kr _ _ (kL hb)).trans e)
 have st3:=(W A.in1 hh).frame 0 h' _ st0 fun b hb o e=>k3 b o (fun z=>hSf (z ▸ hb)) e;refine aE ⟨iN F.plain_extend_loop _,?_⟩;refine codeAny_extend_loopS (W A.in1 hh).toS ‹26› s.heap.objs.size hSf ‹22› vs.length 0 _ #[] _ rfl (dk _) st3 hS3 (ItemsOf.nil _) fun s' acc c hm hS' hacc=>?_;obtain ⟨h2,g2,d2,tk2,os2⟩:=s';have eg:g2=s.gens:=hm.gens;have ed:d2=d':=hm.drawn;have eo:os2=s.os:=hm.os;subst eg; subst ed; subst eo;refine af (wpAny_load hS' (aE ?_))
 have ea:acc.toList=vs:=me fun i=>by
  rw [kG];cases q:acc[i]? with
  | none=>
   have h1:acc.size<=i:=by simpa using q
   rw [hacc.1] at h1;rw [fc h1]
  | some v=>exact(hacc.2 i v q).symm
 rw [ea];refine hQ h2 tk2 d2 vs (fun b o e=>?_) pm;have hb:b < s.heap.objs.size:=cn e;refine hm.heap b o ?_ (k3 b o (dm hb) (k1 b o (old b o e)));simp only [bz,dL,iF,sq];refine⟨dm hb,dm (dS hb ?_)⟩;omega
theorem Ai(hh:A.handled=none)(hM:oH prog w s.heap a ks)(h64:ks.length < 64)
  (h:∀(h1:Heap) (tk:Nat) (d':Drawn) (vs:LU) (out:AV) (ss':LS),(∀ b o',s.heap.get? b=some o'->h1.get? b=some o')->V1 out.toList ss'->ss'.Perm ks->sortedS ss'=true->Q (.ref h1.objs.size) { s with heap:=sortedHeap (h1.push ‹37›) h1.objs.size vs out,toks:=tk,drawn:=d' }) :
  uv ‹32› A (call (.builtin "sorted") [.ref a]) Q E s:=by
 obtain ⟨o,es,ep,t,ho,hx,hd,el,ek,nd,hb,hf,hl,hp⟩:=hM;have hlen:ks.length=es.size:=by rw [ek]; simp
 refine mM kind_sorted plain_sorted entry_sorted (args_sorted1 _) ?_;unfold uB.«sorted»;refine af (m:=checkCount "sorted" 1 1 _) (aE ?_);refine af (BX (s:=s) hh ⟨o,ho,hx.1⟩ ⟨o,ho,hd⟩ hf hl hp (by rw [cy]; omega) fun h1 tk d' vs kp pm=>?_);have vl:vs.length=es.size:=by simpa using pm.length_eq
 have hS:V1 vs (vs.map tx):=by
  have all:∀ v∈vs,∃ t,v=.str (tx v) t:=fun v hv=>by
   obtain ⟨e,he,rfl⟩:=bu.mp (pm.mem_iff.mp hv);obtain ⟨⟨k,hk,_⟩,_⟩:=el e he;obtain ⟨t',e'⟩:=vB hk;exact⟨t',by rw [e']; rfl⟩
  clear pm vl kp
  induction vs with
  | nil=>exact .nil
  | cons v vs ih=>
   obtain ⟨t',e'⟩:=all v bn;have:=ih fun u hu=>all u (cr _ hu);rw [e'];exact .cons _ t' this
 have pk:(vs.map tx).Perm ks:=by
  have:=pm.map tx;rw [gN] at this;rw [ek];exact this
 refine af (sk ?_ (by rw [cy]; omega));have hoL:(h1.push ‹37›).get? h1.objs.size=some (zz "list" vs.toArray 0):=bb _ rfl;show uv _ _ _ _ _ { s with heap:=h1.push ‹37›,toks:=tk,drawn:=d' };refine af (eL (eM slot_list_sort ⟨_,hoL,rfl⟩ entry_list_sort (list_sort_treeK strKind_oneLt hoL hS.keysOf (fun v₁ v₂ rest e=>keyKind_strs (by rw [<- e]; exact hS)) ‹26› fun st' a1 a2=>⟨_,rfl,?_⟩) (args_list_sort _)));obtain ⟨ss',b1,b2,b3⟩:=sorted_out_str hS a1 a2;exact aE ⟨_,rfl,h h1 tk d' vs _ ss' kp b1 (b2.trans pk) b3⟩
end
section
variable {X:Cx}
def Oj(P:uC)(w:ww)(a:ut)(ks:LS):HO:=.ext fun h=>oH P w h a ks
inductive ux (K:PySem.W.Frag) (P:uC) (w:ww) (xs:LV) (H:Hp) (Q:VK):Prop
 | mk (l:ut) (ns:LS):xs=[.ref l]->SqL K H l ‹31›->ns.length<=3000->(∀ d ks,(∀ x,x∈ks↔x∈ns)->ks.Nodup->ks.length<=ns.length->H d=none->Q (.ref d) (upd H d (Oj P w d ks)))->ux K P w xs H Q
theorem Ik(hc:X.calm=true):fj X (.type "set") (ux X.K X.prog X.w):=by
 exists 9;obtain ⟨l,ns,rfl,hl,hn,q⟩:=h;exists 14;have hh:X.A.handled=none:=I.ok.hd hc;obtain ⟨its,rv,pl,hz⟩:=I.list hl;have hlen:=rv.length;rw [aa] at hlen;refine tR (.inl rfl) hh pl.isList (ns:=ns) (fun i v hv=>?_) ‹26› (by unfold RC; omega) fun h' tk ks hS hO hk=>?_
 ·have hil:i < ns.length:=by
   have:=(bv.mp hv).1;omega
  obtain ⟨w',hw,rw'⟩:=rv.get (i:=i) (x:=.str ns[i]) (by rw [bg,ae hil]; rfl);rw [hv] at hw;cases hw;obtain ⟨t,rfl⟩:=rw';exact⟨t,by simp [hil]⟩
 ·have nd:ks.Nodup:=let ⟨_,_,_,_,_,_,_,_,_,nd,_⟩:=hS; nd;refine⟨.ref s.heap.objs.size,_,I.laid (o:=Oj X.prog X.w s.heap.objs.size ks) (fun b u e=>hk b u (cn e) e) (ai _) ⟨hS,?_,fun h1 h2 x k=>x.at k⟩,rfl,q _ ks (fun x=>?_) nd (by rw [hO.2]; exact xP ns ns.length) (I.hok.fresh (ai _))⟩
  ·obtain ⟨o,_,_,_,ho,_⟩:=hS;exact⟨o,ho⟩
  ·rw [hO.1 x,aw (ai _)]
inductive pX (P:uC) (w:ww) (xs:LV) (H:Hp) (Q:VK):Prop
 | mk (p ks:_):xs=[.ref p]->H p=some (Oj P w p ks)->ks.length < 64->(∀ d ss',ss'.Perm ks->sortedS ss'=true->H d=none->Q (.ref d) (upd H d (.lst (ss'.map V.str))))->pX P w xs H Q
theorem yW(hc:X.calm=true):fj X (.builtin "sorted") (pX X.prog X.w):=by
 exists 9;obtain ⟨p,ks,rfl,hq,h64,q⟩:=h;obtain ⟨u,rfl,rx⟩:=vals1 r;cases rx;have hh:X.A.handled=none:=I.ok.hd hc;obtain ⟨hM,_⟩:=I.hok p _ hq;refine Ai hh hM h64 fun h1 tk d' its out ss' kp b1 b2 b3=>?_;have I1:Inv X pins σ H { s with heap:=h1,drawn:=d' }:=Inv.kept (s:={ s with drawn:=d' }) ⟨I.ok,I.os,I.bare,I.base,I.loc,I.cell,I.free,I.lR,I.pin,I.hok,I.len⟩ (t':=s.toks) kp;have hoL:(h1.push (zz "list" its.toArray 0)).get? h1.objs.size=some (zz "list" its.toArray 0):=bb _ rfl;obtain ⟨e,he⟩:=sortedHeap_at (out:=out) hoL;refine⟨.ref h1.objs.size,_,I1.laid (t':=tk) (o:=.lst (ss'.map V.str)) (fun b o e'=>?_) (ai _) ⟨?_,out.toList,e,mZ b1,by rw [mi]; exact he⟩,rfl,q _ ss' b2 b3 ‹41›⟩
 ·have hlt:b < h1.objs.size:=cn e';rw [sortedHeap_old (dm hlt) (by rw [size_push']; exact i6 hlt)];exact av _ e'
 ·rw [aa,b2.length_eq,cy];omega
end
end L2
end
section
namespace L2
open PySem PySem.Spec PyProof.Rows PySem.W
variable {b:Str}
inductive Kq (lt:Nat->Nat->Bool) (vs out:LU):Prop
 | mk (p:Array Nat):Pm vs.length p->out=p.toList.map (fun i=>vs.getD i xF)->(∀ i j,i < j->j < vs.length->lt (p.getD j 0) (p.getD i 0)=false)->Kq lt vs out
section
variable {prog:uC}{w:ww}{A:xf}{E:ES}{s:ue}
structure U3 (prog:uC) (w:ww) (lt:Nat->Nat->Bool) (A:xf) (κ:VP) (vs:LU) (h:Heap):Prop where
 kind:∀ (s':ue) (Q:VP->ue->Prop) (E:ES),(∀ b o,h.get? b=some o->s'.heap.get? b=some o)->Q κ s'->uv ‹32› A (keyKind' vs.toArray) Q E s'
 lt:∀ i j,i < vs.length->j < vs.length->∀ (s':ue) (C:Bool->ue->Prop),(∀ b o,h.get? b=some o->s'.heap.get? b=some o)->C (lt i j) s'->uv ‹32› A (keyLt' κ (vs.getD i xF) (vs.getD j xF)) C (fun _ _=>False) s'
end
def ltS(a b:Str):Bool:=ltCps a.cps.toList b.cps.toList
theorem iB{a:Str}:ltS b a=false↔leS a b:=by
 refine⟨fun h=>KN h,fun h=>?_⟩;unfold ltS;rw [ltCps_eq];exact bE (List.not_lt.mpr h)
theorem QD(a:Str):ltS a a=false:=iB.mpr (List.le_refl _)
theorem HY(a b:Str):leS a b\/leS b a:=List.le_total _ _
theorem Jz{a:Str}(h:ltS a b=true):ltS b a=false:=by
 refine iB.mpr ?_;rcases HY a b with g | g
 ·exact g
 ·rw [iB.mpr g] at h;cases h
theorem Qo{a c:Str}(h:ltS a c=true):ltS a b=true\/ltS b c=true:=by
 cases h1:ltS a b with
 | true=>exact .inl rfl
 | false=>
  cases h2:ltS b c with
  | true=>exact .inr rfl
  | false=>
   have:=xq (iB.mp h2) (iB.mp h1);rw [iB.mpr this] at h;cases h
theorem M7{a:Str}(h:¬ a=b):ltS a b=true\/ltS b a=true:=by
 cases h1:ltS a b with
 | true=>exact .inl rfl
 | false=>
  cases h2:ltS b a with
  | true=>exact .inr rfl
  | false=>exact absurd (vH (iB.mp h2) (iB.mp h1)) h
end L2
end
section
namespace L2
open PySem PySem.Spec PyProof.Rows
variable {X:Cx}{ks ns:LS}{b:Str}{K:PySem.W.Frag}{H:Hp}{a it:ut}{xs:LV}{P:uC}{w:ww}{tg:Expr}{J:It}{fp:LA}{tl:TE}{n:Nat}{pos:Pos}
inductive PK (x:V) (y:V) (H:Hp) (Q:VK):Prop
 | mk (a b:ut) (ns ms:LS):x=.ref a->y=.ref b->H a=some (.lst ‹31›)->H b=some (.lst (ms.map V.str))->Q (.bl (decide (ns=ms))) H->PK x y H Q
theorem M6(hu:X.A.units < cLine):OpR X (xN .Eq) PK:=by
 exists 6;obtain ⟨a,b,ns,ms,rfl,rfl,ha,hb,q⟩:=h;cases rx;cases ry;obtain ⟨its,r,p,_⟩:=I.list (V6 (K:=X.K) ha);obtain ⟨its2,r2,p2,_⟩:=I.list (V6 (K:=X.K) hb);have l1:=r.length;have l2:=r2.length;rw [aa] at l1 l2
 by_cases hl:ns.length=ms.length
 ·have key:=Vl.lists (A:=X.A) (s:=s) (e:=fun j=>decide (ns[j]?=ms[j]?)) p.isList p2.isList (by simp; omega) hu (fun j h1 h2=>by
   have h1':j < its.length:=by simpa using h1
   have j1:j < ns.length:=by omega
   have j2:j < ms.length:=by omega
   obtain ⟨w1,k1,t1,m1⟩:=r.get (i:=j) (x:=.str ns[j]) (by rw [bg,ae j1]; rfl);obtain ⟨w2,k2,t2,m2⟩:=r2.get (i:=j) (x:=.str ms[j]) (by rw [bg,ae j2]; rfl)
   have n1:its.toArray[j]=w1:=by
    have:its.toArray[j]?=some w1:=by simpa using k1
    rw [eW h1] at this;exact ck this
   have n2:its2.toArray[j]=w2:=by
    have:its2.toArray[j]?=some w2:=by simpa using k2
    rw [eW h2] at this;exact ck this
   rw [n1,n2,m1,m2,ae j1,ae j2]
   have e5:decide (some ns[j]=some ms[j])=(ns[j] == ms[j]):=by
    rw [fg,decide_eq_true_eq,kA];exact⟨ck,fun h=>by rw [h]⟩
   rw [e5];exact xm.str_str _ _ _ _)
  have ee:((List.range its.toArray.size).all (fun j=>decide (ns[j]?=ms[j]?)))=decide (ns=ms):=by
   rw [fg,cz,decide_eq_true_eq];constructor
   ·intro h;apply me;intro j
    by_cases hj:j < ns.length
    ·exact eA (h j (fR.mpr (by simp; omega)))
    ·rw [fc ‹26›,fc ‹26›]
   ·rintro rfl j _;exact bo rfl
  rw [ee] at key;exact key X.prog X.w X.xe _ ⟨.bl _,H,I,rfl,q⟩
 ·rw [bE fun h=>hl (by rw [h])] at q;have key:=Vl.lists_lengths (A:=X.A) (s:=s) p.isList p2.isList (by simp; omega) hu;exact key X.prog X.w X.xe _ ⟨.bl _,H,I,rfl,q⟩
def oA(ns:LS):Prop:=∀ i (h:i+1 < ns.length),ltS (ns[i]'‹26›) ns[i+1]=true
theorem oA.tail{x:Str}(h:oA (x::ns)):oA ns:=fun i hi=>h (i+1) (by simpa using hi)
theorem RJ{a c:Str}(h:ltS a b=true)(g:ltS b c=true):ltS a c=true:=by
 rcases Qo (b:=c) h with e | e
 ·exact e
 ·rw [Jz e] at g;cases g
theorem oA.pw:∀ {ns:LS},oA ns->ns.Pairwise (fun a b=>ltS a b=true)
 | [],_=>.nil
 | [x],_=>List.pairwise_singleton _ _
 | x::y::ns,h=>by
  have ih:=oA.pw h.tail;have h0:=h 0 ‹45›;refine List.pairwise_cons.mpr ⟨fun z hz=>?_,ih⟩;rcases bz.mp hz with rfl | hz
  ·exact h0
  ·exact RJ h0 (List.rel_of_pairwise_cons ih hz)
theorem oA.sorted:∀ {ns:LS},oA ns->sortedS ns=true
 | [],_=>rfl
 | [x],_=>rfl
 | x::y::ns,h=>by
  have ih:=oA.sorted h.tail;have h0:ltS y x=false:=Jz (h 0 ‹45›);show (!ltS y x && risingS y ns)=true;rw [h0];exact ih
theorem K1{ss:LS}(hk:∀ x,x∈ks↔x∈ns)(nd:ks.Nodup)(hp:ss.Perm ks)(hs:sortedS ss=true):ns=ss↔oA ns:=by
 constructor
 ·rintro rfl;have nd2:=hp.nodup_iff.mpr nd
  have pw:∀ l:LS,sortedS l=true->l.Pairwise leS:=fun l h=>by
   cases l with
   | nil=>exact .nil
   | cons x r=>exact qm r x h
  intro i h;have le:leS (ns[i]'‹26›) ns[i+1]:=List.pairwise_iff_getElem.mp (pw _ hs) i (i+1) ‹26› h (Nat.lt_succ_self _);rcases M7 (a:=ns[i]'‹26›) (b:=ns[i+1]) (fun e=>by have:=(List.getElem_inj nd2).mp e; omega) with e | e
  ·exact e
  ·rw [iB.mpr le] at e;cases e
 ·intro h
  have ndn:ns.Nodup:=h.pw.imp fun {a b} g e=>by
   rw [e,QD] at g;cases g
  refine Eo ?_ h.sorted hs;exact((List.perm_ext_iff_of_nodup ndn nd).mpr fun x=>(hk x).symm).trans hp.symm
abbrev N0:PySem.W.Frag:=[]
section
variable {X:Cx}
theorem SqT.up(h:SqT N0 H a xs):SqT K H a xs:=by
 rcases h with h | ⟨o,its,n,h,_⟩
 ·exact .inl h
 ·cases h
theorem SqL.up(h:SqL N0 H a xs):SqL K H a xs:=by
 rcases h with h | ⟨o,its,n,h,_⟩
 ·exact .inl h
 ·cases h
theorem Sq.up(h:SqL N0 H a xs\/SqT N0 H a xs):SqL K H a xs\/SqT K H a xs:=h.elim (fun h=>.inl h.up) fun h=>.inr h.up
theorem aO:IxR X (Lj N0):=fun value slice pins s σ H x y v u Q I rx ry ⟨p,xs,i,z,e1,e2,h,e3,q⟩ hs=>K7 value slice pins s σ H x y v u Q I rx ry ⟨p,xs,i,z,e1,e2,h.up,e3,q⟩ hs
theorem bN:IxR X (Mv N0):=fun value slice pins s σ H x y v u Q I rx ry ⟨p,xs,i,z,e1,e2,h,e3,q⟩ hs=>sH value slice pins s σ H x y v u Q I rx ry ⟨p,xs,i,z,e1,e2,h.up,e3,q⟩ hs
theorem sI:SlR X (Mi N0):=fun pins s σ H x v vl vu lo hi sl Q I rx hs pl pu ⟨a,xs,e,h,q⟩=>zU pins s σ H x v vl vu lo hi sl Q I rx hs pl pu ⟨a,xs,e,h.up,q⟩
theorem bR:SlR X (QB N0):=fun pins s σ H x v vl vu lo hi sl Q I rx hs pl pu ⟨a,xs,e,h,q⟩=>O6 pins s σ H x v vl vu lo hi sl Q I rx hs pl pu ⟨a,xs,e,h,q⟩
theorem bx:fj X (.builtin "len") (kY N0):=fun pins s σ H xs us Q I r ⟨p,ys,e,h,q⟩=>nO pins s σ H xs us Q I r ⟨p,ys,e,Sq.up h,q⟩
theorem qQ:fj X (.type "list") (lH N0):=fun pins s σ H xs us Q I r ⟨p,ys,e,h,q⟩=>zH pins s σ H xs us Q I r ⟨p,ys,e,Sq.up h,q⟩
theorem cB:fj X (.type "tuple") (jQ N0):=fun pins s σ H xs us Q I r ⟨p,ys,e,h⟩=>wY pins s σ H xs us Q I r ⟨p,ys,e,h.elim (fun h=>.inl ⟨h.1.up,h.2⟩) fun h=>.inr ⟨h.1.up,h.2⟩⟩
theorem cW(hc:X.calm=true):fj X (.builtin "all") (qX N0):=fun pins s σ H xs us Q I r ⟨p,ys,e,h,q⟩=>Ko hc pins s σ H xs us Q I r ⟨p,ys,e,h.up,q⟩
theorem zu:OpR X (xN .In) (rIn N0 false):=fun pins s σ H x y v u Q I rx ry ⟨p,xs,e,h,f,g,q⟩=>yD pins s σ H x y v u Q I rx ry ⟨p,xs,e,Sq.up h,f,g,q⟩
theorem tQ:OpR X (xN .NotIn) (rIn N0 true):=fun pins s σ H x y v u Q I rx ry ⟨p,xs,e,h,f,g,q⟩=>yN pins s σ H x y v u Q I rx ry ⟨p,xs,e,Sq.up h,f,g,q⟩
theorem QM{m n:String}{b:Bool}(h:PySem.W.kitOne N0 (.type m) (.type n)=some b):PySem.W.kitOne K (.type m) (.type n)=some b:=h
theorem bf:fj X (.builtin "isinstance") (lU N0):=fun pins s σ H xs us Q I r ⟨x,n,t,b,e,ty,kt,q⟩=>by
 have go:∀ {m:String},t=.type m->qZ X.K H x t->uv ‹9› X.A (call (.builtin "isinstance") us) (EP X pins σ Q) X.xe s:=fun {m} e' ty'=>uy pins s σ H xs us Q I r ⟨x,n,t,b,e,ty',by subst e'; exact QM kt,q⟩;cases ty with
 | non=>exact go rfl .non
 | bl b=>exact go rfl (.bl b)
 | int i=>exact go rfl (.int i)
 | str x=>exact go rfl (.str x)
 | flt x=>exact go rfl (.flt x)
 | lst h=>exact go rfl (.lst h)
 | frz h=>exact go rfl (.frz h)
 | tup h=>exact go rfl (.tup h)
 | dK h=>exact go rfl (.dK h)
 | dT h=>exact go rfl (.dT h)
 | ins h cl ha hn ht hm=>exact absurd hm (by simp [PySem.W.mroIn,PySem.W.clsIn])
theorem It.weak{J':It}{tn:Nat->Heap->Prop}(t:Turn P w K tg J fp it tn)(g:∀ i H,J'.go i H->J.go i H)(y:∀ i H x H',J.yld i H x H'->J'.yld i H x H')(d:∀ i H,J'.stop i H->J.stop i H):Turn P w K tg J' fp it tn:=
 ⟨t.mem,t.obj,t.keep,fun X hP hw hK hc i pins s σ H E I hf st hg=>ib (t.item X hP hw hK hc i pins s σ H E I hf st (g i H hg)) (fun r s1 ⟨u,e,q⟩=>⟨u,e,ib q (fun _ s2 ⟨x,H',I',rx,yy,z⟩=>⟨x,H',I',rx,y i H x H' yy,z⟩) fun _ _ h=>h⟩) fun _ _ h=>h,
  fun X hP hw hK hc i pins s σ H E I hf st hg=>t.done X hP hw hK hc i pins s σ H E I hf st (d i H hg),t.self⟩
theorem bW{l:Expr}(hl:PE X l tl):PI X tg l (Um N0 tl):=by
 intro pins s σ H R I h;refine thn (hl pins s σ H _ I h) fun v s1 ⟨x,H1,I1,r1,a,e,⟨xs,hq⟩,q⟩=>?_;subst e;cases r1;obtain ⟨its,rv,p,hz⟩:=I1.tuple hq.up;refine wpAny_pyIter_tuple (show s1.heap.IsTuple a its.toArray from p) ?_;refine⟨s1.heap.objs.size,[s1.heap.objs.size],_,_,H1,rfl,I1.kept (t':=s1.toks) fun b o e=>av _ e,It.weak (J':=Itt N0 a) (vG a _) (fun i H ⟨xs,x,h,e⟩=>⟨xs,x,h.up,e⟩) (fun i H x H' ⟨e,h⟩=>⟨e,fun xs h'=>h xs h'.up⟩) (fun i H ⟨xs,h,l⟩=>⟨xs,h.up,l⟩),⟨_,bb _ rfl,rfl,rfl⟩,fun b hb=>?_,q⟩;have e:b=s1.heap.objs.size:=by simpa using hb
 subst e;exact I1.lV (ai _) ‹41›
theorem gO{l:Expr}(hl:PE X l tl):PI X tg l (Qh N0 tl):=by
 intro pins s σ H R I h;refine thn (hl pins s σ H _ I h) fun v s1 ⟨x,H1,I1,r1,a,e,⟨xs,hq⟩,q⟩=>?_;subst e;cases r1;obtain ⟨its,rv,p,hz⟩:=I1.list hq.up;refine i5 p.isList ?_;refine⟨s1.heap.objs.size,[s1.heap.objs.size],_,_,H1,rfl,I1.kept (t':=s1.toks) fun b o e=>av _ e,It.weak (J':=Itl N0 a) (sV a _) (fun i H ⟨xs,x,h,e⟩=>⟨xs,x,h.up,e⟩) (fun i H x H' ⟨e,h⟩=>⟨e,fun xs h'=>h xs h'.up⟩) (fun i H ⟨xs,h,l⟩=>⟨xs,h.up,l⟩),⟨_,bb _ rfl,rfl,rfl⟩,fun b hb=>?_,q⟩;have e:b=s1.heap.objs.size:=by simpa using hb
 subst e;exact I1.lV (ai _) ‹41›
theorem qd{es:List Expr}{k:Nat}{t:TGs}(hc:X.calm=true)(h:PGs X es t)
  (hn:(JS es X.env).length=n:=by rfl) (hst:(JS es X.env).findIdx? (·.1)=none:=by rfl):PG X (.Tuple es k pos) (NP N0 n t):=
 fun pins s σ H v u Q I r ⟨a,xs,e1,hq,l,q⟩=>JZ hc h hn hst pins s σ H v u Q I r ⟨a,xs,e1,hq.up,l,q⟩
end
end L2
end
section
namespace K09
open PySem PyProof.Rows L2
variable {H:Hp}{e q:ut}{es:LS}{r:Str × LS}{v:V}{α:Type}
section
variable {P:uC}{w:ww}{K:PySem.W.Frag}{mg:MG}{base:Heap}{t:Adr}
inductive GQ (vs:LV) (H:Hp) (Q:VK) (E_:XK):Prop
 | mk (x:Str) (rl:ut) (us:LV) (rows:LL):vs=[.str x,.ref rl]->H rl=some (.lst us)->jX H us rows->tot rows<=1000->rows.length<=1000->(∀(v:V) (r:Option LS) H',Mg (full rows) r->Uk H' x r v->Same H H'->Q v H')->GQ vs H Q E_
theorem vR(D:Defs K mg t):cA P w K mg base CX0 1 t.gb.1 t.gb.2 ["_law_kind","_law_rows"] GQ:=by
 exists 5;refine D.gb.fn.ok gD ‹7› ‹1›
 ·obtain ⟨x,rl,us,rows,rfl,_⟩:=h;rfl
 ·obtain ⟨x,rl,us,rows,rfl,hrl,rt,htot,hlen,k⟩:=h;have hul:us.length=rows.length:=cE rt
  refine⟨_,(aB (aM (i:=2) gD.nd rfl (uA rfl) (cN ‹36›))
   (aB (aM (i:=1) gD.nd rfl (Mm rfl) (bI rfl (Wf ["_law_row_here"] [] ["_law_row_here"] (aG (top 39)) ["_law_kind","_law_rows","_law_order","_law_good"] rfl rfl ‹5›) ⟨fun _ _ _ _ _=>(aN (i:=0) (show List.Nodup [("_law_row_here" : Str)] by decide +kernel) rfl ‹24› ‹17›),fun _ _ _ _ _=>(jJ (aY n6 ‹15› aC (bh _))),fun _ _ _ _ _=>(bG qQ (by rfl) D.yV uZ ‹36›)⟩ (gO (pv 1))))
   (aB (pO dP (aY (Le rfl hr.yO) (pv 1) (cN aq) (bh _))
   (aB (aM (i:=3) gD.nd rfl (Mm rfl) (bI rfl (Wf ["_law_row_here"] [1] ["_law_row_here","_law_rows"] (aG (top 39)) ["_law_kind","_law_rows","_law_order","_law_good"] rfl rfl ‹5›) ⟨fun _ _ _ _ _=>(aN (i:=0) (show List.Nodup [("_law_row_here" : Str),("_law_rows" : Str)] by decide +kernel) rfl (Mm (jY rfl)) (.inl rfl)),fun _ _ _ _ _=>(jJ (cL (bZ (aH (Dv (K:=K) rfl rfl) (by rfl) D.P0 Kc (aj (bI rfl (aK.of2 ["_law_other"] [0] ["_law_other","_law_row_here"] ["_law_row_here","_law_rows"] rfl rfl ‹5›) ⟨fun _ _ _ _ _=>(aN (i:=0) (show List.Nodup [("_law_other" : Str),("_law_row_here" : Str)] by decide +kernel) rfl ‹24› ‹17›),fun _ _ _ _ _=>bJ,fun _ _ _ _ _=>(dO zu (aP bN (pv 1) aC ‹3›) (aZ sI (pv 0) (bC aC) bB) ‹29›)⟩ (gO (pv 1))) aq))))),fun _ _ _ _ _=>(aP bN (pv 0) aC ‹3›)⟩ (gO (pv 1))))
   (aB (bO (aY (Rp rfl hr.yO) (pv 3) (cN aq) (bh _))
   (aF (aL jR))
   aU)
   (aB (kI (pB fT gT gX iz (pv 2) (aj (aP bN (pv 3) aC ‹3›) aq)))
   (aB (aM (i:=1) gD.nd rfl (Mm rfl) (bI rfl (Wf ["_law_row_here"] [3] ["_law_row_here","_law_good"] (aG (top 39)) ["_law_kind","_law_rows","_law_order","_law_good"] rfl rfl ‹5›) ⟨fun _ _ _ _ _=>(aN (i:=0) (show List.Nodup [("_law_row_here" : Str),("_law_good" : Str)] by decide +kernel) rfl ‹24› ‹17›),fun _ _ _ _ _=>bJ,fun _ _ _ _ _=>(bI rfl (aK.of2 ["_law_one"] [1] ["_law_one","_law_good"] ["_law_row_here","_law_good"] rfl rfl ‹5›) ⟨fun _ _ _ _ _=>(aN (i:=0) (show List.Nodup [("_law_one" : Str),("_law_good" : Str)] by decide +kernel) rfl ‹24› ‹17›),fun _ _ _ _ _=>(jJ (aY yg (pv 0) (aP bN (pv 1) aC ‹3›) (bh _))),fun _ _ _ _ _=>(pv 0)⟩ (gO (pv 0)))⟩ (gO (pv 1))))
   (aF (aM (i:=1) gD.nd rfl (Mm rfl) (bI rfl (Wf ["_law_row_here"] [] ["_law_row_here"] (aG (top 39)) ["_law_kind","_law_rows","_law_order","_law_good"] rfl rfl ‹5›) ⟨fun _ _ _ _ _=>(aN (i:=0) (show List.Nodup [("_law_row_here" : Str)] by decide +kernel) rfl ‹24› ‹17›),fun _ _ _ _ _=>(jJ (aY (Le (K:=K) rfl hr.yO) (pv 0) (cN aq) (bh _))),fun _ _ _ _ _=>(pv 0)⟩ (gO (pv 1))))))))))
   (aF (aL (bG cB (by rfl) D.bY bK (aj (pv 2) aq))))))),?_⟩
  exists 18;refine⟨_,rfl,by show 1<=sizeLine; decide,fun ol hol=>?_⟩;have s0:Same H (upd H ol (.lst [.str x])):=We hol;refine⟨_,rfl,rl,rfl,⟨_,V6 (s0 rl _ hrl)⟩,fun D1 hD1=>?_⟩;have olD1:ol≠D1:=au ak hD1;have hD1H:H D1=none:=by rw [aA olD1.symm] at hD1; exact hD1
  refine bA (n:=us.length) (fun i ys H2=>H2 D1=some (.lst ys)/\oF H2 D1 ol ys (full (rows.take i))/\H2 ol=some (.lst [.str x])/\Same H H2)
   ⟨ak,.nil,by rw [aA olD1,ak],s0.trans (We hD1)⟩ ?_ ?_
  ·rintro ys H2 ⟨hD2,rl2,hol2,sm2⟩;rw [aw ‹26›] at rl2;refine⟨⟨_,V6 (sm2 rl _ hrl),ai _⟩,?_⟩
   refine⟨fun m σ H3=>∃(zs:LV) (rows3:LL) (os:LS) (r3:ut) (v3:OV),σ=[some (.str x),some (.ref r3),some (.ref ol),v3]/\H3 r3=some (.lst zs)/\qF H3 ol zs rows3/\r3≠ol/\full rows3=rows3/\H3 ol=some (.lst ((x::os).map V.str))/\m=tot rows3/\os.length+tot rows3<=1000/\
    (∀ r,Mg rows3 r->Mg (full rows) (r.map (os++·)))/\Same H H3,⟨_,ys,full rows,[],D1,_,rfl,hD2,rl2.x,olD1.symm,?_,hol2,rfl,by rw [su]; show 0+_<=_; omega,fun r h=>?_,sm2⟩,?_⟩
   ·unfold full;rw [List.filter_filter];simp
   ·have:r.map (([]:LS)++·)=r:=by cases r <;> rfl
    rw [this];exact h
   rintro m σ H3 ⟨zs,rows3,os,r3,v3,rfl,hr3,rl3,r3o,hf3,hol3,rfl,hb3,mg3,sm3⟩;have hzl:zs.length=rows3.length:=cE rl3;have hrl3:rows3.length<=tot rows3:=by have:=pK rows3; rwa [hf3] at this
   refine⟨_,rfl,dk _,fun e0 he0=>⟨r3,e0,zs,rfl,rfl,V6 (by rw [aA (au hr3 he0)]; exact hr3),V6 ak,_,rfl,?_⟩⟩;have s4:Same H3 (upd H3 e0 (.lst [])):=We he0;cases hzs:zs with
   | nil=>
    subst hzs
    have e3:rows3=[]:=by
     cases rows3 with
     | nil=>rfl
     | cons _ _=>rw [nI,dA] at hzl; omega
    subst e3;refine bT ⟨_,rfl,ol,_,rfl,.inl ⟨V6 (s4 ol _ hol3),fun q hq=>?_⟩⟩;refine k (.ref q) (some os) _ ?_ ⟨q,rfl,ak⟩ ((sm3.trans s4).trans (We hq));have:=mg3 _ .nil;simpa using this
   | cons z0 zr=>
    have hne:rows3≠[]:=fun e=>by rw [e,hzs] at hzl; simp at hzl
    rw [<- hzs];have hb:(!zs.isEmpty)=true:=by rw [hzs]; rfl
    rw [hb];clear hzs hb z0 zr
    refine bM ⟨fun σ' H'=>∃ m',m' < tot rows3/\∃(zs:LV) (rows3:LL) (os:LS) (r3:ut) (v3:OV),σ'=[some (.str x),some (.ref r3),some (.ref ol),v3]/\H' r3=some (.lst zs)/\qF H' ol zs rows3/\r3≠ol/\full rows3=rows3/\H' ol=some (.lst ((x::os).map V.str))/\m'=tot rows3/\os.length+tot rows3<=1000/\
     (∀ r,Mg rows3 r->Mg (full rows) (r.map (os++·)))/\Same H H',fun σ' H' h=>h,?_⟩
    have hnz:∀ r∈rows3,∃ y r',r=y::r':=fun r hr=>by
     rw [<- hf3] at hr;have:=(dC.mp hr).2;cases r with
     | nil=>cases this
     | cons y r'=>exact⟨y,r',rfl⟩
    generalize upd H3 e0 (.lst [])=H4 at s4;have rl4:=rl3.mono s4;have hr4:=s4 r3 _ hr3;refine⟨_,rfl,r3,rfl,⟨_,V6 hr4⟩,fun D2 hD2=>?_⟩;refine bA (n:=zs.length) (fun i ys H5=>ys=((rows3.take i).flatMap (freeOf rows3)).map V.str/\H5 D2=some (.lst ys)/\Same H4 H5) ⟨rfl,ak,We hD2⟩ ?_ ?_
    ·rintro ys' H5 ⟨rfl,hD5,sm5⟩;rw [aw ‹26›] at hD5;refine⟨⟨_,V6 (sm5 r3 _ hr4),ai _⟩,?_⟩;have hD5:H5 D2=some (.lst ((frees rows3).map V.str)):=hD5;refine⟨_,rfl,dk _,fun e1 he1=>⟨D2,e1,_,rfl,rfl,V6 (by rw [aA (au hD5 he1)]; exact hD5),V6 ak,_,rfl,?_⟩⟩;have s6:Same H5 (upd H5 e1 (.lst [])):=We he1;generalize upd H5 e1 (.lst [])=H6 at s6;have sm6:Same H4 H6:=sm5.trans s6;have hD6:=s6 D2 _ hD5;cases hfr:frees rows3 with
     | nil=>
      refine bM ?_;have:=mg3 none (.stuck hne hfr);exact k .non none H6 this rfl ((sm3.trans s4).trans sm6)
     | cons x1 more=>
      rw [hfr] at hD6;refine bT ?_;have hx1:x1∈frees rows3:=by rw [hfr]; exact bn
      obtain ⟨r1,hr1,hh1⟩:=sZ hx1
      have hx1r:x1∈r1:=by
       cases r1 with
       | nil=>cases hh1
       | cons y r'=>
        cases hh1;exact bn
      have hol6:=sm6 ol _ (s4 ol _ hol3);have hr6:=sm6 r3 _ hr4;refine⟨_,rfl,.inl ⟨rfl,_,V6 hol6⟩,_,rfl,D2,_,_,_,rfl,rfl,V6 hD6,at0 x1 more,ol,_,.str x1,rfl,rfl,hol6,by rw [aa,dA]; omega,?_⟩;have eol:(x::os).map V.str++[V.str x1]=(x::(os++[x1])).map V.str:=by rw [de,de,aI]; rfl
      rw [eol]
      have oD:ol≠D2:=fun e=>by
       have h1:=hD2;rw [<- e,s4 ol _ hol3] at h1;cases h1
      have kp7:∀ b u,b≠ol->H6 b=some u->(upd H6 ol ‹30›) b=some u:=fun b u hb e=>by rw [aA hb]; exact e
      have sm7:Same H (upd H6 ol ‹30›):=fun b u e=>kp7 b u (au e hol) (sm6 b u (s4 b u (sm3 b u e)))
      have rl7:∀ i (hi:i < zs.length),∃(a:ut) (hr:i < rows3.length),zs[i]?=some (.ref a)/\(upd H6 ol ‹30›) a=some (.lst (rows3[i].map V.str)):=fun i hi=>by
       obtain ⟨a,hr',e,n,q⟩:=(rl4.mono sm6).get hi;exact⟨a,hr',e,kp7 a _ n q⟩
      have hol7:(upd H6 ol ‹30›) ol=some (.lst ((x::(os++[x1])).map V.str)):=ak;have hr7:=kp7 r3 _ r3o hr6;have hD7:=kp7 D2 _ oD.symm hD6;generalize upd H6 ol ‹30›=H7 at kp7 sm7 rl7 hol7 hr7 hD7;have hlt:=rC (x:=x1) ⟨r1,hr1,hx1r⟩;refine⟨_,rfl,r3,rfl,⟨_,V6 hr7⟩,fun D4 hD4=>?_⟩;refine bA (n:=zs.length) (fun i ys H8=>H8 D4=some (.lst ys)/\oF H8 D4 ol ys ((rows3.take i).map (cJ x1))/\Same H7 H8) ⟨ak,.nil,We hD4⟩ ?_ ?_
      ·rintro ys8 H8 ⟨hD8,ry8,sm8⟩;rw [aw ‹26›] at ry8;refine⟨⟨_,V6 (sm8 r3 _ hr7),ai _⟩,?_⟩;have hy8:ys8.length=rows3.length:=by rw [cE ry8,aa]
       refine⟨_,rfl,D4,rfl,⟨_,V6 hD8⟩,fun D6 hD6'=>?_⟩;have rx8:=ry8.x;refine bA (n:=ys8.length) (fun i ys H9=>H9 D6=some (.lst ys)/\oF H9 D6 ol ys (full ((rows3.map (cJ x1)).take i))/\Same H8 H9) ⟨ak,.nil,We hD6'⟩ ?_ ?_
       ·rintro ys9 H9 ⟨hD9,ry9,sm9⟩;rw [aw (by rw [aa]; omega)] at ry9;refine⟨⟨_,V6 (sm9 D4 _ hD8),ai _⟩,?_⟩;have sm89:=sm8.trans sm9;refine⟨tot (full (rows3.map (cJ x1))),by rw [su]; exact hlt,ys9,full (rows3.map (cJ x1)),os++[x1],D6,_,rfl,hD9,ry9.x,?_,?_,sm89 ol _ hol7,rfl,?_,fun r h=>?_,sm7.trans sm89⟩
        ·intro e;rw [e] at hD9;rw [sm89 ol _ hol7] at hD9;injection hD9 with hD9;injection hD9 with hD9;cases ys9 with
         | nil=>cases hD9
         | cons y9 _=>
          obtain ⟨a9,_,e9,_⟩:=ry9.x.get (i:=0) ‹45›;injection hD9 with h9 _;rw [<- h9] at e9;cases e9
        ·unfold full;rw [List.filter_filter];simp
        ·rw [su,bX,eQ];omega
        ·have h1:=mg3 _ (.step hfr h);rw [Option.map_map] at h1
         have:((fun x=>os++x) ∘ fun x=>x1::x)=fun x=>os++[x1]++x:=by
          funext z;simp
         rw [this] at h1;exact h1
       ·rintro i ys9 H9 hi ⟨hD9,ry9,sm9⟩;obtain ⟨a,hir,ea,_,ha⟩:=(rx8.mono sm9).get hi;refine⟨⟨_,_,V6 (sm9 D4 _ hD8),ea⟩,?_⟩;rintro yv H10 ⟨rfl,yy⟩ σo ho;obtain ⟨oo,rfl⟩:=own1 ho;have ey:=yy _ (V6 (sm9 D4 _ hD8));rw [ea] at ey;cases ey
        have hys:ys9.length<=1000:=by
         rw [cE ry9];refine cS (fe _ _) ?_;rw [bc,aa];omega
        refine⟨‹13›,_,rfl,dk _,fun e2 he2=>⟨a,e2,_,rfl,rfl,V6 (by rw [aA (au ha he2)]; exact ha),V6 ak,_,rfl,?_⟩⟩;have s10:Same H10 (upd H10 e2 (.lst [])):=We he2
        have hb:(!(((rows3.map (cJ x1))[i]).map V.str).isEmpty)=!((rows3.map (cJ x1))[i]).isEmpty:=by
         cases (rows3.map (cJ x1))[i] <;> rfl
        rw [hb];cases he:((rows3.map (cJ x1))[i]).isEmpty with
        | true=>
         refine bT (aW hi ⟨s10 D6 _ hD9,?_,sm9.trans s10⟩);rw [take_snoc hir,qj,dE he,gu];exact ry9.mono s10
        | false=>
         have aD6:a≠D6:=fun e=>by
          have:=hD6';obtain ⟨a',_,ea',_,ha'⟩:=rx8.get hi;rw [ea] at ea';cases ea';rw [<- e,ha'] at this;cases this
         have ao:a≠ol:=by
          obtain ⟨a',_,ea',n',_⟩:=rx8.get hi;rw [ea] at ea';cases ea';exact n'
         refine bM ⟨_,rfl,by omega,s10 D6 _ hD9,aW hi ⟨ak,?_,fun b u e=>?_⟩⟩
         ·rw [take_snoc hir,qj,cK (by rw [he]; exact aS)];exact dY (ry9.grow s10) ⟨a,rfl,aD6,ao,by rw [aA aD6]; exact s10 a _ ha⟩
         ·rw [aA (au e hD6')];exact s10 b _ (sm9 b _ e)
      ·rintro i ys8 H8 hi ⟨hD8,ry8,sm8⟩;obtain ⟨a,hir,ea,ha⟩:=rl7 i hi;have ha8:=sm8 a _ ha;refine⟨⟨_,_,V6 (sm8 r3 _ hr7),ea⟩,?_⟩;rintro yv H9 ⟨rfl,yy⟩ σo ho;obtain ⟨oo,rfl⟩:=own1 ho;have ey:=yy _ (V6 (sm8 r3 _ hr7));rw [ea] at ey;cases ey
       have hys:ys8.length<=1000:=by
        rw [cE ry8,aa,bc];omega
       refine⟨‹13›,cg ⟨_,rfl,a,rfl,⟨_,V6 ha8⟩,fun D5 hD5'=>?_⟩⟩;have s9:∀ o,Same H9 (upd H9 D5 o):=fun o=>We hD5';have D54:D5≠D4:=fun e=>by rw [e,hD8] at hD5'; cases hD5'
       have D5o:D5≠ol:=fun e=>by rw [e,sm8 ol _ hol7] at hD5'; cases hD5'
       have hrl1:(rows3[i]).length<=1000:=by
        have:=vm (bS hir);omega
       refine bA (n:=((rows3[i]).map V.str).length) (fun j ys5 H10=>ys5=(cJ x1 ((rows3[i]).take j)).map V.str/\H10=upd H9 D5 (.lst ys5)) ⟨rfl,rfl⟩ ?_ ?_
       ·rintro ys5 H10 ⟨rfl,rfl⟩;rw [aw (by rw [aa]; exact ai _)];refine⟨⟨_,V6 (s9 _ a _ ha8),ai _⟩,by omega,s9 _ D4 _ hD8,aW hi ⟨ak,?_,fun b u e=>?_⟩⟩
        ·rw [take_snoc hir,aI];exact dY (ry8.grow (s9 _)) ⟨D5,rfl,D54,D5o,by rw [aA D54,ak]⟩
        ·rw [aA (au e hD4)];exact s9 _ b _ (sm8 b _ e)
       ·rintro j ys5 H10 hj ⟨rfl,rfl⟩;have hj':j < (rows3[i]).length:=by rw [aa] at hj; exact hj
        have ej:((rows3[i]).map V.str)[j]?=some (.str (rows3[i])[j]):=by rw [bg,ae hj']; rfl
        refine⟨⟨_,_,V6 (s9 _ a _ ha8),ej⟩,?_⟩;rintro y5 H11 ⟨rfl,yy⟩ σo5 ho5;obtain ⟨o5,rfl⟩:=own1 ho5;have ey:=yy _ (V6 (s9 _ a _ ha8));rw [ej] at ey;cases ey
        have eout:cJ x1 ((rows3[i]).take (j+1))=cJ x1 ((rows3[i]).take j)++(if decide ((rows3[i])[j]≠x1)=true then [(rows3[i])[j]] else []):=by
         unfold cJ;rw [take_snoc hj',iS];congr 1;rw [fz];rfl
        have hl5:((cJ x1 ((rows3[i]).take j)).map V.str).length<=1000:=by
         rw [aa];have h1:=yK x1 ((rows3[i]).take j);rw [bc] at h1;omega
        refine⟨‹13›,_,rfl,_,rfl,D2,_,_,_,rfl,rfl,V6 (s9 _ D2 _ (sm8 D2 _ hD7)),at0 x1 more,rfl,_,rfl,gH ‹44› ‹44›⟩
        ·have hb:(rows3[i])[j]≠x1:=by
          intro e;rw [e] at hb;simp at hb
         refine⟨_,rfl,by omega,ak,aW hj ‹42›⟩;rw [eout,dE (bo hb),aI];rfl
        ·have hb:(rows3[i])[j]=x1:=fb fun e=>hb (by
          show (!decide (V.str (rows3[i])[j]=V.str x1))=true;rw [bE (by intro z; injection z with z; exact e z)];rfl)
         refine aW hj ⟨?_,rfl⟩;rw [eout,cK (by simpa using hb),gu]
    ·rintro i ys' H5 hi ⟨rfl,hD5,sm5⟩;obtain ⟨a,hir,ea,_,ha⟩:=(rl4.mono sm5).get hi;obtain ⟨y0,r0,er0⟩:=hnz rows3[i] (bS hir);rw [er0] at ha;refine⟨⟨_,_,V6 (sm5 r3 _ hr4),ea⟩,?_⟩;rintro yv H6 ⟨rfl,yy⟩ σo ho;obtain ⟨oo,rfl⟩:=own1 ho;have ey:=yy _ (V6 (sm5 r3 _ hr4));rw [ea] at ey;cases ey;refine⟨‹13›,_,rfl,r3,rfl,⟨_,V6 (sm5 r3 _ hr4)⟩,fun D3 hD3=>?_⟩;refine bA (n:=zs.length) (fun i3 bs H7=>bs=((rows3.take i3).map fun o=>decide (y0∈o.drop 1)).map V.bl/\H7 D3=some (.lst bs)/\Same H6 H7) ⟨rfl,ak,We hD3⟩ ?_ ?_
     ·rintro bs H7 ⟨rfl,hD7,sm7⟩;rw [aw ‹26›] at hD7;refine⟨⟨_,V6 (sm7 r3 _ (sm5 r3 _ hr4)),ai _⟩,D3,_,rfl,V6 hD7,_,rfl,?_⟩
      have eany:(rows3.map fun o=>decide (y0∈o.drop 1)).any id=cY rows3 y0:=by
       unfold cY;rw [List.any_map];rfl
      rw [eany]
      have efr:((rows3.take (i+1)).flatMap (freeOf rows3))=((rows3.take i).flatMap (freeOf rows3))++(if cY rows3 y0=true then [] else [y0]):=by
       rw [take_snoc hir,nh,List.flatMap_singleton,er0];rfl
      have hlen:(((rows3.take i).flatMap (freeOf rows3)).map V.str).length<=1000:=by
       rw [aa];have h1:=Bm rows3 (rows3.take i);rw [bc] at h1;omega
      cases hh:cY rows3 y0 with
      | true=>
       refine bT (aW hi ⟨?_,sm7 D2 _ hD5,sm5.trans sm7⟩);rw [efr,hh,dE rfl,gu]
      | false=>
       refine bM ⟨_,rfl,a,_,_,_,rfl,rfl,V6 (sm7 a _ ha),at0 y0 r0,by omega,sm7 D2 _ hD5,aW hi ⟨?_,ak,fun b u e=>?_⟩⟩
       ·rw [efr,hh,cK aS,aI];rfl
       ·rw [aA (au e hD2)];exact sm7 b _ (sm5 b _ e)
     ·rintro i3 bs H7 hi3 ⟨rfl,hD7,sm7⟩;obtain ⟨a3,hir3,ea3,_,ha3⟩:=((rl4.mono sm5).mono sm7).get hi3;refine⟨⟨_,_,V6 (sm7 r3 _ (sm5 r3 _ hr4)),ea3⟩,?_⟩;rintro y3 H8 ⟨rfl,yy⟩ σo3 ho3;obtain ⟨o3,rfl⟩:=own1 ho3;have ey:=yy _ (V6 (sm7 r3 _ (sm5 r3 _ hr4)));rw [ea3] at ey;cases ey;refine⟨‹13›,cg ⟨_,rfl,a,_,_,_,rfl,rfl,V6 (sm7 a _ ha),at0 y0 r0,_,rfl,_,rfl,a3,_,rfl,V6 ha3,fun q hq=>⟨q,_,rfl,.inl (V6 ak),rfl,by rw [N6]; exact jg _,by rw [aa,aa,bc]; omega,by rw [aA (au hD7 hq)]; exact hD7,aW hi3 ⟨?_,ak,fun b u e=>?_⟩⟩⟩⟩
      ·show _++[V.bl (inV (.str y0) (eF ((rows3[i3]).map V.str) (some 1) none))]=_;rw [N6,iI,take_snoc hir3,aI,aI];rfl
      ·rw [aA (au e hD3),aA (au (sm7 b _ e) hq)];exact sm7 b _ e
  ·rintro i ys H2 hi ⟨hD2,rl2,hol2,sm2⟩;obtain ⟨a,hir,ea,ha⟩:=(rt.mono (V9 sm2)).get hi;refine⟨⟨_,_,V6 (sm2 rl _ hrl),ea⟩,?_⟩;rintro y H3 ⟨rfl,yy⟩ σo ho;exists 15;have ey:=yy _ (V6 (sm2 rl _ hrl));rw [ea] at ey;cases ey
   have hys:ys.length<=1000:=by
    rw [cE rl2];have:=pK (rows.take i);refine cS (fe _ _) ?_;rw [bc];omega
   refine⟨‹13›,_,rfl,a,_,rfl,.inr (V7 ha),_,_,rfl,rfl,_,rfl,gH ‹44› ‹44›⟩
   ·refine⟨_,rfl,a,_,rfl,.inr (V7 ha),fun l hl=>?_⟩;have sl:∀ o,Same H3 (upd H3 l o):=fun o=>We hl;have lD:l≠D1:=fun e=>by rw [e,hD2] at hl; cases hl
    have lo:l≠ol:=fun e=>by rw [e,hol2] at hl; cases hl
    refine⟨by omega,sl _ D1 _ hD2,aW hi ⟨ak,?_,?_,?_⟩⟩
    ·have hne:¬ (rows[i]).isEmpty=true:=fun e=>by
      have hb:decide ((0:Int) < (((rows[i]).map V.str).length:Int))=true:=hb;have:=eA hb;rw [List.isEmpty_iff.mp e] at this;simp at this
     rw [take_snoc hir,qj,cK hne];exact dY (rl2.grow (sl _)) ⟨l,rfl,lD,lo,by rw [aA lD,ak]⟩
    ·rw [aA olD1];exact sl _ ol _ hol2
    ·intro b o' e;rw [aA (au e hD1H)];exact sl _ b _ (sm2 b _ e)
   ·have he:(rows[i]).isEmpty=true:=by
     have hb:¬ decide ((0:Int) < (((rows[i]).map V.str).length:Int))=true:=hb;rw [decide_eq_true_iff,aa] at hb;exact List.isEmpty_iff_length_eq_zero.mpr ‹26›
    refine aW hi ⟨hD2,?_,hol2,sm2⟩;rw [take_snoc hir,qj,dE he,gu];exact rl2
end
section
variable {P:uC}{w:ww}{K:PySem.W.Frag}{mg:MG}{base:Heap}{t:Adr}
inductive JQ (vs:LV) (H:Hp) (Q:VK) (E_:XK):Prop
 | mk (p:ut) (n:Int):vs=[.ref p,.int n]->Pu H p->0 < n->n < 1606938044258990275541962092341162602522202993782792835301376->(∀(r a b c:Int),0<=r->r < n->Q (.int r) (upd H p (.lst [.int a,.int b,.int c])))->JQ vs H Q E_
theorem gM(D:Defs K mg t):cA P w K mg base CX0 1 t.aV.1 t.aV.2 ["_law_purse_here","_law_many"] JQ:=by
 refine D.aV.fn.ok nR ‹7› ‹1›
 ·obtain ⟨p,n,rfl,_⟩:=h;rfl
 ·obtain ⟨p,n,rfl,⟨a,b,c,hp⟩,h0,h1,k⟩:=h
  refine⟨_,(aB (qY (aR cV (aP bN (pv 0) aC ‹3›) aC) (tY (pv 0) aC set_list))
   (aB (aM (i:=2) nR.nd rfl (uA rfl) (aP bN (pv 0) aC ‹3›))
   (aB (qY (aR qW (aR cV (aR oK (pv 2) (aR cV (aR qW (pv 2) aC) aC)) (aR oK aC (aP bN (pv 0) aC ‹3›))) aC) (tY (pv 0) aC set_list))
   (aB (bO (aY n6 (aP bN (pv 0) aC ‹3›) aC (bh _))
   (aB (aM (i:=3) nR.nd rfl (uA rfl) (aR qW (aP bN (pv 0) aC ‹3›) (pv 1)))
   (aB (qY (aR KY (aP bN (pv 0) aC ‹3›) (pv 1)) (tY (pv 0) aC set_list))
   (aF (aL (pv 3)))))
   aU)
   (aF (aL (aR qW (aR Oh (aP bN (pv 0) aC ‹3›) aC) (pv 1)))))))),?_⟩
  refine⟨_,rfl,p,_,_,_,rfl,rfl,V6 hp,rfl,_,_,rfl,rfl,_,rfl,p,_,_,2,rfl,rfl,hp,rfl,?_⟩;refine⟨_,rfl,p,_,_,_,rfl,rfl,V6 ak,rfl,?_⟩
  refine⟨_,rfl,_,rfl,_,_,rfl,rfl,(by show (0:Int) < 46337; decide),_,_,rfl,rfl,_,_,rfl,rfl,.inr ⟨?_,?_⟩,_,rfl,p,_,_,_,rfl,rfl,V6 ak,rfl,_,_,rfl,rfl,.inl ⟨by decide,by decide⟩,_,_,rfl,rfl,_,_,rfl,rfl,
   (by show (0:Int) < 2147483587; decide),_,rfl,p,_,_,0,rfl,rfl,ak,rfl,?_⟩
  ·have:=qE a (show (46337:Int)≠0 by decide);omega
  ·have:=nX a (show (0:Int) < 46337 by decide);omega
  rw [cX];refine⟨_,rfl,p,_,_,_,rfl,rfl,V6 ak,rfl,_,_,rfl,rfl,_,rfl,gH ‹44› ‹44›⟩
  ·refine⟨_,rfl,p,_,_,_,rfl,rfl,V6 ak,rfl,_,rfl,_,_,rfl,rfl,h0,_,rfl,p,_,_,_,rfl,rfl,V6 ak,rfl,_,rfl,_,_,rfl,rfl,⟨h0,h1⟩,_,rfl,p,_,_,1,rfl,rfl,ak,rfl,_,rfl,?_⟩;rw [cX];exact k _ _ _ _ (qE _ ‹26›) (nX _ h0)
  ·refine⟨_,rfl,p,_,_,_,rfl,rfl,V6 ak,rfl,_,_,rfl,rfl,⟨by decide,by decide⟩,_,rfl,_,_,rfl,rfl,h0,?_⟩;exact k _ _ _ _ (qE _ ‹26›) (nX _ h0)
inductive FN (vs:LV) (H:Hp) (Q:VK) (E_:XK):Prop
 | mk (n:Int):vs=[.int n]->(∀(p:ut) (a b c:Int),H p=none->Q (.ref p) (upd H p (.lst [.int a,.int b,.int c])))->FN vs H Q E_
theorem Mz(D:Defs K mg t):cA P w K mg base CX0 1 t.gW.1 t.gW.2 ["_law_cell_here"] FN:=by
 refine D.gW.fn.ok lZ ‹7› ‹1›
 ·obtain ⟨n,rfl,_⟩:=h;rfl
 ·obtain ⟨n,rfl,k⟩:=h
  refine⟨_,(aB (aM (i:=1) lZ.nd rfl (uA rfl) aC)
   (mL (bO (V5 (gK (aY vP (pv 0) aC (bh _)) (gk (aY Mp (pv 0) (aR Dr aC aC) (bh _)))))
   (aF (aM (i:=1) lZ.nd rfl (uA rfl) (aH Jd (by rfl) D.S7 QS ‹36›)))
   aU)
   (aF (aL (cN (aj (aR qW (pv 0) aC) (aj (pv 1) (aj aC aq)))))))),?_⟩
  refine⟨fun σ' H'=>∃ d:Int,σ'=[some (.int n),some (.int d)]/\H'=H,?_,?_⟩
  ·refine⟨_,rfl,_,_,rfl,rfl,_,rfl,gH ‹44› ‹44›⟩
   ·exact bM ⟨_,rfl,_,rfl,_,rfl,rfl⟩
   ·refine⟨_,rfl,_,_,rfl,rfl,⟨by decide,by decide,by decide⟩,_,_,rfl,rfl,_,rfl,gH (fun hc=>?_) (fun hc=>?_)⟩
    ·exact⟨_,rfl,_,rfl,_,rfl,rfl⟩
    ·exact⟨_,rfl,rfl⟩
  ·rintro σ' H' ⟨d,rfl,rfl⟩;exact⟨_,rfl,_,_,rfl,rfl,(by show (0:Int) < 2147483587; decide),_,rfl,(by show 3<=sizeLine; decide),fun p hp=>k p _ _ _ hp⟩
inductive Jf (K:PySem.W.Frag) (vs:LV) (H:Hp) (Q:VK) (E_:XK):Prop
 | mk (a:ut) (ns:List Int) (k:Int):vs=[.ref a,.int k]->SqL K H a (ns.map V.int)->ns.length<=63->0<=k->k<=1000->(∀(n:Int) H',Same H H'->Q (.int n) H')->Jf K vs H Q E_
theorem Fj(D:Defs K mg t):cA P w K mg base CX0 1 t.ji.1 t.ji.2 ["_law_script","_law_k"] (Jf K):=by
 refine D.ji.fn.ok kj ‹7› ‹1›
 ·obtain ⟨a,ns,k,rfl,_⟩:=h;rfl
 ·obtain ⟨a,ns,k,rfl,hS,hl,h0,h1,q⟩:=h
  refine⟨_,(aB (bO (aY vP (pv 1) (aH nO (by rfl) D.cI bQ ‹36›) (bh _))
   (aF (aL (aP sH (pv 0) (pv 1) ‹3›)))
   aU)
   (aB (aM (i:=2) kj.nd rfl (uA rfl) (aR oK (aR oK aC (aR cV (pv 1) aC)) (aR cV (pv 1) aC)))
   (aB (fP dP rfl (GZ (aZ zU (pv 0) bB (bC aC))) (aN (i:=3) kj.nd rfl (uA rfl))
   (aF (aM (i:=2) kj.nd rfl (uA rfl) (aR qW (aR cV (aR oK (pv 2) aC) (pv 3)) aC))))
   (aF (aL (pv 2)))))),?_⟩
  refine⟨_,rfl,_,rfl,a,_,rfl,.inl hS,_,_,rfl,rfl,_,rfl,gH ‹44› ‹44›⟩
  ·have hk:k < (ns.map V.int).length:=eA hb;obtain ⟨v,e,m,_⟩:=wI h0 hk;obtain ⟨z,_,rfl⟩:=bu.mp m;exact⟨_,rfl,_,rfl,a,_,_,_,rfl,rfl,hS,e,q z H (V8 H)⟩
  ·refine⟨_,rfl,_,_,rfl,rfl,_,_,rfl,rfl,.inl ⟨by decide,by decide⟩,_,rfl,_,_,rfl,rfl,_,_,rfl,rfl,.inr ⟨by omega,by omega⟩,?_⟩
   refine⟨_,rfl,_,rfl,a,_,rfl,hS,fun p hp=>⟨p,rfl,⟨_,V6 ak⟩,rZ (K:=K) (a:=p) (xs:=eF (ns.map V.int) none (some 4)) (fun i σ H2=>∃(st:Int) (v:OV),σ=[some (.ref a),some (.int k),some (.int st),v]/\H2=upd H p (.lst (eF (ns.map V.int) none (some 4))))
    ⟨_,_,rfl,rfl⟩ (fun i σ H2 _ ⟨_,_,_,e⟩=>by rw [e]; exact V6 ak) ?_ ?_⟩⟩
   ·rintro i x σ H2 hi ⟨st,v,rfl,rfl⟩;have m:x∈ns.map V.int:=kg (gS (eI hi));obtain ⟨z,_,rfl⟩:=bu.mp m;exact⟨_,rfl,_,_,rfl,rfl,.inr ⟨by decide,by decide⟩,_,rfl,_,_,rfl,rfl,_,_,rfl,rfl,(by show (0:Int) < 2147483587; decide),_,_,rfl,rfl⟩
   ·rintro σ H2 ⟨st,v,rfl,rfl⟩;exact⟨_,rfl,q st _ (We hp)⟩
end
section
variable {P:uC}{w:ww}{K:PySem.W.Frag}{mg:MG}{base:Heap}{t:Adr}
inductive KJ (vs:LV) (H:Hp) (Q:VK) (E_:XK):Prop
 | mk (p u:ut) (us:LS):vs=[.ref p,.ref u]->Pu H p->H u=some (.lst (us.map V.str))->us.length<=25->(∀(x:Str) H',1<=x.length->x.length<=6->Lw x->¬ x∈us->Off p H H'->Pu H' p->Q (.str x) H')->KJ vs H Q E_
theorem O4(D:Defs K mg t):cA P w K mg base CX0 2 t.jk.1 t.jk.2 ["_law_purse_here","_law_used"] KJ:=by
 exists 13;exists 5;refine D.jk.fn.ok jr ‹7› ‹1›
 ·obtain ⟨p,u,us,rfl,_⟩:=h;rfl
 ·obtain ⟨p,u,us,rfl,hp,hu,hl,k⟩:=h;have up:u≠p:=hp.ne hu
  refine⟨_,(aB (aM (i:=2) jr.nd rfl (Mm rfl) dG)
   (aB (fP dP rfl (jG rfl D.nY (aj (aR cV aC ‹28›) aq)) (aN (i:=3) jr.nd rfl (uA rfl))
   (aF (aM (i:=2) jr.nd rfl (Mm rfl) (aR fY (pv 2) (aP Ef dG ‹28› ‹3›)))))
   (aB (bO (aY tQ (pv 2) (pv 1) ‹29›)
   (aF (aL (pv 2)))
   aU)
   (aB (j8 (i:=4) rfl jr.nd rfl (uA rfl) (Wf ["_law_a"] [1,2] ["_law_a","_law_used","_law_word_here"] (aG (top 36)) ["_law_purse_here","_law_used","_law_word_here","_law_k","_law_first"] rfl rfl ‹5›) ⟨fun _ _ _ _ _=>(aN (i:=0) (show List.Nodup [("_law_a" : Str),("_law_used" : Str),("_law_word_here" : Str)] by decide +kernel) rfl ‹24› ‹17›),fun _ _ _ _ _=>(jJ (aY tQ (aR fY (pv 0) (aZ lE (pv 2) bB (bC aC))) (pv 1) ‹29›)),fun _ _ _ _ _=>(pv 0)⟩ (Dw dG))
   (aF (aL (aR fY (aP bN (pv 4) aC ‹3›) (aZ lE (pv 2) bB (bC aC))))))))),?_⟩
  refine⟨_,rfl,p,6,rfl,hp,by decide,by decide,fun r2 a2 b2 c2 g0 g1=>⟨_,_,rfl,rfl,_,rfl,by omega,by omega,?_⟩⟩
  refine mC (lo:=0) (n:=(1+r2).toNat) (fun i σ H2=>∃(x:Str) (v:OV),σ=[some (.ref p),some (.ref u),some (.str x),v,none]/\x.length=i/\Lw x/\Off p H H2/\Pu H2 p)
   ⟨_,_,rfl,by decide,Lw.nil,Wc,Wg⟩ ?_ ?_
  ·rintro i σ H2 hi ⟨x,v,rfl,hx,xl,o2,p2⟩;refine⟨_,rfl,_,rfl,p,26,rfl,p2,by decide,by decide,fun r3 a3 b3 c3 f0 f1=>?_⟩;obtain ⟨cc,ec,_,_⟩:=wI (xs:=abc.cps.toList) f0 (by rw [fE,uW]; exact f1);refine⟨abc,_,cc,rfl,rfl,by decide +kernel,ec,_,_,rfl,rfl,?_,_,_,rfl,?_,xl.app (Lw.one (qU ec)),o2.trans Wc,Wg⟩
   ·show x.length+1<=sizeLine;omega
   ·rw [dF];show x.length+1=i+1;omega
  ·rintro σ' H' ⟨x,v,rfl,hx,xl,oh,ph⟩;have hx1:1<=x.length:=by omega
   have hx6:x.length<=6:=by omega
   have hu':H' u=some (.lst (us.map V.str)):=oh u _ up hu;refine⟨_,rfl,_,rfl,u,_,rfl,.inl (V6 hu'),rfl,jg us,_,rfl,gH ‹44› ‹44›⟩
   ·refine⟨_,rfl,k x H' hx1 ‹26› xl ?_ oh ph⟩;intro hm;have hb:(!inV (.str x) (us.map V.str))=true:=hb;rw [iI,bo hm] at hb;cases hb
   ·have s5:(ym x none (some 5)).length<=5:=Q9 x;refine⟨_,rfl,by decide +kernel,fun Dd hD=>?_⟩;have uD:u≠Dd:=au hu' hD
    have pD:p≠Dd:=by
     obtain ⟨a,b,c,e⟩:=ph;exact au e hD
    refine bA (n:=26) (fun i ys H2=>ys=((letters.take i).filter fun c=>decide (¬ (c++ym x none (some 5))∈us)).map V.str/\H2=upd H' Dd (.lst ys)) ⟨rfl,rfl⟩ ?_ ?_
    ·rintro ys H2 ⟨rfl,rfl⟩;refine⟨by show abc.cps.size<=26; rw [uW]; exact ai _,?_⟩;rw [show letters.take 26=letters from aw (by rw [uz]; exact ai _)];obtain ⟨c,hc,hn⟩:=Bt hl (ym x none (some 5));have hmem:c∈letters.filter fun c=>decide (¬ (c++ym x none (some 5))∈us):=dC.mpr ⟨hc,bo hn⟩;obtain ⟨d,rest,ed⟩:=mv (List.ne_nil_of_mem hmem);have hd:d∈letters.filter fun c=>decide (¬ (c++ym x none (some 5))∈us):=by rw [ed]; exact bn
     obtain ⟨hd1,hd2⟩:=dC.mp hd;refine⟨_,rfl,Dd,_,_,.str d,rfl,rfl,V6 ak,by rw [ed]; exact aJ (j:=0) rfl,_,rfl,_,rfl,x,rfl,by omega,_,_,rfl,rfl,?_,?_⟩
     ·rw [jM d hd1];omega
     ·refine k _ _ (by rw [dF,jM d hd1]; omega) ?_ ((Lw.letter hd1).app (xl.slice _ _)) (eA hd2) (oh.trans (Wd hD)) ?_
      ·rw [dF,jM d hd1];omega
      ·obtain ⟨a,b,c,e⟩:=ph;exact⟨a,b,c,by rw [aA pD]; exact e⟩
    ·rintro i ys H2 hi ⟨rfl,rfl⟩;refine⟨by show i < abc.cps.size; rw [uW]; exact hi,?_⟩;rintro y H3 ⟨rfl,c,ec,rfl⟩ σo ho;exists 15
     have el:letters[i]?=some ⟨#[c]⟩:=by
      have ec':abc.cps[i]?=some c:=ec;unfold letters;rw [bg,kG,ec'];rfl
     have et:letters.take (i+1)=letters.take i++[⟨#[c]⟩]:=by
      rw [jS,el];rfl
     have hlen:(((letters.take i).filter fun c=>decide (¬ (c++ym x none (some 5))∈us)).map V.str).length<=26:=by
      rw [aa];refine cS (fe _ _) ?_;rw [bc];omega
     refine⟨‹13›,_,rfl,_,rfl,_,rfl,x,rfl,by omega,_,_,rfl,rfl,(by show 1+_<=sizeLine; omega),_,rfl,u,_,rfl,.inl (V6 (by rw [aA uD]; exact hu')),rfl,jg us,_,rfl,gH ‹44› ‹44›⟩
     ·have hb:(!inV (.str (⟨#[c]⟩++ym x none (some 5))) (us.map V.str))=true:=hb;rw [iI] at hb;have hn:¬ ((⟨#[c]⟩:Str)++ym x none (some 5))∈us:=by simpa using hb
      refine⟨_,rfl,by omega,ak,aW hi ‹42›⟩;rw [et,iS,aI];congr 1;rw [fz,dE (bo hn)];rfl
     ·have hb:¬ (!inV (.str (⟨#[c]⟩++ym x none (some 5))) (us.map V.str))=true:=hb;rw [iI] at hb;have hn:((⟨#[c]⟩:Str)++ym x none (some 5))∈us:=by simpa using hb
      refine aW hi ⟨?_,rfl⟩;rw [et,iS];rw [show List.filter (fun c=>decide (¬ (c++ym x none (some 5))∈us)) [(⟨#[c]⟩:Str)]=[] by rw [fz,cK (by simpa using hn)]; rfl,gu]
end
section
variable {P:uC}{w:ww}{K:PySem.W.Frag}{mg:MG}{base:Heap}{t:Adr}
theorem qP(x:Str){n:Int}(h:1<=n):(ig x n).length<=x.length * n.toNat:=by
 unfold ig;rw [cK ‹26›];split
 ·have:1<=n.toNat:=by omega
  exact Nat.le_mul_of_pos_right _ ‹26›
 ·show (List.foldl (fun x1 x2=>x1++x2) #[] (List.replicate n.toNat x.cps)).size<=_;rw [size_rep,VB,Nat.mul_comm,Nat.zero_add];exact ai _
inductive Gu (vs:LV) (H:Hp) (Q:VK) (E_:XK):Prop
 | mk (p u:ut) (us:LS) (n:Int):vs=[.ref p,.int n,.ref u]->Pu H p->H u=some (.lst (us.map V.str))->0<=n->us.length+n.toNat<=25->(∀(l:ut) (ns:LS) H',H l=none->ns.length=n.toNat->ns.Nodup->(∀ x∈ns,¬ x∈us/\Nm x)->H' l=some (.lst ‹31›)->Off p H H'->Pu H' p->Q (.ref l) H')->Gu vs H Q E_
theorem uU{α:Type}{l:List α}{x:α}(h:l.Nodup)(hx:¬ x∈l):(l++[x]).Nodup:=by
 rw [i7];refine⟨h,by simp,fun a ha b hb e=>?_⟩;have:b=x:=by simpa using hb
 rw [e,this] at ha;exact hx ha
theorem zX(D:Defs K mg t):cA P w K mg base CX0 3 t.fZ.1 t.fZ.2 ["_law_purse_here","_law_many","_law_used"] Gu:=by
 exists 13;have Gaq:=@O4 P w K mg base t D;exists 5;refine D.fZ.fn.ok cQ ‹7› ‹1›
 ·obtain ⟨p,u,us,n,rfl,_⟩:=h;rfl
 ·obtain ⟨p,u,us,n,rfl,hp,hu,h0,h1,k⟩:=h;have up:u≠p:=hp.ne hu
  refine⟨_,(aB (aM (i:=3) cQ.nd rfl (uA rfl) ‹28›)
   (aB (aM (i:=4) cQ.nd rfl (uA rfl) (aD D.jk Gaq ‹2› (by rfl) (aj (pv 0) (aj (pv 2) aq))))
   (aB (aM (i:=5) cQ.nd rfl (uA rfl) (aD D.aV Ga ‹2› (by rfl) (aj (pv 0) (aj (aH jZ (by rfl) D.cI bQ (aj (pv 4) aq)) aq))))
   (aB (aM (i:=6) cQ.nd rfl (uA rfl) ‹28›)
   (aB (aM (i:=7) cQ.nd rfl (uA rfl) (cN aq))
   (aB (fP dP rfl (jG rfl D.nY (aj (pv 1) aq)) (aN (i:=8) cQ.nd rfl (uA rfl))
   (aB (aM (i:=9) cQ.nd rfl (uA rfl) (aP Ef dG (aR qW (aR cV (pv 6) (aR oK aC (pv 8))) aC) ‹3›))
   (aB (aM (i:=10) cQ.nd rfl (uA rfl) (aR fY (aR fY (aZ lE (pv 4) bB (bC (pv 5))) (pv 9)) (aZ lE (pv 4) (bC (aR cV (pv 5) aC)) bB)))
   (mL (bO (aY gq (pv 3) aC (bh _))
   (aF (aM (i:=10) cQ.nd rfl (uA rfl) (aZ lE (aR uP (pv 4) aC) bB (bC (aH (yC rfl) (by rfl) D.Qg Kw (aj aC (aj (aR cV (pv 8) aC) aq)))))))
   aU)
   (mL (bO (V5 (gK (aY n6 (pv 3) aC (bh _)) (gk (aY zu (pv 10) (aR vW (pv 2) (pv 7)) ‹29›))))
   (aF (aM (i:=10) cQ.nd rfl (uA rfl) (aD D.jk Gaq ‹2› (by rfl) (aj (pv 0) (aj (aR vW (pv 2) (pv 7)) aq)))))
   aU)
   (aF (kI (pB fT gT gX iz (pv 7) (aj (pv 10) aq)))))))))
   (aF (aL (pv 7))))))))),?_⟩
  exists 18;refine⟨_,rfl,p,4,rfl,hp,by decide,by decide,fun pick a1 b1 c1 l1 u1=>?_⟩;refine⟨_,rfl,_,rfl,p,u,us,rfl,Wg,by rw [aA up]; exact hu,by omega,fun x H1 hx1 hx7 xl _ o1 p1=>?_⟩;have o1:Off p H H1:=Off.upd.trans o1;refine⟨_,rfl,_,rfl,x,rfl,by omega,p,_,rfl,p1,by omega,by omega,fun place a2 b2 c2 l2 u2=>?_⟩;refine⟨_,rfl,p,26,rfl,Wg,by decide,by decide,fun first a3 b3 c3 l3 u3=>?_⟩;rw [cX];have o3:Off p H (upd H1 p (.lst [.int a3,.int b3,.int c3])):=o1.trans Wc;refine⟨dk _,fun l hl=>?_⟩
  have hlH:H l=none:=by
   by_cases e:l=p
   ·rw [e,ak] at hl;cases hl
   ·cases q:H l with
    | none=>rfl
    | some o=>
     rw [o3 l o e q] at hl;cases hl
  have pl:p≠l:=hp.neN hlH;have ul:u≠l:=au hu hlH
  refine⟨_,rfl,n,rfl,by omega,by omega,mC (lo:=0) (n:=n.toNat) (fun i σ H2=>∃(ns:LS) (v8 v9 v10:OV),σ=[some (.ref p),some (.int n),some (.ref u),some (.int pick),some (.str x),some (.int place),some (.int first),some (.ref l),v8,v9,v10]/\
   ns.length=i/\ns.Nodup/\(∀ x∈ns,¬ x∈us/\Nm x)/\H2 l=some (.lst ‹31›)/\Off p H H2/\Pu H2 p)
   ⟨[],_,_,_,rfl,rfl,ke,by simp,ak,o3.trans (Wd hl),Pu.upd.aA pl⟩ ?_ ?_⟩
  ·rintro i σ H2 hi ⟨ns,v8,v9,v10,rfl,hns,nd,nu,hl2,o2,p2⟩;have hu2:H2 u=some (.lst (us.map V.str)):=o2 u _ up hu;have m0:=qE (first+7 * (0+(i:Int))) (show (26:Int)≠0 by decide);have m1:=nX (first+7 * (0+(i:Int))) (show (0:Int) < 26 by decide);obtain ⟨cc,ec,_,_⟩:=wI (xs:=abc.cps.toList) m0 (by rw [fE,uW]; exact m1);refine⟨_,rfl,_,rfl,_,_,rfl,rfl,.inl ⟨by decide,by decide⟩,_,_,rfl,rfl,_,_,rfl,rfl,(by show (0:Int) < 26; decide),abc,_,cc,rfl,rfl,by decide +kernel,ec,?_⟩;have q1:=jD x none (some place);have q2:=jD x (some (place+1)) none;refine⟨_,rfl,_,rfl,_,rfl,x,rfl,by omega,_,rfl,_,_,rfl,rfl,(by show (ym x none (some place)).length+1<=sizeLine; omega),_,rfl,_,rfl,_,_,rfl,rfl,_,rfl,x,rfl,by omega,_,_,rfl,rfl,?_,?_⟩
   ·rw [dF];show (ym x none (some place)).length+1+_<=sizeLine;omega
   refine⟨fun σ' H'=>∃(y:Str) (v8 v9:OV),σ'=[some (.ref p),some (.int n),some (.ref u),some (.int pick),some (.str x),some (.int place),some (.int first),some (.ref l),some (.int (0+(i:Int))),v9,some (.str y)]/\H'=H2/\Nm y,?_,?_⟩
   ·refine⟨_,rfl,rfl,_,rfl,gH ‹44› ‹44›⟩
    ·have q3:=qP x (n:=6) ‹6›;refine⟨_,rfl,x,6,rfl,rfl,by decide,by decide,by omega,_,rfl,_,_,rfl,rfl,_,_,rfl,_,rfl,_,rfl,by show (ig x 6).length<=sizeLine; have:(6:Int).toNat=6:=rfl; rw [this] at q3; omega,_,none,_,rfl,rfl,?_⟩;exact TV ⟨hx1,hx7,xl⟩ i
    ·exact⟨_,none,_,rfl,rfl,SJ ⟨hx1,hx7,xl⟩ l2 u2 (qU ec)⟩
   ·rintro σ' H' ⟨y,v8',v9',rfl,rfl,hyl⟩;refine⟨fun σ' H''=>∃(y:Str) (v9:OV),σ'=[some (.ref p),some (.int n),some (.ref u),some (.int pick),some (.str x),some (.int place),some (.int first),some (.ref l),some (.int (0+(i:Int))),v9,some (.str y)]/\(¬ y∈us/\Nm y)/\¬ y∈ns/\Off p H' H''/\Pu H'' p,?_,?_⟩
    ·have cl:(us.map V.str).length+‹31›.length<=sizeLine:=by rw [aa,aa]; omega
     have fresh:∀(q:ut) (H0:Hp),Off p H' H0->Pu H0 p->H0 q=none->∀(y:Str) (H3:Hp),¬ y∈us++ns->Off p (upd H0 q (.lst (us.map V.str++ns.map V.str))) H3->Pu H3 p->¬ y∈us/\¬ y∈ns/\Off p H' H3/\Pu H3 p:=fun q H0 o0 p0 hq y H3 hy o3 p3=>
      ⟨fun h=>hy (fk _ h),fun h=>hy (dQ _ h),(o0.trans (Wd hq)).trans o3,p3⟩
     refine⟨_,rfl,_,_,rfl,rfl,_,rfl,gH ‹44› ‹44›⟩
     ·refine bM ⟨_,rfl,_,rfl,_,rfl,u,l,_,_,rfl,rfl,hu2,hl2,cl,fun q hq=>⟨p,q,us++ns,rfl,p2.aA (p2.neN hq),by rw [ak,aI],by rw [bX]; omega,fun y' H3 hy1 hy7 yl hy o3 p3=>?_⟩⟩;obtain ⟨f1,f2,f3,f4⟩:=fresh q H' (Off.refl p H') p2 hq y' H3 hy o3 p3;exact⟨y',_,rfl,⟨f1,hy1,hy7,yl⟩,f2,f3,f4⟩
     ·refine⟨_,rfl,_,rfl,_,rfl,u,l,_,_,rfl,rfl,hu2,hl2,cl,fun q hq=>⟨q,_,rfl,.inl (V6 ak),rfl,?_,_,rfl,gH (fun hc=>?_) (fun hc=>?_)⟩⟩
      ·rw [List.all_append,jg,jg];rfl
      ·have uq:u≠q:=au hu2 hq;have lq:l≠q:=au hl2 hq;refine⟨_,rfl,_,rfl,_,rfl,u,l,_,_,rfl,rfl,by rw [aA uq]; exact hu2,by rw [aA lq]; exact hl2,cl,fun q2 hq2=>⟨p,q2,us++ns,rfl,(p2.aA (p2.neN hq)).aA ((p2.aA (p2.neN hq)).neN hq2),by rw [ak,aI],by rw [bX]; omega,fun y' H3 hy1 hy7 yl hy o3 p3=>?_⟩⟩;obtain ⟨f1,f2,f3,f4⟩:=fresh q2 _ (Wd hq) (p2.aA (p2.neN hq)) hq2 y' H3 hy o3 p3;exact⟨y',_,rfl,⟨f1,hy1,hy7,yl⟩,f2,f3,f4⟩
      ·have hc:¬ inV (.str y) (us.map V.str++ns.map V.str)=true:=hc;rw [<- aI,iI] at hc;have hc:¬ y∈us++ns:=fun h=>hc (bo h);exact⟨y,_,rfl,⟨fun h=>hc (fk _ h),hyl⟩,fun h=>hc (dQ _ h),Wd hq,p2.aA (p2.neN hq)⟩
    ·rintro σ'' H3 ⟨y',v9'',rfl,y1,y2,o3,p3⟩;have hl3:H3 l=some (.lst ‹31›):=o3 l _ pl.symm hl2;refine⟨_,rfl,.inl ⟨rfl,_,V6 hl3⟩,_,rfl,l,ns.map V.str,.str y',rfl,rfl,hl3,by rw [aa]; omega,ns++[y'],_,_,_,rfl,by rw [bX,hns]; rfl,uU nd y2,?_,by rw [ak,aI]; rfl,?_,p3.aA pl⟩
     ·intro z hz;rcases cw.mp hz with h | h
      ·exact nu z h
      ·rw [bj.mp h];exact y1
     ·intro b o hb e;rw [aA (au e hlH)];exact o3 b o hb (o2 b o hb e)
  ·rintro σ H2 ⟨ns,v8,v9,v10,rfl,hns,nd,nu,hl2,o2,p2⟩;exact⟨_,rfl,k l ns H2 hlH hns nd nu hl2 o2 p2⟩
end
section
variable {P:uC}{w:ww}{K:PySem.W.Frag}{mg:MG}{base:Heap}{t:Adr}
inductive JW (vs:LV) (H:Hp) (Q:VK) (E_:XK):Prop
 | mk (p m:ut) (ns:LS) (n:Nat):vs=[.ref p,.ref m,.int n]->Pu H p->H m=some (.lst ‹31›)->n<=100->ns.length<=100->(∀(q:ut) (es:LS) H',H' q=some (.tup (es.map V.str))->(∀ x∈es,x∈ns)->es.Nodup->es.length<=n->Off p H H'->Pu H' p->Q (.ref q) H')->JW vs H Q E_
theorem uT(D:Defs K mg t):cA P w K mg base CX0 2 t.gF.1 t.gF.2 ["_law_purse_here","_law_menu","_law_most"] JW:=by
 exists 13;exists 5;refine D.gF.fn.ok kh ‹7› ‹1›
 ·obtain ⟨p,m,ns,n,rfl,_⟩:=h;rfl
 ·obtain ⟨p,m,ns,n,rfl,hp,hm,hn,hl,k⟩:=h;have mp:m≠p:=hp.ne hm
  refine⟨_,(aB (aM (i:=3) kh.nd rfl (uA rfl) (cN aq))
   (aB (bO (aY gq ‹18› aC (bh _))
   (aF (aL (cC aq)))
   aU)
   (aB (fP dP rfl (jG rfl D.nY (aj (aD D.aV Ga ‹2› (by rfl) (aj (pv 0) (aj (aR cV (pv 2) aC) aq))) aq)) (aN (i:=4) kh.nd rfl (uA rfl))
   (aB (aM (i:=5) kh.nd rfl (uA rfl) (aP bN (pv 1) (aD D.aV Ga ‹2› (by rfl) (aj (pv 0) (aj ‹18› aq))) ‹3›))
   (aF (bO (aY tQ (pv 5) (pv 3) ‹29›)
   (aF (kI (pB fT gT gX iz (pv 3) (aj (pv 5) aq))))
   aU))))
   (aF (aL (bG cB (by rfl) D.bY bK (aj (pv 3) aq))))))),?_⟩
  exists 18;refine⟨dk _,fun l hll=>?_⟩;have pl:p≠l:=hp.neN hll;have ml:m≠l:=au hm hll;refine⟨_,rfl,m,_,rfl,.inl (V6 (by rw [aA ml]; exact hm)),rfl,_,rfl,gH ‹44› ‹44›⟩
  ·exact⟨dk _,fun q hq=>k q [] _ ak ‹45› ke (dk _) ((Wd hll).trans (Wd hq)) ((hp.aA pl).aA ((hp.aA pl).neN hq))⟩
  ·have hpos:0 < ns.length:=by
    have hb:¬ decide (V.int (‹31›.length:Int)=V.int 0)=true:=hb;rcases Nat.eq_zero_or_pos ns.length with h | h
    ·exfalso
     apply hb;rw [aa,h];exact bo rfl
    ·exact h
   refine⟨_,rfl,_,rfl,_,_,rfl,rfl,p,_,rfl,hp.aA pl,by omega,by omega,fun r a1 b1 c1 l1 u1=>⟨r,rfl,by omega,by omega,?_⟩⟩
   refine mC (lo:=0) (n:=r.toNat) (fun i σ H2=>∃(es:LS) (v4 v5:OV),σ=[some (.ref p),some (.ref m),some (.int n),some (.ref l),v4,v5]/\es.length<=i/\es.Nodup/\(∀ x∈es,x∈ns)/\H2 l=some (.lst (es.map V.str))/\Off p H H2/\Pu H2 p)
    ⟨[],_,_,rfl,ai _,ke,by simp,by rw [aA pl.symm,ak]; rfl,(Wd hll).trans Wc,Wg⟩ ?_ ?_
   ·rintro i σ H2 hi ⟨es,v4,v5,rfl,he,nd,sub,hl2,o2,p2⟩;have hm2:H2 m=some (.lst ‹31›):=o2 m _ mp hm;refine⟨_,rfl,_,rfl,_,rfl,m,_,rfl,.inl (V6 hm2),p,_,rfl,p2,by rw [aa]; omega,by rw [aa]; omega,fun r2 a2 b2 c2 l2 u2=>?_⟩;rw [aa] at u2;obtain ⟨x,ex,mx,_⟩:=Mx (ns:=ns) l2 u2;refine⟨m,_,_,_,rfl,rfl,V6 (by rw [aA mp]; exact hm2),ex,?_⟩;have lp:l≠p:=pl.symm;refine⟨_,rfl,_,rfl,l,_,rfl,.inl (V6 (by rw [aA lp]; exact hl2)),rfl,jg es,_,rfl,gH (fun hc=>?_) (fun hc=>?_)⟩
    ·have hc:(!inV (.str x) (es.map V.str))=true:=hc;rw [iI] at hc;have hx:¬ x∈es:=by simpa using hc
     refine⟨_,rfl,.inl ⟨rfl,_,V6 (by rw [aA lp]; exact hl2)⟩,_,rfl,l,es.map V.str,.str x,rfl,rfl,by rw [aA lp]; exact hl2,by rw [aa]; omega,es++[x],_,_,rfl,by rw [bX]; exact Nat.succ_le_succ he,uU nd hx,?_,by rw [ak,aI]; rfl,?_,Pu.upd.aA pl⟩
     ·intro z hz;rcases cw.mp hz with h | h
      ·exact sub z h
      ·rw [bj.mp h];exact mx
     ·intro b o hb e;rw [aA (au e hll),aA hb];exact o2 b o hb e
    ·exact⟨es,_,_,rfl,Nat.le_succ_of_le he,nd,sub,by rw [aA lp]; exact hl2,o2.trans Wc,Wg⟩
   ·rintro σ H2 ⟨es,v4,v5,rfl,he,nd,sub,hl2,o2,p2⟩;refine⟨_,rfl,l,_,rfl,.inl ⟨V6 hl2,fun q hq=>?_⟩⟩;exact k q es _ ak sub nd ‹26› (o2.trans (Wd hq)) (p2.aA (p2.neN hq))
abbrev Fam:=List (Str × LS)
def qy(r:Str × LS):T:=.tup [.str r.1,.tup (r.2.map T.str)]
def Aw(f:Fam):T:=.tup (f.map qy)
abbrev nms(f:Fam):LS:=f.map (·.1)
structure rY (f:Fam):Prop where
 nd:(nms f).Nodup
 sub:∀ r∈f,∀ e∈r.2,e∈nms f
 len:f.length<=7
 pos:0 < f.length
 el:∀ r∈f,r.2.length<=7
 Ve:∀ r∈f,r.2.Nodup
 QC:∃ top:LS,top.Nodup/\(∀ x,x∈top↔x∈nms f)/\∀ r∈f,∃ j,top[j]?=some r.1/\∀ e∈r.2,e∈top.take j
 lw:∀ x∈nms f,Nm x
theorem Dp.row{x:Str}(hq:H q=some (.tup [.str x,.ref e]))(he:H e=some (.tup (es.map V.str))):Dp H (qy (x,es)) (.ref q):=
 L2.Dp.tup hq (.cons (L2.Dp.str x) (.cons (L2.Dp.tup he (Wb es)) .nil))
theorem Dp.zP(d:Dp H (qy r) v):∃ q e,v=.ref q/\H q=some (.tup [.str r.1,.ref e])/\H e=some (.tup (r.2.map V.str)):=by
 obtain ⟨q,xs,rfl,hq,dl⟩:=L2.Dp.eV d;obtain ⟨x1,r1,rfl,d1,dl⟩:=dl.cases;obtain ⟨x2,r2,rfl,d2,dl3⟩:=dl.cases;have e1:=L2.Dp.jm d1;have e3:=dl3.ni;obtain ⟨e,ys,rfl,he,dl2⟩:=L2.Dp.eV d2;subst e1 e3;rw [DpL.jx dl2] at he;exact⟨q,e,rfl,hq,he⟩
theorem Paired.perm{β:Type}{F:α->β->Prop}:∀ {us ws:List α},us.Perm ws->∀ {xs:List β},Paired F ws xs->∃ ys,ys.Perm xs/\Paired F us ys:=by
 intro us ws h
 induction h with
 | nil=>exact fun {xs} r=>⟨xs,.refl _,r⟩
 | cons a _ ih=>
  intro xs r;cases r with
  | cons q t=>
   obtain ⟨ys,p,r'⟩:=ih t;exact⟨_::ys,p.cons _,.cons q r'⟩
 | swap a b l=>
  intro xs r;cases r with
  | cons q t=>
   cases t with
   | cons q' t'=>exact⟨_,.swap _ _ _,.cons q' (.cons q t')⟩
 | trans _ _ i1 i2=>
  intro xs r;obtain ⟨ys,p,r'⟩:=i2 r;obtain ⟨zs,p',r''⟩:=i1 r';exact⟨zs,p'.trans p,r''⟩
end
end K09
end
section
namespace K09
open PySem L2
variable {rows:LL}{i j:Nat}{r:Str × LS}
noncomputable def nJ (rows:LL):Option LS:=open Classical in if h:∃ r,Mg rows r then Classical.choose h else none
theorem qw{r:Option LS}(h:Mg rows r):nJ rows=r:=by
 unfold nJ;rw [dif_pos ⟨r,h⟩];exact Mg.det (Classical.choose_spec (⟨r,h⟩:∃ r,Mg rows r)) h
def G9(f:Fam)(x:Str):LS:=((f.find? fun r=>decide (r.1=x)).map (·.2)).getD []
theorem nD:∀ {f:Fam},(nms f).Nodup->∀ r∈f,G9 f r.1=r.2
 | [],_,_,h=>nomatch h
 | r0::f,nd,r,hr=>by
  have nd':(r0.1::nms f).Nodup:=nd;obtain ⟨n1,n2⟩:=fh.mp nd';unfold G9;rw [kK];rcases bz.mp hr with rfl | h
  ·rw [bo rfl];rfl
  ·have ne:¬ r0.1=r.1:=fun e=>n1 (e ▸ bu.mpr ⟨r,h,rfl⟩);rw [bE ne];exact nD n2 r h
def cu(g:Str->Option LS)(es:LS):LL:=es.map (fun e=>(g e).getD [])++[es]
noncomputable def iH (f:Fam):Nat->Str->Option LS
 | 0,_=>none
 | n+1,x=>if (G9 f x).all (fun e=>(iH f n e).isSome)=true then (nJ (full (cu (iH f n) (G9 f x)))).map (x::·) else none
variable {f:Fam}
theorem sU{l:LS}(h:l.Nodup){x:Str}(a:l[i]?=some x)(b:l[j]?=some x):i=j:=by
 obtain ⟨h1,e1⟩:=bv.mp a;obtain ⟨h2,e2⟩:=bv.mp b;exact(List.getElem_inj h).mp (e1.trans e2.symm)
theorem jf{l:LS}{x:Str}(h:x∈l.take j):∃ i,i < j/\l[i]?=some x:=by
 obtain ⟨i,hi,e⟩:=fF h;rw [bc] at hi;refine⟨i,by omega,?_⟩;rw [<- e,List.getElem_take];exact ae ‹26›
theorem Km(G:rY f){top:LS}(t0:top.Nodup)(t1:∀ x,x∈top↔x∈nms f)(t2:∀ r∈f,∃ j,top[j]?=some r.1/\∀ e∈r.2,e∈top.take j) :
  ∀(j:Nat) (x:Str),top[j]?=some x->∀ n m,j < n->j < m->iH f n x=iH f m x:=by
 intro j
 induction j using Nat.strongRecOn with
 | ind j ih=>
  intro x hx n m hn hm;obtain ⟨n,rfl⟩:∃ n',n=n'+1:=⟨n - 1,by omega⟩;obtain ⟨m,rfl⟩:∃ m',m=m'+1:=⟨m - 1,by omega⟩;have hxn:x∈nms f:=(t1 x).mp (eI hx);obtain ⟨r,hr,rfl⟩:=bu.mp hxn;have ee:=nD G.nd r hr;obtain ⟨j',h1,h2⟩:=t2 r hr;have ej:=sU t0 hx h1;subst ej
  have same:∀ e∈r.2,iH f n e=iH f m e:=fun e he=>by
   obtain ⟨i,hi,ei⟩:=jf (h2 e he);exact ih i hi e ei n m ‹26› ‹26›
  unfold iH;rw [ee]
  have c1:r.2.all (fun e=>(iH f n e).isSome)=r.2.all (fun e=>(iH f m e).isSome):=by
   apply fg.mpr;rw [cz,cz];exact⟨fun h e he=>by rw [<- same e he]; exact h e he,fun h e he=>by rw [same e he]; exact h e he⟩
  have c2:cu (iH f n) r.2=cu (iH f m) r.2:=by
   unfold cu;congr 1;exact gr fun e he=>by rw [same e he]
  rw [c1,c2]
noncomputable def iC (f:Fam):Str->Option LS:=iH f 8
theorem Eb(G:rY f)(hr:r∈f):iC f r.1=if r.2.all (fun e=>(iC f e).isSome)=true then (nJ (full (cu (iC f) r.2))).map (r.1::·) else none:=by
 obtain ⟨top,t0,t1,t2⟩:=G.QC
 have tl:top.length<=7:=by
  have h1:=dh t0 (m:=nms f) fun x hx=>(t1 x).mp hx;have h2:(nms f).length=f.length:=aa _;have:=G.len;omega
 have same:∀ e∈r.2,iH f 7 e=iC f e:=fun e he=>by
  obtain ⟨j,h1,h2⟩:=t2 r hr;obtain ⟨i,hi,ei⟩:=jf (h2 e he);have hil:=(bv.mp ei).1;exact Km G t0 t1 t2 i e ei 7 8 ‹26› ‹26›
 show iH f 8 r.1=_;unfold iH;rw [nD G.nd r hr]
 have c1:r.2.all (fun e=>(iH f 7 e).isSome)=r.2.all (fun e=>(iC f e).isSome):=by
  apply fg.mpr;rw [cz,cz];exact⟨fun h e he=>by rw [<- same e he]; exact h e he,fun h e he=>by rw [same e he]; exact h e he⟩
 have c2:cu (iH f 7) r.2=cu (iC f) r.2:=by
  unfold cu;congr 1;exact gr fun e he=>by rw [same e he]
 rw [c1,c2]
def Oi(f:Fam)(a b:Str):Prop:=∃ r∈f,r.1=a/\b∈r.2
inductive Reach (f:Fam):Str->Str->Prop where
 | one {a b:Str}:Oi f a b->Reach f a b
 | step {a b c:Str}:Oi f a b->Reach f b c->Reach f a c
def Cw(f:Fam):Nat->Str->Str->Prop
 | 0,_,_=>False
 | k+1,a,b=>Oi f a b\/∃ c,Oi f a c/\Cw f k c b
variable {f:Fam}
structure U9 (f:Fam) (m i:Nat) (cs:Str->LS):Prop where
 sound:∀ x∈nms f,∀ y∈cs x,Reach f x y
 low:∀ x∈nms f,∀ y,Cw f m x y->y∈cs x
 high:∀ x∈(nms f).take i,(∀ y,Cw f (m+m) x y->y∈cs x)/\∃ p:Str->Bool,cs x=(nms f).filter p
 len:∀ x∈nms f,(cs x).length<=7
def U7(f:Fam)(cs:Str->LS)(x:Str):LS:=(nms f).filter fun o=>((cs x).map cs++[cs x]).any fun way=>decide (o∈way)
noncomputable def above (f:Fam) (x:Str):LS:=(nms f).filter fun o=>dcd (Reach f x o)
noncomputable def below (f:Fam) (x:Str):LS:=(nms f).filter fun o=>dcd (Reach f o x)
end K09
end
section
namespace K09
open PySem PyProof.Rows L2
variable {H H':Hp}{vs:LV}{rows:LL}{K:PySem.W.Frag}{v:V}{ns:LS}{q:ut}
theorem oV{κ:Type}[DecidableEq κ]:∀ {kvs:List (κ × V)} {k:κ},(cM kvs k).isSome=true↔k∈kvs.map (·.1)
 | [],k=>by simp [cM]
 | p::kvs,k=>by
  by_cases e:p.1=k
  ·rw [fB e];simp [e]
  ·rw [eY e,oV];have:¬ k=p.1:=fun z=>e z.symm;simp [this]
def jW(rs:LS):LK0:=rs.map fun y=>(.inr y,.bl true)
theorem mV(rs:LS)(x:Str):(cM (jW rs) (.inr x)).isSome=true↔x∈rs:=by
 rw [oV];unfold jW;rw [gN,bu];constructor
 ·rintro ⟨y,hy,e⟩;have e:(BV y:Key)=BV x:=e;exists 10;exact e ▸ hy
 ·exact fun h=>⟨x,h,rfl⟩
theorem Ca{rs:LS}{x:Str}(h:¬ x∈rs):putK (jW rs) (.inr x) (.bl true)=jW (rs++[x]):=by
 have hn:cM (jW rs) (.inr x)=none:=by
  cases q:cM (jW rs) (.inr x) with
  | none=>rfl
  | some y=>exact absurd ((mV rs x).mp (by rw [q]; rfl)) h
 rw [vA _ hn];unfold jW;rw [aI];rfl
theorem JR{rs:LS}{x:Str}(h:x∈rs):putK (jW rs) (.inr x) (.bl true)=jW rs:=by
 unfold putK;rw [dE (by rw [mz]; exact(mV rs x).mpr h)];unfold jW;rw [gN];apply gr;intro y _;show (if (BV y:Key)=BV x then (BV y,V.bl true) else (BV y,V.bl true))=_;split <;> rfl
theorem K5(rs:LS)(x:Str):∃ rs',putK (jW rs) (.inr x) (.bl true)=jW rs'/\(∀ y,y∈rs'↔y∈rs\/y=x)/\rs'.length<=rs.length+1:=by
 by_cases h:x∈rs
 ·exact⟨rs,JR h,fun y=>⟨.inl,fun z=>z.elim id fun e=>e ▸ h⟩,sj _⟩
 ·refine⟨rs++[x],Ca h,fun y=>?_,by rw [bX]; exact ai _⟩;rw [cw,bj]
section
variable {P:uC}{w:ww}{K:PySem.W.Frag}{mg:MG}{base:Heap}{t:Adr}
def zW(H:Hp)(v:V)(r:LS):Prop:=∃ a,v=.ref a/\(H a=some (.lst (r.map V.str))\/(H a=some (.tup (r.map V.str))/\r≠[]))
def oG(H:Hp)(vs:LV)(rows:LL):Prop:=Paired (zW H) vs rows
theorem oG.mono(h:oG H vs rows)(s:Same H H'):oG H' vs rows:=V4 h fun v r ⟨a,e,q⟩=>⟨a,e,q.elim (fun z=>.inl (s a _ z)) fun z=>.inr ⟨s a _ z.1,z.2⟩⟩
theorem oG.get{H:Hp}{vs:LV}{rows:LL}(h:oG H vs rows){i:Nat}{v:V}(e:vs[i]?=some v):∃(hr:i < rows.length),zW H v rows[i]:=by
 have hi:=(bv.mp e).1;have hr:i < rows.length:=by rw [<- cE h]; exact hi
 have q:=fM h i hi hr;rw [ae hi] at e;cases e;exact⟨hr,q⟩
theorem zW.cut{r:LS}(h:zW H v r){Q:VK}(q:∀(p:ut) H',gG H' (.ref p) ((r.drop 1).map V.str)->Same H H'->Q (.ref p) H'):Oz K v (some 1) none H Q\/Mi K v (some 1) none H Q:=by
 obtain ⟨a,rfl,h⟩:=h;rcases h with h | ⟨h,hne⟩
 ·refine .inr ⟨a,_,rfl,V6 h,fun p hp=>q p _ ⟨p,rfl,.inl (by rw [ak,N6])⟩ (We hp)⟩
 ·refine .inl ⟨a,_,rfl,V7 h,fun z=>?_,fun p hp=>q p _ ⟨p,rfl,.inr (by rw [ak,N6])⟩ (We hp)⟩;have e1:HT.sIx (r.map V.str).length 0 (some 1)=min 1 (r.map V.str).length:=HT.rR _ 0 1;rw [e1,aa] at z;cases r with
  | nil=>exact hne rfl
  | cons y r=>simp at z
theorem zW.at0{y:Str}{r:LS}(h:zW H v (y::r)){Q:VK}(q:Q (.str y) H):Lj K v (.int 0) H Q\/Mv K v (.int 0) H Q:=by
 obtain ⟨a,rfl,h⟩:=h;rcases h with h | ⟨h,_⟩
 ·exact .inr ⟨a,_,0,_,rfl,rfl,V6 h,L2.at0 y r,q⟩
 ·exact .inl ⟨a,_,0,_,rfl,rfl,V7 h,L2.at0 y r,q⟩
theorem zW.tru{r:LS}(h:zW H v r):O1 K v H (!r.isEmpty):=by
 obtain ⟨a,rfl,h⟩:=h;have e:(!(r.map V.str).isEmpty)=!r.isEmpty:=by cases r <;> rfl
 rcases h with h | ⟨h,_⟩
 ·exact .inl ⟨_,V6 h,e.symm⟩
 ·exact .inr (.inl ⟨_,V7 h,e.symm⟩)
theorem LK(rows:LL)(k:Nat):tot (rows.take k)<=tot rows:=by
 have e:tot rows=tot (rows.take k)+tot (rows.drop k):=by
  unfold tot;rw [<- nL,<- aI,ja]
 omega
def RQ(l:LS):V:=match l with
 | []=>.non
 | x::_=>.str x
inductive G4 (vs:LV) (H:Hp) (Q:VK) (E_:XK):Prop
 | mk (l:ut) (us:LV) (rows:LL):vs=[.ref l]->gG H (.ref l) us->oG H us rows->tot rows<=2000->rows.length<=1000->(∀ H',Same H H'->Q (RQ (frees rows)) H')->G4 vs H Q E_
theorem JC(D:Defs K mg t):cA P w K mg base CX0 1 t.iU.1 t.iU.2 ["left"] G4:=by
 exists 5;refine D.iU.fn.ok iT ‹7› ‹1›
 ·obtain ⟨l,us,rows,rfl,_⟩:=h;rfl
 ·obtain ⟨l,us,rows,rfl,hl,hrows,htot,hlen,k⟩:=h;have hul:us.length=rows.length:=cE hrows
  refine⟨_,(aB (aM (i:=1) iT.nd rfl (uA rfl) jN)
   (aB (fP dP rfl (oO (K:=K) (pv 0) rfl) (aN (i:=2) iT.nd rfl (uA rfl))
   (aF (fP dP rfl (oO (K:=K) (aZ (FP (K:=K) rfl) (pv 2) (bC aC) bB) rfl) (aN (i:=3) iT.nd rfl (uA rfl))
   (aF (kJ (dZ hr) (pv 1) (pv 3) fO rfl)))))
   (aB (fP dP rfl (oO (K:=K) (pv 0) rfl) (aN (i:=2) iT.nd rfl (uA rfl))
   (aF (bO (V5 (tZ (vN (pv 2) (by intro _; rfl)) (uV (zM (qb (dZ hr) (aP (rD (K:=K) rfl) (pv 2) aC ‹3›) (pv 1))))))
   (aF (aL (aP (rD (K:=K) rfl) (pv 2) aC ‹3›)))
   aU)))
   (aF (aL jR))))),?_⟩
  exists 18;intro hd hhd;have s0:∀ o,Same H (upd H hd o):=fun o=>We hhd
  have kl:∀ {H2:Hp},Same H H2->∀ o,(upd H hd (.dK [])) l=some o->H2 l=some o:=fun {H2} s o e=>by
   obtain ⟨p,ep,h⟩:=hl;cases ep
   have hlh:l≠hd:=by
    rcases h with h | h
    ·exact au h hhd
    ·exact au h hhd
   rw [aA hlh] at e;exact s l o e
  refine⟨_,rfl,l,rfl,yJ (K:=K) (hl.same (s0 _)) (fun i σ H2=>∃(rs:LS) (v2 v3:OV),σ=[some (.ref l),some (.ref hd),v2,v3]/\H2 hd=some (.dK (jW rs))/\(∀ y,y∈rs↔∃ o∈rows.take i,y∈o.drop 1)/\rs.length<=tot (rows.take i)/\Same H H2)
   ⟨[],_,_,rfl,ak,by simp,dk _,s0 _⟩ (fun i σ H2 _ ⟨_,_,_,_,_,_,_,s⟩=>kl s) ?_ ?_⟩
  ·rintro i x σ H2 hi ⟨rs,v2,v3,rfl,hh2,mem,rl,sm⟩;obtain ⟨hir,ha⟩:=(hrows.mono sm).get hi
   have hri:(rows[i]).length+tot (rows.take i)=tot (rows.take (i+1)):=by
    rw [take_snoc hir];unfold tot;rw [aI,nL];simp;omega
   have htl:tot (rows.take (i+1))<=tot rows:=by
    exact LK rows (i+1)
   refine⟨_,rfl,_,rfl,ha.cut fun p H3 hp s3=>⟨p,rfl,?_⟩⟩;have sm3:Same H H3:=sm.trans s3
   refine yJ (K:=K) hp (fun j σ H4=>∃ (rs':LS) (v3:OV),σ=[some (.ref l),some (.ref hd),some x,v3]/\H4 hd=some (.dK (jW rs'))/\(∀ y,y∈rs'↔y∈rs\/y∈((rows[i]).drop 1).take j)/\rs'.length<=rs.length+j/\∀ b u,b≠hd->H3 b=some u->H4 b=some u)
    ⟨rs,_,rfl,s3 hd _ hh2,by simp,ai _,fun b u _ e=>e⟩ ?_ ?_ ?_
   ·rintro j σ H4 _ ⟨rs',v3,rfl,hh4,_,_,kp⟩ o e;refine kp p o (fun z=>?_) e;rw [z] at hp;obtain ⟨q,eq,h⟩:=hp;cases eq;rw [s3 hd _ hh2] at h;rcases h with h | h <;> cases h
   ·rintro j y σ H4 hj ⟨rs',v3,rfl,hh4,mem',rl',kp⟩
    have hjl:j < ((rows[i]).drop 1).length:=by
     have:=(bv.mp hj).1
     rwa [aa] at this
    have ey:y=.str ((rows[i]).drop 1)[j]:=by
     rw [bg,ae hjl] at hj;exact(ck hj).symm
    subst ey;obtain ⟨rs2,e2,m2,l2⟩:=K5 rs' ((rows[i]).drop 1)[j];have hjl':=hjl;rw [jb] at hjl';refine⟨_,rfl,_,rfl,hd,_,rfl,tD.k (k:=.inr ((rows[i]).drop 1)[j]) hh4 (by unfold jW; rw [aa]; omega),rs2,_,rfl,by rw [ak,e2],fun z=>?_,by omega,fun b u hb e=>by rw [aA hb]; exact kp b u hb e⟩;rw [m2,mem',take_snoc hjl,cw,bj];constructor
    ·rintro ((h | h) | h)
     ·exact .inl h
     ·exact .inr (.inl h)
     ·exact .inr (.inr h)
    ·rintro (h | h | h)
     ·exact .inl (.inl h)
     ·exact .inl (.inr h)
     ·exact .inr h
   ·rintro σ H4 ⟨rs',v3,rfl,hh4,mem',rl',kp⟩;rw [aa,jb] at rl';refine⟨rs',_,_,rfl,hh4,fun y=>?_,by omega,fun b u e=>kp b u (au e hhd) (sm3 b u e)⟩;have et:((rows[i]).drop 1).take (((rows[i]).drop 1).map V.str).length=(rows[i]).drop 1:=aw (by rw [aa]; exact ai _);rw [mem',et,mem,take_snoc hir];constructor
    ·rintro (⟨o,h1,h2⟩ | h)
     ·exact⟨o,fk _ h1,h2⟩
     ·exact⟨rows[i],dQ _ bn,h⟩
    ·rintro ⟨o,h1,h2⟩;rcases cw.mp h1 with h | h
     ·exact .inl ⟨o,h,h2⟩
     ·rw [bj.mp h] at h2;exact .inr h2
  ·rintro σ H2 ⟨rs,v2,v3,rfl,hh2,mem,rl,sm⟩;rw [aw ‹26›] at mem
   have held:∀ y,(cM (jW rs) (.inr y)).isSome=cY rows y:=fun y=>by
    apply fg.mpr;rw [mV,mem];unfold cY;rw [iP];exact⟨fun⟨o,h1,h2⟩=>⟨o,h1,bo h2⟩,fun⟨o,h1,h2⟩=>⟨o,h1,eA h2⟩⟩
   refine⟨_,rfl,l,rfl,yJ (K:=K) (hl.same sm) (fun i σ H3=>∃(v2 v3:OV),σ=[some (.ref l),some (.ref hd),v2,v3]/\(rows.take i).flatMap (freeOf rows)=[]/\H3=H2)
    ⟨_,_,rfl,rfl,rfl⟩ (fun i σ H3 _ ⟨_,_,_,_,e⟩ o h=>by rw [e]; exact h) ?_ ?_⟩
   ·rintro i x σ H3 hi ⟨v2',v3',rfl,hnone,rfl⟩;obtain ⟨hir,ha⟩:=(hrows.mono sm).get hi
    have hfl:frees rows=(rows.take i).flatMap (freeOf rows)++(freeOf rows rows[i]++(rows.drop (i+1)).flatMap (freeOf rows)):=by
     unfold frees
     have e:rows=rows.take i++(rows[i]::rows.drop (i+1)):=by
      rw [List.getElem_cons_drop,ja]
     conv=>lhs; rw [e]
     rw [nh,pS];rw [<- e]
    refine⟨_,rfl,_,ha.tru,?_⟩;cases hre:rows[i] with
    | nil=>
     refine bT (bT ⟨_,_,rfl,?_,rfl⟩);rw [take_snoc hir,nh,hnone,hre];rfl
    | cons y r=>
     rw [hre] at ha hfl;refine bM ⟨_,rfl,ha.at0 ⟨_,rfl,hd,_,rfl,lY.k (k:=.inr y) hh2,_,rfl,?_⟩⟩;rw [held y];have ef:freeOf rows (y::r)=if cY rows y=true then [] else [y]:=rfl;cases hh:cY rows y with
     | true=>
      refine bT ⟨_,_,rfl,?_,rfl⟩;rw [take_snoc hir,nh,hnone,hre,List.flatMap_singleton,ef,hh,dE rfl];rfl
     | false=>
      refine bM ⟨_,rfl,ha.at0 ?_⟩;have:=k H3 sm;rw [hfl,hnone,ef,hh,cK aS] at this;exact this
   ·rintro σ H3 ⟨v2',v3',rfl,hnone,rfl⟩;rw [aw ‹26›] at hnone;have hnone:frees rows=[]:=hnone;have:=k H3 sm;rw [hnone] at this;exact this
def pU(rows:LL)(y:Str):List Nat:=(List.range rows.length).filter fun i=>decide (y∈(rows.getD i []).drop 1)
inductive Kf (vs:LV) (H:Hp) (Q:VK) (E_:XK):Prop
 | mk (y:Str) (l:ut) (us:LV) (rows:LL):vs=[.str y,.ref l]->gG H (.ref l) us->oG H us rows->rows.length<=1000->cY rows y=true->(∀(q:ut) (x:Str) (n:Nat) (r:LS) H',rows[n]?=some (x::r)->y∈r->(∀ m o,m < n->rows[m]?=some o->¬ y∈o.drop 1)->H' q=some (.tup [.str x,.str y,.int n])->Same H H'->Q (.ref q) H')->Kf vs H Q E_
theorem NQ(D:Defs K mg t):cA P w K mg base CX0 1 t.nH.1 t.nH.2 ["name","left"] Kf:=by
 exists 5;refine D.nH.fn.ok wN ‹7› ‹1›
 ·obtain ⟨y,l,us,rows,rfl,_⟩:=h;rfl
 ·obtain ⟨y,l,us,rows,rfl,hl,hrows,hlen,held,k⟩:=h;have hul:us.length=rows.length:=cE hrows
  refine⟨_,(aB (aM (i:=2) wN.nd rfl (uA rfl) (aP sH (bI rfl (Wf ["at","row"] [0] ["at","row","name"] (aG (top 19)) ["name","left","number"] rfl rfl ‹5›) ⟨fun _ _ _ _ _=>(Lg (K:=K) (n:=2) rfl rfl (fG (aN (i:=0) (show List.Nodup [("at" : Str),("row" : Str),("name" : Str)] by decide +kernel) rfl ‹24› ‹17›) (fG (aN (i:=1) (show List.Nodup [("at" : Str),("row" : Str),("name" : Str)] by decide +kernel) rfl ‹24› ‹17›) nF))),fun _ _ _ _ _=>(jJ (aY (NK (K:=K) rfl) (pv 2) (aZ (FP (K:=K) rfl) (pv 1) (bC aC) bB) ‹29›)),fun _ _ _ _ _=>(pv 0)⟩ (BJ (K:=K) rfl rfl D.oU (aj (pv 1) aq))) aC ‹3›))
   (aF (aL (cC (aj (aP (rD (K:=K) rfl) (aP (rD (K:=K) rfl) (pv 1) (pv 2) ‹3›) aC ‹3›) (aj (pv 0) (aj (pv 2) aq))))))),?_⟩
  refine⟨_,rfl,l,rfl,CG (K:=K) hl (fun D i ys H2=>ys=((List.range i).filter fun j=>decide (y∈(rows.getD j []).drop 1)).map (fun j=>V.int (j:Nat))/\H2 D=some (.lst ys)/\Same H H2)
   (fun D hD=>⟨rfl,ak,We hD⟩) (fun D i ys H2 hD ⟨_,_,sm⟩ o e=>sm l o e) ?_ ?_⟩
  ·rintro D' ys H2 hD ⟨rfl,hD2,sm⟩;rw [hul] at hD2
   have hne:pU rows y≠[]:=by
    obtain ⟨o,ho,hy⟩:=iP.mp held;obtain ⟨i,hi,rfl⟩:=fF ho;refine List.ne_nil_of_mem (a:=i) (dC.mpr ⟨fR.mpr hi,?_⟩);simp [hi];simpa using hy
   obtain ⟨n,more,en⟩:=mv hne;have hn:n∈pU rows y:=by rw [en]; exact bn
   obtain ⟨hn1,hn2⟩:=dC.mp hn;have hnl:=fR.mp hn1;have hn2:=eA hn2;have egd:rows.getD n []=rows[n]:=by simp [hnl]
   rw [egd] at hn2;have hD2:H2 D'=some (.lst ((pU rows y).map fun j=>V.int (j:Nat))):=hD2;rw [en] at hD2;refine⟨D',_,_,.int n,rfl,rfl,V6 hD2,aJ (j:=0) rfl,?_⟩;have eun:us[n]?=some us[n]:=ae ‹26›;obtain ⟨hnr,ha⟩:=(hrows.mono sm).get eun;cases hrn:rows[n] with
   | nil=>rw [hrn] at hn2; cases hn2
   | cons x r=>
    rw [hrn] at ha hn2
    have min:∀ m o,m < n->rows[m]?=some o->¬ y∈o.drop 1:=fun m o hm em hy=>by
     have hml:=(bv.mp em).1;have hmem:m∈pU rows y:=dC.mpr ⟨fR.mpr hml,bo (by rw [mw,em]; exact hy)⟩;have srt:(pU rows y).Pairwise (· < ·):=List.Pairwise.sublist (qV) List.pairwise_lt_range;rw [en] at srt hmem;rcases bz.mp hmem with h | h
     ·omega
     ·have:=(List.pairwise_cons.mp srt).1 m h;omega
    have last:∀(q:ut),H2 q=none->Q (.ref q) (upd H2 q (.tup [.str x,.str y,.int n])):=fun q hq=>k q x n r _ (by rw [ae hnl,hrn]) hn2 min ak (sm.trans (We hq));refine⟨_,rfl,_,rfl,?_⟩;obtain ⟨p',e',h'⟩:=hl.same sm;cases e';rcases h' with h' | h'
    ·exact .inr ⟨l,us,_,_,rfl,rfl,V6 h',aJ eun,ha.at0 ⟨_,rfl,_,rfl,by show 3<=sizeLine; decide,last⟩⟩
    ·exact .inl ⟨l,us,_,_,rfl,rfl,V7 h',aJ eun,ha.at0 ⟨_,rfl,_,rfl,by show 3<=sizeLine; decide,last⟩⟩
  ·rintro D' i x ys H2 p hD hi ex ⟨rfl,hD2,sm⟩ hp σo ho;obtain ⟨oo,oo',rfl⟩:=Og ho;have s3:Same H2 (upd H2 p (.tup [.int i,x])):=We hp;obtain ⟨hir,ha⟩:=(hrows.mono (sm.trans s3)).get ex;have egd:rows.getD i []=rows[i]:=by simp [hir]
   have ers:(List.range (i+1)).filter (fun j=>decide (y∈(rows.getD j []).drop 1))=(List.range i).filter (fun j=>decide (y∈(rows.getD j []).drop 1))++(if decide (y∈(rows[i]).drop 1)=true then [i] else []):=by
    rw [List.range_succ,iS,fz,egd];rfl
   have hyl:(((List.range i).filter fun j=>decide (y∈(rows.getD j []).drop 1)).map (fun j=>V.int (j:Nat))).length<=1000:=by
    rw [aa];refine cS (fe _ _) ?_;rw [pT];omega
   refine⟨p,_,rfl,V7 ak,rfl,_,_,rfl,_,_,rfl,rfl,⟨[_,_],rfl,rfl⟩,_,rfl,_,rfl,_,rfl,ha.cut fun q H4 hq s4=>?_⟩
   have hq':SqL K H4 q (((rows[i]).drop 1).map V.str)\/SqT K H4 q (((rows[i]).drop 1).map V.str):=by
    obtain ⟨q',e,h⟩:=hq;cases e;exact h.elim (fun z=>.inl (V6 z)) fun z=>.inr (V7 z)
   refine⟨q,_,rfl,hq',rfl,jg _,_,rfl,gH ‹44› ‹44›⟩
   ·have hb:inV (.str y) (((rows[i]).drop 1).map V.str)=true:=hb;rw [iI] at hb;refine⟨_,rfl,by omega,s4 D' _ (s3 D' _ hD2),aW hi ⟨?_,ak,fun b u e=>?_⟩⟩
    ·rw [ers,dE hb,aI];rfl
    ·rw [aA (au e hD)];exact s4 b _ (s3 b _ (sm b _ e))
   ·have hb:¬ inV (.str y) (((rows[i]).drop 1).map V.str)=true:=hb;rw [iI] at hb;refine aW hi ⟨?_,s4 D' _ (s3 D' _ hD2),(sm.trans s3).trans s4⟩;rw [ers,cK hb,gu]
def oR(ns:LS)(ad:Str->ut):LK0:=ns.map fun x=>(.inr x,.ref (ad x))
theorem BR{ad:Str->ut}{x:Str}(h:x∈ns):cM (oR ns ad) (.inr x)=some (.ref (ad x)):=by
 induction ns with
 | nil=>cases h
 | cons y ns ih=>
  by_cases e:y=x
  ·subst e;exact fB (p:=((.inr y:Key),V.ref (ad y))) rfl
  ·show cM ((.inr y,V.ref (ad y))::oR ns ad) (.inr x)=_;rw [eY (p:=((.inr y:Key),V.ref (ad y))) (by intro z; injection z with z; exact e z)];rcases bz.mp h with z | z
   ·exact absurd z.symm e
   ·exact ih z
def DN{α:Type}(g:Str->α)(x:Str)(v:α):Str->α:=fun y=>if y=x then v else g y
theorem mU{α:Type}{g:Str->α}{x:Str}{v:α}:DN g x v x=v:=dE rfl
theorem uQ{α:Type}{g:Str->α}{x y:Str}{v:α}(h:y≠x):DN g x v y=g y:=cK h
theorem IV{ad:Str->ut}{x:Str}{l:ut}(h:¬ x∈ns):putK (oR ns ad) (.inr x) (.ref l)=oR (ns++[x]) (DN ad x l):=by
 have hn:cM (oR ns ad) (.inr x)=none:=by
  cases q:cM (oR ns ad) (.inr x) with
  | none=>rfl
  | some y=>
   exfalso
   have h1:(cM (oR ns ad) (.inr x)).isSome=true:=by rw [q]; rfl
   rw [oV] at h1;unfold oR at h1;rw [gN,bu] at h1;obtain ⟨z,hz,e⟩:=h1;have e:(BV z:Key)=BV x:=e;exists 10;exact h (e ▸ hz)
 rw [vA _ hn];unfold oR;rw [aI];congr 1
 ·apply gr;intro y hy;have ne:y≠x:=fun e=>by rw [e] at hy; exact h hy
  rw [uQ ne]
 ·show _=[(BV x,V.ref (DN ad x l x))];rw [mU]
theorem Ck(ns:LS)(ad:Str->ut)(x:Str):(cM (oR ns ad) (.inr x)).isSome=true↔x∈ns:=by
 rw [oV];unfold oR;rw [gN,bu];constructor
 ·rintro ⟨y,hy,e⟩;have e:(BV y:Key)=BV x:=e;exists 10;exact e ▸ hy
 ·exact fun h=>⟨x,h,rfl⟩
def eX(rows:LL):LS:=rows.filterMap List.head?
theorem vU{x:Str}{r:LS}(h:(x::r)∈rows):x∈eX rows:=ky.mpr ⟨_,h,rfl⟩
theorem HX{x:Str}(h:x∈eX rows):∃ r,(x::r)∈rows:=by
 obtain ⟨o,ho,e⟩:=ky.mp h;cases o with
 | nil=>cases e
 | cons y r=>
  cases e;exact⟨r,ho⟩
theorem Bo(h:frees rows=[]){x:Str}(hx:x∈eX rows):cY rows x=true:=by
 obtain ⟨r,hr⟩:=HX hx;cases q:cY rows x with
 | true=>rfl
 | false=>
  have:x∈frees rows:=List.mem_flatMap.mpr ⟨_,hr,by show x∈(if cY rows x=true then [] else [x]); rw [q,cK aS]; exact bn⟩;rw [h] at this;cases this
structure Chain (H:Hp) (rows:LL) (c:LS) (nx:Str->Str) (ad:Str->ut) (name:Str):Prop where
 nd:c.Nodup
 fr:∀ z∈c,z∈eX rows
 nf:name∈eX rows
 st:∀(i:Nat) z,c[i]?=some z->c[i+1]?=some (nx z)\/(i+1=c.length/\nx z=name)
 at':∀ z∈c,∃ n:Nat,H (ad z)=some (.tup [.str (nx z),.str z,.int n])
inductive Jx (vs:LV) (H:Hp) (Q:VK) (E_:XK):Prop
 | mk (l:ut) (us:LV) (rows:LL):vs=[.ref l]->gG H (.ref l) us->oG H us rows->rows.length<=1000->frees rows=[]->eX rows≠[]->(∀(q:ut) (ts:LV) H',H' q=some (.tup ts)->Same H H'->Q (.ref q) H')->Jx vs H Q E_
theorem M9(D:Defs K mg t):cA P w K mg base CX0 2 t.jc.1 t.jc.2 ["left"] Jx:=by
 have Gav:=@NQ P w K mg base t D;exists 5;refine D.jc.fn.ok iM ‹7› ‹1›
 ·obtain ⟨l,us,rows,rfl,_⟩:=h;rfl
 ·obtain ⟨l,us,rows,rfl,hl,hrows,hlen,hfree,hfr,k⟩:=h;have hul:us.length=rows.length:=cE hrows
  refine⟨_,(aB (aM (i:=1) iM.nd rfl (uA rfl) (aP bN (bI rfl (Wf ["row"] [] ["row"] (aG (top 18)) ["left","name","holds","ring"] rfl rfl ‹5›) ⟨fun _ _ _ _ _=>(aN (i:=0) (show List.Nodup [("row" : Str)] by decide +kernel) rfl ‹24› ‹17›),fun _ _ _ _ _=>(jJ (Dn (K:=K) rfl (pv 0) (by intro _; rfl))),fun _ _ _ _ _=>(aP (rD (K:=K) rfl) (pv 0) aC ‹3›)⟩ (oO (K:=K) (pv 0) rfl)) aC ‹3›))
   (aB (aM (i:=2) iM.nd rfl (uA rfl) jN)
   (aB (pO dP (zM (qb (dZ hr) (pv 1) (pv 2)))
   (aB (kJ (dZ hr) (pv 2) (pv 1) (aD D.nH Gav ‹2› (by rfl) (aj (pv 1) ‹36›)) rfl)
   (aF (aM (i:=1) iM.nd rfl (uA rfl) (aP aO (eE (dZ hr) (pv 2) (pv 1) ‹3›) aC ‹3›)))))
   (aB (aM (i:=3) iM.nd rfl (uA rfl) (cN (aj (eE (dZ hr) (pv 2) (pv 1) ‹3›) aq)))
   (aB (pO dP (aY yg (aP aO (aP bN (pv 3) (Cm u9 aC) ‹3›) aC ‹3›) (pv 1) (bh _))
   (aF (kI (pB fT gT gX iz (pv 3) (aj (eE (dZ hr) (pv 2) (aP aO (aP bN (pv 3) (Cm u9 aC) ‹3›) aC ‹3›) ‹3›) aq)))))
   (aF (aL (bG cB (by rfl) D.bY bK (aj (Js (pv 3) (Cm u9 aC)) aq))))))))),?_⟩
  exists 18
  refine⟨_,rfl,l,rfl,wz (K:=K) hl (fun D i ys H2=>ys=(eX (rows.take i)).map V.str/\H2=upd H D (.lst ys))
   (fun D hD=>⟨rfl,rfl⟩) (fun D i ys H2 hD ⟨_,e2⟩ o e=>by rw [e2,aA (au e hD)]; exact e) ?_ ?_⟩
  ·rintro D1 ys H2 hD1 ⟨rfl,rfl⟩;rw [aw ‹26›];obtain ⟨x0,more,ef⟩:=mv hfr;refine⟨D1,_,_,.str x0,rfl,rfl,V6 ak,by rw [ef]; exact L2.at0 x0 more,?_⟩;intro hd hhd;have s1:∀ o,Same H (upd H D1 o):=fun o=>We hD1;have s2:=(s1 (.lst ((eX rows).map V.str))).trans (We (o:=.dK []) hhd)
   have hhdH:H hd=none:=by
    cases q:H hd with
    | none=>rfl
    | some o=>
     rw [s1 _ hd o q] at hhd;cases hhd
   have hh3:(upd (upd H D1 (.lst ((eX rows).map V.str))) hd (.dK [])) hd=some (.dK []):=ak;generalize upd (upd H D1 (.lst ((eX rows).map V.str))) hd (.dK [])=H3 at s2 hh3;have hx0:x0∈eX rows:=by rw [ef]; exact bn
   have fl1:(eX rows).length<=1000:=cS (List.length_filterMap_le _ _) hlen;refine⟨fun m σ H4=>∃(c:LS) (nx:Str->Str) (ad:Str->ut) (name:Str) (v3:OV),σ=[some (.ref l),some (.str name),some (.ref hd),v3]/\Chain H4 rows c nx ad name/\H4 hd=some (.dK (oR c ad))/\m+c.length=(eX rows).length/\Same H H4,?_,?_⟩
   ·refine⟨(eX rows).length,[],fun z=>z,fun _=>0,x0,_,rfl,⟨ke,by simp,hx0,by intro i z h; simp at h,by simp⟩,hh3,rfl,s2⟩
   ·rintro m σ H4 ⟨c,nx,ad,name,v3,rfl,ch,hh4,hm,sm4⟩;refine⟨_,rfl,_,rfl,hd,_,rfl,lY.k (k:=.inr name) hh4,_,rfl,?_⟩;cases hin:(cM (oR c ad) (.inr name)).isSome with
    | false=>
     have hnc:¬ name∈c:=fun h=>by rw [(Ck c ad name).mpr h] at hin; cases hin
     have hcl:c.length < (eX rows).length:=by
      have:=dh (uU ch.nd hnc) (m:=eX rows) fun z hz'=>by
       rcases cw.mp hz' with h | h
       ·exact ch.fr z h
       ·rw [bj.mp h];exact ch.nf
      rw [bX,eQ] at this;omega
     refine bM ⟨fun σ' H'=>∃ m',m' < m/\∃(c:LS) (nx:Str->Str) (ad:Str->ut) (name:Str) (v3:OV),σ'=[some (.ref l),some (.str name),some (.ref hd),v3]/\Chain H' rows c nx ad name/\H' hd=some (.dK (oR c ad))/\m'+c.length=(eX rows).length/\Same H H',fun σ' H' h=>h,?_⟩;refine⟨_,rfl,_,rfl,name,l,us,rows,rfl,hl.same sm4,hrows.mono sm4,hlen,Bo hfree ch.nf,fun q x n r H5 er hy _ hq s5=>?_⟩;have hh5:=s5 hd _ hh4;refine⟨_,rfl,_,rfl,hd,_,rfl,tD.k (k:=.inr name) hh5 (by unfold oR; rw [aa]; omega),?_⟩;rw [IV hnc];have qh:q≠hd:=eG hq hh5 ‹11›;have kp6:∀ b u,b≠hd->H5 b=some u->(upd H5 hd (.dK (oR (c++[name]) (DN ad name q)))) b=some u:=fun b u hb e=>by rw [aA hb]; exact e
     have hmem:name∈c++[name]:=dQ _ bn;refine⟨_,rfl,_,rfl,hd,.ref q,rfl,.inl ⟨_,.inr name,.inl ak,rfl,by rw [BR hmem,mU]⟩,q,_,_,_,rfl,rfl,V7 (kp6 q _ qh hq),rfl,?_⟩;refine⟨m - 1,by omega,c++[name],DN nx name x,DN ad name q,x,_,rfl,⟨uU ch.nd hnc,?_,vU (eI er),?_,?_⟩,ak,by rw [bX,eQ]; omega,fun b u e=>kp6 b u (au e hhdH) (s5 b u (sm4 b u e))⟩
     ·intro z hz';rcases cw.mp hz' with h | h
      ·exact ch.fr z h
      ·rw [bj.mp h];exact ch.nf
     ·intro i z ez
      by_cases hic:i < c.length
      ·rw [ij hic] at ez;have zn:z≠name:=fun e=>hnc (e ▸ eI ez);rw [uQ zn]
       left
       rcases ch.st i z ez with h | ⟨h1,h2⟩
       ·have:=(bv.mp h).1;rw [ij this];exact h
       ·rw [h2,h1,ic (ai _),Nat.sub_self];rfl
      ·have hi2:=(bv.mp ez).1;rw [bX,eQ] at hi2;have ei:i=c.length:=by omega
       subst ei;rw [ic (ai _),Nat.sub_self] at ez;have ez:z=name:=by simpa using ez.symm
       subst ez
       right
       exact⟨by rw [bX]; rfl,mU⟩
     ·intro z hz'
      by_cases zn:z=name
      ·subst zn;exact⟨n,by rw [mU,mU]; exact kp6 q _ qh hq⟩
      ·rw [uQ zn,uQ zn];rcases cw.mp hz' with h | h
       ·obtain ⟨n',hn'⟩:=ch.at' z h;have h5:=s5 _ _ hn';exact⟨n',kp6 _ _ (eG h5 hh5 ‹11›) h5⟩
       ·exact absurd (bj.mp h) zn
    | true=>
     have hnc:name∈c:=(Ck c ad name).mp hin;refine bT ?_;have getd:∀ {H5:Hp} {z:Str},z∈c->H5 hd=some (.dK (oR c ad))->lY H5 hd (.str z) (some (.ref (ad z))):=fun {H5 z} hz' h=>.inl ⟨_,.inr z,.inl h,rfl,(BR hz').symm⟩;refine⟨_,rfl,_,rfl,hd,.ref (ad name),rfl,getd hnc hh4,by show 1<=sizeLine; decide,fun rg hrg=>?_⟩;have s5:∀ o,Same H4 (upd H4 rg o):=fun o=>We hrg;obtain ⟨j0,hj0,ej0⟩:=fF hnc;have cl1:c.length<=1000:=by omega
     refine⟨fun m σ H5=>∃(zs:LS) (i:Nat) (z:Str),σ=[some (.ref l),some (.str name),some (.ref hd),some (.ref rg)]/\H5 rg=some (.lst ((zs++[z]).map fun z=>V.ref (ad z)))/\zs.length<=i/\c[i]?=some z/\m+i=c.length/\(∀ b u,b≠rg->H4 b=some u->H5 b=some u),?_,?_⟩
     ·exact⟨c.length - j0,[],j0,name,rfl,ak,dk _,by rw [ae hj0,ej0],by omega,fun b u hb e=>by rw [aA hb]; exact e⟩
     ·rintro m2 σ H5 ⟨zs,i,z,rfl,hrg5,hzi,ez,hm2,kp5⟩;have hzc:z∈c:=eI ez;have hil:=(bv.mp ez).1;obtain ⟨n,hn⟩:=ch.at' z hzc;have az:ad z≠rg:=au hn hrg;have hn5:=kp5 _ _ az hn;have hhr:hd≠rg:=au hh4 hrg;have hh5:=kp5 hd _ hhr hh4
      have elast:atI ((zs++[z]).map fun z=>V.ref (ad z)) (-1)=some (.ref (ad z)):=by
       rw [aI];exact Jr _ _
      refine⟨_,rfl,_,rfl,rg,_,_,_,rfl,rfl,V6 hrg5,elast,ad z,_,_,_,rfl,rfl,V7 hn5,rfl,_,rfl,rfl,_,rfl,gH ‹44› ‹44›⟩
      ·have hne:nx z≠name:=fun e=>by
        rw [e] at hb;simp at hb
       have ez2:c[i+1]?=some (nx z):=by
        rcases ch.st i z ez with h | ⟨_,h⟩
        ·exact h
        ·exact absurd h hne
       have hi1:=(bv.mp ez2).1;refine⟨fun σ' H'=>∃ m',m' < m2/\∃(zs:LS) (i:Nat) (z:Str),σ'=[some (.ref l),some (.str name),some (.ref hd),some (.ref rg)]/\H' rg=some (.lst ((zs++[z]).map fun z=>V.ref (ad z)))/\zs.length<=i/\c[i]?=some z/\m'+i=c.length/\(∀ b u,b≠rg->H4 b=some u->H' b=some u),fun σ' H' h=>h,?_⟩;refine⟨_,rfl,.inl ⟨rfl,_,V6 hrg5⟩,_,rfl,_,rfl,_,rfl,rg,_,_,_,rfl,rfl,V6 hrg5,elast,ad z,_,_,_,rfl,rfl,V7 hn5,rfl,hd,.ref (ad (nx z)),rfl,getd (eI ez2) hh5,rg,_,.ref (ad (nx z)),rfl,rfl,hrg5,by rw [aa,bX,eQ]; omega,?_⟩;refine⟨m2 - 1,by omega,zs++[z],i+1,nx z,rfl,?_,by rw [bX,eQ]; omega,ez2,by omega,fun b u hb' e=>by rw [aA hb']; exact kp5 b u hb' e⟩;rw [ak,aI (l₁:=zs++[z])];rfl
      ·refine⟨_,rfl,_,rfl,rg,_,_,rfl,rfl,V6 hrg5,.inr ⟨rfl,fun q6 hq6=>⟨q6,_,rfl,.inl ⟨V6 ak,fun q8 hq8=>?_⟩⟩⟩⟩;refine k q8 _ _ ak fun b u e=>?_;have e4:=sm4 b u e;have e5:=kp5 b u (au e4 hrg) e4;have e6:(upd H5 q6 (.lst ((zs++[z]).map fun z=>V.ref (ad z)).reverse)) b=some u:=by rw [aA (au e5 hq6)]; exact e5
       rw [aA (au e6 hq8)];exact e6
  ·rintro D1 i x ys H2 hD hi ex ⟨rfl,rfl⟩ σo ho;obtain ⟨oo,rfl⟩:=own1 ho;have s1:∀ o,Same H (upd H D1 o):=fun o=>We hD;obtain ⟨hir,ha⟩:=(hrows.mono (s1 _)).get ex
   have hyl:((eX (rows.take i)).map V.str).length<=1000:=by
    rw [aa];refine cS (List.length_filterMap_le _ _) ?_;rw [bc];omega
   refine⟨‹13›,_,rfl,_,ha.tru,?_⟩
   have efr:eX (rows.take (i+1))=eX (rows.take i)++(rows[i]).head?.toList:=by
    unfold eX;rw [take_snoc hir,List.filterMap_append];congr 1
   cases hre:rows[i] with
   | nil=>
    refine bT (aW hi ⟨?_,rfl⟩);rw [efr,hre];simp
   | cons y r=>
    rw [hre] at ha;refine bM ⟨_,rfl,ha.at0 ⟨by omega,ak,aW hi ‹42›⟩⟩;rw [efr,hre,aI];rfl
theorem HD(rows:LL)(x:Str):cY (full rows) x=cY rows x:=by
 unfold cY full;apply fg.mpr;rw [iP,iP];constructor
 ·rintro ⟨o,h1,h2⟩;exact⟨o,(dC.mp h1).1,h2⟩
 ·rintro ⟨o,h1,h2⟩;refine⟨o,dC.mpr ⟨h1,?_⟩,h2⟩;cases o with
  | nil=>have:=eA h2; cases this
  | cons _ _=>rfl
theorem vq(rows:LL):frees (full rows)=frees rows:=by
 have key:∀(R S:LL),(∀ x,cY S x=cY R x)->∀ rs:LL,(full rs).flatMap (freeOf S)=rs.flatMap (freeOf R):=by
  intro R S h rs
  induction rs with
  | nil=>rfl
  | cons r rs ih=>
   unfold full at ih ⊢;rw [fz,pS];cases r with
   | nil=>
    simp only [List.isEmpty_nil,Bool.not_true,jn,oC];rw [ih];rfl
   | cons y r=>
    simp only [pM,r8,kR];rw [pS,ih];congr 1;show (if cY S y=true then [] else [y])=(if cY R y=true then [] else [y]);rw [h y]
 exact key rows (full rows) (HD rows) rows
theorem qN(x:Str):∀ rows:LL,full ((full rows).map (cJ x))=full (rows.map (cJ x))
 | []=>rfl
 | r::rows=>by
  have ih:=qN x rows;unfold full at ih ⊢;rw [fz,de,fz];cases r with
  | nil=>
   simp only [List.isEmpty_nil,Bool.not_true,jn,oC];rw [ih];rfl
  | cons y r=>
   simp only [pM,r8,kR,de];rw [fz,ih]
def Kv(H:Hp)(x:Str)(r:Option LS)(q:ut):Prop:=match r with
 | some os=>∃ qo,H q=some (.tup [.str "order",.ref qo])/\H qo=some (.tup ((x::os).map V.str))
 | none=>∃ a rg,H q=some (.tup [.str "quarrel",.str a,.ref rg])
inductive GF (vs:LV) (H:Hp) (Q:VK) (E_:XK):Prop
 | mk (x:Str) (l:ut) (us:LV) (rows:LL):vs=[.str x,.ref l]->H l=some (.tup us)->jX H us rows->((∀ r∈rows,r≠[])\/∀ r∈rows,r=[])->tot rows<=1000->rows.length<=1000->(∀(q:ut) (r:Option LS) H',Mg (full rows) r->Kv H' x r q->Same H H'->Q (.ref q) H')->GF vs H Q E_
theorem Jk(D:Defs K mg t):cA P w K mg base CX0 3 t.iV.1 t.iV.2 ["kind","rows"] GF:=by
 have Gbn:=@JC P w K mg base t D;have Gba:=@M9 P w K mg base t D;exists 5;refine D.iV.fn.ok iJ ‹7› ‹1›
 ·obtain ⟨x,l,us,rows,rfl,_⟩:=h;rfl
 ·obtain ⟨x,l,us,rows,rfl,hl,hrt,hcase,htot,hlen,k⟩:=h
  refine⟨_,(aB (aM (i:=2) iJ.nd rfl (uA rfl) (cN ‹36›))
   (aB (aM (i:=3) iJ.nd rfl (uA rfl) (pv 1))
   (aB (pO dP (bZ (aH (HF rfl) (by rfl) D.P0 Kc (aj (pv 3) aq)))
   (aB (aM (i:=4) iJ.nd rfl (Mm rfl) (aD D.iU Gbn ‹2› (by rfl) (aj (pv 3) aq)))
   (aB (bO (aY zJ (pv 4) jR (bh _))
   (aF (aL (cC (aj dG (aj (pv 0) (aj (aD D.jc Gba ‹2› (by rfl) (aj (pv 3) aq)) aq))))))
   aU)
   (aB (kI (pB fT gT gX iz (pv 2) (aj (pv 4) aq)))
   (aF (j8 (i:=3) rfl iJ.nd rfl (uA rfl) (Wf ["row"] [4] ["row","first"] (aG (top 16)) ["kind","rows","order","left","first"] rfl rfl ‹5›) ⟨fun _ _ _ _ _=>(aN (i:=0) (show List.Nodup [("row" : Str),("first" : Str)] by decide +kernel) rfl ‹24› ‹17›),fun _ _ _ _ _=>bJ,fun _ _ _ _ _=>(bI rfl (aK.of2 ["name"] [1] ["name","first"] ["row","first"] rfl rfl ‹5›) ⟨fun _ _ _ _ _=>(aN (i:=0) (show List.Nodup [("name" : Str),("first" : Str)] by decide +kernel) rfl ‹24› ‹17›),fun _ _ _ _ _=>(jJ (aY yg (pv 0) (pv 1) (bh _))),fun _ _ _ _ _=>(pv 0)⟩ (oO (K:=K) (pv 0) rfl))⟩ (oO (K:=K) (pv 3) rfl)))))))
   (aF (aL (cC (aj dG (aj (bG cB (by rfl) D.bY bK (aj (pv 2) aq)) aq)))))))),?_⟩
  exists 18;refine⟨_,rfl,by show 1<=sizeLine; decide,fun ol hol=>?_⟩;exists 1,s0,hol0,H,ol,(.lst [.str x]),hol,H1;refine⟨_,rfl,?_⟩
  refine⟨fun m σ H2=>∃(us2:LV) (rows2:LL) (os:LS) (l2:ut) (v4:OV),σ=[some (.str x),some (.ref l),some (.ref ol),some (.ref l2),v4]/\gG H2 (.ref l2) us2/\l2≠ol/\Paired (fun(v:V) (r:LS)=>∃ a,v=.ref a/\a≠ol/\(H2 a=some (.lst (r.map V.str))\/H2 a=some (.tup (r.map V.str)))) us2 rows2/\(oG H2 us2 rows2\/∀ r∈rows2,r=[])/\
   H2 ol=some (.lst ((x::os).map V.str))/\m=tot rows2/\os.length+tot rows2<=1000/\rows2.length=rows.length/\(∀ r,Mg (full rows2) r->Mg (full rows) (r.map (os++·)))/\Same H H2,?_,?_⟩
  ·refine⟨_,us,rows,[],l,_,rfl,⟨l,rfl,.inr (s0 l _ hl)⟩,au hl hol,V4 hrt fun v r ⟨a,e,h⟩=>⟨a,e,au h hol,.inr (s0 a _ h)⟩,?_,hol0,rfl,by show 0+_<=_; omega,rfl,fun r h=>?_,s0⟩
   ·rcases hcase with h | h
    ·left
     have key:∀ {us:LV} {rows:LL},jX H us rows->(∀ r∈rows,r≠[])->oG H1 us rows:=by
      intro us rows hh
      induction hh with
      | nil=>exact fun _=>.nil
      | cons q _ ih=>
       intro h;obtain ⟨a,e,h'⟩:=q;exact .cons ⟨a,e,.inr ⟨s0 a _ h',h _ bn⟩⟩ (ih fun r hr=>h r (cr _ hr))
     exact key hrt h
    ·exact .inr h
   ·have:r.map (([]:LS)++·)=r:=by cases r <;> rfl
    rw [this];exact h
  ·rintro m σ H2 ⟨us2,rows2,os,l2,v4,rfl,hl2,l2o,pr,hc2,hol2,rfl,hb2,hrl,mg2,sm2⟩;have hul:us2.length=rows2.length:=cE pr;obtain ⟨l2',el2,hl2'⟩:=id hl2;cases el2;refine⟨_,rfl,l2,us2,rows2.map (fun r=>!r.isEmpty),rfl,hl2',by rw [aa,hul],fun i hi hj=>?_,_,rfl,?_⟩
   ·have hir:i < rows2.length:=by omega
    obtain ⟨a,e,_,h⟩:=fM pr i hi hir;refine⟨(rows2[i]).map V.str,⟨a,e,h⟩,?_⟩;rw [List.getElem_map];cases rows2[i] <;> rfl
   have eany:(rows2.map fun r=>!r.isEmpty).any id=!(full rows2).isEmpty:=by
    rw [List.any_map];apply fg.mpr;rw [iP];constructor
    ·rintro ⟨r,h1,h2⟩;have:r∈full rows2:=dC.mpr ⟨h1,h2⟩;cases hf:full rows2 with
     | nil=>rw [hf] at this; cases this
     | cons _ _=>rfl
    ·intro h;cases hf:full rows2 with
     | nil=>rw [hf] at h; cases h
     | cons r _=>
      have:r∈full rows2:=by rw [hf]; exact bn
      obtain ⟨h1,h2⟩:=dC.mp this;exact⟨r,h1,h2⟩
   rw [eany];cases hf:full rows2 with
   | nil=>
    refine bT ⟨_,rfl,ol,_,rfl,.inl ⟨V6 hol2,fun qo hqo=>⟨by show 2<=sizeLine; decide,fun q hq=>?_⟩⟩⟩;have h1:=mg2 (some []) (by rw [hf]; exact .nil);have s3:=(We (o:=.tup ((x::os).map V.str)) hqo).trans (We (o:=.tup [.str "order",.ref qo]) hq);refine k q (some os) _ (by simpa using h1) ⟨qo,ak,?_⟩ (sm2.trans s3);rw [aA (au ak hq),ak]
   | cons r0 rr=>
    have hfne:full rows2≠[]:=by rw [hf]; exact kU _ _
    have hrn:oG H2 us2 rows2:=by
     rcases hc2 with h | h
     ·exact h
     ·exfalso
      have:r0∈full rows2:=by rw [hf]; exact bn
      obtain ⟨h1,h2⟩:=dC.mp this;rw [h r0 h1] at h2;cases h2
    refine bM ⟨fun σ' H'=>∃ m',m' < tot rows2/\∃(us2:LV) (rows2:LL) (os:LS) (l2:ut) (v4:OV),σ'=[some (.str x),some (.ref l),some (.ref ol),some (.ref l2),v4]/\gG H' (.ref l2) us2/\l2≠ol/\Paired (fun(v:V) (r:LS)=>∃ a,v=.ref a/\a≠ol/\(H' a=some (.lst (r.map V.str))\/H' a=some (.tup (r.map V.str)))) us2 rows2/\(oG H' us2 rows2\/∀ r∈rows2,r=[])/\
     H' ol=some (.lst ((x::os).map V.str))/\m'=tot rows2/\os.length+tot rows2<=1000/\rows2.length=rows.length/\(∀ r,Mg (full rows2) r->Mg (full rows) (r.map (os++·)))/\Same H H',fun σ' H' h=>h,?_⟩
    refine⟨_,rfl,l2,us2,rows2,rfl,hl2,hrn,by omega,by omega,fun H3 s3=>?_⟩;cases hfr:frees rows2 with
    | nil=>
     refine⟨_,rfl,rfl,_,rfl,bM ?_⟩
     have hfronts:eX rows2≠[]:=by
      have:r0∈full rows2:=by rw [hf]; exact bn
      obtain ⟨h1,h2⟩:=dC.mp this;cases r0 with
      | nil=>cases h2
      | cons y r=>exact List.ne_nil_of_mem (vU h1)
     refine⟨_,rfl,_,rfl,l2,us2,rows2,rfl,hl2.same s3,hrn.mono s3,by omega,hfr,hfronts,fun rg ts H4 hrg s4=>⟨by show 3<=sizeLine; decide,fun q hq=>?_⟩⟩;refine k q none _ (mg2 none (.stuck hfne (by rw [vq]; exact hfr))) ⟨x,rg,ak⟩ (((sm2.trans s3).trans s4).trans (We hq))
    | cons x1 more=>
     refine⟨_,rfl,rfl,_,rfl,bT ?_⟩;have hx1:x1∈frees rows2:=by rw [hfr]; exact bn
     obtain ⟨r1,hr1,hh1⟩:=sZ hx1
     have hx1r:x1∈r1:=by
      cases r1 with
      | nil=>cases hh1
      | cons y r'=>
       cases hh1;exact bn
     have hlt:=rC (x:=x1) ⟨r1,hr1,hx1r⟩;have hol3:=s3 ol _ hol2;refine⟨_,rfl,.inl ⟨rfl,_,V6 hol3⟩,_,rfl,ol,_,.str x1,rfl,rfl,hol3,by rw [aa,dA]; omega,?_⟩;have eol:(x::os).map V.str++[V.str x1]=(x::(os++[x1])).map V.str:=by rw [de,de,aI]; rfl
     rw [eol];have kp4:∀ b u,b≠ol->H3 b=some u->(upd H3 ol ‹30›) b=some u:=fun b u hb e=>by rw [aA hb]; exact e
     have hol4:(upd H3 ol ‹30›) ol=some (.lst ((x::(os++[x1])).map V.str)):=ak;generalize upd H3 ol ‹30›=H4 at kp4 hol4;have sm4:Same H H4:=fun b u e=>kp4 b u (au e hol) (s3 b u (sm2 b u e));have hl4:gG H4 (.ref l2) us2:=⟨l2,rfl,hl2'.elim (fun z=>.inl (kp4 l2 _ l2o (s3 l2 _ z))) fun z=>.inr (kp4 l2 _ l2o (s3 l2 _ z))⟩
     have row4:∀(i:Nat) (v:V),us2[i]?=some v->∃(hir:i < rows2.length) (a:ut),v=.ref a/\gG H4 (.ref a) ((rows2[i]).map V.str):=fun i v e=>by
      have hi:=(bv.mp e).1;have hir:i < rows2.length:=by omega
      obtain ⟨a,ea,ao,h⟩:=fM pr i hi hir;rw [ae hi] at e;cases e;exact⟨hir,a,ea,a,rfl,h.elim (fun z=>.inl (kp4 a _ ao (s3 a _ z))) fun z=>.inr (kp4 a _ ao (s3 a _ z))⟩
     refine⟨_,rfl,l2,rfl,wz (K:=K) hl4 (fun D i ys H5=>H5 D=some (.lst ys)/\oF H5 D ol ys ((rows2.take i).map (cJ x1))/\Same H4 H5)
      (fun D hD=>⟨ak,.nil,We hD⟩) (fun D i ys H5 hD ⟨_,_,sm⟩ o e=>sm l2 o e) ?_ ?_⟩
     ·rintro D1 ys H5 hD1 ⟨hD5,ry5,sm5⟩;rw [aw ‹26›] at ry5;have D1o:D1≠ol:=fun e=>by rw [e,hol4] at hD1; cases hD1
      refine⟨tot (rows2.map (cJ x1)),hlt,ys,rows2.map (cJ x1),os++[x1],D1,_,rfl,⟨D1,rfl,.inl hD5⟩,D1o,V4 ry5 fun v r ⟨a,e,_,n,q⟩=>⟨a,e,n,.inl q⟩,.inl (V4 ry5 fun v r ⟨a,e,_,n,q⟩=>⟨a,e,.inl q⟩),sm5 ol _ hol4,rfl,?_,by rw [aa]; exact hrl,fun r h=>?_,sm4.trans sm5⟩
      ·rw [bX,eQ];omega
      ·have h1:=mg2 _ (.step (by rw [vq]; exact hfr) (by rw [qN]; exact h));rw [Option.map_map] at h1
       have:((fun x=>os++x) ∘ fun x=>x1::x)=fun x=>os++[x1]++x:=by
        funext z;simp
       rw [this] at h1;exact h1
     ·rintro D1 i v ys H5 hD1 hi ev ⟨hD5,ry5,sm5⟩ σo ho;obtain ⟨oo,rfl⟩:=own1 ho;obtain ⟨hir,a,rfl,ha⟩:=row4 i v ev;have ha5:=ha.same sm5
      have hyl:ys.length<=1000:=by
       rw [cE ry5,aa,bc];omega
      refine⟨‹13›,cg ⟨_,rfl,a,rfl,wz (K:=K) ha5 (fun D j ys5 H6=>ys5=(cJ x1 ((rows2[i]).take j)).map V.str/\H6=upd H5 D (.lst ys5))
       (fun D hD=>⟨rfl,rfl⟩) (fun D j ys5 H6 hD ⟨_,e6⟩ o e=>by rw [e6,aA (au e hD)]; exact e) ?_ ?_⟩⟩
      ·rintro D5 ys5 H6 hD5' ⟨rfl,rfl⟩;rw [aw (by rw [aa]; exact ai _)];have s6:∀ o,Same H5 (upd H5 D5 o):=fun o=>We hD5';have D51:D5≠D1:=fun e=>by rw [e,hD5] at hD5'; cases hD5'
       have D5o:D5≠ol:=fun e=>by rw [e,sm5 ol _ hol4] at hD5'; cases hD5'
       refine⟨by omega,s6 _ D1 _ hD5,aW hi ⟨ak,?_,fun b u e=>?_⟩⟩
       ·rw [take_snoc hir,aI];exact dY (ry5.grow (s6 _)) ⟨D5,rfl,D51,D5o,by rw [aA D51,ak]⟩
       ·rw [aA (au e hD1)];exact s6 _ b _ (sm5 b _ e)
      ·rintro D5 j y ys5 H6 hD5' hj ey ⟨rfl,rfl⟩ σo5 ho5;obtain ⟨o5,rfl⟩:=own1 ho5;have hj':j < (rows2[i]).length:=by rw [aa] at hj; exact hj
       rw [bg,ae hj'] at ey;cases ey
       have eout:cJ x1 ((rows2[i]).take (j+1))=cJ x1 ((rows2[i]).take j)++(if decide ((rows2[i])[j]≠x1)=true then [(rows2[i])[j]] else []):=by
        unfold cJ;rw [take_snoc hj',iS];congr 1;rw [fz];rfl
       have hri:=vm (bS hir)
       have hl5:((cJ x1 ((rows2[i]).take j)).map V.str).length<=1000:=by
        rw [aa];have h1:=yK x1 ((rows2[i]).take j);rw [bc] at h1;omega
       refine⟨‹13›,_,rfl,_,rfl,rfl,_,rfl,gH ‹44› ‹44›⟩
       ·have hb:(rows2[i])[j]≠x1:=fun e=>by
         have hb:(!decide (V.str (rows2[i])[j]=V.str x1))=true:=hb;rw [e,bo rfl] at hb;cases hb
        refine⟨_,rfl,by omega,ak,aW hj ‹42›⟩;rw [eout,dE (bo hb),aI];rfl
       ·have hb:(rows2[i])[j]=x1:=fb fun e=>hb (by
         show (!decide (V.str (rows2[i])[j]=V.str x1))=true;rw [bE (by intro z; injection z with z; exact e z)];rfl)
        refine aW hj ⟨?_,rfl⟩;rw [eout,cK (by simpa using hb),gu]
def wk(H:Hp)(f:Fam)(x:Str)(q:ut):Prop:=(∃ o qo,iC f x=some o/\H q=some (.tup [.str "order",.ref qo])/\H qo=some (.tup (o.map V.str)))\/(iC f x=none/\∃ a rg,H q=some (.tup [.str "quarrel",.str a,.ref rg]))
def sX(H:Hp)(kvs:LK0)(f:Fam)(S:Str->Prop):Prop:=∀ x,S x->∃ q,cM kvs (.inr x)=some (.ref q)/\wk H f x q
theorem wk.mono{f:Fam}{x:Str}(h:wk H f x q)(s:dH H H'):wk H' f x q:=by
 rcases h with ⟨o,qo,h1,h2,h3⟩ | ⟨h1,a,rg,h2⟩
 ·exact .inl ⟨o,qo,h1,s q _ h2,s qo _ h3⟩
 ·exact .inr ⟨h1,a,rg,s q _ h2⟩
inductive w6 (vs:LV) (H:Hp) (Q:VK) (E_:XK):Prop
 | mk (e d:ut) (es:LS) (kvs:LK0) (f:Fam):vs=[.ref e,.ref d]->H e=some (.tup (es.map V.str))->Rd H d (.dK kvs)->sX H kvs f (·∈es)->((∀ x∈es,(iC f x).isSome=true)->Q .non H)->(¬ (∀ x∈es,(iC f x).isSome=true)->∀ (q a rg),H q=some (.tup [.str "quarrel",.str a,.ref rg])->Q (.ref q) H)->w6 vs H Q E_
theorem Dz:¬ ("order" : Str) = "quarrel" := by decide +kernel
theorem DY(D:Defs K mg t):cA P w K mg base CX0 1 t.fJ.1 t.fJ.2 ["kinds","told"] w6:=by
 refine D.fJ.fn.ok mR ‹7› ‹1›
 ·obtain ⟨e,d,es,kvs,f,rfl,_⟩:=h;rfl
 ·obtain ⟨e,d,es,kvs,f,rfl,he,hd,told,k1,k2⟩:=h
  refine⟨_,(aB (fP dP rfl (bW (pv 0)) (aN (i:=2) mR.nd rfl (uA rfl))
   (aF (bO (aY gq (aP aO (eE (dZ hr) (pv 1) (pv 2) ‹3›) aC ‹3›) dG (bh _))
   (aF (aL (eE (dZ hr) (pv 1) (pv 2) ‹3›)))
   aU)))
   (aF (aL jR))),?_⟩
  refine⟨_,rfl,e,rfl,⟨_,V7 he⟩,qu (K:=N0) (a:=e) (xs:=es.map V.str) (fun i σ H2=>∃ v2:OV,σ=[some (.ref e),some (.ref d),v2]/\H2=H/\∀ x∈es.take i,(iC f x).isSome=true)
   ⟨_,rfl,rfl,by simp⟩ (fun i σ H2 _ ⟨_,_,e2,_⟩=>by rw [e2]; exact V7 he) ?_ ?_⟩
  ·rintro i v σ H2 hi ⟨v2,rfl,rfl,all⟩
   have hil:i < es.length:=by
    have:=(bv.mp hi).1
    rwa [aa] at this
   have ev:v=.str es[i]:=by
    rw [bg,ae hil] at hi;exact(ck hi).symm
   subst ev;have hm:es[i]∈es:=bS hil;obtain ⟨q,hv,ht⟩:=told es[i] hm;have gd:lY H2 d (.str es[i]) (some (.ref q)):=.inl ⟨kvs,.inr es[i],hd,rfl,hv.symm⟩;rcases ht with ⟨o,qo,h1,h2,h3⟩ | ⟨h1,a,rg,h2⟩
   ·refine⟨_,rfl,_,rfl,d,.ref q,rfl,gd,q,_,_,_,rfl,rfl,V7 h2,rfl,rfl,_,rfl,eU (by rw [bE (by intro h; injection h with h; exact Dz h)]; exact aS) ?_⟩;refine⟨_,rfl,rfl,fun x hx=>?_⟩;rw [take_snoc hil] at hx;rcases cw.mp hx with h | h
    ·exact all x h
    ·rw [bj.mp h,h1];rfl
   ·refine⟨_,rfl,_,rfl,d,.ref q,rfl,gd,q,_,_,_,rfl,rfl,V7 h2,rfl,rfl,_,rfl,eO (bo rfl) ?_⟩;refine⟨_,rfl,_,rfl,d,.ref q,rfl,gd,k2 (fun h=>?_) q a rg h2⟩;have:=h es[i] hm;rw [h1] at this;cases this
  ·rintro σ H2 ⟨v2,rfl,rfl,all⟩;rw [aa,aw (ai _)] at all;exact k1 all
inductive zY (vs:LV) (H:Hp) (Q:VK) (E_:XK):Prop
 | mk (e d:ut) (es:LS) (kvs:LK0) (f:Fam):vs=[.ref e,.ref d]->H e=some (.tup (es.map V.str))->Rd H d (.dK kvs)->sX H kvs f (·∈es)->(∀ x∈es,(iC f x).isSome=true)->es.length<=1000->(∀(q:ut) (us:LV) H',H' q=some (.tup us)->jX H' us (cu (iC f) es)->Same H H'->Q (.ref q) H')->zY vs H Q E_
theorem Ia(D:Defs K mg t):cA P w K mg base CX0 1 t.nA.1 t.nA.2 ["elders","told"] zY:=by
 exists 5;refine D.nA.fn.ok Ec ‹7› ‹1›
 ·obtain ⟨e,d,es,kvs,f,rfl,_⟩:=h;rfl
 ·obtain ⟨e,d,es,kvs,f,rfl,he,hd,told,all,hlen,k⟩:=h;refine⟨_,(aF (aL (aR Kz (bG cB (by rfl) D.bY bK (aj (bI rfl (Wf ["elder"] [1] ["elder","told"] (aG (top 15)) ["elders","told"] rfl rfl ‹5›) ⟨fun _ _ _ _ _=>(aN (i:=0) (show List.Nodup [("elder" : Str),("told" : Str)] by decide +kernel) rfl ‹24› ‹17›),fun _ _ _ _ _=>bJ,fun _ _ _ _ _=>(aP aO (eE (dZ hr) (pv 1) (pv 0) ‹3›) aC ‹3›)⟩ (bW (pv 0))) aq)) (cC ‹36›)))),?_⟩;refine⟨_,rfl,e,rfl,⟨_,V7 he⟩,fun D1 hD1=>?_⟩;have s1:∀ o,Same H (upd H D1 o):=fun o=>We hD1;refine bA (n:=(es.map V.str).length) (fun i ys H2=>jX H ys ((es.take i).map fun x=>(iC f x).getD [])/\H2=upd H D1 (.lst ys)) ⟨.nil,rfl⟩ ?_ ?_
  ·rintro ys H2 ⟨rt,rfl⟩;rw [aa,aw (ai _)] at rt;refine⟨⟨_,V7 (s1 _ e _ he),ai _⟩,D1,_,rfl,.inl ⟨V6 ak,fun q1 hq1=>?_⟩⟩;have s2:=(s1 (.lst ys)).trans (We (o:=.tup ys) hq1);have hyl:ys.length=es.length:=by rw [cE rt,aa]
   refine⟨_,rfl,by show 1<=sizeLine; decide,fun q2 hq2=>?_⟩;have s3:=s2.trans (We (o:=.tup [.ref e]) hq2);have h1:(upd (upd (upd H D1 (.lst ys)) q1 (.tup ys)) q2 (.tup [.ref e])) q1=some (.tup ys):=by rw [aA (au ak hq2),ak]
   have last:∀ (H':Hp),Same H H'->jX H' (ys++[.ref e]) (cu (iC f) es):=fun H' s=>dY (rt.mono (V9 s)) ⟨e,rfl,s e _ he⟩;cases ys with
   | nil=>
    refine .inr ⟨q1,q2,[.ref e],rfl,rfl,h1,ak,?_⟩;exact k q2 _ _ ak (last _ s3) s3
   | cons y0 yr=>
    refine .inl ⟨q1,q2,y0::yr,[.ref e],rfl,rfl,V7 h1,V7 ak,kU _ _,by rw [hyl]; show es.length+1<=sizeLine; omega,(fun h=>absurd h (kU _ _)),fun _ q3 hq3=>?_⟩;have s4:=s3.trans (We (o:=.tup (y0::yr++[.ref e])) hq3);exact k q3 _ _ ak (last _ s4) s4
  ·rintro i ys H2 hi ⟨rt,rfl⟩;have hi':i < es.length:=by rw [aa] at hi; exact hi
   have ei:(es.map V.str)[i]?=some (.str es[i]):=by rw [bg,ae hi']; rfl
   refine⟨⟨_,_,V7 (s1 _ e _ he),ei⟩,?_⟩;rintro v H3 ⟨rfl,yy⟩ σo ho;obtain ⟨oo,rfl⟩:=own1 ho;have ev:=yy _ (V7 (s1 _ e _ he));rw [ei] at ev;cases ev;have hm:es[i]∈es:=bS hi';obtain ⟨q,hv,ht⟩:=told es[i] hm
   have hd1:Rd (upd H D1 (.lst ys)) d (.dK kvs):=by
    rcases hd with h | ⟨o,h⟩
    ·exact .inl (s1 _ d _ h)
    ·exact .inr ⟨o,s1 _ d _ h⟩
   rcases ht with ⟨o,qo,h1,h2,h3⟩ | ⟨h1,_⟩
   ·refine⟨‹13›,cg ⟨_,rfl,_,rfl,d,.ref q,rfl,.inl ⟨kvs,.inr es[i],hd1,rfl,hv.symm⟩,q,_,_,_,rfl,rfl,V7 (s1 _ q _ h2),rfl,by rw [cE rt,aa,bc]; omega,ak,aW hi ‹42›⟩⟩;rw [take_snoc hi',aI];refine dY rt ⟨qo,rfl,?_⟩;show H qo=some (.tup (((iC f es[i]).getD []).map V.str));rw [h1];exact h3
   ·have:=all es[i] hm;rw [h1] at this;cases this
end
end K09
end
section
namespace L2
open PySem PyProof.Rows
end L2
namespace K09
open PySem PyProof.Rows L2
variable {r:Str × LS}{pl:LS}{rows:LL}{H:Hp}{kvs:LK0}{xs:LV}{q:ut}
structure iQ (f:Fam) (pl:LS):Prop where
 nd:pl.Nodup
 sub:∀ x∈pl,x∈nms f
 el:∀(j:Nat) (r:Str × LS),r∈f->pl[j]?=some r.1->∀ e∈r.2,e∈pl.take j
theorem Dq{f:Fam}(G:rY f)(pl:LS)(hr:r∈f)(hn:¬ r.1∈pl):∃ r'∈f,¬ r'.1∈pl/\∀ e∈r'.2,e∈pl:=by
 obtain ⟨top,t0,t1,t2⟩:=G.QC
 have key:∀(j:Nat) (r:Str × LS),r∈f->top[j]?=some r.1->¬ r.1∈pl->∃ r'∈f,¬ r'.1∈pl/\∀ e∈r'.2,e∈pl:=by
  intro j
  induction j using Nat.strongRecOn with
  | ind j ih=>
   intro r hr hj hn
   by_cases hall:∀ e∈r.2,e∈pl
   ·exact⟨r,hr,hn,hall⟩
   ·have ⟨e,he⟩:=Classical.not_forall.mp hall;have he1:e∈r.2:=fb fun z=>he fun y=>absurd y z;have he2:¬ e∈pl:=fun z=>he fun _=>z;obtain ⟨j',h1,h2⟩:=t2 r hr;have ej:=sU t0 hj h1;subst ej;obtain ⟨i,hi,ei⟩:=jf (h2 e he1);obtain ⟨r2,hr2,er2⟩:=bu.mp (G.sub r hr e he1);have er2:r2.1=e:=er2;exact ih i hi r2 hr2 (by rw [er2]; exact ei) (by rw [er2]; exact he2)
 obtain ⟨j,h1,_⟩:=t2 r hr;exact key j r hr h1 hn
structure Rws (f:Fam):Prop where
 nd:(nms f).Nodup
 len:f.length<=8
 el:∀ r∈f,r.2.length<=1900
def bL(f:Fam)(pl:LS):Fam:=f.filter fun r=>decide (¬ r.1∈pl)
def bF(f:Fam)(pl:LS):LS:=((bL f pl).filter fun r=>r.2.all fun e=>decide (e∈pl)).map (·.1)
theorem tV{f:Fam}{x:Str}:x∈bF f pl↔∃ r∈f,r.1=x/\¬ x∈pl/\∀ e∈r.2,e∈pl:=by
 constructor
 ·intro hx;obtain ⟨r,hr,rfl⟩:=bu.mp hx;obtain ⟨h1,h2⟩:=dC.mp hr;obtain ⟨h3,h4⟩:=dC.mp h1;exact⟨r,h3,rfl,eA h4,fun e he=>eA (cz.mp h2 e he)⟩
 ·rintro ⟨r,hr,rfl,h1,h2⟩;exact bu.mpr ⟨r,dC.mpr ⟨dC.mpr ⟨hr,bo h1⟩,cz.mpr fun e he=>bo (h2 e he)⟩,rfl⟩
theorem iQ.more{f:Fam}(nd:(nms f).Nodup)(T:iQ f pl):iQ f (pl++bF f pl):=by
 have mem:∀ x,x∈bF f pl->∃ r∈f,r.1=x/\¬ x∈pl/\∀ e∈r.2,e∈pl:=fun x hx=>by
  obtain ⟨r,hr,rfl⟩:=bu.mp hx;obtain ⟨h1,h2⟩:=dC.mp hr;obtain ⟨h3,h4⟩:=dC.mp h1;exact⟨r,h3,rfl,eA h4,fun e he=>eA (cz.mp h2 e he)⟩
 have ndr:(bF f pl).Nodup:=by
  have:(bF f pl).Sublist (nms f):=List.Sublist.map _ (List.Sublist.trans qV qV);exact nd.sublist this
 refine⟨?_,fun x hx=>?_,fun j r hr ej e he=>?_⟩
 ·rw [i7];refine⟨T.nd,ndr,fun a ha b hb e=>?_⟩;obtain ⟨_,_,_,h,_⟩:=mem b hb;exact h (e ▸ ha)
 ·rcases cw.mp hx with h | h
  ·exact T.sub x h
  ·obtain ⟨r,hr,e,_⟩:=mem x h;rw [<- e];exact bu.mpr ⟨r,hr,rfl⟩
 ·by_cases hj:j < pl.length
  ·rw [ij hj] at ej;have:=T.el j r hr ej e he;rw [li ‹26›];exact this
  ·rw [ic ‹26›] at ej;obtain ⟨r',hr',e',_,h⟩:=mem r.1 (eI ej);have er:G9 f r'.1=r'.2:=nD nd r' hr';have er2:G9 f r.1=r.2:=nD nd r hr;rw [e',er2] at er;have hp:e∈pl:=h e (er ▸ he);rw [List.take_append];exact fk _ (by rw [aw ‹26›]; exact hp)
theorem iQ.nil(f:Fam):iQ f []:=⟨ke,(fun x hx=>nomatch hx),(fun j r _ e=>nomatch e)⟩
theorem iQ.len{f:Fam}(T:iQ f pl):pl.length<=f.length:=by
 have h1:=dh T.nd (m:=nms f) T.sub;have h2:(nms f).length=f.length:=aa _;omega
section
variable {P:uC}{w:ww}{K:PySem.W.Frag}{mg:MG}{base:Heap}{t:Adr}
inductive Ls (vs:LV) (H:Hp) (Q:VK) (E_:XK):Prop
 | mk (v:V) (f:Fam):vs=[v]->Dp H (Aw f) v->Rws f->(∀(q:ut) (pl:LS) H',H' q=some (.tup (pl.map V.str))->iQ f pl->bF f pl=[]->Same H H'->Q (.ref q) H')->Ls vs H Q E_
theorem Fo(D:Defs K mg t):cA P w K mg base CX0 1 t.cR.1 t.cR.2 ["family"] Ls:=by
 exists 5;refine D.cR.fn.ok dW ‹7› ‹1›
 ·obtain ⟨v,f,rfl,_⟩:=h;rfl
 ·obtain ⟨v,f,rfl,dv,gf,k⟩:=h;obtain ⟨a,xs,rfl,ha,dl⟩:=L2.Dp.eV dv;have hxl:xs.length=f.length:=by have:=dl.length; rwa [aa] at this
  have f7:=gf.len
  refine⟨_,(aB (aM (i:=1) dW.nd rfl (Mm rfl) jN)
   (aB (aM (i:=2) dW.nd rfl (uA rfl) (bG qQ (by rfl) D.yV uZ ‹36›))
   (aB (aM (i:=3) dW.nd rfl (uA rfl) (pv 2))
   (aB (pO dP (vN (pv 3) (by intro _; rfl))
   (aB (j8 (i:=3) rfl dW.nd rfl (uA rfl) (Wf ["kind","elders"] [1] ["kind","elders","placed"] (aG (top 11)) ["family","placed","waiting","ready","kind"] rfl rfl ‹5›) ⟨fun _ _ _ _ _=>(qd (n:=2) rfl (fG (aN (i:=0) (show List.Nodup [("kind" : Str),("elders" : Str),("placed" : Str)] by decide +kernel) rfl ‹24› ‹17›) (fG (aN (i:=1) (show List.Nodup [("kind" : Str),("elders" : Str),("placed" : Str)] by decide +kernel) rfl ‹24› ‹17›) nF))),fun _ _ _ _ _=>(jJ (bZ (aH (cW rfl) (by rfl) D.jL iw (aj (bI rfl (aK.of2 ["elder"] [2] ["elder","placed"] ["kind","elders","placed"] rfl rfl ‹5›) ⟨fun _ _ _ _ _=>(aN (i:=0) (show List.Nodup [("elder" : Str),("placed" : Str)] by decide +kernel) rfl ‹24› ‹17›),fun _ _ _ _ _=>bJ,fun _ _ _ _ _=>(JN (Jt (dZ hr) (pv 0) (pv 1)))⟩ (bW (pv 1))) aq)))),fun _ _ _ _ _=>(pv 0)⟩ (gO (pv 2)))
   (aB (fP dP rfl (gO (pv 3)) (aN (i:=4) dW.nd rfl (uA rfl))
   (aF (kJ (dZ hr) (pv 1) (pv 4) fO rfl)))
   (aF (j8 (i:=2) rfl dW.nd rfl (uA rfl) (Wf ["pair"] [1] ["pair","placed"] (aG (top 11)) ["family","placed","waiting","ready","kind"] rfl rfl ‹5›) ⟨fun _ _ _ _ _=>(aN (i:=0) (show List.Nodup [("pair" : Str),("placed" : Str)] by decide +kernel) rfl ‹24› ‹17›),fun _ _ _ _ _=>(jJ (zM (qb (dZ hr) ‹27› (pv 1)))),fun _ _ _ _ _=>(pv 0)⟩ (gO (pv 2)))))))
   (aF (aL (bG (Bc rfl) (by rfl) D.bY bK (aj (pv 1) aq)))))))),?_⟩
  intro pd hpd;have s1:Same H (upd H pd (.dK [])):=We hpd;have hpd1:(upd H pd (.dK [])) pd=some (.dK (jW [])):=ak;generalize upd H pd (.dK [])=H1 at s1 hpd1;refine⟨_,rfl,a,_,rfl,.inr (V7 (s1 a _ ha)),fun w0 hw0=>?_⟩;have s2:Same H1 (upd H1 w0 (.lst xs)):=We hw0;refine⟨_,rfl,?_⟩;refine⟨fun m σ H2=>∃(pl:LS) (wl rl:ut) (ws rs:LV) (v4:OV),σ=[some (.ref a),some (.ref pd),some (.ref wl),some (.ref rl),v4]/\H2 pd=some (.dK (jW pl))/\iQ f pl/\H2 wl=some (.lst ws)/\DpL H2 ((bL f pl).map qy) ws/\H2 rl=some (.lst rs)/\(rs=[]->bF f pl=[])/\m=2 * (bL f pl).length+(if rs.isEmpty=true then 0 else 1)/\Same H H2,?_,?_⟩
  ·have e0:bL f []=f:=by
    unfold bL;rw [List.filter_eq_self];simp
   refine⟨_,[],w0,w0,xs,xs,_,rfl,s2 pd _ hpd1,iQ.nil f,ak,?_,ak,fun h=>?_,rfl,s1.trans s2⟩
   ·rw [e0];exact dl.mono (V9 (s1.trans s2))
   ·rw [h] at hxl;rw [List.eq_nil_of_length_eq_zero hxl.symm];rfl
  ·rintro m σ H2 ⟨pl,wl,rl,ws,rs,v4,rfl,hpd2,T,hw2,dw,hr2,hex,rfl,sm2⟩;refine⟨_,rfl,_,.inl ⟨_,V6 hr2,rfl⟩,?_⟩;cases hrs:rs with
   | nil=>
    refine bT ⟨_,rfl,pd,_,rfl,.inl hpd2,fun q hq=>?_⟩
    have ek:(jW pl).map (fun kv=>kV kv.1)=pl.map V.str:=by
     unfold jW;rw [gN];rfl
    rw [ek];exact k q pl _ ak T (hex hrs) (sm2.trans (We hq))
   | cons r0 rr=>
    have hem:(!(r0::rr).isEmpty)=true:=rfl;rw [hem];refine bM ⟨fun σ' H'=>∃ m',m' < 2 * (bL f pl).length+1/\∃(pl:LS) (wl rl:ut) (ws rs:LV) (v4:OV),σ'=[some (.ref a),some (.ref pd),some (.ref wl),some (.ref rl),v4]/\H' pd=some (.dK (jW pl))/\iQ f pl/\H' wl=some (.lst ws)/\DpL H' ((bL f pl).map qy) ws/\H' rl=some (.lst rs)/\(rs=[]->bF f pl=[])/\m'=2 * (bL f pl).length+(if rs.isEmpty=true then 0 else 1)/\Same H H',fun σ' H' h=>h,?_⟩;have hwl:ws.length=(bL f pl).length:=by have:=dw.length; rwa [aa] at this
    have hl7:(bL f pl).length<=8:=cS (fe _ _) f7;have pwne:∀ {H3:Hp},Same H2 H3->True:=fun _=>trivial;refine⟨_,rfl,wl,rfl,⟨_,V6 hw2⟩,fun D1 hD1=>?_⟩;refine bA (n:=ws.length) (fun i ys H3=>ys=((((bL f pl).take i).filter fun r=>r.2.all fun e=>decide (e∈pl)).map (·.1)).map V.str/\H3 D1=some (.lst ys)/\Same H2 H3) ⟨rfl,ak,We hD1⟩ ?_ ?_
    ·rintro ys H3 ⟨rfl,hD3,sm3⟩;rw [aw ‹26›] at hD3;have hD3:H3 D1=some (.lst ((bF f pl).map V.str)):=hD3;refine⟨⟨_,V6 (sm3 wl _ hw2),ai _⟩,?_⟩;have hwD:wl≠D1:=au hw2 hD1;have pdD:pd≠D1:=au hpd2 hD1
     have hrdy:(bF f pl).length<=8:=by
      unfold bF;rw [aa];exact cS (fe _ _) hl7
     have Tm:=T.more gf.nd;have plx:pl.length<=8:=cS T.len f7
     have newk:∀(i:Nat) (hi:i < (bF f pl).length),¬ (bF f pl)[i]∈pl++(bF f pl).take i:=fun i hi h=>by
      have nd:=Tm.nd
      have e:pl++bF f pl=(pl++(bF f pl).take i)++((bF f pl)[i]::(bF f pl).drop (i+1)):=by
       rw [kM,List.getElem_cons_drop,ja]
      rw [e,i7] at nd;exact nd.2.2 _ h _ bn rfl
     refine⟨_,rfl,D1,rfl,⟨_,V6 hD3⟩,rZ (K:=N0) (a:=D1) (xs:=(bF f pl).map V.str) (fun i σ H4=>∃ v4:OV,σ=[some (.ref a),some (.ref pd),some (.ref wl),some (.ref D1),v4]/\H4 pd=some (.dK (jW (pl++(bF f pl).take i)))/\∀ b u,b≠pd->H3 b=some u->H4 b=some u)
      ⟨_,rfl,by rw [List.take_zero,gu]; exact sm3 pd _ hpd2,fun b u _ e=>e⟩ (fun i σ H4 _ ⟨_,_,_,kp⟩=>V6 (kp D1 _ pdD.symm hD3)) ?_ ?_⟩
     ·rintro i x σ H4 hi ⟨v4',rfl,hpd4,kp4⟩
      have hil:i < (bF f pl).length:=by
       have:=(bv.mp hi).1
       rwa [aa] at this
      have ex:x=.str (bF f pl)[i]:=by
       rw [bg,ae hil] at hi;exact(ck hi).symm
      subst ex;refine⟨_,rfl,_,rfl,pd,_,rfl,tD.k (k:=.inr (bF f pl)[i]) hpd4 (by unfold jW; rw [aa,bX,bc]; omega),?_⟩;rw [Ca (newk i hil)];exact⟨_,rfl,by rw [ak,take_snoc hil,kM],fun b u hb e=>by rw [aA hb]; exact kp4 b u hb e⟩
     ·rintro σ H4 ⟨v4',rfl,hpd4,kp4⟩;rw [aa,aw (ai _)] at hpd4;have wpd:wl≠pd:=eG hw2 hpd2 ‹11›;have hw4:=kp4 wl _ wpd (sm3 wl _ hw2);have tu4:dH H2 H4:=fun c zs e=>kp4 c _ (eG e hpd2 ‹11›) (sm3 c _ e);have sm4:Same H H4:=fun b u e=>kp4 b u (au e hpd) (sm3 b u (sm2 b u e));have dw4:=dw.mono tu4;refine⟨_,rfl,wl,rfl,⟨_,V6 hw4⟩,fun D2 hD2=>?_⟩;refine bA (n:=ws.length) (fun i ys H5=>H5 D2=some (.lst ys)/\DpL H4 ((((bL f pl).take i).filter fun r=>decide (¬ r.1∈pl++bF f pl)).map qy) ys/\Same H4 H5) ⟨ak,.nil,We hD2⟩ ?_ ?_
      ·rintro ys H5 ⟨hD5,dy,sm5⟩;rw [aw ‹26›] at dy;refine⟨⟨_,V6 (sm5 wl _ hw4),ai _⟩,?_⟩
       have el:(bL f pl).filter (fun r=>decide (¬ r.1∈pl++bF f pl))=bL f (pl++bF f pl):=by
        unfold bL;rw [List.filter_filter];apply List.filter_congr;intro r _
        by_cases h1:r.1∈pl
        ·simp [h1]
        ·simp [h1]
       rw [el] at dy;have hle:(bL f (pl++bF f pl)).length<=(bL f pl).length:=by rw [<- el]; exact fe _ _
       have hmm:2 * (bL f (pl++bF f pl)).length+(if ((bF f pl).map V.str).isEmpty=true then 0 else 1) < 2 * (bL f pl).length+1:=by
        cases hrd:bF f pl with
        | nil=>
         rw [hrd] at hle;simp
        | cons x0 xr=>
         have:(bL f (pl++bF f pl)).length < (bL f pl).length:=by
          rw [<- el];have hx0:x0∈bF f pl:=by rw [hrd]; exact bn
          obtain ⟨r,hr',e⟩:=bu.mp hx0;have hrl:=(dC.mp hr').1;refine Nat.lt_of_le_of_ne (fe _ _) fun e2=>?_;have:=List.length_filter_eq_length_iff.mp e2 r hrl;have:=eA this;exact this (dQ _ (by show r.1∈_; rw [show r.1=x0 from e]; exact hx0))
         rw [hrd] at this;simp;omega
       refine⟨_,hmm,pl++bF f pl,D2,D1,ys,(bF f pl).map V.str,_,rfl,sm5 pd _ hpd4,Tm,hD5,dy.mono (V9 sm5),sm5 D1 _ (kp4 D1 _ pdD.symm hD3),fun h=>?_,rfl,sm4.trans sm5⟩;have hrd:bF f pl=[]:=List.map_eq_nil_iff.mp h;rw [hrd,gu];exact hrd
      ·rintro i ys H5 hi ⟨hD5,dy,sm5⟩;have hif:i < (bL f pl).length:=by omega
       obtain ⟨y,ey,dyy⟩:=dw4.get (i:=i) (t:=qy (bL f pl)[i]) (by rw [bg,ae hif]; rfl);obtain ⟨q,e,rfl,hq,he⟩:=K09.Dp.zP dyy;refine⟨⟨_,_,V6 (sm5 wl _ hw4),ey⟩,?_⟩;rintro z H6 ⟨rfl,yy⟩ σo ho;obtain ⟨oo,rfl⟩:=own1 ho;have ez:=yy _ (V6 (sm5 wl _ hw4));rw [ey] at ez;cases ez
       have hyl:ys.length<=8:=by
        rw [dy.length,aa];refine cS (fe _ _) ?_;rw [bc];omega
       have efl:((bL f pl).take (i+1)).filter (fun r=>decide (¬ r.1∈pl++bF f pl))=((bL f pl).take i).filter (fun r=>decide (¬ r.1∈pl++bF f pl))++(if decide (¬ ((bL f pl)[i]).1∈pl++bF f pl)=true then [(bL f pl)[i]] else []):=by
        rw [take_snoc hif,iS];congr 1;rw [fz];rfl
       refine⟨‹13›,_,rfl,q,_,_,_,rfl,rfl,V7 (sm5 q _ hq),rfl,_,rfl,pd,_,rfl,lY.k (k:=.inr ((bL f pl)[i]).1) (sm5 pd _ hpd4),_,rfl,?_⟩;cases hin:(cM (jW (pl++bF f pl)) (.inr ((bL f pl)[i]).1)).isSome with
       | true=>
        have hm:=(mV _ _).mp hin;refine bT (aW hi ⟨hD5,?_,sm5⟩);rw [efl,cK (fun h=>(eA h) hm),gu];exact dy
       | false=>
        have hm:¬ ((bL f pl)[i]).1∈pl++bF f pl:=fun h=>by rw [(mV _ _).mpr h] at hin; cases hin
        refine bM ⟨_,rfl,by omega,hD5,aW hi ⟨ak,?_,fun b u e'=>?_⟩⟩
        ·rw [efl,dE (bo hm),aI];exact dy.append (.cons dyy .nil)
        ·rw [aA (au e' hD2)];exact sm5 b _ e'
    ·rintro i ys H3 hi ⟨rfl,hD3,sm3⟩;have hif:i < (bL f pl).length:=by omega
     obtain ⟨y,ey,dyy⟩:=(dw.mono (V9 sm3)).get (i:=i) (t:=qy (bL f pl)[i]) (by rw [bg,ae hif]; rfl);obtain ⟨q,e,rfl,hq,he⟩:=K09.Dp.zP dyy;refine⟨⟨_,_,V6 (sm3 wl _ hw2),ey⟩,?_⟩;rintro z H4 ⟨rfl,yy⟩ σo ho;obtain ⟨oo,oo',rfl⟩:=Og ho;have ez:=yy _ (V6 (sm3 wl _ hw2));rw [ey] at ez;cases ez
     have hyl:(((((bL f pl).take i).filter fun r=>r.2.all fun e=>decide (e∈pl)).map (·.1)).map V.str).length<=8:=by
      rw [aa,aa];refine cS (fe _ _) ?_;rw [bc];omega
     have efl:((bL f pl).take (i+1)).filter (fun r=>r.2.all fun e=>decide (e∈pl))=((bL f pl).take i).filter (fun r=>r.2.all fun e=>decide (e∈pl))++(if (((bL f pl)[i]).2.all fun e=>decide (e∈pl))=true then [(bL f pl)[i]] else []):=by
      rw [take_snoc hif,iS];congr 1;rw [fz];rfl
     refine⟨q,_,rfl,V7 hq,rfl,_,_,rfl,_,_,rfl,rfl,⟨[_,_],rfl,rfl⟩,_,rfl,e,rfl,⟨_,V7 he⟩,fun D3 hD3'=>?_⟩;have s5:∀ o,Same H4 (upd H4 D3 o):=fun o=>We hD3';have el7:=gf.el _ (dC.mp (bS hif)).1;refine bA (n:=(((bL f pl)[i]).2.map V.str).length) (fun j bs H5=>bs=((((bL f pl)[i]).2.take j).map fun e=>decide (e∈pl)).map V.bl/\H5=upd H4 D3 (.lst bs)) ⟨rfl,rfl⟩ ?_ ?_
     ·rintro bs H5 ⟨rfl,rfl⟩;rw [aw (by rw [aa]; exact ai _)];refine⟨⟨_,V7 (s5 _ e _ he),ai _⟩,D3,_,rfl,V6 ak,_,rfl,?_⟩
      have eall:((((bL f pl)[i]).2.map fun e=>decide (e∈pl)).all id)=((bL f pl)[i]).2.all fun e=>decide (e∈pl):=by
       rw [lr];rfl
      rw [eall];cases hall:(((bL f pl)[i]).2.all fun e=>decide (e∈pl)) with
      | true=>
       refine bM ⟨_,rfl,by omega,s5 _ D1 _ hD3,aW hi ⟨?_,ak,fun b u e'=>?_⟩⟩
       ·rw [efl,hall,dE rfl,aI,aI];rfl
       ·rw [aA (au e' hD1)];exact s5 _ b _ (sm3 b _ e')
      | false=>
       refine bT (aW hi ⟨?_,s5 _ D1 _ hD3,sm3.trans (s5 _)⟩);rw [efl,hall,cK aS,gu]
     ·rintro j bs H5 hj ⟨rfl,rfl⟩;have hj':j < ((bL f pl)[i]).2.length:=by rw [aa] at hj; exact hj
      have ej:(((bL f pl)[i]).2.map V.str)[j]?=some (.str ((bL f pl)[i]).2[j]):=by rw [bg,ae hj']; rfl
      refine⟨⟨_,_,V7 (s5 _ e _ he),ej⟩,?_⟩;rintro y5 H6 ⟨rfl,yy⟩ σo5 ho5;obtain ⟨o5,rfl⟩:=own1 ho5;have ey5:=yy _ (V7 (s5 _ e _ he));rw [ej] at ey5;cases ey5;refine⟨‹13›,cg ⟨_,rfl,_,rfl,pd,_,rfl,lY.k (k:=.inr ((bL f pl)[i]).2[j]) (s5 _ pd _ (sm3 pd _ hpd2)),by rw [aa,aa,bc]; omega,ak,aW hj ‹42›⟩⟩;rw [take_snoc hj',aI,aI];congr 1;show [V.bl (cM (jW pl) (.inr ((bL f pl)[i]).2[j])).isSome]=[V.bl (decide (((bL f pl)[i]).2[j]∈pl))];congr 2;apply fg.mpr;rw [mV,decide_eq_true_iff]
inductive pP (vs:LV) (H:Hp) (Q:VK) (E_:XK):Prop
 | mk (v:V) (f:Fam):vs=[v]->Dp H (Aw f) v->rY f->(∀(q:ut) (pl:LS) H',H' q=some (.tup (pl.map V.str))->iQ f pl->(∀ x∈nms f,x∈pl)->Same H H'->Q (.ref q) H')->pP vs H Q E_
theorem tO(D:Defs K mg t):cA P w K mg base CX0 1 t.cR.1 t.cR.2 ["family"] pP:=
 (Fo D).imp fun vs H Q E ⟨v,f,e,d,G,k⟩=>⟨v,f,e,d,⟨G.nd,by have:=G.len; omega,fun r hr=>by have:=G.el r hr; omega⟩,fun q pl H' h T h0 s=>k q pl H' h T (fun x hx=>by
  apply fb;intro hn;obtain ⟨r,hr,rfl⟩:=bu.mp hx;obtain ⟨r',h1,h2,h3⟩:=Dq G pl hr hn;have:=tV.mpr ⟨r',h1,rfl,h2,h3⟩;rw [h0] at this;cases this) s⟩
theorem Mg.wH{r:Option LS}(h:Mg rows r):∀ os,r=some os->(∀ y∈os,∃ q∈rows,y∈q)/\os.Nodup:=by
 induction h with
 | nil=>
  intro os e;cases e;exact⟨by simp,ke⟩
 | stuck _ _=>
  intro os e;cases e
 | @step rows x more r hf _ ih=>
  intro os e;cases r with
  | none=>cases e
  | some os'=>
   cases e;obtain ⟨h1,h2⟩:=ih os' rfl
   have back:∀ y∈os',y≠x/\∃ q∈rows,y∈q:=fun y hy=>by
    obtain ⟨q,hq,hyq⟩:=h1 y hy;obtain ⟨hq1,_⟩:=dC.mp hq;obtain ⟨q0,hq0,rfl⟩:=bu.mp hq1;obtain ⟨a,b⟩:=dC.mp hyq;exact⟨eA b,q0,hq0,a⟩
   refine⟨fun y hy=>?_,fh.mpr ⟨fun h=>(back x h).1 rfl,h2⟩⟩;rcases bz.mp hy with rfl | h
   ·obtain ⟨q,hq,hh⟩:=sZ (by rw [hf]; exact bn);refine⟨q,hq,?_⟩;cases q with
    | nil=>cases hh
    | cons z q=>
     cases hh;exact bn
   ·exact(back y h).2
theorem Ht{f:Fam}(G:rY f):∀ x∈nms f,∀ o,iC f x=some o->o≠[]/\(∀ y∈o,y∈nms f)/\o.length<=8:=by
 obtain ⟨top,t0,t1,t2⟩:=G.QC
 have key:∀(j:Nat) (x:Str),top[j]?=some x->∀ o,iC f x=some o->o≠[]/\(∀ y∈o,y∈nms f)/\o.length<=8:=by
  intro j
  induction j using Nat.strongRecOn with
  | ind j ih=>
   intro x hx o ho;have hxn:x∈nms f:=(t1 x).mp (eI hx);obtain ⟨r,hr,rfl⟩:=bu.mp hxn;rw [Eb G hr] at ho;split at ho
   ·rename_i hall
    obtain ⟨j',h1,h2⟩:=t2 r hr;have ej:=sU t0 hx h1;subst ej;cases hm:nJ (full (cu (iC f) r.2)) with
    | none=>rw [hm] at ho; cases ho
    | some os=>
     rw [hm] at ho;cases ho
     have hM:∃ q,Mg (full (cu (iC f) r.2)) q:=by
      apply fb;intro hn;unfold nJ at hm;rw [dif_neg hn] at hm;cases hm
     obtain ⟨q,hq⟩:=hM;have eq:=qw hq;rw [hm] at eq;subst eq;obtain ⟨h3,h4⟩:=Mg.wH hq os rfl
     have sub:∀ y∈os,y∈nms f:=fun y hy=>by
      obtain ⟨q,hq',hyq⟩:=h3 y hy;have hq':=(dC.mp hq').1;unfold cu at hq';rcases cw.mp hq' with h | h
      ·obtain ⟨e,he,rfl⟩:=bu.mp h;obtain ⟨i,hi,ei⟩:=jf (h2 e he);have hs:=cz.mp hall e he;obtain ⟨oe,hoe⟩:=fN.mp hs;rw [hoe] at hyq;exact(ih i hi e ei oe hoe).2.1 y hyq
      ·rw [bj.mp h] at hyq;exact G.sub r hr y hyq
     refine⟨kU _ _,fun y hy=>?_,?_⟩
     ·rcases bz.mp hy with rfl | h
      ·exact hxn
      ·exact sub y h
     ·have h5:=dh h4 (m:=nms f) sub;have h6:(nms f).length=f.length:=aa _;have:=G.len;rw [dA];omega
   ·cases ho
 intro x hx;obtain ⟨j,hj,e⟩:=fF ((t1 x).mpr hx);exact key j x (by rw [ae hj,e])
def ou(H:Hp)(kvs:LK0)(f:Fam):Prop:=Paired (fun(kv:Key × V) (r:Str × LS)=>kv.1=.inr r.1/\∃ e,kv.2=.ref e/\H e=some (.tup (r.2.map V.str))) kvs f
theorem ou.keys{f:Fam}(h:ou H kvs f):kvs.map (·.1)=(nms f).map BV:=by
 induction h with
 | nil=>rfl
 | cons r _ ih=>exact congr (congrArg List.cons r.1) ih
theorem ou.get{H:Hp}:∀ {kvs:LK0} {f:Fam},ou H kvs f->(nms f).Nodup->∀ r∈f,∃ e,cM kvs (.inr r.1)=some (.ref e)/\H e=some (.tup (r.2.map V.str))
 | _,_,.nil,_,r,hr=>nomatch hr
 | (k,v)::kvs,r0::f,.cons q t,nd,r,hr=>by
  have nd':(r0.1::nms f).Nodup:=nd;obtain ⟨n1,n2⟩:=fh.mp nd';obtain ⟨e1,e,e2,e3⟩:=q;rcases bz.mp hr with rfl | h
  ·exact⟨e,by rw [fB (p:=(k,v)) e1]; exact congrArg some e2,e3⟩
  ·obtain ⟨e',h1,h2⟩:=ou.get t n2 r h;refine⟨e',?_,h2⟩;rw [eY (p:=(k,v)),h1];intro z;have z:k=BV r.1:=z;have e1:k=BV r0.1:=e1;rw [e1] at z;injection z with z;exact n1 (z ▸ bu.mpr ⟨r,h,rfl⟩)
theorem xg:∀(more acc:LK0),((acc++more).map (·.1)).Nodup->cD acc more=acc++more
 | [],acc,_=>by rw [gu]; rfl
 | (k,v)::more,acc,nd=>by
  have hn:cM acc k=none:=by
   cases q:cM acc k with
   | none=>rfl
   | some y=>
    exfalso
    have h1:(cM acc k).isSome=true:=by rw [q]; rfl
    rw [oV] at h1;have h2:=h1;rw [aI,de] at nd;exact(i7.mp nd).2.2 k h2 k bn rfl
  show cD (putK acc k v) more=_;rw [vA v hn,xg more (acc++[(k,v)]) (by rw [kM]; exact nd),kM];rfl
theorem xH{f:Fam}(dl:DpL H (f.map qy) xs):∃ kvs,rK H xs kvs/\ou H kvs f:=by
 induction f generalizing xs with
 | nil=>
  rw [dl.ni];exact⟨[],⟨rfl,fun i kv h=>by simp at h⟩,.nil⟩
 | cons r f ih=>
  obtain ⟨x,rest,rfl,d,dl'⟩:=dl.cases;obtain ⟨kvs,h1,h2⟩:=ih dl';obtain ⟨q,e,rfl,hq,he⟩:=K09.Dp.zP d;refine⟨(.inr r.1,.ref e)::kvs,⟨by rw [dA,dA,h1.1],fun i kv h=>?_⟩,.cons ⟨rfl,e,rfl,he⟩ h2⟩;cases i with
  | zero=>
   cases h;exact⟨q,rfl,hq⟩
  | succ i=>exact h1.2 i kv h
theorem ou.len{f:Fam}(h:ou H kvs f):kvs.length=f.length:=cE h
theorem ou.at{H:Hp}{kvs:LK0}{f:Fam}(h:ou H kvs f){i:Nat}{kv:Key × V}(e:kvs[i]?=some kv):∃ r,f[i]?=some r/\kv.1=.inr r.1/\(nms f)[i]?=some r.1:=by
 have hi:=(bv.mp e).1;have hj:i < f.length:=by rw [<- h.len]; exact hi
 have q:=fM h i hi hj;rw [ae hi] at e;cases e;exact⟨f[i],ae hj,q.1,by show (f.map (·.1))[i]?=_; rw [bg,ae hj]; rfl⟩
theorem ou.merge{f:Fam}(h:ou H kvs f)(nd:(nms f).Nodup):cD [] kvs=kvs:=by
 refine xg kvs [] ?_;rw [List.nil_append,h.keys];exact tG (fun a _ b _ e=>by injection e) nd
theorem CQ{f:Fam}(G:rY f)(hr:r∈f)(hall:∀ x∈r.2,(iC f x).isSome=true):tot (cu (iC f) r.2)<=100/\(cu (iC f) r.2).length<=8/\((∀ q∈cu (iC f) r.2,q≠[])\/∀ q∈cu (iC f) r.2,q=[]):=by
 have e7:=G.el r hr
 have ord:∀ x∈r.2,∃ o,iC f x=some o/\o≠[]/\o.length<=8:=fun x hx=>by
  obtain ⟨o,ho⟩:=fN.mp (hall x hx);obtain ⟨h1,_,h3⟩:=Ht G x (G.sub r hr x hx) o ho;exact⟨o,ho,h1,h3⟩
 have tl:∀ es:LS,(∀ x∈es,x∈r.2)->tot (es.map fun e=>(iC f e).getD [])<=8 * es.length:=by
  intro es
  induction es with
  | nil=>exact fun _=>ai _
  | cons x es ih=>
   intro h;rw [de,gB,dA];obtain ⟨o,ho,_,h3⟩:=ord x (h x bn);have:=ih fun y hy=>h y (cr _ hy);have:((iC f x).getD []).length<=8:=by rw [ho]; exact h3
   omega
 have ta:tot (cu (iC f) r.2)=tot (r.2.map fun e=>(iC f e).getD [])+r.2.length:=by
  unfold cu tot;rw [aI,nL];simp
 refine⟨?_,?_,?_⟩
 ·rw [ta];have:=tl r.2 fun _ h=>h;omega
 ·unfold cu;rw [bX,aa,eQ];omega
 ·cases hes:r.2 with
  | nil=>
   right
   intro q hq;exact bj.mp hq
  | cons x0 xr=>
   left
   intro q hq;rw [<- hes] at hq;rcases cw.mp hq with h | h
   ·obtain ⟨x,hx,rfl⟩:=bu.mp h;obtain ⟨o,ho,h1,_⟩:=ord x hx;rw [ho];exact h1
   ·rw [bj.mp h,hes];exact kU _ _
theorem Kv.f{f:Fam}(G:rY f)(hr:r∈f)(hall:∀ x∈r.2,(iC f x).isSome=true){m:Option LS}(hm:Mg (full (cu (iC f) r.2)) m)(h:Kv H r.1 m q):wk H f r.1 q:=by
 have e:=Eb G hr;rw [dE (cz.mpr hall),qw hm] at e;cases m with
 | none=>
  obtain ⟨a,rg,h⟩:=h;exact .inr ⟨e,a,rg,h⟩
 | some os=>
  obtain ⟨qo,h1,h2⟩:=h;exact .inl ⟨r.1::os,qo,e,h1,h2⟩
def KIn(kvs:LK0)(f:Fam):Prop:=∀ k,(cM kvs k).isSome=true->∃ x∈nms f,k=BV x
inductive Mw (vs:LV) (H:Hp) (Q:VK) (E_:XK):Prop
 | mk (v:V) (f:Fam):vs=[v]->Dp H (Aw f) v->rY f->(∀(d:ut) (kvs:LK0) H',H d=none->H' d=some (.dK kvs)->sX H' kvs f (·∈nms f)->KIn kvs f->kvs.length<=7->Same H H'->Q (.ref d) H')->Mw vs H Q E_
theorem Ox(D:Defs K mg t):cA P w K mg base CX0 4 t.gY.1 t.gY.2 ["family"] Mw:=by
 have Gal:=@tO P w K mg base t D;have Gbc:=@DY P w K mg base t D;have Gbj:=@Ia P w K mg base t D;have Gbo:=@Jk P w K mg base t D;exists 5;refine D.gY.fn.ok gQ ‹7› ‹1›
 ·obtain ⟨v,f,rfl,_⟩:=h;rfl
 ·obtain ⟨v,f,rfl,dv,gf,k⟩:=h;obtain ⟨a,xs,rfl,ha,dl⟩:=L2.Dp.eV dv;obtain ⟨kvs0,hpr,el⟩:=xH dl;have hkl:kvs0.length=f.length:=el.len;have f7:=gf.len
  refine⟨_,(aB (aM (i:=1) gQ.nd rfl (uA rfl) (bG (Ed rfl) (by rfl) D.Ep zy ‹36›))
   (aB (aM (i:=2) gQ.nd rfl (uA rfl) jN)
   (aB (fP dP rfl (bW (aD D.cR Gal ‹2› (by rfl) ‹36›)) (aN (i:=3) gQ.nd rfl (uA rfl))
   (aB (aM (i:=4) gQ.nd rfl (uA rfl) (aD D.fJ Gbc ‹2› (by rfl) (aj (eE (dZ hr) (pv 1) (pv 3) ‹3›) (aj (pv 2) aq))))
   (aF (bO (aY zJ (pv 4) jR (bh _))
   (aF (kJ (dZ hr) (pv 2) (pv 3) (aD D.iV Gbo ‹2› (by rfl) (aj (pv 3) (aj (aD D.nA Gbj ‹2› (by rfl) (aj (eE (dZ hr) (pv 1) (pv 3) ‹3›) (aj (pv 2) aq))) aq))) rfl))
   (aF (kJ (dZ hr) (pv 2) (pv 3) (pv 4) rfl))))))
   (aF (aL (pv 2)))))),?_⟩
  refine⟨_,rfl,a,xs,kvs0,rfl,ha,hpr,by omega,fun d hd=>?_⟩;rw [el.merge gf.nd];exists 1,s1,hd1,H,d,(.dK kvs0),hd,H1;intro td htd;have s2:Same H1 (upd H1 td (.dK [])):=We htd;have htd2:(upd H1 td (.dK [])) td=some (.dK []):=ak
  have htdH:H td=none:=by
   cases q:H td with
   | none=>rfl
   | some o=>
    rw [s1 td o q] at htd;cases htd
  have dtd:d≠td:=au hd1 htd;have htd1:=htd;generalize upd H1 td (.dK [])=H2 at s2 htd2;refine⟨_,rfl,.ref a,f,rfl,dv.mono (V9 (s1.trans s2)),gf,fun q pl H3 hq T allp s3=>⟨q,rfl,⟨_,V7 hq⟩,?_⟩⟩;have hd3:=s3 d _ (s2 d _ hd1);have htd3:=s3 td _ htd2;have qtd:q≠td:=eG hq htd3 ‹11›;have sm3:Same H H3:=(s1.trans s2).trans s3
  refine qu (K:=N0) (a:=q) (xs:=pl.map V.str) (fun i σ H4=>∃(kvs:LK0) (v3 v4:OV),σ=[some (.ref a),some (.ref d),some (.ref td),v3,v4]/\H4 td=some (.dK kvs)/\(kvs.length<=i/\KIn kvs f)/\sX H4 kvs f (·∈pl.take i)/\∀ b u,b≠td->H3 b=some u->H4 b=some u)
   ⟨[],_,_,rfl,htd3,⟨ai _,(fun k h=>nomatch h)⟩,by intro x hx; simp at hx,fun b u _ e=>e⟩ (fun i σ H4 _ ⟨_,_,_,_,_,_,_,kp⟩=>V7 (kp q _ qtd hq)) ?_ ?_
  ·rintro i x σ H4 hi ⟨kvs,v3,v4,rfl,htd4,⟨kl,ki⟩,told,kp4⟩
   have hil:i < pl.length:=by
    have:=(bv.mp hi).1
    rwa [aa] at this
   have ex:x=.str pl[i]:=by
    rw [bg,ae hil] at hi;exact(ck hi).symm
   subst ex;obtain ⟨r,hr',er⟩:=bu.mp (T.sub _ (bS hil));have er:r.1=pl[i]:=er;rw [<- er];have hesub:∀ e∈r.2,e∈pl.take i:=T.el i r hr' (by rw [ae hil,er]);have sm4:Same H H4:=fun b u e=>kp4 b u (au e htdH) (sm3 b u e);have hd4:=kp4 d _ dtd hd3;obtain ⟨e,he1,he2⟩:=el.get gf.nd r hr';have he4:=sm4 e _ he2;have gd:∀ {H5:Hp},H5 d=some (.dK kvs0)->lY H5 d (.str r.1) (some (.ref e)):=fun {H5} h=>.inl ⟨kvs0,.inr r.1,.inl h,rfl,he1.symm⟩
   have plx:pl.length<=7:=by
    have h1:=dh T.nd (m:=nms f) T.sub;have h2:(nms f).length=f.length:=aa _;omega
   have toldE:sX H4 kvs f (·∈r.2):=fun y hy=>told y (hesub y hy)
   have store:∀(q5:ut) (H5:Hp) (v4:OV),Same H4 H5->wk H5 f r.1 q5->∃ (kvs':LK0) (v3' v4':OV),([some (.ref a),some (.ref d),some (.ref td),some (.str r.1),v4]:L2.St)=[some (.ref a),some (.ref d),some (.ref td),v3',v4']/\(upd H5 td (.dK (putK kvs (.inr r.1) (.ref q5)))) td=some (.dK kvs')/\(kvs'.length<=i+1/\KIn kvs' f)/\sX (upd H5 td (.dK (putK kvs (.inr r.1) (.ref q5)))) kvs' f (·∈pl.take (i+1))/\∀ b u,b≠td->H3 b=some u->(upd H5 td (.dK (putK kvs (.inr r.1) (.ref q5)))) b=some u:=fun q5 H5 v4 s5 ht=>by
    have tu:dH H5 (upd H5 td (.dK (putK kvs (.inr r.1) (.ref q5)))):=fun c zs e'=>by
     rw [aA (eG e' (s5 td _ htd4) ‹11›)];exact e'
    refine⟨_,_,_,rfl,ak,⟨?_,fun z hz=>?_⟩,fun y hy=>?_,fun b u hb e'=>by rw [aA hb]; exact s5 b _ (kp4 b u hb e')⟩
    ·have:=fU kvs (.inr r.1) (.ref q5);omega
    ·rw [jK] at hz
     by_cases hzr:z=BV r.1
     ·exact⟨r.1,bu.mpr ⟨r,hr',rfl⟩,hzr⟩
     ·rw [cK hzr] at hz;exact ki z hz
    ·rw [jK]
     by_cases hyr:y=r.1
     ·subst hyr;exact⟨q5,dE rfl,ht.mono tu⟩
     ·rw [take_snoc hil] at hy;rcases cw.mp hy with h | h
      ·obtain ⟨q6,h1,h2⟩:=told y h;exact⟨q6,by rw [cK (by intro z; injection z with z; exact hyr z)]; exact h1,(h2.mono (V9 s5)).mono tu⟩
      ·exact absurd ((bj.mp h).trans er.symm) hyr
   refine⟨_,rfl,_,rfl,d,.ref e,rfl,gd hd4,_,rfl,e,td,r.2,kvs,f,rfl,he4,.inl htd4,toldE,fun hall=>?_,fun hnot q5 a5 rg5 hq5=>?_⟩
   ·refine⟨_,rfl,rfl,_,rfl,eO (bo rfl) ?_⟩;obtain ⟨t1,t2,t3⟩:=CQ gf hr' hall;refine⟨_,rfl,_,rfl,_,rfl,d,.ref e,rfl,gd hd4,_,rfl,e,td,r.2,kvs,f,rfl,he4,.inl htd4,toldE,hall,by have:=gf.el r hr'; omega,fun q5 us5 H5 hq5 rt5 s5=>?_⟩;refine⟨r.1,q5,us5,cu (iC f) r.2,rfl,hq5,rt5,t3,by omega,by omega,fun q6 m H6 hm ht s6=>?_⟩;refine⟨_,rfl,_,rfl,td,_,rfl,tD.k (k:=.inr r.1) ((s5.trans s6) td _ htd4) ‹26›,?_⟩;exact store q6 H6 _ (s5.trans s6) (ht.f gf hr' hall hm)
   ·refine⟨_,rfl,rfl,_,rfl,eU (by rw [bE (by intro z; cases z)]; exact aS) ?_⟩;refine⟨_,rfl,_,rfl,_,rfl,td,_,rfl,tD.k (k:=.inr r.1) htd4 ‹26›,?_⟩;refine store q5 H4 _ (V8 H4) (.inr ⟨?_,a5,rg5,hq5⟩);rw [Eb gf hr',cK (fun h=>hnot (cz.mp h))]
  ·rintro σ H4 ⟨kvs,v3,v4,rfl,htd4,⟨kl,ki⟩,told,kp4⟩;rw [aa] at kl told;rw [aw (ai _)] at told
   have plx:pl.length<=7:=by
    have h1:=dh T.nd (m:=nms f) T.sub;have h2:(nms f).length=f.length:=aa _;omega
   exact⟨_,rfl,k td kvs H4 htdH htd4 (fun x hx=>told x (allp x hx)) ki ‹26› fun b u e=>kp4 b u (au e htdH) (sm3 b u e)⟩
end
end K09
end
section
namespace K09.E
open PySem PyProof.Rows L2
variable {r:Str × LS}{es pl:LS}
def NmD(d:PyData):Prop:=∃ x,d=.str x/\Nm x
def jT(r:Str × LS):PyData:=.tuple [.str r.1,.tuple (r.2.map .str)]
theorem kO(es:LS):mD (es.map T.str)=es.map PyData.str:=by
 rw [lu,gN];apply gr;intro x _;show toD (.str x)=_;rw [toD]
theorem GX(r:Str × LS):toD (qy r)=jT r:=by
 unfold qy jT;rw [toD,mD,mD,mD,toD,toD,kO]
theorem Gv(f:Fam):toD (Aw f)=.tuple (f.map jT):=by
 unfold Aw;rw [toD,lu,gN];congr 1;apply gr;intro r _;exact GX r
mutual
def gs:PyData->Prop
 | .none | .bool _ | .int _=>True
 | .str x=>x.length<=4000/\Asc x
 | .list xs | .tuple xs=>gsA xs
 | .dict kvs=>gsK kvs
def gsA:LP->Prop
 | []=>True
 | d::ds=>gs d/\gsA ds
def gsK:List (PyData × PyData)->Prop
 | []=>True
 | (k,v)::r=>gs k/\gs v/\gsK r
end
theorem nU:∀ {ds:LP},gsA ds↔∀ d∈ds,gs d
 | []=>by simp [gsA]
 | d::ds=>by
  rw [gsA,nU];simp
inductive Pl (f:Fam):Str->Prop
 | mk {r:Str × LS}:r∈f->(∀ e∈r.2,Pl f e)->Pl f r.1
def Ao(r:Str × LS):Prop:=Nm r.1/\(∀ e∈r.2,Nm e)/\r.2.Nodup
def IsF(d:PyData):Prop:=∃ f:Fam,d=.tuple (f.map jT)/\1<=f.length/\f.length<=7/\(∀ r∈f,Ao r)/\(nms f).Nodup/\∀ x∈nms f,Pl f x
theorem Jg{q:Str × LS}(h:jT r=jT q):r=q:=by
 unfold jT at h;injection h with h;injection h with h1 h2;injection h1 with h1;injection h2 with h2 _;injection h2 with h2;have e:=jv (f:=PyData.str) (fun a b e=>by injection e) |>.mp h2;exact Prod.ext h1 e
theorem wJ{f g:Fam}(h:PyData.tuple (f.map jT)=.tuple (g.map jT)):f=g:=by
 injection h with h;exact jv (f:=jT) (fun a b e=>Jg e) |>.mp h
section
variable {P:uC}{w:ww}{K:PySem.W.Frag}{mg:MG}{base:Heap}{t:Adr}
inductive Gn (vs:LV) (H:Hp) (Q:VK) (E_:XK):Prop
 | mk (v:V) (d:PyData) (n:Nat):vs=[v,.int n]->RdV H v d->Q (.bl (dcd (∃ ds,d=.tuple ds/\ds.length=n))) H->Gn vs H Q E_
theorem vL(D:Defs K mg t):cA P w K mg base CX0 1 t.fu.1 t.fu.2 ["thing","many"] Gn:=by
 refine D.fu.fn.ok vC ‹7› ‹1›
 ·obtain ⟨v,d,n,rfl,_⟩:=h;rfl
 ·obtain ⟨v,d,n,rfl,rd,k⟩:=h;refine⟨_,(aF (aL (iG ‹4› (jP (dO gq ‹15› (pv 1) (bh _)))))),?_⟩;exists 8;cases hb:iZ d with
  | true=>
   obtain ⟨ds,rfl⟩:=jt hb;obtain ⟨a,xs,rfl,ha,rl⟩:=rd.bV;have hl:=rl.length;refine bM ⟨_,rfl,a,_,rfl,.inr (V7 ha),_,rfl,rfl,?_⟩
   by_cases e:ds.length=n
   ·rw [dR ⟨ds,rfl,e⟩] at k;rw [bo (by rw [hl,e])];exact k
   ·rw [bD (fun⟨es,e1,e2⟩=>by injection e1 with e1; exact e (by rw [e1]; exact e2))] at k;rw [bE (fun z=>by injection z with z; omega)];exact k
  | false=>
   rw [bD (fun⟨es,e1,_⟩=>by rw [e1] at hb; cases hb)] at k;exact bT k
theorem uf(x:Str):(x.cps.toList.map fun c=>decide (c∈abc.cps.toList)).all id=dcd (Lw x):=by
 refine rA ?_;rw [lr,cz];exact⟨fun h c hc=>eA (h c hc),fun h c hc=>bo (h c hc)⟩
inductive Dt (vs:LV) (H:Hp) (Q:VK) (E_:XK):Prop
 | mk (v:V) (d:PyData):vs=[v]->RdV H v d->gs d->(∀ H',Same H H'->Q (.bl (dcd (NmD d))) H')->Dt vs H Q E_
theorem zR(D:Defs K mg t)(GL:Glb mg):cA P w K mg base CX0 1 t.j9.1 t.j9.2 ["thing"] Dt:=by
 obtain ⟨tk1,hLET⟩:=GL.HW;obtain ⟨tk2,hMOL⟩:=GL.wF;exists 5;refine D.j9.fn.ok DP ‹7› ‹1›
 ·exists 17
 ·obtain ⟨v,d,rfl,rd,g,k⟩:=h
  refine⟨_,(aB (bO (V5 (gK (cL (bZ (aH bf (by rfl) D.aX aQ (aj (pv 0) (aj (cF (v:=V.ty "str") rfl D.Ad vZ rfl) aq))))) (gk (cL (rT qK qK aC (aH jZ (by rfl) D.cI bQ ‹36›) (rH (v:=V.int 6) (by rfl) hMOL ⟨_,rfl⟩))))))
   (aF (aL fO))
   aU)
   (aF (aL (aH (cW rfl) (by rfl) D.jL iw (aj (bI rfl (Wf ["sign"] [] ["sign"] (aG (top 6)) ["thing"] rfl rfl ‹5›) ⟨fun _ _ _ _ _=>(aN (i:=0) (show List.Nodup [("sign" : Str)] by decide +kernel) rfl ‹24› ‹17›),fun _ _ _ _ _=>bJ,fun _ _ _ _ _=>(dO KQ (pv 0) (rH (v:=V.str abc) (by rfl) hLET ⟨_,rfl⟩) ‹29›)⟩ (Dw (pv 0))) aq))))),?_⟩
  refine⟨_,rfl,_,_,_,wQ d,rfl,rd.ty,Fi N0 d,_,rfl,?_⟩;cases hb:wQ d with
  | false=>
   have kf:=k H (V8 H);rw [bD (fun⟨x,e,_⟩=>by rw [e] at hb; cases hb)] at kf;exact bM (bM kf)
  | true=>
   obtain ⟨x,rfl⟩:=Cv hb;obtain rfl:=rd.jm;rw [gs] at g
   have nf:¬ (1<=x.length/\x.length<=6)->Q (.bl false) H:=fun h=>by
    have kf:=k H (V8 H);rw [bD (fun⟨y,e,n1,n2,_⟩=>by injection e with e; rw [<- e] at n1 n2; exact h ⟨n1,n2⟩)] at kf;exact kf
   refine bT ⟨_,rfl,x,rfl,by omega,_,_,rfl,rfl,_,rfl,?_⟩
   by_cases h1:1<=x.length
   ·refine eO (bo ‹26›) ⟨_,_,rfl,rfl,_,rfl,?_⟩
    by_cases h6:x.length<=6
    ·refine eU (by rw [bo (show (x.length:Int)<=6 by omega)]; exact aS) ?_;refine⟨_,rfl,x,rfl,g.2,fun Dd hD=>?_⟩;refine bA (n:=x.length) (fun i ys H2=>ys=((x.cps.toList.take i).map fun c=>decide (c∈abc.cps.toList)).map V.bl/\H2=upd H Dd (.lst ys)) ⟨rfl,rfl⟩ ?_ ?_
     ·rintro ys H2 ⟨rfl,rfl⟩;rw [aw (by rw [fE]; exact ai _)];refine⟨ai _,Dd,_,rfl,V6 ak,?_⟩;rw [uf];have kf:=k _ (We (o:=.lst ((x.cps.toList.map fun c=>decide (c∈abc.cps.toList)).map V.bl)) hD);rw [kW (q:=Lw x) ⟨fun⟨y,e,_,_,n3⟩=>by injection e with e; rw [e]; exact n3,fun l=>⟨x,rfl,h1,h6,l⟩⟩] at kf;exact kf
     ·rintro i ys H2 hi ⟨rfl,rfl⟩;refine⟨hi,?_⟩;rintro y H3 ⟨rfl,c,ec,rfl⟩ σo ho;exists 15;have ec':x.cps[i]?=some c:=ec;refine⟨‹13›,cg ⟨_,rfl,c,abc,rfl,rfl,by rw [aa,aa,bc]; omega,ak,aW hi ‹42›⟩⟩;rw [jS,kG,ec',aI,aI];rfl
    ·refine eO (by rw [bE (show ¬ (x.length:Int)<=6 by omega)]; rfl) (nf fun h=>h6 h.2)
   ·refine eU (by rw [bE (show ¬ (1:Int)<=(x.length:Int) by omega)]; exact aS) ?_;exact⟨_,rfl,bM (nf fun h=>h1 h.1)⟩
inductive K6 (vs:LV) (H:Hp) (Q:VK) (E_:XK):Prop
 | mk (v:V) (d:PyData) (a:ut) (ks:LS):vs=[v,.ref a]->RdV H v d->H a=some (.tup (ks.map V.str))->Q (.bl (dcd (∃ x,d=.str x/\x∈ks))) H->K6 vs H Q E_
theorem Oq(D:Defs K mg t):cA P w K mg base CX0 1 t.nM.1 t.nM.2 ["thing","kinds"] K6:=by
 refine D.nM.fn.ok Df ‹7› ‹1›
 ·obtain ⟨v,d,a,ks,rfl,_⟩:=h;rfl
 ·obtain ⟨v,d,a,ks,rfl,rd,ha,k⟩:=h;refine⟨_,(aF (aL (iG (aH bf (by rfl) D.aX aQ (aj (pv 0) (aj (cF (v:=V.ty "str") rfl D.Ad vZ rfl) aq))) (jP (dO zu (pv 0) (pv 1) ‹29›))))),?_⟩;refine⟨_,rfl,_,_,_,wQ d,rfl,rd.ty,Fi N0 d,_,rfl,?_⟩;cases hb:wQ d with
  | true=>
   obtain ⟨x,rfl⟩:=Cv hb;obtain rfl:=rd.jm;refine bM ⟨_,rfl,_,rfl,a,_,rfl,.inr (V7 ha),rfl,jg ks,?_⟩;show Q (.bl (inV (.str x) (ks.map V.str))) H;rw [iI]
   have e:dcd (∃ y,PyData.str x=.str y/\y∈ks)=decide (x∈ks):=by
    by_cases h:x∈ks
    ·rw [dR ⟨x,rfl,h⟩,bo h]
    ·rw [bD (fun⟨y,e,hy⟩=>by injection e with e; exact h (e ▸ hy)),bE h]
   rw [e] at k;exact k
  | false=>
   rw [bD (fun⟨x,e,_⟩=>by rw [e] at hb; cases hb)] at k;exact bT k
theorem Bu{f:Fam}(nd:(nms f).Nodup){q:Str × LS}(hr:r∈f)(hq:q∈f)(e:r.1=q.1):r=q:=by
 induction f with
 | nil=>cases hr
 | cons a f ih=>
  have nd':(a.1::nms f).Nodup:=nd;obtain ⟨n1,n2⟩:=fh.mp nd';rcases bz.mp hr with rfl | hr' <;> rcases bz.mp hq with rfl | hq'
  ·rfl
  ·exact absurd (bu.mpr ⟨q,hq',e.symm⟩) n1
  ·exact absurd (bu.mpr ⟨r,hr',e⟩) n1
  ·exact ih n2 hr' hq'
structure iQ (f:Fam) (pl:LS):Prop where
 nd:pl.Nodup
 sub:∀ x∈pl,x∈nms f
 el:∀ x∈pl,Pl f x
theorem iQ.nil(f:Fam):iQ f []:=⟨ke,(fun x hx=>nomatch hx),(fun x hx=>nomatch hx)⟩
theorem iQ.len{f:Fam}(T:iQ f pl):pl.length<=f.length:=by
 have h1:=dh T.nd (m:=nms f) T.sub;have h2:(nms f).length=f.length:=aa _;omega
theorem iQ.full{f:Fam}(T:iQ f pl)(h0:bF f pl=[]):∀ {x:Str},Pl f x->x∈pl:=by
 intro x hx
 induction hx with
 | mk hr _ ih=>
  apply fb;intro hn;have:=tV.mpr ⟨_,hr,rfl,hn,ih⟩;rw [h0] at this;cases this
theorem vQ{l m:LS}(nd:l.Nodup)(hl:l.length=m.length)(sub:∀ x∈l,x∈m):∀ x∈m,x∈l:=by
 intro x hx;apply fb;intro hn;have h1:=dh (l:=x::l) (m:=m) (fh.mpr ⟨hn,nd⟩) (fun y hy=>(bz.mp hy).elim (fun e=>e ▸ hx) (sub y));rw [dA] at h1;omega
theorem iQ.all{f:Fam}(nd:(nms f).Nodup)(T:iQ f pl)(h0:bF f pl=[]\/f.length<=pl.length):pl.length=f.length↔∀ x∈nms f,Pl f x:=by
 have h2:(nms f).length=f.length:=aa _;constructor
 ·intro e x hx;exact T.el x (vQ T.nd ‹26› T.sub x hx)
 ·intro h;rcases h0 with h0 | h0
  ·have:=dh nd (m:=pl) fun x hx=>T.full h0 (h x hx);have:=T.len;omega
  ·have:=T.len;omega
inductive pP (vs:LV) (H:Hp) (Q:VK) (E_:XK):Prop
 | mk (v:V) (f:Fam):vs=[v]->Dp H (Aw f) v->Rws f->(∀(q:ut) (pl:LS) H',H' q=some (.tup (pl.map V.str))->iQ f pl->bF f pl=[]->Same H H'->Q (.ref q) H')->pP vs H Q E_
theorem iQ.ofK{f:Fam}(T:K09.iQ f pl):iQ f pl:=by
 have key:∀(j:Nat) (x:Str),pl[j]?=some x->Pl f x:=by
  intro j
  induction j using Nat.strongRecOn with
  | ind j ih=>
   intro x e;obtain ⟨r,hr,er⟩:=bu.mp (T.sub x (eI e));have er:r.1=x:=er;subst er;refine .mk hr fun y hy=>?_;obtain ⟨i,hi,ei⟩:=jf (T.el j r hr e y hy);exact ih i hi y ei
 refine⟨T.nd,T.sub,fun x hx=>?_⟩;obtain ⟨j,hj,e⟩:=fF hx;exact key j x (by rw [ae hj,e])
theorem tO(D:Defs K mg t):cA P w K mg base CX0 1 t.cR.1 t.cR.2 ["family"] pP:=
 (Fo D).imp fun vs H Q E ⟨v,f,e,d,R,k⟩=>⟨v,f,e,d,R,fun q pl H' h T h0 s=>k q pl H' h (iQ.ofK T) h0 s⟩
theorem tE{ks:LS}:∀ {ds:LP},(ds.map fun d=>dcd (∃ x,d=.str x/\x∈ks)).all id=true↔∃ es:LS,ds=es.map PyData.str/\∀ e∈es,e∈ks
 | []=>⟨fun _=>⟨[],rfl,fun e he=>nomatch he⟩,fun _=>rfl⟩
 | d::ds=>by
  rw [de,lI,eK,tE];show dcd _=true/\_↔_;rw [lQ];constructor
  ·rintro ⟨⟨x,rfl,hx⟩,es,rfl,he⟩;exact⟨x::es,rfl,fun e h=>(bz.mp h).elim (fun z=>z ▸ hx) (he e)⟩
  ·rintro ⟨es,e,he⟩;cases es with
   | nil=>cases e
   | cons x es=>
    injection e with e1 e2;exact⟨⟨x,e1,he x bn⟩,es,e2,fun e h=>he e (cr _ h)⟩
def HJ(ks:LS)(d:PyData):Prop:=∃ es:LS,d=.tuple (es.map .str)/\(∀ e∈es,e∈ks)/\es.Nodup
theorem rW{fs:LS}(h:es.map PyData.str=fs.map PyData.str):es=fs:=jv (f:=PyData.str) (fun a b e=>by injection e) |>.mp h
inductive Pg (vs:LV) (H:Hp) (Q:VK) (E_:XK):Prop
 | mk (v:V) (d:PyData) (a:ut) (ks:LS):vs=[v,.ref a]->RdV H v d->H a=some (.tup (ks.map V.str))->ks.length<=100->(∀ H',Same H H'->Q (.bl (dcd (HJ ks d))) H')->Pg vs H Q E_
theorem Rf(D:Defs K mg t):cA P w K mg base CX0 2 t.jC.1 t.jC.2 ["thing","kinds"] Pg:=by
 have Gbf:=@Oq P w K mg base t D;exists 5;refine D.jC.fn.ok zf ‹7› ‹1›
 ·obtain ⟨v,d,a,ks,rfl,_⟩:=h;rfl
 ·obtain ⟨v,d,a,ks,rfl,rd,ha,hk8,k⟩:=h
  refine⟨_,(aB (bO (V5 (gK (cL (bZ ‹4›)) (gk (aY n6 ‹15› ‹18› (bh _)))))
   (aF (aL fO))
   aU)
   (aB (bO (cL (bZ (aH (cW rfl) (by rfl) D.jL iw (aj (bI rfl (Wf ["part"] [1] ["part","kinds"] (aG (top 8)) ["thing","kinds"] rfl rfl ‹5›) ⟨fun _ _ _ _ _=>(aN (i:=0) (show List.Nodup [("part" : Str),("kinds" : Str)] by decide +kernel) rfl ‹24› ‹17›),fun _ _ _ _ _=>bJ,fun _ _ _ _ _=>(aD D.nM Gbf ‹2› (by rfl) (aj (pv 0) (aj (pv 1) aq)))⟩ (bW (pv 0))) aq))))
   (aF (aL fO))
   aU)
   (aF (aL (dO gq (aH iK (by rfl) D.cI bQ (aj (bG (mK rfl) (by rfl) D.xK sW ‹36›) aq)) ‹15› (bh _)))))),?_⟩
  exists 18;have kf:∀ {H'},Same H H'->¬ HJ ks d->Q (.bl false) H':=fun s h=>by have:=k _ s; rw [bD h] at this; exact this
  exists 8;cases hb:iZ d with
  | false=>exact bM (bM (kf (V8 H) fun⟨es,e,_⟩=>by rw [e] at hb; cases hb))
  | true=>
   exists 7;refine bT ⟨_,rfl,b,_,rfl,.inr (V7 hb'),_,rfl,a,_,rfl,.inr (V7 ha),_,_,rfl,rfl,_,rfl,?_⟩;rw [aa]
   by_cases hlen:ds.length > ks.length
   ·refine eO (bo ‹26›) (kf (V8 H) ?_);rintro ⟨es,e,sub,nd⟩;exists 10;have:=dh nd sub;rw [e,aa] at hlen;omega
   ·refine eU (by rw [bE (show ¬ ((xs.length:Int) > (ks.length:Int)) by omega)]; exact aS) ?_;refine⟨_,rfl,b,rfl,⟨_,V7 hb'⟩,fun Dd hD=>?_⟩;have sD:∀ o,Same H (upd H Dd o):=fun o=>We hD;refine bA (n:=xs.length) (fun i ys H2=>ys=((ds.take i).map fun d=>dcd (∃ x,d=.str x/\x∈ks)).map V.bl/\H2=upd H Dd (.lst ys)) ⟨rfl,rfl⟩ ?_ ?_
    ·rintro ys H2 ⟨rfl,rfl⟩;rw [aw ‹26›];have s2:=sD (.lst ((ds.map fun d=>dcd (∃ x,d=.str x/\x∈ks)).map V.bl));refine⟨⟨_,V7 (s2 b _ hb'),ai _⟩,Dd,_,rfl,V6 ak,_,rfl,?_⟩;generalize upd H Dd (.lst ((ds.map fun d=>dcd (∃ x,d=.str x/\x∈ks)).map V.bl))=H2 at s2;cases hall:(ds.map fun d=>dcd (∃ x,d=.str x/\x∈ks)).all id with
     | false=>
      refine bM (kf s2 ?_);rintro ⟨es,e,sub,nd⟩;exists 10;rw [tE.mpr ⟨es,e,sub⟩] at hall;cases hall
     | true=>
      obtain ⟨es,rfl,sub⟩:=tE.mp hall;obtain rfl:=rl.jx;have hel:es.length<=100:=by rw [aa] at hlen; omega
      refine bT ⟨_,rfl,b,es,rfl,.inr (V7 (s2 b _ hb')),by omega,fun sd hsd=>?_⟩;refine⟨sd,_,rfl,ak,_,rfl,b,_,rfl,.inr (V7 (We hsd b _ (s2 b _ hb'))),?_⟩;rw [aa];have fin:=k _ (s2.trans (We (o:=HN P w sd (un es es.length)) hsd))
      by_cases nd:es.Nodup
      ·rw [dR ⟨es,rfl,sub,nd⟩] at fin;refine⟨rfl,?_⟩;rw [bo (by rw [(mq es).mpr nd])];exact fin
      ·rw [bD (fun⟨fs,e,_,n⟩=>by injection e with e; rw [rW e] at nd; exact nd n)] at fin;refine⟨rfl,?_⟩;rw [bE (fun z=>by injection z with z; exact nd ((mq es).mp ‹26›))];exact fin
    ·rintro i ys H2 hi ⟨rfl,rfl⟩;have hil:i < ds.length:=by omega
     obtain ⟨y,ey,ry⟩:=rl.get (ae hil);have s2:=sD (.lst (((ds.take i).map fun d=>dcd (∃ x,d=.str x/\x∈ks)).map V.bl));exists 3;refine⟨‹13›,cg ⟨_,rfl,_,rfl,_,ds[i],a,ks,rfl,ry.bH s2,s2 a _ ha,by rw [aa,aa,bc]; omega,ak,aW hi ‹42›⟩⟩;rw [take_snoc hil,aI,aI];rfl
theorem Pl.mem{f:Fam}{x:Str}(h:Pl f x):x∈nms f:=by
 cases h with
 | mk hr _=>exact bu.mpr ⟨_,hr,rfl⟩
theorem Pl.inv{f:Fam}(nd:(nms f).Nodup)(hr:r∈f)(h:Pl f r.1):∀ e∈r.2,Pl f e:=by
 generalize hx:r.1=x at h;cases h with
 | mk hr' h'=>
  rw [Bu nd hr hr' hx];exact h'
def pairD(p:Str × PyData):PyData:=.tuple [.str p.1,p.2]
def R1(d:PyData):Prop:=∃(x:Str) (e:PyData),d=.tuple [.str x,e]/\Nm x
theorem Ei:∀ {ds:LP},(ds.map fun d=>dcd (R1 d)).all id=true↔∃ ps:List (Str × PyData),ds=ps.map pairD/\∀ p∈ps,Nm p.1
 | []=>⟨fun _=>⟨[],rfl,fun e he=>nomatch he⟩,fun _=>rfl⟩
 | d::ds=>by
  rw [de,lI,eK,Ei];show dcd _=true/\_↔_;rw [lQ];constructor
  ·rintro ⟨⟨x,e,rfl,hx⟩,ps,rfl,he⟩;exact⟨(x,e)::ps,rfl,fun p h=>(bz.mp h).elim (fun z=>z ▸ hx) (he p)⟩
  ·rintro ⟨ps,e,he⟩;cases ps with
   | nil=>cases e
   | cons p ps=>
    injection e with e1 e2;exact⟨⟨p.1,p.2,e1,he p bn⟩,ps,e2,fun q h=>he q (cr _ h)⟩
theorem zc{ks:LS}:∀ {ps:List (Str × PyData)},(ps.map fun p=>dcd (HJ ks p.2)).all id=true↔∃ f:Fam,ps.map pairD=f.map jT/\nms f=ps.map (·.1)/\∀ r∈f,(∀ e∈r.2,e∈ks)/\r.2.Nodup
 | []=>⟨fun _=>⟨[],rfl,rfl,fun e he=>nomatch he⟩,fun _=>rfl⟩
 | p::ps=>by
  rw [de,lI,eK,zc];show dcd _=true/\_↔_;rw [lQ];constructor
  ·rintro ⟨⟨es,h1,h2⟩,f,e1,e2,e3⟩;refine⟨(p.1,es)::f,?_,?_,fun r h=>(bz.mp h).elim (fun z=>z ▸ h2) (e3 r)⟩
   ·rw [de,de,e1];unfold pairD jT;rw [h1]
   ·rw [de,<- e2];rfl
  ·rintro ⟨f,e1,e2,e3⟩;cases f with
   | nil=>cases e1
   | cons r f=>
    injection e1 with e4 e5;injection e2 with e6 e7;unfold pairD jT at e4;injection e4 with e4;injection e4 with _ e4;injection e4 with e4 _;exact⟨⟨r.2,e4,e3 r bn⟩,f,e5,e7,fun q h=>e3 q (cr _ h)⟩
inductive G3 (vs:LV) (H:Hp) (Q:VK) (E_:XK):Prop
 | mk (b:ut) (xs:LV) (ps:List (Str × PyData)):vs=[.ref b]->H b=some (.tup xs)->RdA H xs (ps.map pairD)->ps.length<=100->(∀(q:ut) H',H' q=some (.tup ((ps.map (·.1)).map V.str))->Same H H'->Q (.ref q) H')->G3 vs H Q E_
theorem DR(D:Defs K mg t):cA P w K mg base CX0 1 t.kinds_of.1 t.kinds_of.2 ["rows"] G3:=by
 exists 5;refine D.kinds_of.fn.ok Cu ‹7› ‹1›
 ·obtain ⟨b,xs,ps,rfl,_⟩:=h;rfl
 ·obtain ⟨b,xs,ps,rfl,hb,rl,hl,k⟩:=h;have hxl:xs.length=ps.length:=by have:=rl.length; rwa [aa] at this
  refine⟨_,(aF (aL (bG cB (by rfl) D.bY bK (aj (bI rfl (Wf ["row"] [] ["row"] (aG (top 9)) ["rows"] rfl rfl ‹5›) ⟨fun _ _ _ _ _=>(aN (i:=0) (show List.Nodup [("row" : Str)] by decide +kernel) rfl ‹24› ‹17›),fun _ _ _ _ _=>bJ,fun _ _ _ _ _=>‹27›⟩ (bW (pv 0))) aq)))),?_⟩;refine⟨_,rfl,b,rfl,⟨_,V7 hb⟩,fun Dd hD=>?_⟩;have sD:∀ o,Same H (upd H Dd o):=fun o=>We hD;refine bA (n:=xs.length) (fun i ys H2=>ys=((ps.take i).map (·.1)).map V.str/\H2=upd H Dd (.lst ys)) ⟨rfl,rfl⟩ ?_ ?_
  ·rintro ys H2 ⟨rfl,rfl⟩;rw [aw ‹26›];refine⟨⟨_,V7 (sD _ b _ hb),ai _⟩,Dd,_,rfl,.inl ⟨V6 ak,fun q hq=>?_⟩⟩;exact k q _ ak ((sD _).trans (We hq))
  ·rintro i ys H2 hi ⟨rfl,rfl⟩;have hil:i < ps.length:=by omega
   obtain ⟨y,ey,ry⟩:=rl.get (i:=i) (d:=pairD ps[i]) (by rw [bg,ae hil]; rfl);refine⟨⟨_,_,V7 (sD _ b _ hb),ey⟩,?_⟩;rintro z H3 ⟨rfl,yy⟩ σo ho;exists 15;have ez:=yy _ (V7 (sD _ b _ hb));rw [ey] at ez;cases ez;obtain ⟨q,zs,rfl,hq,rz⟩:=(ry.bH (sD _)).bV;cases rz with
   | cons r1 r2=>
    obtain rfl:=r1.jm;refine⟨‹13›,cg ⟨_,rfl,q,_,_,_,rfl,rfl,V7 hq,aJ (j:=0) rfl,by rw [aa,aa,bc]; omega,ak,aW hi ‹42›⟩⟩;rw [take_snoc hil,aI,aI];rfl
inductive Pz (vs:LV) (H:Hp) (Q:VK) (E_:XK):Prop
 | mk (v:V) (d:PyData):vs=[v]->RdV H v d->gs d->(∀ H',Same H H'->Q (.bl (dcd (IsF d))) H')->Pz vs H Q E_
theorem Rz(D:Defs K mg t)(GL:Glb mg):cA P w K mg base CX0 3 t.jF.1 t.jF.2 ["thing"] Pz:=by
 have Gag:=@vL P w K mg base t D;have Gah:=@zR P w K mg base t D GL;have Gbg:=@Rf P w K mg base t D;have Gax:=@DR P w K mg base t D;have Gal:=@tO P w K mg base t D;obtain ⟨tk3,hMOK⟩:=GL.zO;exists 5;refine D.jF.fn.ok rN ‹7› ‹1›
 ·exists 17
 ·obtain ⟨v,d,rfl,rd,g,k⟩:=h
  refine⟨_,(aB (bO (V5 (gK (cL (bZ ‹4›)) (gk (cL (rT qK qK aC ‹15› (rH (v:=V.int 7) (by rfl) hMOK ⟨_,rfl⟩))))))
   (aF (aL fO))
   aU)
   (aB (bO (cL (bZ (aH (cW rfl) (by rfl) D.jL iw (aj (bI rfl (Wf ["pair"] [] ["pair"] (aG (top 10)) ["thing","kinds"] rfl rfl ‹5›) ⟨fun _ _ _ _ _=>(aN (i:=0) (show List.Nodup [("pair" : Str)] by decide +kernel) rfl ‹24› ‹17›),fun _ _ _ _ _=>bJ,fun _ _ _ _ _=>(iG (aD D.fu Gag ‹2› (by rfl) (aj (pv 0) (aj aC aq))) (jP (aD D.j9 Gah ‹2› (by rfl) (aj ‹27› aq))))⟩ (bW (pv 0))) aq))))
   (aF (aL fO))
   aU)
   (aB (aM (i:=1) rN.nd rfl (Mm rfl) (aD D.kinds_of Gax ‹2› (by rfl) ‹36›))
   (aB (bO (aY vP (aH iK (by rfl) D.cI bQ (aj (bG (mK rfl) (by rfl) D.xK sW (aj (pv 1) aq)) aq)) ‹18› (bh _))
   (aF (aL fO))
   aU)
   (aB (bO (cL (bZ (aH (cW rfl) (by rfl) D.jL iw (aj (bI rfl (Wf ["pair"] [1] ["pair","kinds"] (aG (top 10)) ["thing","kinds"] rfl rfl ‹5›) ⟨fun _ _ _ _ _=>(aN (i:=0) (show List.Nodup [("pair" : Str),("kinds" : Str)] by decide +kernel) rfl ‹24› ‹17›),fun _ _ _ _ _=>bJ,fun _ _ _ _ _=>(aD D.jC Gbg ‹2› (by rfl) (aj ‹27› (aj (pv 1) aq)))⟩ (bW (pv 0))) aq))))
   (aF (aL fO))
   aU)
   (aF (aL (dO gq (aH bx (by rfl) D.cI bQ (aj (aD D.cR Gal ‹2› (by rfl) ‹36›) aq)) ‹15› (bh _))))))))),?_⟩
  have kf:∀ {H'},Same H H'->¬ IsF d->Q (.bl false) H':=fun s h=>by have:=k _ s; rw [bD h] at this; exact this
  exists 8;cases hb:iZ d with
  | false=>exact bM (bM (kf (V8 H) fun⟨f,e,_⟩=>by rw [e] at hb; cases hb))
  | true=>
   exists 7
   have nf:¬ (1<=ds.length/\ds.length<=7)->Q (.bl false) H:=fun h=>kf (V8 H) fun⟨f,e,n1,n2,_⟩=>by
    exists 10;rw [e,aa] at h;exact h ⟨n1,n2⟩
   refine bT ⟨_,rfl,b,_,rfl,.inr (V7 hb'),_,_,rfl,rfl,_,rfl,?_⟩
   by_cases h1:1<=ds.length
   rotate_left
   ·refine eU (by rw [bE (show ¬ (1:Int)<=(xs.length:Int) by omega)]; exact aS) ?_;exact⟨_,rfl,bM (nf fun h=>h1 h.1)⟩
   refine eO (bo ‹26›) ⟨_,_,rfl,rfl,_,rfl,?_⟩
   by_cases h7:ds.length<=7
   rotate_left
   ·exact eO (by rw [bE (show ¬ (xs.length:Int)<=7 by omega)]; rfl) (nf fun h=>h7 h.2)
   refine eU (by rw [bo (show (xs.length:Int)<=7 by omega)]; exact aS) ?_;refine⟨_,rfl,b,rfl,⟨_,V7 hb'⟩,fun Dd hD=>?_⟩;refine bA (n:=xs.length) (fun i ys H2=>ys=((ds.take i).map fun d=>dcd (R1 d)).map V.bl/\Same H H2/\H2 Dd=some (.lst ys)) ⟨rfl,We hD,ak⟩ ?_ ?_;rotate_left
   ·rintro i ys H2 hi ⟨rfl,s2,hD2⟩;have hil:i < ds.length:=by omega
    obtain ⟨y,ey,ry⟩:=rl.get (ae hil);exists 3
    have gi:gs ds[i]:=by
     rw [gs] at g;exact nU.mp g _ (bS hil)
    have fin:∀(B:Bool) (H4:Hp),B=dcd (R1 ds[i])->Same H3 H4->(∃ m',m' < xs.length - i/\(m'=xs.length - (i+1)/\i+1<=xs.length/\(((ds.take i).map fun d=>dcd (R1 d)).map V.bl++[.bl B]=((ds.take (i+1)).map fun d=>dcd (R1 d)).map V.bl/\Same H (upd H4 Dd (.lst (((ds.take i).map fun d=>dcd (R1 d)).map V.bl++[.bl B])))/\(upd H4 Dd (.lst (((ds.take i).map fun d=>dcd (R1 d)).map V.bl++[.bl B]))) Dd=some (.lst (((ds.take i).map fun d=>dcd (R1 d)).map V.bl++[.bl B]))))):=fun B H4 eB s4=>aW hi ⟨by
      rw [take_snoc hil,aI,aI,eB];rfl,fun b' o e=>by
      rw [aA (au e hD)];exact s4 b' o (s2 b' o e),ak⟩
    have hlen:(((ds.take i).map fun d=>dcd (R1 d)).map V.bl).length<=7:=by rw [aa,aa,bc]; omega
    refine⟨‹13›,cg ⟨_,rfl,y,ds[i],2,rfl,ry.bH s2,?_⟩⟩
    by_cases h2:∃ es,ds[i]=.tuple es/\es.length=2
    ·rw [dR h2];obtain ⟨es,ee,e2⟩:=h2;rw [ee] at ry gi;obtain ⟨q,zs,rfl,hq,rz⟩:=(ry.bH s2).bV
     match es,e2 with
     | [e0,e1],_=>
      rw [gs,gsA] at gi;cases rz with
      | cons r1 r2=>
       refine⟨_,rfl,bM ⟨_,rfl,q,_,_,_,rfl,rfl,V7 hq,aJ (j:=0) rfl,_,e0,rfl,r1,gi.1,fun H4 s4=>⟨by omega,s4 Dd _ hD2,fin _ H4 ?_ s4⟩⟩⟩;refine kW ⟨fun⟨x,ex,hx⟩=>⟨x,e1,by rw [ee,ex],hx⟩,fun⟨x,e',eq,hx⟩=>⟨x,?_,hx⟩⟩;rw [ee] at eq;injection eq with eq;injection eq with eq
    ·rw [bD h2];refine⟨_,rfl,bT ⟨by omega,hD2,fin _ H3 ?_ (V8 H3)⟩⟩;rw [bD];rintro ⟨x,e,ex,_⟩;exact h2 ⟨_,ex,rfl⟩
   rintro ys H2 ⟨rfl,s2,hD2⟩;rw [aw ‹26›] at hD2;refine⟨⟨_,V7 (s2 b _ hb'),ai _⟩,Dd,_,rfl,V6 hD2,_,rfl,?_⟩;cases hall:(ds.map fun d=>dcd (R1 d)).all id with
   | false=>
    refine bM (kf s2 ?_);rintro ⟨f,e,_,_,ok,_⟩;exists 10
    have:(ds.map fun d=>dcd (R1 d)).all id=true:=by
     rw [Ei];refine⟨f.map fun r=>(r.1,.tuple (r.2.map .str)),?_,fun p hp=>?_⟩
     ·rw [e,gN];rfl
     ·obtain ⟨r,hr',rfl⟩:=bu.mp hp;exact(ok r hr').1
    rw [this] at hall;cases hall
   | true=>
    obtain ⟨ps,rfl,nmp⟩:=Ei.mp hall;rw [aa] at h1 h7 hxl;have rl2:=rl.bH s2;refine bT ⟨_,rfl,b,xs,ps,rfl,s2 b _ hb',rl2,by omega,fun ka H3 hka s3=>?_⟩;have s13:=s2.trans s3;have pl:((ps.map (·.1)).map V.str).length=ps.length:=by rw [aa,aa]
    have kl:(ps.map (·.1)).length=ps.length:=aa _;refine⟨_,rfl,ka,_,rfl,.inr (V7 hka),by omega,fun sd hsd=>?_⟩;have s4:∀ o,Same H3 (upd H3 sd o):=fun o=>We hsd;refine⟨sd,_,rfl,ak,_,rfl,ka,_,rfl,.inr (V7 (s4 _ ka _ hka)),_,_,rfl,rfl,_,rfl,?_⟩;have s14:∀ o,Same H (upd H3 sd o):=fun o=>s13.trans (s4 o);have ule:=xP (ps.map (·.1)) (ps.map (·.1)).length
    by_cases nd:(ps.map (·.1)).Nodup
    rotate_left
    ·refine eO (bo ?_) (kf (s14 _) ?_)
     ·have:un (ps.map (·.1)) (ps.map (·.1)).length≠(ps.map (·.1)).length:=fun z=>nd ((mq _).mp z);omega
     ·rintro ⟨f,e,_,_,_,ndf,_⟩;exists 10
      have:ps.map (·.1)=nms f:=by
       have h:=congrArg (List.map fun d=>match d with | PyData.tuple (PyData.str x::_)=>x | _=> "") e;rw [gN,gN] at h;exact h
      rw [this] at nd;exact nd ndf
    have une:=(mq _).mpr nd;refine eU (by rw [bE ‹26›]; exact aS) ?_;refine⟨_,rfl,b,rfl,⟨_,V7 (s14 _ b _ hb')⟩,fun De hDe=>?_⟩;refine bA (n:=xs.length) (fun i ys H5=>ys=((ps.take i).map fun p=>dcd (HJ (ps.map (·.1)) p.2)).map V.bl/\Same H3 H5/\H5 De=some (.lst ys)) ⟨rfl,(s4 _).trans (We hDe),ak⟩ ?_ ?_;rotate_left
    ·rintro i ys H5 hi ⟨rfl,s5,hD5⟩;have hil:i < ps.length:=by omega
     obtain ⟨y,ey,ry⟩:=rl.get (i:=i) (d:=pairD ps[i]) (by rw [bg,ae hil]; rfl);refine⟨⟨_,_,V7 (s5 b _ (s13 b _ hb')),ey⟩,?_⟩;rintro z H6 ⟨rfl,yy⟩ σo ho;exists 15;have ez:=yy _ (V7 (s5 b _ (s13 b _ hb')));rw [ey] at ez;cases ez;obtain ⟨q,zs,rfl,hq,rz⟩:=(ry.bH (s13.trans s5)).bV;cases rz with
     | cons r1 rz=>
      cases rz with
      | cons r2 rz=>
       refine⟨‹13›,cg ⟨_,rfl,q,_,_,_,rfl,rfl,V7 hq,aJ (j:=1) rfl,_,rfl,_,(ps[i]).2,ka,ps.map (·.1),rfl,r2,s5 ka _ hka,by omega,fun H7 s7=>⟨by rw [aa,aa,bc]; omega,s7 De _ hD5,aW hi ⟨?_,fun b' o e=>?_,ak⟩⟩⟩⟩
       ·rw [take_snoc hil,aI,aI];rfl
       ·rw [aA (au (s4 _ b' o e) hDe)];exact s7 b' o (s5 b' o e)
    rintro ys H5 ⟨rfl,s5,hD5⟩;rw [aw ‹26›] at hD5;refine⟨⟨_,V7 (s5 b _ (s13 b _ hb')),ai _⟩,De,_,rfl,V6 hD5,_,rfl,?_⟩;have s15:=s13.trans s5;cases hare:(ps.map fun p=>dcd (HJ (ps.map (·.1)) p.2)).all id with
    | false=>
     refine bM (kf s15 ?_);rintro ⟨f,e,_,_,ok,ndf,pl⟩;exists 10
     have en:ps.map (·.1)=nms f:=by
      have h:=congrArg (List.map fun d=>match d with | PyData.tuple (PyData.str x::_)=>x | _=> "") e;rw [gN,gN] at h;exact h
     have:(ps.map fun p=>dcd (HJ (ps.map (·.1)) p.2)).all id=true:=by
      rw [zc];refine⟨f,e,en.symm,fun r hr'=>⟨fun e' he'=>?_,(ok r hr').2.2⟩⟩;rw [en];exact(Pl.inv ndf hr' (pl r.1 (bu.mpr ⟨r,hr',rfl⟩)) e' he').mem
     rw [this] at hare;cases hare
    | true=>
     obtain ⟨f,e1,e2,e3⟩:=zc.mp hare
     have fl:f.length=ps.length:=by
      have:=congrArg List.length e2
      rwa [aa,aa] at this
     rw [<- e2] at nd e3
     have rw':Rws f:=⟨nd,by omega,fun r hr'=>by
      have:=dh (e3 r hr').2 (e3 r hr').1;rw [aa] at this;omega⟩
     have dv:Dp H5 (Aw f) (.ref b):=RdV.dp (Aw f) (by rw [Gv,<- e1]; exact rd.bH s15);refine bT ⟨_,rfl,.ref b,f,rfl,dv,rw',fun q pl H6 hq T h0 s6=>?_⟩;refine⟨q,_,rfl,.inr (V7 hq),_,rfl,b,_,rfl,.inr (V7 (s6 b _ (s15 b _ hb'))),rfl,?_⟩;have fin:=k _ (s15.trans s6)
     have key:IsF (.tuple (ps.map pairD))↔pl.length=f.length:=by
      rw [T.all nd (.inl h0)];constructor
      ·rintro ⟨f',e,_,_,_,_,h⟩;rw [e1] at e;rw [wJ e];exact h
      ·intro h;refine⟨f,by rw [e1],by omega,by omega,fun r hr'=>⟨?_,fun e' he'=>?_,(e3 r hr').2⟩,nd,h⟩
       ·have:r.1∈ps.map (·.1):=by rw [<- e2]; exact bu.mpr ⟨r,hr',rfl⟩
        obtain ⟨p,hp,ep⟩:=bu.mp this;rw [<- ep];exact nmp p hp
       ·have:e'∈ps.map (·.1):=by rw [<- e2]; exact(e3 r hr').1 e' he'
        obtain ⟨p,hp,ep⟩:=bu.mp this;rw [<- ep];exact nmp p hp
     rw [kW key] at fin;rw [aa]
     by_cases e:pl.length=f.length
     ·rw [dR e] at fin;rw [bo (by rw [e,fl,hxl])];exact fin
     ·rw [bD e] at fin;rw [bE (fun z=>by injection z with z; omega)];exact fin
end
end K09.E
end
section
namespace K09.B
open PySem PyProof.Rows L2
variable {H H':Hp}{kvs:LK0}{es ns:LS}
structure Row where
 kind:Str
 cU:LS
 order:LS
 fields:LS
 lJ:List (Str × Int)
 num:Int
def RW(r:Row):List T:=[.str r.kind,.tup (r.cU.map T.str),.tup (r.order.map T.str),.tup (r.fields.map T.str),.tup (r.lJ.map fun d=>T.tup [.str d.1,.int d.2]),.int r.num]
def tM(r:Row):T:=.tup (RW r)
def DK(tb:List Row):T:=.tup (tb.map tM)
def kns(tb:List Row):LS:=tb.map (·.kind)
structure wj (tb:List Row):Prop where
 nd:(kns tb).Nodup
 len:tb.length<=8
 ord:∀ r∈tb,∀ x∈r.order,x∈kns tb
 ol:∀ r∈tb,r.order.length<=9
 fl:∀ r∈tb,r.fields.length<=8
 kl:∀ r∈tb,Nm r.kind
 es:∀ r∈tb,(∀ x∈r.cU,x∈kns tb)/\r.cU.length<=8
def Jo(d:Str × Int):T:=.tup [.str d.1,.int d.2]
section
variable {P:uC}{w:ww}{K:PySem.W.Frag}{mg:MG}{base:Heap}{t:Adr}
def Lx(ns:LS)(ds:List (Str × Int)):Prop:=(ds.map Prod.fst).Nodup/\(∀ d∈ds,d.1∈ns)/\(∀ d∈ds,1<=d.2/\d.2<=99)/\(ds.map Prod.fst).Pairwise leS
theorem Dg{l:LS}(h:sortedS l=true):l.Pairwise leS:=by
 cases l with
 | nil=>exact .nil
 | cons x r=>exact qm r x h
inductive Qe (vs:LV) (H:Hp) (Q:VK) (E_:XK):Prop
 | mk (p l:ut) (ns:LS):vs=[.ref p,.ref l]->Pu H p->H l=some (.lst ‹31›)->ns.length<=11->(∀(v:V) (ds:List (Str × Int)) H',Dp H' (.tup (ds.map Jo)) v->Lx ns ds->Off p H H'->Pu H' p->Q v H')->Qe vs H Q E_
theorem RK(D:Defs K mg t):cA P w K mg base CX0 3 t.lg.1 t.lg.2 ["_law_purse_here","_law_deeds"] Qe:=by
 exists 13;have Gad:=@uT P w K mg base t D;exists 5;refine D.lg.fn.ok ud ‹7› ‹1›
 ·obtain ⟨p,l,ns,rfl,_⟩:=h;rfl
 ·obtain ⟨p,l,ns,rfl,hp,hl,h3,k⟩:=h
  refine⟨_,(aB (aM (i:=2) ud.nd rfl (uA rfl) (aH za (by rfl) D.wA tU (aj (aD D.gF Gad ‹2› (by rfl) (aj (pv 0) (aj (pv 1) (aj ‹18› aq)))) aq)))
   (aF (aL (bG cB (by rfl) D.bY bK (aj (bI rfl (Wf ["_law_deed"] [0] ["_law_deed","_law_purse_here"] (aG (top 41)) ["_law_purse_here","_law_deeds","_law_some_here"] rfl rfl ‹5›) ⟨fun _ _ _ _ _=>(aN (i:=0) (show List.Nodup [("_law_deed" : Str),("_law_purse_here" : Str)] by decide +kernel) rfl ‹24› ‹17›),fun _ _ _ _ _=>bJ,fun _ _ _ _ _=>(cC (aj (pv 0) (aj (aP bN (cN (aj aC (aj aC (aj (aR cV aC (aD D.aV Ga ‹2› (by rfl) (aj (pv 1) (aj aC aq)))) aq)))) (aD D.aV Ga ‹2› (by rfl) (aj (pv 1) (aj aC aq))) ‹3›) aq)))⟩ (gO (pv 2))) aq))))),?_⟩
  refine⟨_,rfl,_,rfl,_,rfl,l,_,rfl,.inl (V6 hl),p,l,ns,ns.length,by rw [aa]; rfl,hp,hl,by omega,by omega,?_⟩;intro q es H1 hq sub nd hle o1 p1;refine⟨q,es,rfl,.inr (V7 hq),by omega,fun d ss pm srt hd=>?_⟩;have hsl:ss.length=es.length:=pm.length_eq;have pd:p≠d:=p1.neN hd;have o2:Off p H (upd H1 d (.lst (ss.map V.str))):=o1.trans (Wd hd);have p2:Pu (upd H1 d (.lst (ss.map V.str))) p:=p1.aA pd;have hd2:(upd H1 d (.lst (ss.map V.str))) d=some (.lst (ss.map V.str)):=ak;generalize upd H1 d (.lst (ss.map V.str))=H2 at o2 p2 hd2;refine⟨_,rfl,d,rfl,⟨_,V6 hd2⟩,fun D1 hD1=>?_⟩;have pD:p≠D1:=p2.neN hD1;have dD:d≠D1:=au hd2 hD1
  refine bA (n:=(ss.map V.str).length) (fun i ys H3=>∃ ds:List (Str × Int),ds.length=i/\ds.map Prod.fst=ss.take i/\(∀ d∈ds,1<=d.2/\d.2<=99)/\DpL H3 (ds.map Jo) ys/\H3 D1=some (.lst ys)/\H3 d=some (.lst (ss.map V.str))/\Off p H2 H3/\Pu H3 p)
   ⟨[],rfl,rfl,(fun _ h=>nomatch h),.nil,ak,by rw [aA dD]; exact hd2,Wd hD1,p2.aA pD⟩ ?_ ?_
  ·rintro ys H3 ⟨ds,hdl,hdn,hdb,dl,hD3,hd3,o3,p3⟩;refine⟨⟨_,V6 hd3,ai _⟩,D1,_,rfl,.inl ⟨V6 hD3,fun q4 hq4=>?_⟩⟩
   exact k (.ref q4) ds _ (L2.Dp.tup ak (dl.mono (V9 (We hq4)))) (by
    rw [aa,aw (ai _)] at hdn;refine⟨by rw [hdn]; exact pm.nodup_iff.mpr nd,fun d hd=>sub _ (pm.mem_iff.mp ?_),hdb,by rw [hdn]; exact Dg srt⟩;rw [<- hdn];exact List.mem_map_of_mem hd) (o2.trans (o3.trans (Wd hq4))) (p3.aA (p3.neN hq4))
  ·rintro i ys H3 hi ⟨ds,hdl,hdn,hdb,dl,hD3,hd3,o3,p3⟩;have hi':i < ss.length:=by rw [aa] at hi; exact hi
   have ei:(ss.map V.str)[i]?=some (.str ss[i]):=by rw [bg,ae hi']; rfl
   refine⟨⟨_,_,V6 hd3,ei⟩,?_⟩;rintro x H4 ⟨rfl,yy⟩ σo ho;obtain ⟨oo,rfl⟩:=own1 ho;have ev:=yy _ (V6 hd3);rw [ei] at ev;cases ev;refine⟨‹13›,cg ?_⟩;refine⟨_,rfl,_,rfl,p,99,rfl,p3,by decide,by decide,fun r1 a1 b1 c1 l1 u1=>⟨_,_,rfl,rfl,by show 3<=sizeLine; decide,fun m hm=>?_⟩⟩;have pm':p≠m:=Pu.upd.neN hm;have p5:=(Wg (H:=H4) (p:=p) (a:=a1) (b:=b1) (c:=c1)).aA (o:=.lst [.int 1,.int 99,.int (1+r1)]) pm';have o5:Off p H4 (upd (upd H4 p ‹23›) m (.lst [.int 1,.int 99,.int (1+r1)])):=Off.upd.trans (Wd hm);have hm5:(upd (upd H4 p ‹23›) m (.lst [.int 1,.int 99,.int (1+r1)])) m=some (.lst [.int 1,.int 99,.int (1+r1)]):=ak;generalize upd (upd H4 p ‹23›) m (.lst [.int 1,.int 99,.int (1+r1)])=H5 at p5 o5 hm5;refine⟨_,rfl,p,3,rfl,p5,by decide,by decide,fun r2 a2 b2 c2 l2 u2=>?_⟩;have p6:Pu (upd H5 p (.lst [.int a2,.int b2,.int c2])) p:=Wg;have o6:Off p H4 (upd H5 p (.lst [.int a2,.int b2,.int c2])):=o5.trans Wc;have hm6:(upd H5 p (.lst [.int a2,.int b2,.int c2])) m=some (.lst [.int 1,.int 99,.int (1+r1)]):=by rw [aA pm'.symm]; exact hm5
   generalize upd H5 p (.lst [.int a2,.int b2,.int c2])=H6 at p6 o6 hm6
   obtain ⟨z,hz',hz1,hz2⟩:∃ z:Int,atI [V.int 1,V.int 99,V.int (1+r1)] r2=some (.int z)/\1<=z/\z<=99:=by
    rcases (by omega:r2=0\/r2=1\/r2=2) with rfl | rfl | rfl
    ·exact⟨_,aJ (j:=0) rfl,by omega,by omega⟩
    ·exact⟨_,aJ (j:=1) rfl,by omega,by omega⟩
    ·exact⟨_,aJ (j:=2) rfl,by omega,by omega⟩
   refine⟨m,_,_,_,rfl,rfl,V6 hm6,hz',by show 2<=sizeLine; decide,fun q7 hq7=>?_⟩;have Dp':D1≠p:=pD.symm;have dp':d≠p:=pd.symm;have hD6:=o6 D1 _ Dp' hD3;have hd6:=o6 d _ dp' hd3
   have tu6:dH H4 H6:=fun c zs e=>by
    obtain ⟨x1,x2,x3,ep⟩:=p3;exact o6 c _ (eG e ep ‹11›) e
   have s7:Same H6 (upd H6 q7 (.tup [.str ss[i],.int z])):=We hq7;have q7D:q7≠D1:=fun e=>by rw [e,hD6] at hq7; cases hq7
   have hyl:ys.length=i:=by
    have:=dl.length;rw [aa] at this;omega
   refine⟨by omega,s7 D1 _ hD6,aW hi ⟨ds++[(ss[i],z)],by rw [bX,hdl]; rfl,by rw [take_snoc hi',aI,hdn]; rfl,?_,?_,ak,by rw [aA dD]; exact s7 d _ hd6,?_,?_⟩⟩
   ·intro d hd;rcases cw.mp hd with h | h
    ·exact hdb d h
    ·rw [bj.mp h];exact⟨hz1,hz2⟩
   ·rw [aI]
    have tu7:dH (upd H6 q7 (.tup [.str ss[i],.int z])) (upd (upd H6 q7 (.tup [.str ss[i],.int z])) D1 (.lst (ys++[.ref q7]))):=fun c zs e=>by
     rw [aA (eG e (s7 D1 _ hD6) ‹11›)];exact e
    refine(dl.mono (tu6.trans ((V9 s7).trans tu7))).append (.cons ?_ .nil);exact L2.Dp.tup (by rw [aA q7D,ak]) (.cons (L2.Dp.str _) (.cons (L2.Dp.int _) .nil))
   ·exact fun b u hb e=>by
     rw [aA (fun e'=>by subst e'; rw [e] at hD1; cases hD1)];exact s7 b u (o6 b u hb (o3 b u hb e))
   ·exact(p6.aA (p6.neN hq7)).aA pD
def rO(H:Hp)(kvs:LK0)(g:Str->LS)(ns:LS):Prop:=∀ x∈ns,∃ q,cM kvs (.inr x)=some (.ref q)/\H q=some (.tup ((g x).map V.str))/\(g x).length<=9
theorem rO.mono{g:Str->LS}(h:rO H kvs g ns)(s:dH H H'):rO H' kvs g ns:=fun x hx=>by
 obtain ⟨q,h1,h2,h3⟩:=h x hx;exact⟨q,h1,s q _ h2,h3⟩
theorem Fq(xs:LV)(k:Nat)(h:k<=xs.length):eF xs none (some (k:Int))=xs.take k:=by
 unfold eF;rw [HT.rR,Nat.min_eq_left h];rfl
theorem N5(xs:LV):eF xs none (some 1)=xs.take 1:=by
 cases xs with
 | nil=>rfl
 | cons x xs=>exact Fq (x::xs) 1 (by rw [dA]; omega)
def mQ(g:Str->LS)(es:LS):LL:=es.map g++[es]
theorem xU{g:Str->LS}(h:∀ x∈es,(g x).length<=9):tot (mQ g es)<=10 * es.length:=by
 have tl:∀ es:LS,(∀ x∈es,(g x).length<=9)->tot (es.map g)<=9 * es.length:=by
  intro es
  induction es with
  | nil=>exact fun _=>ai _
  | cons x es ih=>
   intro h;rw [de,gB,dA];have:=h x bn;have:=ih fun y hy=>h y (cr _ hy);omega
 have ta:tot (mQ g es)=tot (es.map g)+es.length:=by
  unfold mQ tot;rw [aI,nL];simp
 have:=tl es h;omega
theorem Ih(h:ns.Nodup):ns.reverse.Nodup:=(List.pairwise_reverse.mpr (List.Pairwise.imp (fun e z=>e z.symm) h))
theorem Ow(ns:LS)(lo hi:Option Int):∃ ms:LS,eF ‹31› lo hi=ms.map V.str/\ms.Sublist ns:=
 ⟨(ns.drop (HT.sIx ns.length 0 lo)).take (HT.sIx ns.length ns.length hi - HT.sIx ns.length 0 lo),by unfold eF; rw [aa,nz,List.map_drop],(oz _ _).trans (List.drop_sublist _ _)⟩
inductive Pr (vs:LV) (H:Hp) (Q:VK) (E_:XK):Prop
 | mk (p nl od:ut) (sh:Int) (ns:LS) (kvs:LK0) (g:Str->LS):vs=[.ref p,.ref nl,.int sh,.ref od]->Pu H p->H nl=some (.lst ‹31›)->ns.Nodup->ns.length<=8->0<=sh->sh < 6->H od=some (.dK kvs)->rO H kvs g ns->(∀(q:ut) (es:LS) H',H' q=some (.tup (es.map V.str))->(∀ x∈es,x∈ns)->es.Nodup->(es.length<=1\/∃ os,Mg (full (mQ g es)) (some os))->Off p H H'->Pu H' p->Q (.ref q) H')->Pr vs H Q E_
theorem Rr(D:Defs K mg t):cA P w K mg base CX0 3 t.iu.1 t.iu.2 ["_law_purse_here","_law_names_here","_law_shape","_law_orders_here"] Pr:=by
 exists 13;have Gad:=@uT P w K mg base t D;have Gai:=@vR P w K mg base t D;exists 5;refine D.iu.fn.ok lA ‹7› ‹1›
 ·obtain ⟨p,nl,od,sh,ns,kvs,g,rfl,_⟩:=h;rfl
 ·obtain ⟨p,nl,od,sh,ns,kvs,g,rfl,hp,hnl,nd,h7,hs0,hs6,hod,og,k⟩:=h;have np:nl≠p:=hp.ne hnl
  refine⟨_,(aB (aM (i:=4) lA.nd rfl (uA rfl) (aD D.gF Gad ‹2› (by rfl) (aj (pv 0) (aj (pv 1) (aj (aP bN (cN (aj aC (aj aC (aj aC (aj aC aq))))) ‹28› ‹3›) aq)))))
   (mL (bO (aY vP (pv 2) aC (bh _))
   (aF (aM (i:=4) lA.nd rfl (uA rfl) (bG cB (by rfl) D.bY bK (aj (Js (aZ sI (pv 1) (bC (aH (yu rfl) (by rfl) D.PJ JL (aj aC (aj (aR nQ (aR nQ ‹18› aC) (aR oK aC (pv 2))) aq)))) bB) (aR nQ aC (aR oK aC ‹28›))) aq))))
   aU)
   (aB (bO (aY zJ (aD D.gb Gai ‹2› (by rfl) (aj dG (aj (aR vW (bI rfl (Wf ["_law_one"] [3] ["_law_one","_law_orders_here"] (aG (top 40)) ["_law_purse_here","_law_names_here","_law_shape","_law_orders_here","_law_elders_here"] rfl rfl ‹5›) ⟨fun _ _ _ _ _=>(aN (i:=0) (show List.Nodup [("_law_one" : Str),("_law_orders_here" : Str)] by decide +kernel) rfl ‹24› ‹17›),fun _ _ _ _ _=>bJ,fun _ _ _ _ _=>(eE (dZ hr) (pv 1) (pv 0) ‹3›)⟩ (bW (pv 4))) (cN (aj (pv 4) aq))) aq))) jR (bh _))
   (aF (aL (aZ bR (pv 4) bB (bC aC))))
   aU)
   (aF (aL (pv 4)))))),?_⟩
  exists 18;refine⟨_,rfl,_,rfl,by show 4<=sizeLine; decide,fun m hm=>?_⟩;have pm':p≠m:=hp.neN hm;refine⟨_,rfl,p,4,rfl,hp.aA pm',by decide,by decide,fun r a1 b1 c1 l1 u1=>?_⟩;have o1:Off p H (upd (upd H m (.lst [.int 4,.int 4,.int 4,.int 14])) p ‹23›):=(Wd hm).trans Wc;have p1:Pu (upd (upd H m (.lst [.int 4,.int 4,.int 4,.int 14])) p ‹23›) p:=Wg;have hm1:(upd (upd H m (.lst [.int 4,.int 4,.int 4,.int 14])) p ‹23›) m=some (.lst [.int 4,.int 4,.int 4,.int 14]):=by rw [aA pm'.symm,ak]
  generalize upd (upd H m (.lst [.int 4,.int 4,.int 4,.int 14])) p ‹23›=H1 at o1 p1 hm1
  obtain ⟨z,hz',hz14⟩:∃ z:Nat,atI [V.int 4,V.int 4,V.int 4,V.int 14] r=some (.int (z:Nat))/\z<=14:=by
   rcases (by omega:r=0\/r=1\/r=2\/r=3) with rfl | rfl | rfl | rfl
   ·exact⟨4,aJ (j:=0) rfl,by decide⟩
   ·exact⟨4,aJ (j:=1) rfl,by decide⟩
   ·exact⟨4,aJ (j:=2) rfl,by decide⟩
   ·exact⟨14,aJ (j:=3) rfl,by decide⟩
  refine⟨m,_,_,_,rfl,rfl,V6 hm1,hz',p,nl,ns,z,rfl,p1,o1 nl _ np hnl,by omega,by omega,fun q es H2 hq sub nde hle o2 p2=>?_⟩;have o2:Off p H H2:=o1.trans o2;refine⟨fun σ H3=>∃(q:ut) (es:LS),σ=[some (.ref p),some (.ref nl),some (.int sh),some (.ref od),some (.ref q)]/\H3 q=some (.tup (es.map V.str))/\(∀ x∈es,x∈ns)/\es.Nodup/\Off p H H3/\Pu H3 p,?_,?_⟩
  ·refine⟨_,rfl,_,_,rfl,rfl,_,rfl,gH ‹44› (fun hb=>⟨q,es,rfl,hq,sub,nde,o2,p2⟩)⟩;refine⟨_,rfl,_,rfl,nl,_,rfl,.inl (V6 (o2 nl _ np hnl)),_,_,rfl,rfl,?_⟩;refine⟨_,rfl,_,_,rfl,rfl,.inl ⟨by decide,by decide⟩,_,_,rfl,rfl,_,_,rfl,_,rfl,nl,_,rfl,V6 (o2 nl _ np hnl),fun m2 hm2=>?_⟩;obtain ⟨ms,em,sbm⟩:=Ow ns (some (if (‹31›.length:Int) - 1 - 2 * sh > 0 then (‹31›.length:Int) - 1 - 2 * sh else 0)) none;have p5:=p2.aA (o:=.lst (eF ‹31› (some (if (‹31›.length:Int) - 1 - 2 * sh > 0 then (‹31›.length:Int) - 1 - 2 * sh else 0)) none)) (p2.neN hm2);have hm5:(upd H2 m2 (.lst (eF ‹31› (some (if (‹31›.length:Int) - 1 - 2 * sh > 0 then (‹31›.length:Int) - 1 - 2 * sh else 0)) none))) m2=some (.lst (ms.map V.str)):=by rw [ak,em]
   have o5:Off p H (upd H2 m2 (.lst (eF ‹31› (some (if (‹31›.length:Int) - 1 - 2 * sh > 0 then (‹31›.length:Int) - 1 - 2 * sh else 0)) none))):=o2.trans (Wd hm2);have m2p:m2≠p:=(p2.neN hm2).symm;generalize upd H2 m2 (.lst (eF ‹31› (some (if (‹31›.length:Int) - 1 - 2 * sh > 0 then (‹31›.length:Int) - 1 - 2 * sh else 0)) none))=H5 at p5 hm5 o5;refine⟨_,rfl,p,2,rfl,p5,by decide,by decide,fun r7 a7 b7 c7 l7 u7=>⟨_,_,rfl,rfl,.inl ⟨by decide,by decide⟩,_,_,rfl,rfl,m2,_,_,rfl,rfl,V6 (by rw [aA m2p]; exact hm5),?_⟩⟩;exists 2,o7,p7,p,H,H5,a7,b7,c7,o5.trans Wc,H7;rcases (by omega:r7=0\/r7=1) with rfl | rfl
   ·refine .inl ⟨by decide,fun q6 hq6=>⟨q6,_,rfl,.inl ⟨V6 ak,fun q8 hq8=>?_⟩⟩⟩;have p8:=p7.aA (o:=.lst (ms.map V.str)) (p7.neN hq6);exact⟨q8,ms,rfl,ak,fun x hx=>sbm.subset hx,nd.sublist sbm,o7.trans ((Wd hq6).trans (Wd hq8)),p8.aA (p8.neN hq8)⟩
   ·refine .inr ⟨by decide,fun q6 hq6=>⟨q6,_,rfl,.inl ⟨V6 ak,fun q8 hq8=>?_⟩⟩⟩;have p8:=p7.aA (o:=.lst (ms.map V.str).reverse) (p7.neN hq6);exact⟨q8,ms.reverse,rfl,by rw [ak,List.map_reverse],fun x hx=>sbm.subset (List.mem_reverse.mp hx),Ih (nd.sublist sbm),o7.trans ((Wd hq6).trans (Wd hq8)),p8.aA (p8.neN hq8)⟩
  ·rintro σ H3 ⟨q,es,rfl,hq,sub,nde,o3,p3⟩
   have odp:od≠p:=by
    obtain ⟨x1,x2,x3,ep⟩:=hp;exact eG hod ep ‹11›
   have hod3:=o3 od _ odp hod
   have og3:rO H3 kvs g ns:=og.mono fun c zs e=>by
    obtain ⟨x1,x2,x3,ep⟩:=hp;exact o3 c _ (eG e ep ‹11›) e
   have hel:es.length<=8:=cS (dh nde (m:=ns) sub) h7;refine⟨_,rfl,q,rfl,⟨_,V7 hq⟩,fun D1 hD1=>?_⟩;have s4:∀ u,Same H3 (upd H3 D1 u):=fun u=>We hD1;refine bA (n:=(es.map V.str).length) (fun j ys H4=>jX H3 ys ((es.take j).map g)/\H4=upd H3 D1 (.lst ys)) ⟨.nil,rfl⟩ ?_ ?_;rotate_left
   ·rintro j ys H4 hj ⟨rt,rfl⟩;have hj':j < es.length:=by rw [aa] at hj; exact hj
    have ej:(es.map V.str)[j]?=some (.str es[j]):=by rw [bg,ae hj']; rfl
    refine⟨⟨_,_,V7 (s4 _ q _ hq),ej⟩,?_⟩;rintro y H5 ⟨rfl,yy⟩ σo ho;obtain ⟨oo,rfl⟩:=own1 ho;have ey:=yy _ (V7 (s4 _ q _ hq));rw [ej] at ey;cases ey;obtain ⟨q',h1,h2,_⟩:=og3 es[j] (sub _ (bS hj'));refine⟨‹13›,cg ⟨_,rfl,_,rfl,od,.ref q',rfl,.inl ⟨kvs,.inr es[j],.inl (s4 _ od _ hod3),rfl,h1.symm⟩,by rw [cE rt,aa,bc]; omega,ak,aW hj ‹42›⟩⟩;rw [take_snoc hj',aI];exact dY rt ⟨q',rfl,h2⟩
   rintro ys H4 ⟨rt,rfl⟩;rw [aa,aw (ai _)] at rt;refine⟨⟨_,V7 (s4 _ q _ hq),ai _⟩,?_⟩;have hyl:ys.length=es.length:=by rw [cE rt,aa]
   refine⟨_,rfl,by show 1<=sizeLine; decide,fun m2 hm2=>?_⟩;have s5:=(s4 (.lst ys)).trans (We (o:=.lst [.ref q]) hm2);have hD5:(upd (upd H3 D1 (.lst ys)) m2 (.lst [.ref q])) D1=some (.lst ys):=by rw [aA (au ak hm2),ak]
   refine⟨D1,m2,ys,[.ref q],rfl,rfl,hD5,ak,by show ys.length+1<=sizeLine; omega,fun rl hrl=>?_⟩;have s6:=s5.trans (We (o:=.lst (ys++[.ref q])) hrl);have hrl6:(upd (upd (upd H3 D1 (.lst ys)) m2 (.lst [.ref q])) rl (.lst (ys++[.ref q]))) rl=some (.lst (ys++[.ref q])):=ak;generalize upd (upd (upd H3 D1 (.lst ys)) m2 (.lst [.ref q])) rl (.lst (ys++[.ref q]))=H6 at s6 hrl6;have rt6:jX H6 (ys++[.ref q]) (mQ g es):=dY (rt.mono (V9 s6)) ⟨q,rfl,s6 q _ hq⟩
   have tt:=xU (g:=g) (es:=es) fun x hx=>by
    obtain ⟨_,_,_,h⟩:=og3 x (sub x hx);exact h
   refine⟨"",rl,_,mQ g es,rfl,hrl6,rt6,by omega,by unfold mQ; rw [bX,aa,eQ]; omega,fun v r H7 hm res s7=>?_⟩;have s37:=s6.trans s7;have p7:Pu H7 p:=p3.same s37;have o7:Off p H H7:=o3.trans s37.off;cases r with
   | none=>
    have ev:v=.non:=res;subst ev;refine⟨rfl,_,rfl,eO (bo rfl) ?_⟩;refine⟨_,rfl,_,rfl,q,_,rfl,s37 q _ hq,fun q8 H8 hq8 s8=>?_⟩;rw [N5,<- nz] at hq8;exact k q8 (es.take 1) H8 hq8 (fun x hx=>sub x (gS hx)) (nde.sublist (oz _ _)) (.inl (by rw [bc]; omega)) (o7.trans s8.off) (p7.same s8)
   | some os=>
    obtain ⟨a',ev,_⟩:∃ a',v=V.ref a'/\True:=by
     obtain ⟨a',h,_⟩:=res;exact⟨a',h,trivial⟩
    subst ev;refine⟨rfl,_,rfl,eU (by rw [bE ‹11›]; exact aS) ?_⟩;exact⟨_,rfl,k q es H7 (s37 q _ hq) sub nde (.inr ⟨os,hm⟩) o7 p7⟩
end
end K09.B
end
section
namespace K09.E
open PySem PyProof.Rows L2
variable {d:PyData}{H:Hp}{v:V}
def isIn:PyData->Bool
 | .int _=>true
 | .bool _=>true
 | _=>false
def M5:PyData->Bool
 | .bool _=>true
 | _=>false
def isW:PyData->Bool
 | .int _=>true
 | _=>false
theorem Pb(K:PySem.W.Frag)(d:PyData):PySem.W.kitOne K (.type (tyD d)) (.type "int")=some (isIn d):=by
 cases d <;> first | exact iR N0 "int" | rfl
theorem GR(K:PySem.W.Frag)(d:PyData):PySem.W.kitOne K (.type (tyD d)) (.type "bool")=some (M5 d):=by
 cases d <;> first | exact iR N0 "bool" | rfl
theorem Ph(h:isW d=true):∃ n,d=.int n:=by
 cases d <;> first | exact⟨_,rfl⟩ | cases h
theorem RdV.oN{n:Int}(h:RdV H v (.int n)):v=.int n:=by
 cases h;rfl
def K3(d:PyData):Prop:=∃ n,d=.int n/\1<=n/\n<=99
def mH(x:Str × Int):PyData:=.tuple [.str x.1,.int x.2]
def pN(d:PyData):Prop:=∃ x:Str × Int,d=mH x/\Nm x.1/\1<=x.2/\x.2<=99
def Nh(d:PyData):Prop:=∃ ns:LS,d=.tuple (ns.map .str)/\ns.length<=3/\(∀ x∈ns,Nm x)/\ns.Nodup
section
variable {P:uC}{w:ww}{K:PySem.W.Frag}{mg:MG}{base:Heap}{t:Adr}
inductive Ge (vs:LV) (H:Hp) (Q:VK) (E_:XK):Prop
 | mk (v:V) (d:PyData):vs=[v]->RdV H v d->Q (.bl (isW d)) H->Ge vs H Q E_
theorem BW(D:Defs K mg t):cA P w K mg base CX0 1 t.jO.1 t.jO.2 ["thing"] Ge:=by
 refine D.jO.fn.ok Am ‹7› ‹1›
 ·exists 17
 ·obtain ⟨v,d,rfl,rd,k⟩:=h;refine⟨_,(aF (aL (iG (aH bf (by rfl) D.aX aQ (aj (pv 0) (aj (cF (v:=V.ty "int") rfl D.Bd wC rfl) aq))) (jP (M4 (aH bf (by rfl) D.aX aQ (aj (pv 0) (aj (cF (v:=V.ty "bool") rfl D.Ea yF rfl) aq)))))))),?_⟩;refine⟨_,rfl,_,_,_,isIn d,rfl,rd.ty,Pb N0 d,_,rfl,?_⟩;cases d with
  | int n=>exact bM ⟨_,rfl,_,_,_,M5 (.int n),rfl,rd.ty,GR N0 (.int n),_,rfl,k⟩
  | bool b=>exact bM ⟨_,rfl,_,_,_,M5 (.bool b),rfl,rd.ty,GR N0 (.bool b),_,rfl,k⟩
  | none=>exact bT k
  | str x=>exact bT k
  | list xs=>exact bT k
  | tuple xs=>exact bT k
  | dict kvs=>exact bT k
inductive KZ (vs:LV) (H:Hp) (Q:VK) (E_:XK):Prop
 | mk (v:V) (d:PyData):vs=[v]->RdV H v d->Q (.bl (dcd (K3 d))) H->KZ vs H Q E_
theorem Od(D:Defs K mg t)(GL:Glb mg):cA P w K mg base CX0 2 t.d9.1 t.d9.2 ["thing"] KZ:=by
 obtain ⟨tk1,hMOB⟩:=GL.Af;have Gam:=@BW P w K mg base t D;refine D.d9.fn.ok rP ‹7› ‹1›
 ·exists 17
 ·obtain ⟨v,d,rfl,rd,k⟩:=h;refine⟨_,(aF (aL (iG (aD D.jO Gam ‹2› (by rfl) ‹36›) (jP (La qK qK aC (pv 0) (rH (v:=V.int 99) (by rfl) hMOB ⟨_,rfl⟩)))))),?_⟩;refine⟨_,rfl,v,d,rfl,rd,_,rfl,?_⟩;cases hw:isW d with
  | false=>
   rw [bD (fun⟨n,e,_⟩=>by rw [e] at hw; cases hw)] at k;exact bT k
  | true=>
   obtain ⟨n,rfl⟩:=Ph hw;obtain rfl:=K09.E.RdV.oN rd;refine bM ⟨_,rfl,_,_,rfl,rfl,_,rfl,gH (fun hb=>⟨_,_,rfl,rfl,?_⟩) ‹44›⟩
   ·have hb:1<=n:=eA hb;show Q (.bl (decide (n<=99))) H
    by_cases h9:n<=99
    ·rw [dR ⟨n,rfl,hb,h9⟩] at k;rw [bo h9];exact k
    ·rw [bD (fun⟨m,e,_,h⟩=>by injection e with e; exact h9 (by rw [e]; exact h))] at k;rw [bE h9];exact k
   ·have hb:¬ 1<=n:=fun h=>hb (bo h);rw [bD (fun⟨m,e,h,_⟩=>by injection e with e; exact hb (by rw [e]; exact h))] at k;exact k
inductive Mr (vs:LV) (H:Hp) (Q:VK) (E_:XK):Prop
 | mk (v:V) (d:PyData):vs=[v]->RdV H v d->gs d->(∀ H',Same H H'->Q (.bl (dcd (pN d))) H')->Mr vs H Q E_
theorem Np(D:Defs K mg t)(GL:Glb mg):cA P w K mg base CX0 3 t.nT.1 t.nT.2 ["thing"] Mr:=by
 have Gag:=@vL P w K mg base t D;have Gah:=@zR P w K mg base t D GL;have Gbp:=@Od P w K mg base t D GL;refine D.nT.fn.ok CT ‹7› ‹1›
 ·exists 17
 ·obtain ⟨v,d,rfl,rd,g,k⟩:=h;have kf:∀ {H'},Same H H'->¬ pN d->Q (.bl false) H':=fun s h=>by have:=k _ s; rw [bD h] at this; exact this
  refine⟨_,(aF (aL (iG (aD D.fu Gag ‹2› (by rfl) (aj (pv 0) (aj aC aq))) (iG (aD D.j9 Gah ‹2› (by rfl) (aj ‹27› aq)) (jP (aD D.d9 Gbp ‹2› (by rfl) (aj ‹27› aq))))))),?_⟩;refine⟨_,rfl,v,d,2,rfl,rd,_,rfl,?_⟩
  by_cases h2:∃ ds,d=PyData.tuple ds/\ds.length=2
  rotate_left
  ·rw [bD h2];exact bT (kf (V8 H) fun⟨x,e,_⟩=>h2 ⟨_,e,rfl⟩)
  rw [dR h2];refine bM ?_;obtain ⟨ds,rfl,hl⟩:=h2
  match ds,hl with
  | [d0,d1],_=>
   obtain ⟨a,xs,rfl,ha,rl⟩:=rd.bV;cases rl with
   | @cons v0 _ r0 _ rv0 rl=>
    cases rl with
    | @cons v1 _ r1 _ rv1 rl=>
     cases rl;have g0:gs d0:=by rw [gs,gsA] at g; exact g.1
     refine⟨_,rfl,a,_,_,_,rfl,rfl,V7 ha,aJ (j:=0) rfl,v0,d0,rfl,rv0,g0,fun H1 s1=>⟨_,rfl,?_⟩⟩
     by_cases hn:NmD d0
     rotate_left
     ·rw [bD hn];refine bT (kf s1 fun⟨x,e,h,_⟩=>hn ?_);exists 10;exists 10;exact⟨x.1,e,h⟩
     rw [dR hn];refine bM ⟨_,rfl,a,_,_,_,rfl,rfl,V7 (s1 a _ ha),aJ (j:=1) rfl,v1,d1,rfl,rv1.bH s1,?_⟩;obtain ⟨x,rfl,hx⟩:=hn;have hk:=k H1 s1
     have e1:pN (.tuple [.str x,d1])↔K3 d1:=by
      constructor
      ·rintro ⟨y,e,_,h1,h2⟩;exists 10;injection e with _ e;exists 10;exact⟨y.2,e,h1,h2⟩
      ·rintro ⟨n,rfl,h1,h2⟩;exact⟨(x,n),rfl,hx,h1,h2⟩
     by_cases hb:K3 d1
     ·rw [dR (e1.mpr hb)] at hk;rw [dR hb];exact hk
     ·rw [bD fun h=>hb (e1.mp h)] at hk;rw [bD hb];exact hk
theorem all_map{α:Type}{Pd:PyData->Prop}{f:α->PyData}{ok:α->Prop}(h:∀ d,Pd d↔∃ x,d=f x/\ok x):∀ {ds:LP},(ds.map fun d=>dcd (Pd d)).all id=true↔∃ xs:List α,ds=xs.map f/\∀ x∈xs,ok x
 | []=>⟨fun _=>⟨[],rfl,fun e he=>nomatch he⟩,fun _=>rfl⟩
 | d::ds=>by
  rw [de,lI,eK,all_map h];show dcd _=true/\_↔_;rw [lQ,h];constructor
  ·rintro ⟨⟨x,rfl,hx⟩,es,rfl,he⟩;exact⟨x::es,rfl,fun e h=>(bz.mp h).elim (fun z=>z ▸ hx) (he e)⟩
  ·rintro ⟨es,e,he⟩;cases es with
   | nil=>cases e
   | cons x es=>
    injection e with e1 e2;exact⟨⟨x,e1,he x bn⟩,es,e2,fun e h=>he e (cr _ h)⟩
theorem lK:∀ {ds:LP},gsA ds->∀(i:Nat) (h:i < ds.length),gs ds[i]
 | d::ds,g,0,_=>by rw [gsA] at g; exact g.1
 | d::ds,g,i+1,h=>by
  rw [gsA] at g;exact lK g.2 i (by simpa using h)
 | [],_,i,h=>absurd h (Nat.not_lt_zero _)
theorem yc{x y:Str × Int}(h:mH x=mH y):x=y:=by
 injection h with h;injection h with h1 h;injection h1 with h1;injection h with h2 _;injection h2 with h2;exact Prod.ext h1 h2
def Kq(xs:List (Str × Int)):Prop:=∀ i (h:i+1 < xs.length),ltS (xs[i]'‹26›).1 xs[i+1].1=true
def zm(d:PyData):Prop:=∃ xs:List (Str × Int),d=.tuple (xs.map mH)/\(∀ x∈xs,Nm x.1/\1<=x.2/\x.2<=99)/\Kq xs
inductive Qc (vs:LV) (H:Hp) (Q:VK) (E_:XK):Prop
 | mk (v:V) (d:PyData):vs=[v]->RdV H v d->gs d->(∀ H',Same H H'->Q (.bl (dcd (Nh d))) H')->Qc vs H Q E_
theorem QL(D:Defs K mg t)(GL:Glb mg):cA P w K mg base CX0 2 t.fK.1 t.fK.2 ["thing"] Qc:=by
 obtain ⟨tk1,hMON⟩:=GL.yG;have Gah:=@zR P w K mg base t D GL;exists 5;refine D.fK.fn.ok tW ‹7› ‹1›
 ·exists 17
 ·obtain ⟨v,d,rfl,rd,g,k⟩:=h;have kf:∀ {H'},Same H H'->¬ Nh d->Q (.bl false) H':=fun s h=>by have:=k _ s; rw [bD h] at this; exact this
  refine⟨_,(aB (bO (V5 (gK (cL (bZ ‹4›)) (gk (aY n6 ‹15› (rH (v:=V.int 3) (by rfl) hMON ⟨_,rfl⟩) (bh _)))))
   (aF (aL fO))
   aU)
   (aF (aL (iG (aH (cW rfl) (by rfl) D.jL iw (aj (bI rfl (Wf ["part"] [] ["part"] (aG (top 27)) ["thing"] rfl rfl ‹5›) ⟨fun _ _ _ _ _=>(aN (i:=0) (show List.Nodup [("part" : Str)] by decide +kernel) rfl ‹24› ‹17›),fun _ _ _ _ _=>bJ,fun _ _ _ _ _=>(aD D.j9 Gah ‹2› (by rfl) ‹36›)⟩ (bW (pv 0))) aq)) (jP (dO gq (aH iK (by rfl) D.cI bQ (aj (bG (mK rfl) (by rfl) D.xK sW ‹36›) aq)) ‹15› (bh _))))))),?_⟩
  exists 18;exists 8;cases hb:iZ d with
  | false=>exact bM (bM (kf (V8 H) fun⟨es,e,_⟩=>by rw [e] at hb; cases hb))
  | true=>
   exists 7;refine bT ⟨_,rfl,b,_,rfl,.inr (V7 hb'),_,_,rfl,rfl,_,rfl,?_⟩
   by_cases hlen:ds.length > 3
   ·refine eO (bo (show (xs.length:Int) > 3 by omega)) (kf (V8 H) ?_);rintro ⟨es,e,h3,_⟩;exists 10;rw [e,aa] at hlen;omega
   ·refine eU (by rw [bE (show ¬ ((xs.length:Int) > 3) by omega)]; exact aS) ?_;refine⟨_,rfl,b,rfl,⟨_,V7 hb'⟩,fun Dd hD=>?_⟩;refine bA (n:=xs.length) (fun i ys H2=>ys=((ds.take i).map fun d=>dcd (NmD d)).map V.bl/\H2 Dd=some (.lst ys)/\Same H H2) ⟨rfl,ak,We hD⟩ ?_ ?_
    ·rintro ys H2 ⟨rfl,hD2,s2⟩;rw [aw ‹26›] at hD2;refine⟨⟨_,V7 (s2 b _ hb'),ai _⟩,Dd,_,rfl,V6 hD2,_,rfl,?_⟩;have am:=all_map (Pd:=NmD) (f:=PyData.str) (ok:=Nm) (fun d=>Iff.rfl) (ds:=ds);cases hall:(ds.map fun d=>dcd (NmD d)).all id with
     | false=>
      refine bT (kf s2 ?_);rintro ⟨es,e,h3,hn,nd⟩;exists 10;rw [am.mpr ⟨es,e,hn⟩] at hall;cases hall
     | true=>
      obtain ⟨es,rfl,hn⟩:=am.mp hall;obtain rfl:=rl.jx;have hel:es.length<=3:=by rw [aa] at hlen; omega
      refine bM ⟨_,rfl,b,es,rfl,.inr (V7 (s2 b _ hb')),by omega,fun sd hsd=>?_⟩;refine⟨sd,_,rfl,ak,_,rfl,b,_,rfl,.inr (V7 (We hsd b _ (s2 b _ hb'))),?_⟩;rw [aa];have fin:=k _ (s2.trans (We (o:=HN P w sd (un es es.length)) hsd))
      by_cases nd:es.Nodup
      ·rw [dR ⟨es,rfl,hel,hn,nd⟩] at fin;refine⟨rfl,?_⟩;rw [bo (by rw [(mq es).mpr nd])];exact fin
      ·rw [bD (fun⟨fs,e,_,_,n⟩=>by injection e with e; rw [rW e] at nd; exact nd n)] at fin;refine⟨rfl,?_⟩;rw [bE (fun z=>by injection z with z; exact nd ((mq es).mp ‹26›))];exact fin
    ·rintro i ys H2 hi ⟨rfl,hD2,s2⟩;have hil:i < ds.length:=by omega
     obtain ⟨y,ey,ry⟩:=rl.get (ae hil);exists 3;have g':gsA ds:=by rw [gs] at g; exact g
     refine⟨‹13›,cg ⟨_,rfl,y,ds[i],rfl,ry.bH s2,lK g' i hil,fun H4 s4=>⟨by rw [aa,aa,bc]; omega,s4 Dd _ hD2,aW hi ‹34›⟩⟩⟩
     ·rw [take_snoc hil,aI,aI];rfl
     ·rw [aA (au z hD)];exact s4 c _ (s2 c _ z)
inductive EY (vs:LV) (H:Hp) (Q:VK) (E_:XK):Prop
 | mk (v:V) (d:PyData):vs=[v]->RdV H v d->gs d->wt d<=20000->(∀ H',Same H H'->Q (.bl (dcd (zm d))) H')->EY vs H Q E_
theorem Lb(D:Defs K mg t)(GL:Glb mg):cA P w K mg base CX0 4 t.jB.1 t.jB.2 ["thing"] EY:=by
 have Gbq:=@Np P w K mg base t D GL;exists 5;refine D.jB.fn.ok zN ‹7› ‹1›
 ·exists 17
 ·obtain ⟨v,d,rfl,rd,g,hw,k⟩:=h;have kf:∀ {H'},Same H H'->¬ zm d->Q (.bl false) H':=fun s h=>by have:=k _ s; rw [bD h] at this; exact this
  refine⟨_,(aB (bO (V5 (gK (cL (bZ ‹4›)) (gk (cL (bZ (aH (cW rfl) (by rfl) D.jL iw (aj (bI rfl (Wf ["pair"] [] ["pair"] (aG (top 29)) ["thing"] rfl rfl ‹5›) ⟨fun _ _ _ _ _=>(aN (i:=0) (show List.Nodup [("pair" : Str)] by decide +kernel) rfl ‹24› ‹17›),fun _ _ _ _ _=>bJ,fun _ _ _ _ _=>(aD D.nT Gbq ‹2› (by rfl) ‹36›)⟩ (bW (pv 0))) aq)))))))
   (aF (aL fO))
   aU)
   (aF (aL (aH (cW rfl) (by rfl) D.jL iw (aj (bI rfl (Wf ["one","other"] [] ["one","other"] (aG (top 29)) ["thing"] rfl rfl ‹5›) ⟨fun _ _ _ _ _=>(qd (n:=2) rfl (fG (aN (i:=0) (show List.Nodup [("one" : Str),("other" : Str)] by decide +kernel) rfl ‹24› ‹17›) (fG (aN (i:=1) (show List.Nodup [("one" : Str),("other" : Str)] by decide +kernel) rfl ‹24› ‹17›) nF))),fun _ _ _ _ _=>bJ,fun _ _ _ _ _=>(dO Hl ‹27› (aP aO (pv 1) aC ‹3›) (bh _))⟩ (Nj rfl D.RP (aj (pv 0) (aj (aZ bR (pv 0) (bC aC) bB) aq)))) aq))))),?_⟩
  exists 18;exists 8;cases hb:iZ d with
  | false=>exact bM (bM (kf (V8 H) fun⟨es,e,_⟩=>by rw [e] at hb; cases hb))
  | true=>
   exists 7
   have hdl:ds.length<=20000:=by
    have:=uX ds;rw [wt] at hw;omega
   have g':gsA ds:=by rw [gs] at g; exact g
   refine bT ?_;refine⟨_,rfl,b,rfl,⟨_,V7 hb'⟩,fun Dd hD=>?_⟩;refine bA (n:=xs.length) (fun i ys H2=>ys=((ds.take i).map fun d=>dcd (pN d)).map V.bl/\H2 Dd=some (.lst ys)/\Same H H2) ⟨rfl,ak,We hD⟩ ?_ ?_;rotate_left
   ·rintro i ys H2 hi ⟨rfl,hD2,s2⟩;have hil:i < ds.length:=by omega
    obtain ⟨y,ey,ry⟩:=rl.get (ae hil);exists 3;refine⟨‹13›,cg ⟨_,rfl,y,ds[i],rfl,ry.bH s2,lK g' i hil,fun H4 s4=>⟨by rw [aa,aa,bc]; omega,s4 Dd _ hD2,aW hi ‹34›⟩⟩⟩
    ·rw [take_snoc hil,aI,aI];rfl
    ·rw [aA (au z hD)];exact s4 c _ (s2 c _ z)
   ·rintro ys H2 ⟨rfl,hD2,s2⟩;rw [aw ‹26›] at hD2;refine⟨⟨_,V7 (s2 b _ hb'),ai _⟩,Dd,_,rfl,V6 hD2,_,rfl,?_⟩;have am:=all_map (Pd:=pN) (f:=mH) (ok:=fun x=>Nm x.1/\1<=x.2/\x.2<=99) (fun d=>Iff.rfl) (ds:=ds);cases hall:(ds.map fun d=>dcd (pN d)).all id with
    | false=>
     refine bM (kf s2 ?_);rintro ⟨es,e,hn,_⟩;exists 10;rw [am.mpr ⟨es,e,hn⟩] at hall;cases hall
    | true=>
     obtain ⟨es,rfl,hn⟩:=am.mp hall;rw [aa] at hxl hdl;refine bT ⟨_,rfl,_,rfl,1,rfl,b,_,rfl,s2 b _ hb',fun p H4 hp s4=>?_⟩;have s24:=s2.trans s4
     have hp':H4 p=some (.tup (xs.drop 1)):=by
      have:=dU xs 1;rw [<- this];exact hp
     refine⟨b,p,xs,xs.drop 1,rfl,V7 (s24 b _ hb'),V7 hp',fun D2 hD2'=>?_⟩;have s5:Same H4 (upd H4 D2 (.lst [])):=We hD2';refine bA (n:=es.length - 1) (fun i ys H5=>(∃ bs:List Bool,ys=bs.map V.bl/\bs.length=i/\∀ j (h:j < i) (h2:j+1 < es.length),bs[j]?=some (ltS (es[j]'‹26›).1 es[j+1].1))/\H5 D2=some (.lst ys)/\Same H4 H5) ⟨⟨[],rfl,rfl,fun j h=>absurd h (Nat.not_lt_zero _)⟩,ak,s5⟩ ?_ ?_
     ·rintro ys H5 ⟨⟨bs,rfl,bl,hbs⟩,hD5,s5⟩;refine⟨⟨xs,xs.drop 1,V7 (s5 b _ (s24 b _ hb')),V7 (s5 p _ hp'),by rw [jb]; omega⟩,D2,bs,rfl,V6 hD5,?_⟩;have fin:=k H5 (s24.trans s5)
      have key:bs.all id=true↔Kq es:=by
       rw [cz];constructor
       ·intro h j hj;have e1:=hbs j ‹26› hj;have:=h _ (eI e1);exact this
       ·intro h x hx;obtain ⟨j,hj,ej⟩:=fF hx;have e1:=hbs j ‹26› ‹26›;rw [ae hj,ej] at e1;injection e1 with e1;rw [e1];exact h j ‹26›
      cases ha:bs.all id with
      | true=>
       rw [dR ⟨es,rfl,hn,key.mp ha⟩] at fin;exact fin
      | false=>
       rw [bD (fun⟨fs,e,_,rs⟩=>by
        exists 10;have:es=fs:=(jv (fun a b e=>yc e)).mp e;rw [<- this] at rs;rw [key.mpr rs] at ha;cases ha)] at fin
       exact fin
     ·rintro i ys H5 hi ⟨⟨bs,rfl,bl,hbs⟩,hD5,s5⟩;have h1:i < es.length:=by omega
      have h2:i+1 < es.length:=by omega
      obtain ⟨y1,e1,r1⟩:=rl.get (i:=i) (d:=mH es[i]) (by rw [bg,ae h1]; rfl);obtain ⟨y2,e2,r2⟩:=rl.get (i:=i+1) (d:=mH es[i+1]) (by rw [bg,ae h2]; rfl);have e2':(xs.drop 1)[i]?=some y2:=by rw [List.getElem?_drop,Nat.add_comm]; exact e2
      have hb5:=s5 b _ (s24 b _ hb');have hp5:=s5 p _ hp';refine⟨⟨xs,xs.drop 1,y1,y2,V7 hb5,V7 hp5,e1,e2'⟩,?_⟩;rintro z H8 ⟨pz,hpz,rfl,yy⟩ σo ho;have e8:=yy xs (xs.drop 1) y1 y2 (V7 hb5) (V7 hp5) e1 e2';subst e8;obtain ⟨oo,oo',rfl⟩:=Og ho;exists 1,s78,hpz8,H5,pz,(.tup [y1,y2]),hpz,H8;have s08:=(s24.trans s5).trans s78;obtain ⟨a1,z1,rfl,ha1,l1⟩:=(r1.bH s08).bV;obtain ⟨a2,z2,rfl,ha2,l2⟩:=(r2.bH s08).bV;cases l1 with
      | cons q1 l1=>
       cases l2 with
       | cons q2 l2=>
        obtain rfl:=q1.jm;obtain rfl:=q2.jm;refine⟨pz,_,rfl,V7 hpz8,rfl,_,_,rfl,_,_,rfl,rfl,⟨[_,_],rfl,rfl⟩,cg ?_⟩;refine⟨_,rfl,a1,_,_,_,rfl,rfl,V7 ha1,aJ (j:=0) rfl,_,rfl,a2,_,_,_,rfl,rfl,V7 ha2,aJ (j:=0) rfl,_,_,rfl,rfl,by rw [aa]; omega,s78 D2 _ hD5,aW hi ⟨⟨bs++[ltS es[i].1 es[i+1].1],?_,by rw [bX,bl]; rfl,fun j hj hj2=>?_⟩,ak,fun c u z=>?_⟩⟩
        ·rw [aI];congr 1;show [V.bl (decide _)]=[V.bl (Spec.ltCps _ _)];rw [ltCps_eq]
        ·by_cases e:j < i
         ·rw [ij ‹26›];exact hbs j e hj2
         ·have e:j=i:=by omega
          subst e;rw [ic ‹26›,bl,Nat.sub_self];rfl
        ·rw [aA (au z hD2')];exact s78 c _ (s5 c _ z)
end
end K09.E
end
section
namespace L2
open PySem PySem.Spec PyProof.Rows
variable {X:Cx}
inductive SQ (x:V) (y:V) (H:Hp) (Q:VK):Prop
 | mk (a b:ut) (xs ys:LV) (ts us:List T):x=.ref a->y=.ref b->H a=some (.tup xs)->H b=some (.tup ys)->ys.length<=xs.length->DpL H ts (xs.take ys.length)->DpL H us ys->(∀ t∈ts,Lv 5 t)->Q (.bl (dcd (xs.length=ys.length/\ts=us))) H->SQ x y H Q
theorem QF(hu:X.A.units+10 < cLine):OpR X (xN .Eq) SQ:=by
 exists 6;obtain ⟨a,b,xs,ys,ts,us,rfl,rfl,ha,hb,le,d1,d2,lv,q⟩:=h;cases rx;cases ry;obtain ⟨its,r,p⟩:=iy I ha;obtain ⟨its2,r2,p2⟩:=iy I hb;have l1:=r.length;have l2:=r2.length;have n1:=d1.length;have n2:=d2.length;rw [bc] at n1
 have key:=Vl.tuples (A:=X.A) (s:=s) (e:=fun j=>dcd (ts[j]?=us[j]?)) p p2 ‹26› (fun j h1 h2=>by
  have h1':j < its.length:=by simpa using h1
  have h2':j < its2.length:=by simpa using h2
  have j1:j < ts.length:=by omega
  have j2:j < us.length:=by omega
  obtain ⟨v1,e1,dv1⟩:=d1.get (ae j1);obtain ⟨v2,e2,dv2⟩:=d2.get (ae j2);rw [kP ‹26›] at e1;obtain ⟨w1,k1,m1⟩:=r.get e1;obtain ⟨w2,k2,m2⟩:=r2.get e2
  have e3:its.toArray[j]=w1:=by
   have:its.toArray[j]?=some w1:=by simpa using k1
   rw [eW h1] at this;exact ck this
  have e4:its2.toArray[j]=w2:=by
   have:its2.toArray[j]?=some w2:=by simpa using k2
   rw [eW h2] at this;exact ck this
  rw [e3,e4];have:=QJ I 5 X.A.in1 ts[j] us[j] v1 v2 w1 w2 (lv _ (bS j1)) (by show X.A.units+1+5 < cLine; omega) dv1 dv2 m1 m2;rw [ae j1,ae j2];have e5:dcd (some ts[j]=some us[j])=dcd (ts[j]=us[j]):=kW ⟨fun h=>ck h,fun h=>by rw [h]⟩;rw [e5];exact this)
 have ee:((List.range (min its.toArray.size its2.toArray.size)).all (fun j=>dcd (ts[j]?=us[j]?)) && its.toArray.size == its2.toArray.size)=dcd (xs.length=ys.length/\ts=us):=by
  apply rA;rw [eK,cz,kA];constructor
  ·rintro ⟨h1,h2⟩;have h2:its.length=its2.length:=by simpa using h2
   refine⟨by omega,me fun j=>?_⟩
   by_cases hj:j < ts.length
   ·exact lQ.mp (h1 j (fR.mpr (by simp; omega)))
   ·rw [fc ‹26›,fc ‹26›]
  ·rintro ⟨h0,h⟩;refine⟨fun j _=>dR (by rw [h]),?_⟩;have:its.length=its2.length:=by omega
   simpa using this
 rw [ee] at key;exact key X.prog X.w X.xe _ ⟨.bl _,H,I,rfl,q⟩
end L2
namespace K09.E
open PySem PyProof.Rows L2
variable {H:Hp}{v:V}
structure S6 where
 a:PyData
 b:PyData
 c:PyData
 e:PyData
 g:PyData
 n:PyData
def six(q:S6):PyData:=.tuple [q.a,q.b,q.c,q.e,q.g,q.n]
theorem FW{q p:S6}(h:six q=six p):q=p:=by
 cases q;cases p;unfold six at h;simpa using h
def sO(q:S6):Prop:=Nh q.e/\zm q.g/\∃ n,q.n=.int n/\0<=n
def Hu(f:Fam)(x:Str)(d:PyData):Prop:=∃ o:LS,d=.tuple (o.map .str)/\iC f x=some o
theorem RdV.six{q:S6}(h:RdV H v (six q)):∃(p:ut) (v0 v1 v2 v3 v4 v5:V),v=.ref p/\H p=some (.tup [v0,v1,v2,v3,v4,v5])/\RdV H v0 q.a/\RdV H v1 q.b/\RdV H v2 q.c/\RdV H v3 q.e/\RdV H v4 q.g/\RdV H v5 q.n:=by
 obtain ⟨a,xs,rfl,ha,rl⟩:=h.bV;cases rl with
 | cons h0 rl=>
  cases rl with
  | cons h1 rl=>
   cases rl with
   | cons h2 rl=>
    cases rl with
    | cons h3 rl=>
     cases rl with
     | cons h4 rl=>
      cases rl with
      | cons h5 rl=>
       cases rl;exact⟨a,_,_,_,_,_,_,rfl,ha,h0,h1,h2,h3,h4,h5⟩
section
variable {P:uC}{w:ww}{K:PySem.W.Frag}{mg:MG}{base:Heap}{t:Adr}
inductive JK (vs:LV) (H:Hp) (Q:VK) (E_:XK):Prop
 | mk (v:V) (q:S6):vs=[v]->RdV H v (six q)->gs (six q)->wt (six q)<=20000->(∀ H',Same H H'->Q (.bl (dcd (sO q))) H')->JK vs H Q E_
theorem O8(D:Defs K mg t)(GL:Glb mg):cA P w K mg base CX0 5 t.fH.1 t.fH.2 ["row"] JK:=by
 have Gam:=@BW P w K mg base t D;have Gbm:=@QL P w K mg base t D GL;have Gbr:=@Lb P w K mg base t D GL;refine D.fH.fn.ok sY ‹7› ‹1›
 ·obtain ⟨v,q,rfl,_⟩:=h;rfl
 ·obtain ⟨v,q,rfl,rd,g,hw,k⟩:=h;have kf:∀ {H'},Same H H'->¬ sO q->Q (.bl false) H':=fun s h=>by have:=k _ s; rw [bD h] at this; exact this
  obtain ⟨p,v0,v1,v2,v3,v4,v5,rfl,hp,-,-,-,r3,r4,r5⟩:=K09.E.RdV.six rd
  have g3:gs q.e:=by
   rw [six,gs] at g;exact lK g 3 (by show 3 < 6; decide)
  have g4:gs q.g:=by
   rw [six,gs] at g;exact lK g 4 (by show 4 < 6; decide)
  have w4:wt q.g<=20000:=by
   rw [six,wt,wtA,wtA,wtA,wtA,wtA] at hw;omega
  refine⟨_,(aF (aL (iG (aD D.fK Gbm ‹2› (by rfl) (aj ‹27› aq)) (iG (aD D.jB Gbr ‹2› (by rfl) (aj ‹27› aq)) (iG (aD D.jO Gam ‹2› (by rfl) (aj ‹27› aq)) (jP (dO Mp ‹27› aC (bh _)))))))),?_⟩;refine⟨_,rfl,p,_,_,_,rfl,rfl,V7 hp,aJ (j:=3) rfl,v3,_,rfl,r3,g3,fun H1 s1=>⟨_,rfl,?_⟩⟩
  by_cases hf:Nh q.e
  rotate_left
  ·rw [bD hf];exact bT (kf s1 fun h=>hf h.1)
  rw [dR hf];refine bM ⟨_,rfl,p,_,_,_,rfl,rfl,V7 (s1 p _ hp),aJ (j:=4) rfl,v4,_,rfl,r4.bH s1,g4,w4,fun H2 s2=>⟨_,rfl,?_⟩⟩
  by_cases hd:zm q.g
  rotate_left
  ·rw [bD hd];exact bT (kf (s1.trans s2) fun h=>hd h.2.1)
  rw [dR hd];have s12:=s1.trans s2;refine bM ⟨_,rfl,p,_,_,_,rfl,rfl,V7 (s12 p _ hp),aJ (j:=5) rfl,v5,_,rfl,r5.bH s12,_,rfl,?_⟩;cases hn:isW q.n with
  | false=>exact bT (kf s12 fun h=>by obtain ⟨_,_,n,e,_⟩:=h; rw [e] at hn; cases hn)
  | true=>
   obtain ⟨n,en⟩:=Ph hn;rw [en] at r5;obtain rfl:=K09.E.RdV.oN r5;refine bM ⟨_,rfl,p,_,_,_,rfl,rfl,V7 (s12 p _ hp),aJ (j:=5) rfl,_,_,rfl,rfl,?_⟩;have fin:=k _ s12
   have e1:dcd (sO q)=decide (n ≥ 0):=by
    by_cases h0:n ≥ 0
    ·rw [dR ⟨hf,hd,n,en,h0⟩,bo h0]
    ·rw [bD (fun h=>by obtain ⟨_,_,m,e,hm⟩:=h; rw [en] at e; injection e with e; exact h0 (by rw [e]; exact hm)),bE h0]
   rw [e1] at fin;exact fin
end
end K09.E
end
section
namespace L2
open PySem PyProof.Rows
end L2
namespace K09.E
open PySem PyProof.Rows L2
variable {qs:List S6}{ds:LP}{H H2:Hp}{ys:LV}
theorem LC(d:PyData):wQ d=dcd (∃ x,d=.str x/\True):=by
 cases d with
 | str x=>exact(dR ⟨x,rfl,trivial⟩).symm
 | none=>exact(bD (fun⟨x,e,_⟩=>nomatch e)).symm
 | int x=>exact(bD (fun⟨x,e,_⟩=>nomatch e)).symm
 | bool x=>exact(bD (fun⟨x,e,_⟩=>nomatch e)).symm
 | list x=>exact(bD (fun⟨x,e,_⟩=>nomatch e)).symm
 | tuple x=>exact(bD (fun⟨x,e,_⟩=>nomatch e)).symm
 | dict x=>exact(bD (fun⟨x,e,_⟩=>nomatch e)).symm
section
variable {P:uC}{w:ww}{K:PySem.W.Frag}{mg:MG}{base:Heap}{t:Adr}
inductive Es (vs:LV) (H:Hp) (Q:VK) (E_:XK):Prop
 | mk (v:V) (d:PyData) (q:ut) (f:Fam) (x:Str):vs=[v,.ref q]->RdV H v d->wt d<=20000->wk H f x q->(∀ H',Same H H'->Q (.bl (dcd (Hu f x d))) H')->Es vs H Q E_
theorem Ks(D:Defs K mg t):cA P w K mg base CX0 1 t.lG.1 t.lG.2 ["thing","told"] Es:=by
 exists 5;refine D.lG.fn.ok BZ ‹7› ‹1›
 ·obtain ⟨v,d,q,f,x,rfl,_⟩:=h;rfl
 ·obtain ⟨v,d,q,f,x,rfl,rd,hw,tl,k⟩:=h;have kf:∀ {H'},Same H H'->¬ Hu f x d->Q (.bl false) H':=fun s h=>by have:=k _ s; rw [bD h] at this; exact this
  refine⟨_,(aB (bO (V5 (gK (cL (bZ ‹4›)) (gk (cL (bZ (aH (cW rfl) (by rfl) D.jL iw (aj (bI rfl (Wf ["part"] [] ["part"] (aG (top 25)) ["thing","told"] rfl rfl ‹5›) ⟨fun _ _ _ _ _=>(aN (i:=0) (show List.Nodup [("part" : Str)] by decide +kernel) rfl ‹24› ‹17›),fun _ _ _ _ _=>bJ,fun _ _ _ _ _=>(aH bf (by rfl) D.aX aQ (aj (pv 0) (aj (cF (v:=V.ty "str") rfl D.Ad vZ rfl) aq)))⟩ (bW (pv 0))) aq)))))))
   (aF (aL fO))
   aU)
   (aF (aL (dO (QF (Rq hr)) (pv 1) (cC (aj dG ‹36›)) (bh _))))),?_⟩
  exists 8;cases hb:iZ d with
  | false=>exact bM (bM (kf (V8 H) fun⟨es,e,_⟩=>by rw [e] at hb; cases hb))
  | true=>
   exists 7
   have hdl:ds.length<=20000:=by
    have:=uX ds;rw [wt] at hw;omega
   refine bT ⟨_,rfl,b,rfl,⟨_,V7 hb'⟩,fun Dd hD=>?_⟩;refine bA (n:=xs.length) (fun i ys H2=>ys=((ds.take i).map fun d=>dcd (∃ x,d=.str x/\True)).map V.bl/\H2 Dd=some (.lst ys)/\Same H H2) ⟨rfl,ak,We hD⟩ ?_ ?_;rotate_left
   ·rintro i ys H2 hi ⟨rfl,hD2,s2⟩;have hil:i < ds.length:=by omega
    obtain ⟨y,ey,ry⟩:=rl.get (ae hil);exists 3;refine⟨‹13›,cg ⟨_,rfl,_,_,_,wQ ds[i],rfl,(ry.bH s2).ty,Fi N0 _,by rw [aa,aa,bc]; omega,hD2,aW hi ‹34›⟩⟩
    ·rw [take_snoc hil,aI,aI,LC];rfl
    ·rw [aA (au z hD)];exact s2 c _ z
   ·rintro ys H2 ⟨rfl,hD2,s2⟩;rw [aw ‹26›] at hD2;refine⟨⟨_,V7 (s2 b _ hb'),ai _⟩,Dd,_,rfl,V6 hD2,_,rfl,?_⟩;have am:=all_map (Pd:=fun d=>∃ x,d=PyData.str x/\True) (f:=PyData.str) (ok:=fun _=>True) (fun d=>Iff.rfl) (ds:=ds);cases hall:(ds.map fun d=>dcd (∃ x,d=PyData.str x/\True)).all id with
    | false=>
     refine bM (kf s2 ?_);rintro ⟨es,e,_⟩;exists 10;rw [am.mpr ⟨es,e,fun _ _=>trivial⟩] at hall;cases hall
    | true=>
     obtain ⟨es,rfl,-⟩:=am.mp hall;obtain rfl:=rl.jx;refine bT ⟨_,rfl,_,rfl,show 2<=sizeLine by omega,fun p hp=>?_⟩;have s3:Same H2 (upd H2 p (.tup [.str "order",.ref b])):=We hp;have hp3:(upd H2 p (.tup [.str "order",.ref b])) p=some (.tup [.str "order",.ref b]):=ak;have hu:DpL (upd H2 p (.tup [.str "order",.ref b])) [T.str "order",T.tup (es.map T.str)] [.str "order",.ref b]:=.cons (L2.Dp.str _) (.cons (L2.Dp.tup (s3 b _ (s2 b _ hb')) (Wb es)) .nil);have fin:=k _ (s2.trans s3);generalize upd H2 p (.tup [.str "order",.ref b])=H4 at *;have s4:=s2.trans s3;rcases tl with ⟨o,qo,eo,hq,hqo⟩ | ⟨en,a,rg,hq⟩
     ·refine⟨q,p,_,_,[T.str "order",T.tup (o.map T.str)],_,rfl,rfl,s4 q _ hq,hp3,ai _,.cons (L2.Dp.str _) (.cons (L2.Dp.tup (s4 qo _ hqo) (Wb o)) .nil),hu,fun t ht=>?_,?_⟩
      ·rcases bz.mp ht with rfl | ht
       ·trivial
       ·obtain rfl:=bj.mp ht;intro u hu;obtain ⟨x,_,rfl⟩:=bu.mp hu;trivial
      ·rw [kW (q:=Hu f x (.tuple (es.map .str)))]
       ·exact fin
       ·constructor
        ·rintro ⟨_,e⟩;injection e with _ e;injection e with e _;exists 10;exact⟨es,rfl,by rw [eo,(jv (f:=T.str) (fun a b e=>by injection e)).mp e]⟩
        ·rintro ⟨fs,e,h⟩;exists 10;rw [eo] at h;injection h with h;rw [rW e,h];exact⟨rfl,rfl⟩
     ·refine⟨q,p,_,_,[T.str "quarrel",T.str a],_,rfl,rfl,s4 q _ hq,hp3,by show 2<=3; decide,.cons (L2.Dp.str _) (.cons (L2.Dp.str _) .nil),hu,fun t ht=>?_,?_⟩
      ·rcases bz.mp ht with rfl | ht
       ·trivial
       ·obtain rfl:=bj.mp ht;trivial
      ·rw [bD (fun⟨o,_,h⟩=>by rw [en] at h; exact nomatch h)] at fin;rw [bD (fun h=>absurd (show (3:Nat)=2 from h.1) ‹6›)];exact fin
def Tp(f:Fam)(pl:LS):Prop:=∀ r∈f,r.1∈pl->∃ j,pl[j]?=some r.1/\∀ e∈r.2,e∈pl.take j
theorem zQ{f:Fam}(nd:(nms f).Nodup):∀(n:Nat) (pl:LS),f.length<=pl.length+n->iQ f pl->Tp f pl->∃ top,iQ f top/\Tp f top/\∀ x,Pl f x->x∈top
 | 0,pl,hl,T,tp=>⟨pl,T,tp,fun x hx=>vQ T.nd (by have:=T.len; rw [aa]; omega) T.sub x hx.mem⟩
 | n+1,pl,hl,T,tp=>by
  by_cases h0:bF f pl=[]
  ·exact⟨pl,T,tp,fun x hx=>T.full h0 hx⟩
  ·obtain ⟨x,hx⟩:=List.exists_mem_of_ne_nil _ h0;obtain ⟨r,hr,rfl,hn,he⟩:=tV.mp hx;refine zQ nd n (pl++[r.1]) (by rw [bX,eQ]; omega) ⟨?_,fun x hx=>?_,fun x hx=>?_⟩ fun q hq hm=>?_
   ·rw [i7];exact⟨T.nd,fh.mpr ⟨‹43›,ke⟩,fun a ha b hb e=>hn (by rw [<- bj.mp hb,<- e]; exact ha)⟩
   ·rcases cw.mp hx with h | h
    ·exact T.sub x h
    ·rw [bj.mp h];exact bu.mpr ⟨r,hr,rfl⟩
   ·rcases cw.mp hx with h | h
    ·exact T.el x h
    ·rw [bj.mp h];exact .mk hr fun e h=>T.el e (he e h)
   ·rcases cw.mp hm with h | h
    ·obtain ⟨j,e1,e2⟩:=tp q hq h;have hj:=(bv.mp e1).1;refine⟨j,by rw [ij hj]; exact e1,fun e h=>?_⟩;rw [li ‹26›];exact e2 e h
    ·have:=Bu nd hq hr (bj.mp h);subst this;refine⟨pl.length,by rw [ic (ai _),Nat.sub_self]; rfl,fun e h=>?_⟩;rw [li (ai _),aw (ai _)];exact he e h
structure yj (f:Fam):Prop where
 l1:1<=f.length
 l7:f.length<=7
 ok:∀ r∈f,Ao r
 nd:(nms f).Nodup
 pl:∀ x∈nms f,Pl f x
theorem yj.good{f:Fam}(h:yj f):rY f:=by
 have sub:∀ r∈f,∀ e∈r.2,e∈nms f:=fun r hr e he=>(Pl.inv h.nd hr (h.pl r.1 (bu.mpr ⟨r,hr,rfl⟩)) e he).mem;refine⟨h.nd,sub,h.l7,h.l1,fun r hr=>?_,fun r hr=>(h.ok r hr).2.2,?_,fun x hx=>?_⟩
 ·have:=dh (h.ok r hr).2.2 (sub r hr);have:=h.l7;rw [aa] at *;omega
 ·obtain ⟨top,T,tp,hall⟩:=zQ h.nd f.length [] ‹26› (iQ.nil f) (fun r _ h=>nomatch h);exact⟨top,T.nd,fun x=>⟨T.sub x,fun hx=>hall x (h.pl x hx)⟩,fun r hr=>tp r hr (hall _ (h.pl _ (bu.mpr ⟨r,hr,rfl⟩)))⟩
 ·obtain ⟨r,hr,rfl⟩:=bu.mp hx;exact(h.ok r hr).1
def two(q:S6):PyData:=.tuple [q.a,q.b]
def IsT(d:PyData):Prop:=∃(qs:List S6) (f:Fam),d=.tuple (qs.map six)/\qs.map two=f.map jT/\yj f/\∀ q∈qs,(∃ x,q.a=.str x/\Hu f x q.c)/\sO q
theorem Fg:IsF (.tuple (qs.map two))↔∃ f,qs.map two=f.map jT/\yj f:=by
 constructor
 ·rintro ⟨f,e,h1,h2,h3,h4,h5⟩;exists 10;exact⟨f,e,h1,h2,h3,h4,h5⟩
 ·rintro ⟨f,e,h1,h2,h3,h4,h5⟩;exact⟨f,by rw [e],h1,h2,h3,h4,h5⟩
theorem Qu(h:gs (.tuple (qs.map six))):gs (.tuple (qs.map two)):=by
 rw [gs,nU] at *;intro d hd;obtain ⟨q,hq,rfl⟩:=bu.mp hd;have:=h (six q) (bu.mpr ⟨q,hq,rfl⟩);rw [six,gs,gsA,gsA] at this;rw [two,gs,gsA,gsA,gsA];exact⟨this.1,this.2.1,trivial⟩
theorem yU:∀ {ds:LP} {d:PyData},d∈ds->wt d<=wtA ds
 | e::ds,d,h=>by
  rw [wtA];rcases bz.mp h with rfl | h
  ·omega
  ·have:=yU h;omega
theorem Gm:(ds.map fun d=>dcd (∃ es,d=PyData.tuple es/\es.length=6)).all id=true↔∃ qs:List S6,ds=qs.map six:=by
 rw [all_map (f:=six) (ok:=fun _=>True)]
 ·exact⟨fun⟨qs,e,_⟩=>⟨qs,e⟩,fun⟨qs,e⟩=>⟨qs,e,fun _ _=>trivial⟩⟩
 ·intro d;constructor
  ·rintro ⟨es,rfl,h⟩
   match es,h with
   | [a,b,c,e,g,n],_=>exact⟨⟨a,b,c,e,g,n⟩,rfl,trivial⟩
  ·rintro ⟨q,rfl,_⟩;exact⟨_,rfl,rfl⟩
def Jy(H H2:Hp)(ys:LV)(qs:List S6):Prop:=Paired (fun(v:V) (q:S6)=>∃(p:ut) (v0 v1:V),v=.ref p/\H2 p=some (.tup [v0,v1])/\RdV H v0 q.a/\RdV H v1 q.b) ys qs
theorem Jy.rd(h:Jy H H2 ys qs)(s:Same H H2):RdA H2 ys (qs.map two):=by
 unfold Jy at h
 induction h with
 | nil=>exact .nil
 | cons h _ ih=>
  obtain ⟨p,v0,v1,rfl,hp,r0,r1⟩:=h;exact .cons (.tup hp (.cons (r0.bH s) (.cons (r1.bH s) .nil))) ih
inductive Et (vs:LV) (H:Hp) (Q:VK) (E_:XK):Prop
 | mk (b:ut) (xs:LV) (qs:List S6):vs=[.ref b]->H b=some (.tup xs)->RdA H xs (qs.map six)->qs.length<=20000->(∀(q:ut) H',RdV H' (.ref q) (.tuple (qs.map two))->Same H H'->Q (.ref q) H')->Et vs H Q E_
theorem Lr(D:Defs K mg t):cA P w K mg base CX0 1 t.jE.1 t.jE.2 ["table"] Et:=by
 exists 5;refine D.jE.fn.ok yX ‹7› ‹1›
 ·obtain ⟨b,xs,qs,rfl,_⟩:=h;rfl
 ·obtain ⟨b,xs,qs,rfl,hb,rl,hl,k⟩:=h;have hxl:xs.length=qs.length:=by have:=rl.length; rwa [aa] at this
  refine⟨_,(aF (aL (bG cB (by rfl) D.bY bK (aj (bI rfl (Wf ["row"] [] ["row"] (aG (top 24)) ["table"] rfl rfl ‹5›) ⟨fun _ _ _ _ _=>(aN (i:=0) (show List.Nodup [("row" : Str)] by decide +kernel) rfl ‹24› ‹17›),fun _ _ _ _ _=>bJ,fun _ _ _ _ _=>(cC (aj ‹27› (aj ‹27› aq)))⟩ (bW (pv 0))) aq)))),?_⟩;refine⟨_,rfl,b,rfl,⟨_,V7 hb⟩,fun Dd hD=>?_⟩;refine bA (n:=xs.length) (fun i ys H2=>Jy H H2 ys (qs.take i)/\H2 Dd=some (.lst ys)/\Same H H2) ⟨.nil,ak,We hD⟩ ?_ ?_
  ·rintro ys H2 ⟨ry,hD2,s2⟩;rw [aw ‹26›] at ry;refine⟨⟨_,V7 (s2 b _ hb),ai _⟩,Dd,_,rfl,.inl ⟨V6 hD2,fun q hq=>?_⟩⟩;exact k q _ (.tup ak ((ry.rd s2).bH (We hq))) (s2.trans (We hq))
  ·rintro i ys H2 hi ⟨ryl,hD2,s2⟩;have hil:i < qs.length:=by omega
   obtain ⟨y,ey,ry⟩:=rl.get (i:=i) (d:=six qs[i]) (by rw [bg,ae hil]; rfl);refine⟨⟨_,_,V7 (s2 b _ hb),ey⟩,?_⟩;rintro z H3 ⟨rfl,yy⟩ σo ho;exists 15;have ez:=yy _ (V7 (s2 b _ hb));rw [ey] at ez;cases ez;obtain ⟨p,v0,v1,v2,v3,v4,v5,rfl,hp,r0,r1,-⟩:=K09.E.RdV.six ry;have hp:=s2 p _ hp;refine⟨‹13›,cg ⟨_,rfl,p,_,_,_,rfl,rfl,V7 hp,aJ (j:=0) rfl,_,rfl,p,_,_,_,rfl,rfl,V7 hp,aJ (j:=1) rfl,show 2<=sizeLine by omega,fun z hz=>?_⟩⟩;have hDz:Dd≠z:=au hD2 hz;refine⟨?_,by rw [aA hDz]; exact hD2,aW hi ⟨?_,ak,fun c u e=>?_⟩⟩
   ·have:=cE ryl;rw [this,bc];omega
   ·rw [take_snoc hil];refine Paired.snoc (V4 ryl fun v q ⟨a,y0,y1,e,h,h'⟩=>⟨a,y0,y1,e,?_,h'⟩) ⟨z,v0,v1,rfl,?_,r0,r1⟩
    ·rw [aA (eG h hD2 ‹11›),aA (au h hz)];exact h
    ·rw [aA (kL hDz)];exact ak
   ·rw [aA (au e hD),aA (au (s2 c u e) hz)];exact s2 c u e
def wB(f:Fam)(q:S6):Prop:=(∃ x,q.a=.str x/\Hu f x q.c)/\sO q
theorem sS{α:Type}{p:α->Prop}:∀ {xs:List α},(xs.map fun x=>dcd (p x)).all id=true↔∀ x∈xs,p x
 | []=>⟨(fun _ e he=>nomatch he),(fun _=>rfl)⟩
 | x::xs=>by
  rw [de,lI,eK,sS];show dcd _=true/\_↔_;rw [lQ];exact⟨fun h y hy=>(bz.mp hy).elim (fun e=>e ▸ h.1) (h.2 y),fun h=>⟨h x bn,fun y hy=>h y (cr _ hy)⟩⟩
theorem mY{ps:List S6}(h:qs.map six=ps.map six):qs=ps:=(jv (fun a b e=>FW e)).mp h
theorem IsT.iff{f:Fam}(e:qs.map two=f.map jT)(ok:yj f):IsT (.tuple (qs.map six))↔∀ q∈qs,wB f q:=by
 constructor
 ·rintro ⟨ps,g,h,h2,_,h3⟩;injection h with h;have:=mY h;subst this;have:g=f:=wJ (by rw [<- h2,e]);subst this;exact h3
 ·exact fun h=>⟨qs,f,rfl,e,ok,h⟩
inductive PN (vs:LV) (H:Hp) (Q:VK) (E_:XK):Prop
 | mk (v:V) (d:PyData):vs=[v]->RdV H v d->gs d->wt d<=20000->(∀ H',Same H H'->Q (.bl (dcd (IsT d))) H')->PN vs H Q E_
theorem QW(D:Defs K mg t)(GL:Glb mg):cA P w K mg base CX0 6 t.lB.1 t.lB.2 ["thing"] PN:=by
 have Gag:=@vL P w K mg base t D;have Gay:=@Lr P w K mg base t D;have Gbh:=@Rz P w K mg base t D GL;have Gbe:=@Ox P w K mg base t D;have Gbd:=@Ks P w K mg base t D;have Gbs:=@O8 P w K mg base t D GL;exists 5;refine D.lB.fn.ok oJ ‹7› ‹1›
 ·exists 17
 ·obtain ⟨v,d,rfl,rd,g,hw,k⟩:=h;have kf:∀ {H'},Same H H'->¬ IsT d->Q (.bl false) H':=fun s h=>by have:=k _ s; rw [bD h] at this; exact this
  refine⟨_,(aB (bO (V5 (gK (cL (bZ ‹4›)) (gk (cL (bZ (aH (cW rfl) (by rfl) D.jL iw (aj (bI rfl (Wf ["row"] [] ["row"] (aG (top 23)) ["thing","family","told"] rfl rfl ‹5›) ⟨fun _ _ _ _ _=>(aN (i:=0) (show List.Nodup [("row" : Str)] by decide +kernel) rfl ‹24› ‹17›),fun _ _ _ _ _=>bJ,fun _ _ _ _ _=>(aD D.fu Gag ‹2› (by rfl) (aj (pv 0) (aj aC aq)))⟩ (bW (pv 0))) aq)))))))
   (aF (aL fO))
   aU)
   (aB (aM (i:=1) oJ.nd rfl (uA rfl) (aD D.jE Gay ‹2› (by rfl) ‹36›))
   (aB (bO (cL (bZ (aD D.jF Gbh ‹2› (by rfl) (aj (pv 1) aq))))
   (aF (aL fO))
   aU)
   (aB (aM (i:=2) oJ.nd rfl (Mm rfl) (aD D.gY Gbe ‹2› (by rfl) (aj (pv 1) aq)))
   (aF (aL (aH (cW rfl) (by rfl) D.jL iw (aj (bI rfl (Wf ["row"] [2] ["row","told"] (aG (top 23)) ["thing","family","told"] rfl rfl ‹5›) ⟨fun _ _ _ _ _=>(aN (i:=0) (show List.Nodup [("row" : Str),("told" : Str)] by decide +kernel) rfl ‹24› ‹17›),fun _ _ _ _ _=>bJ,fun _ _ _ _ _=>(iG (aD D.lG Gbd ‹2› (by rfl) (aj ‹27› (aj (eE (dZ hr) (pv 1) ‹27› ‹3›) aq))) (jP (aD D.fH Gbs ‹2› (by rfl) ‹36›)))⟩ (bW (pv 0))) aq)))))))),?_⟩
  exists 8;cases hb:iZ d with
  | false=>exact bM (bM (kf (V8 H) fun⟨qs,f,e,_⟩=>by rw [e] at hb; cases hb))
  | true=>
   exists 7
   have hdl:ds.length<=20000:=by
    have:=uX ds;rw [wt] at hw;omega
   refine bT ?_;refine⟨_,rfl,b,rfl,⟨_,V7 hb'⟩,fun Dd hD=>?_⟩;refine bA (n:=xs.length) (fun i ys H2=>ys=((ds.take i).map fun d=>dcd (∃ es,d=PyData.tuple es/\es.length=6)).map V.bl/\H2 Dd=some (.lst ys)/\Same H H2) ⟨rfl,ak,We hD⟩ ?_ ?_;rotate_left
   ·rintro i ys H2 hi ⟨rfl,hD2,s2⟩;have hil:i < ds.length:=by omega
    obtain ⟨y,ey,ry⟩:=rl.get (ae hil);exists 3;refine⟨‹13›,cg ⟨_,rfl,y,ds[i],6,rfl,ry.bH s2,by rw [aa,aa,bc]; omega,hD2,aW hi ‹34›⟩⟩
    ·rw [take_snoc hil,aI,aI];rfl
    ·rw [aA (au z hD)];exact s2 c _ z
   ·rintro ys H2 ⟨rfl,hD2,s2⟩;rw [aw ‹26›] at hD2;refine⟨⟨_,V7 (s2 b _ hb'),ai _⟩,Dd,_,rfl,V6 hD2,_,rfl,?_⟩;cases hall:(ds.map fun d=>dcd (∃ es,d=PyData.tuple es/\es.length=6)).all id with
    | false=>
     refine bM (kf s2 ?_);rintro ⟨qs,f,e,_⟩;exists 10;rw [Gm.mpr ⟨qs,e⟩] at hall;cases hall
    | true=>
     obtain ⟨qs,rfl⟩:=Gm.mp hall;rw [aa] at hxl hdl;refine bT ⟨_,rfl,b,xs,qs,rfl,s2 b _ hb',rl.bH s2,by omega,fun fa H3 hfa s3=>?_⟩;have s13:=s2.trans s3;refine⟨_,rfl,.ref fa,_,rfl,hfa,Qu g,fun H4 s4=>⟨_,rfl,?_⟩⟩;have s14:=s13.trans s4
     by_cases hF:∃ f,qs.map two=f.map jT/\yj f
     rotate_left
     ·rw [bD fun h=>hF (Fg.mp h)];refine bM (kf s14 ?_);rintro ⟨ps,f,e,h,ok,_⟩;exists 10;rw [<- mY e] at h;exact hF ⟨f,h,ok⟩
     rw [dR (Fg.mpr hF)];obtain ⟨f,ef,ok⟩:=hF;have hfa4:=hfa.bH s4;rw [ef,<- Gv] at hfa4;refine bT ⟨_,rfl,.ref fa,f,rfl,RdV.dp _ hfa4,ok.good,fun td kvs H5 htd4 htd told ki kl s5=>?_⟩;have s15:=s14.trans s5;have ti:=IsT.iff ef ok;refine⟨_,rfl,b,rfl,⟨_,V7 (s15 b _ hb')⟩,fun D2 hD2'=>?_⟩;refine bA (n:=xs.length) (fun i ys H6=>ys=((qs.take i).map fun q=>dcd (wB f q)).map V.bl/\H6 D2=some (.lst ys)/\Same H5 H6) ⟨rfl,ak,We hD2'⟩ ?_ ?_
     ·rintro ys H6 ⟨rfl,hD6,s6⟩;rw [aw ‹26›] at hD6;have s16:=s15.trans s6;refine⟨⟨_,V7 (s16 b _ hb'),ai _⟩,D2,_,rfl,V6 hD6,?_⟩;have fin:=k _ s16;cases ha:(qs.map fun q=>dcd (wB f q)).all id with
      | true=>
       rw [dR (ti.mpr (sS.mp ha))] at fin;exact fin
      | false=>
       rw [bD (fun h=>by rw [sS.mpr (ti.mp h)] at ha; cases ha)] at fin;exact fin
     ·rintro i ys H6 hi ⟨rfl,hD6,s6⟩;have s16:=s15.trans s6;have hil:i < qs.length:=by omega
      obtain ⟨y,ey,ry⟩:=rl.get (i:=i) (d:=six qs[i]) (by rw [bg,ae hil]; rfl);refine⟨⟨_,_,V7 (s16 b _ hb'),ey⟩,?_⟩;rintro z H7 ⟨rfl,yy⟩ σo ho;exists 15;have ez:=yy _ (V7 (s16 b _ hb'));rw [ey] at ez;cases ez;have ry6:=ry.bH s16;obtain ⟨p,v0,v1,v2,v3,v4,v5,rfl,hp,r0,r1,r2,-⟩:=K09.E.RdV.six ry6
      have gi:gs (six qs[i]):=by
       rw [gs] at g;exact nU.mp g _ (bu.mpr ⟨_,bS hil,rfl⟩)
      have wi:wt (six qs[i])<=20000:=by
       have:=yU (bu.mpr ⟨_,bS hil,rfl⟩:six qs[i]∈qs.map six);rw [wt] at hw;omega
      have hfl:i < f.length:=by
       have:=congrArg List.length ef;rw [aa,aa] at this;omega
      have e2:two qs[i]=jT f[i]:=by
       have:=congrArg (fun l=>l[i]?) ef;simp only [bg,ae hil,ae hfl,il] at this;exact ck this
      have ea:qs[i].a=.str f[i].1:=by
       injection e2 with e2;injection e2
      rw [ea] at r0;obtain rfl:=r0.jm;obtain ⟨q,eq,tq⟩:=told f[i].1 (bu.mpr ⟨_,bS hfl,rfl⟩)
      have w2:wt qs[i].c<=20000:=by
       rw [six,wt,wtA,wtA,wtA] at wi;omega
      refine⟨‹13›,cg ?_⟩;have gt:lY H7 td (.str f[i].1) (some (.ref q)):=.inl ⟨kvs,.inr f[i].1,.inl (s6 td _ htd),rfl,eq.symm⟩;refine⟨_,rfl,p,_,_,_,rfl,rfl,V7 hp,aJ (j:=2) rfl,_,rfl,_,rfl,p,_,_,_,rfl,rfl,V7 hp,aJ (j:=0) rfl,td,.ref q,rfl,gt,_,_,q,f,f[i].1,rfl,r2,w2,tq.mono (V9 s6),fun H8 s8=>⟨_,rfl,?_⟩⟩
      have fin:∀ {B:Bool} {H9:Hp},Same H7 H9->B=dcd (wB f qs[i])->(((qs.take i).map fun q=>dcd (wB f q)).map V.bl).length < sizeLine/\H9 D2=some (.lst (((qs.take i).map fun q=>dcd (wB f q)).map V.bl))/\∃ m',m' < xs.length - i/\(m'=xs.length - (i+1)/\i+1<=xs.length/\(((qs.take i).map fun q=>dcd (wB f q)).map V.bl++[.bl B]=((qs.take (i+1)).map fun q=>dcd (wB f q)).map V.bl/\(upd H9 D2 (.lst (((qs.take i).map fun q=>dcd (wB f q)).map V.bl++[.bl B]))) D2=some (.lst (((qs.take i).map fun q=>dcd (wB f q)).map V.bl++[.bl B]))/\Same H5 (upd H9 D2 (.lst (((qs.take i).map fun q=>dcd (wB f q)).map V.bl++[.bl B]))))):=fun {B H9} s9 eB=>⟨by rw [aa,aa,bc]; omega,s9 D2 _ hD6,aW hi ⟨by
        rw [take_snoc hil,aI,aI,eB];rfl,ak,fun c u z=>by
        rw [aA (au z hD2')];exact s9 c _ (s6 c _ z)⟩⟩
      by_cases ho:Hu f f[i].1 qs[i].c
      ·rw [dR ho];refine bM ⟨_,rfl,.ref p,qs[i],rfl,ry6.bH s8,gi,wi,fun H9 s9=>fin (s8.trans s9) (kW ⟨fun h=>⟨⟨_,ea,ho⟩,h⟩,fun h=>h.2⟩)⟩
      ·rw [bD ho];refine bT (fin s8 (bD fun h=>?_).symm);obtain ⟨⟨x,ex,hx⟩,_⟩:=h;rw [ea] at ex;injection ex with ex;rw [<- ex] at hx;exact ho hx
end
end K09.E
end
section
namespace L2
open PySem PySem.Spec PyProof.Rows
variable {a it:ut}{o:Obj}{H:Hp}{xs:LV}{kvs:LK0}{R:V3->ue->Prop}
theorem Cq:typeLookup (.type "list") "keys" = Hn none:=by rw [qA,lS]; kernel_rfl
section
variable {prog:uC}{w:ww}{A:xf}{E:ES}{s:ue}
theorem Dc{xs:AV}{k:Nat}{Q:Option sr->ue->Prop}(hx:s.heap.get? a=some o)(hc:o.cls=.type "list")(hdat:o.data=.seq xs k)(hd:o.dict=none)(hA:A.handled=none)
  (h:∀ h' tk,‹16›->Q none { s with heap:=h',toks:=tk }):uv ‹32› A (getAttr? (.ref a) "keys") Q E s:=by
 obtain ⟨c,dct,dat,sl⟩:=o;simp only at hc hdat hd;subst hc hdat hd;obtain ⟨hp,g,d,tk,os⟩:=s;have hT:∀ tk',(⟨hp,g,d,tk',os⟩:ue).TypeIs (.ref a) "list" := fun _=>⟨_,hx,rfl⟩;have f1:=sub_AttributeError;have f3:=nB.lookup;have f4:=nB.bind (.ref a);have f5:=am_list_getattr_none;have hm:=Cq;unfold getAttr? getAttrBy? getAttrBy
 repeat (any_goals (first | assumption | exact hT _ | ((with_reducible show uv _ _ (call (sr.builtin "list.__getattribute__") _ _) _ _ _); refine nS nB (hT _) am_entry_list_getattribute (F.args_list_getattribute_2 _ _) (meets_getattribute_miss_list a xs k sl "keys" _ hm ‹5›) ⟨hx,hA,fun h' tk' e hx'=>?_⟩) | wp_step))
 have kk:=hx'.keeps;obtain ⟨t',u',he⟩:=hx'.there;show uv _ _ (Q3 _ _ _ _ _ _ _) _ _ _;unfold Q3
 repeat (any_goals (first | assumption | wp_step))
 all_goals exact h _ _ kk
end
section
variable {X:Cx}{pins:LO}{σ:St}{A:xf}
theorem Jw{d:ut}(hh:A.handled=none)(ha:H a=some (.lst xs))(hp:rK H xs kvs)(hn:kvs.length<=1000)(hd:H d=none)(hid:it≠d)(hia:it≠a)
  (hR:∀ s',Inv X pins σ (upd H d (.dK (cD [] kvs))) s'->R (.ok (.ret .none)) s') :
  ∀(k i:Nat) (s:ue),kvs.length - i=k->i<=kvs.length->Inv X pins σ ‹21› s->s.heap.IsListIter it a i->(∀ H':Hp,H' it=none->pW X pins H' it)->H it=none->
   HH ‹9› A (.builtin "dict.update.loop" ⟨[.ref d,.ref it,rawInt i,.none],[]⟩) R s:=by
 intro k;have had:a≠d:=au ha hd;exists 5
 induction k with
 | zero=>
  intro i s hk hi I hit hf hi0;have hin:i=kvs.length:=by omega
  have ha':‹21› a=some (.lst xs):=by rw [aA had]; exact ha
  obtain ⟨its,rv,p,_⟩:=I.list (V6 ha');have hit0:‹21› it=none:=by rw [aA hid]; exact hi0
  obtain ⟨f0,f1,f2,f3,f4,f5⟩:=hf _ hit0;refine gI qt ?_;rw [eS jj _];show uv _ A.in1 (Hc (.ref it) >>= _) _ _ s;refine af (pV hh hit p.isList (by have:=rv.length; have:=hp.1; simp; omega) fun h' eb=>?_);refine af (aE (aE ?_));have I1:=I.turned (t':=s.toks) (fun b o hb e=>eb b o hb e) f0 f1 f3 f4 f5;rw [hin,aw (ai _)] at I1;exact hR _ I1
 | succ k ih=>
  intro i s hk hi I hit hf hi0;have hlt:i < kvs.length:=by omega
  have ha':‹21› a=some (.lst xs):=by rw [aA had]; exact ha
  obtain ⟨its,rv,p,_⟩:=I.list (V6 ha');have hit0:‹21› it=none:=by rw [aA hid]; exact hi0
  obtain ⟨f0,f1,f2,f3,f4,f5⟩:=hf _ hit0;obtain ⟨pr,ex,hpr⟩:=hp.2 i kvs[i] (ae hlt);obtain ⟨u,hu,ru⟩:=rv.get ex;cases ru;refine gI qt ?_;rw [eS jj _];show uv _ A.in1 (Hc (.ref it) >>= _) _ _ s;refine af (n5 hit p.isList (x:=.ref pr) (by simpa using hu) fun h' hit' sb=>?_);have I1:=I.turned (t':=s.toks) (fun b o hb e=>sb.extBut b o hb e) f0 f1 f3 f4 f5;have hpd:pr≠d:=au hpr hd;obtain ⟨jts,rj,⟨oj,gj,cj,nj,dj⟩,_⟩:=I1.tuple (V7 (show ‹21› pr=some (.tup [kV kvs[i].1,kvs[i].2]) by rw [aA hpd]; exact hpr));obtain ⟨v1,v2,rfl,r1,r2⟩:=rj.two;have hT:({ s with heap:=h' }:ue).TypeIs (.ref pr) "tuple" := ⟨oj,gj,cj⟩;refine af (eL ?_);refine af (wpAny_tryCatch ?_);unfold uB.Dict.pairItems;refine af (wpAny_typeOf hT ?_);rw [dE ‹6›];refine af (iE gj dj (aE ?_));show uv _ _ (UT [v1,v2] (dictSet d v1 v2)) _ _ _;refine eL (Pq I1 ak ?_ r1 r2 fun h2 sb2 I2=>?_)
  ·have:=jH (kvs.take i) [];rw [bc,nI] at this;omega
  rw [cX] at I2
  have et:kvs.take (i+1)=kvs.take i++[kvs[i]]:=by
   rw [jS,ae hlt];rfl
  rw [<- uG,<- et] at I2;refine aE ⟨iN jj _,?_⟩;exact ih (i+1) _ ‹26› hlt I2 (hit'.extBut sb2.extBut hid) hf hi0
end
section
variable {X:Cx}
inductive qJ (xs:LV) (H:Hp) (Q:VK):Prop
 | mk (a ps kvs:_):xs=[.ref a]->H a=some (.lst ps)->rK H ps kvs->kvs.length<=1000->(∀ d,H d=none->Q (.ref d) (upd H d (.dK (cD [] kvs))))->qJ xs H Q
theorem Ah(hc:X.calm=true):fj X (.type "dict") qJ:=by
 exists 9;obtain ⟨a,ps,kvs,rfl,ha,hp,hn,q⟩:=h;exists 14;have hh:X.A.handled=none:=I.ok.hd hc;refine callType_codes (Q₁:=fun obj s₁=>obj=.ref s.heap.objs.size/\s₁={ s with heap:=s.heap.push { cls:=.type "dict",data:=.dict #[] } }) F.kt_called_dict (F.kt_typeCall_dict_1 _) F.entry_dict_init (kt_code_dict_new _ ⟨rfl,rfl⟩) ?_;rintro obj s₁ ⟨rfl,rfl⟩;have hd:H s.heap.objs.size=none:=I.hok.fresh (ai _)
 have I1:Inv X pins σ (upd H s.heap.objs.size (.dK [])) { s with heap:=s.heap.push { cls:=.type "dict",data:=.dict #[] } }:=
  I.laid (t':=s.toks) (fun b o e=>av _ e) (ai _) (rG s.heap (dS I.big (ai _)))
 have had:a≠s.heap.objs.size:=au ha hd;have ha1:(upd H s.heap.objs.size (.dK [])) a=some (.lst ps):=by rw [aA had]; exact ha
 obtain ⟨its,rv,⟨o,n,go,co,ndt,dto⟩,_⟩:=I1.list (V6 ha1);have hnew:(s.heap.push { cls:=.type "dict",data:=.dict #[] }).DictOf (bU X.prog X.w) s.heap.objs.size []:=Heap.DictOf.new s.heap;refine⟨hnew.typeIs,F.args_dict_init_2 _ _,?_⟩;unfold uB.«dict.__init__»;refine af ?_;unfold uB.Dict.selfAndRest;refine af (wpAny_notOrdered_dict hnew.typeIs ?_);show uv _ _ (Hn (s.heap.objs.size,[zg a])) _ _ _;refine aE ?_;show uv _ _ (HR "dict.__init__" s.heap.objs.size (.ref a) [] .none) _ _ _;unfold HR;have hT:({ s with heap:=s.heap.push { cls:=.type "dict",data:=.dict #[] } }:ue).TypeIs (.ref a) "list" := ⟨o,go,co⟩;refine af (wpAny_typeOf hT ?_);rw [dE ‹6›];refine af (Dc go co dto ndt hh fun h2 tk2 k2=>?_);rw [dE (by rfl)];have I2:=I1.kept (t':=tk2) k2;refine af (jp ?_);refine af (i5 (show Heap.IsList h2 a its.toArray from ⟨o,k2 a o go,co,n,dto⟩) ?_);have I3:=I2.kept (t':=tk2) (h':=h2.push { cls:=.type "list_iterator",data:=.fields #[.ref a,.int 0 0] }) fun b o e=>av _ e
 have hle:s.heap.objs.size < h2.objs.size:=by
  obtain ⟨o',e'⟩:∃ o',(s.heap.push { cls:=.type "dict",data:=.dict #[] }).get? s.heap.objs.size=some o':=⟨_,bb _ rfl⟩;exact cn (k2 _ _ e')
 have hif:(upd H s.heap.objs.size (.dK [])) h2.objs.size=none:=I2.hok.fresh (ai _);refine aE ⟨iN jj _,?_⟩;have al:a < h2.objs.size:=cn (k2 a o go);have hi0:H h2.objs.size=none:=by rw [aA (eR hle)] at hif; exact hif
 refine Jw (A:=X.A.in1) (H:=H) (a:=a) (d:=s.heap.objs.size) (it:=h2.objs.size) (xs:=ps) (kvs:=kvs) hh ha hp hn hd (eR hle) (eR al) (fun s' I'=>?_) kvs.length 0 _ ‹45› (dk _) I3 ⟨_,bb _ rfl,rfl,rfl⟩ (fun H' hH'=>?_) hi0
 ·exact⟨rfl,⟨.ref s.heap.objs.size,_,I',rfl,q _ hd⟩⟩
 ·obtain ⟨g1,g2⟩:=I2.lV (ai _) hif;exact⟨hH',g2⟩
end
end L2
end
section
namespace K09.E
open PySem PyProof.Rows L2
variable {i n:Nat}{r:Str × LS}{H H':Hp}{v:V}{kvs:LK0}{ys:LV}{es:LS}{g:TG}{tb:TS}
structure Rw8 (f:Fam):Prop where
 nd:(nms f).Nodup
 len:f.length<=8
 el:∀ r∈f,r.2.length<=8
 sub:∀ r∈f,∀ e∈r.2,e∈nms f
noncomputable def jU (f:Fam):Str->Option LS:=iH f 9
theorem Ij{f:Fam}(nd:(nms f).Nodup){top:LS}(T:iQ f top)(tp:Tp f top) :
  ∀(j:Nat) (x:Str),top[j]?=some x->∀ n m,j < n->j < m->iH f n x=iH f m x:=by
 intro j
 induction j using Nat.strongRecOn with
 | ind j ih=>
  intro x hx n m hn hm;obtain ⟨n,rfl⟩:∃ n',n=n'+1:=⟨n - 1,by omega⟩;obtain ⟨m,rfl⟩:∃ m',m=m'+1:=⟨m - 1,by omega⟩;have hxt:=eI hx;obtain ⟨r,hr,rfl⟩:=bu.mp (T.sub x hxt);obtain ⟨j',h1,h2⟩:=tp r hr hxt;have ej:=sU T.nd hx h1;subst ej
  have same:∀ e∈r.2,iH f n e=iH f m e:=fun e he=>by
   obtain ⟨i,hi,ei⟩:=jf (h2 e he);exact ih i hi e ei n m ‹26› ‹26›
  unfold iH;rw [nD nd r hr]
  have c1:r.2.all (fun e=>(iH f n e).isSome)=r.2.all (fun e=>(iH f m e).isSome):=by
   apply fg.mpr;rw [cz,cz];exact⟨fun h e he=>by rw [<- same e he]; exact h e he,fun h e he=>by rw [same e he]; exact h e he⟩
  have c2:cu (iH f n) r.2=cu (iH f m) r.2:=by
   unfold cu;congr 1;exact gr fun e he=>by rw [same e he]
  rw [c1,c2]
theorem Rw8.top{f:Fam}(R:Rw8 f):∃ top,iQ f top/\Tp f top/\(∀ x,Pl f x->x∈top)/\top.length<=8:=by
 obtain ⟨top,T,tp,h⟩:=zQ R.nd f.length [] ‹26› (iQ.nil f) (fun r _ h=>nomatch h);exact⟨top,T,tp,h,cS T.len R.len⟩
theorem yM{f:Fam}(R:Rw8 f){x:Str}(hx:Pl f x)(h:8<=n):iH f n x=jU f x:=by
 obtain ⟨top,T,tp,ht,h8⟩:=R.top;obtain ⟨j,hj,e⟩:=fF (ht x hx);exact Ij R.nd T tp j x (by rw [ae hj,e]) n 9 ‹26› ‹26›
theorem yP{f:Fam}(R:Rw8 f)(hr:r∈f)(hp:Pl f r.1):jU f r.1=if r.2.all (fun e=>(jU f e).isSome)=true then (nJ (full (cu (jU f) r.2))).map (r.1::·) else none:=by
 have same:∀ e∈r.2,iH f 8 e=jU f e:=fun e he=>yM R (Pl.inv R.nd hr hp e he) (ai _);show iH f 9 r.1=_;unfold iH;rw [nD R.nd r hr]
 have c1:r.2.all (fun e=>(iH f 8 e).isSome)=r.2.all (fun e=>(jU f e).isSome):=by
  apply fg.mpr;rw [cz,cz];exact⟨fun h e he=>by rw [<- same e he]; exact h e he,fun h e he=>by rw [same e he]; exact h e he⟩
 have c2:cu (iH f 8) r.2=cu (jU f) r.2:=by
  unfold cu;congr 1;exact gr fun e he=>by rw [same e he]
 rw [c1,c2]
theorem vp{f:Fam}(R:Rw8 f){x:Str}(hx:Pl f x):∀ o,jU f x=some o->(∀ y∈o,y∈nms f)/\o.length<=9:=by
 induction hx with
 | @mk r hr hel ih=>
  intro o ho;rw [yP R hr (.mk hr hel)] at ho;split at ho
  ·rename_i hall
   cases hm:nJ (full (cu (jU f) r.2)) with
   | none=>rw [hm] at ho; cases ho
   | some os=>
    rw [hm] at ho;cases ho
    have hM:∃ q,Mg (full (cu (jU f) r.2)) q:=by
     apply fb;intro hn;unfold nJ at hm;rw [dif_neg hn] at hm;cases hm
    obtain ⟨q,hq⟩:=hM;have eq:=qw hq;rw [hm] at eq;subst eq;obtain ⟨h3,h4⟩:=Mg.wH hq os rfl
    have sub:∀ y∈os,y∈nms f:=fun y hy=>by
     obtain ⟨q,hq',hyq⟩:=h3 y hy;have hq':=(dC.mp hq').1;unfold cu at hq';rcases cw.mp hq' with h | h
     ·obtain ⟨e,he,rfl⟩:=bu.mp h;obtain ⟨oe,hoe⟩:=fN.mp (cz.mp hall e he);rw [hoe] at hyq;exact(ih e he oe hoe).1 y hyq
     ·rw [bj.mp h] at hyq;exact R.sub r hr y hyq
    refine⟨fun y hy=>?_,?_⟩
    ·rcases bz.mp hy with rfl | h
     ·exact bu.mpr ⟨r,hr,rfl⟩
     ·exact sub y h
    ·have h5:=dh h4 (m:=nms f) sub;have h6:(nms f).length=f.length:=aa _;have:=R.len;rw [dA];omega
  ·cases ho
theorem Hw{f:Fam}(R:Rw8 f)(hr:r∈f)(hp:Pl f r.1):tot (cu (jU f) r.2)<=100/\(cu (jU f) r.2).length<=9:=by
 have e7:=R.el r hr
 have tl:∀ es:LS,(∀ x∈es,x∈r.2)->tot (es.map fun e=>(jU f e).getD [])<=9 * es.length:=by
  intro es
  induction es with
  | nil=>exact fun _=>ai _
  | cons x es ih=>
   intro h;rw [de,gB,dA];have:=ih fun y hy=>h y (cr _ hy)
   have:((jU f x).getD []).length<=9:=by
    cases ho:jU f x with
    | none=>exact dk _
    | some o=>exact(vp R (Pl.inv R.nd hr hp x (h x bn)) o ho).2
   omega
 have ta:tot (cu (jU f) r.2)=tot (r.2.map fun e=>(jU f e).getD [])+r.2.length:=by
  unfold cu tot;rw [aI,nL];simp
 constructor
 ·rw [ta];have:=tl r.2 fun _ h=>h;omega
 ·unfold cu;rw [bX,aa,eQ];omega
def yR(H:Hp)(f:Fam)(x:Str)(v:V):Prop:=(jU f x=none/\v=.non)\/∃ o q,jU f x=some o/\v=.ref q/\H q=some (.tup (o.map V.str))
def jq(H:Hp)(kvs:LK0)(f:Fam):Prop:=∀ x v,cM kvs (.inr x)=some v->Pl f x/\yR H f x v
theorem yR.mono{f:Fam}{x:Str}(h:yR H f x v)(s:dH H H'):yR H' f x v:=by
 rcases h with h | ⟨o,q,h1,h2,h3⟩
 ·exact .inl h
 ·exact .inr ⟨o,q,h1,h2,s q _ h3⟩
theorem jq.mono{f:Fam}(h:jq H kvs f)(s:dH H H'):jq H' kvs f:=fun x v e=>⟨(h x v e).1,(h x v e).2.mono s⟩
theorem jq.put{f:Fam}(h:jq H kvs f){x:Str}(hx:Pl f x)(hv:yR H f x v):jq H (putK kvs (.inr x) v) f:=fun y u e=>by
 rw [jK] at e
 by_cases hyx:y=x
 ·subst hyx;rw [dE rfl] at e;cases e;exact⟨hx,hv⟩
 ·rw [cK (by intro z; injection z with z; exact hyx z)] at e;exact h y u e
theorem jq.put2{f:Fam}(h:jq H kvs f){x:Str}{u:V}(hx:Pl f x)(hv:yR H f x v):jq H (putK (putK kvs (.inr x) u) (.inr x) v) f:=fun y u' e=>by
 rw [jK] at e
 by_cases hyx:y=x
 ·subst hyx;rw [dE rfl] at e;cases e;exact⟨hx,hv⟩
 ·rw [cK (by intro z; injection z with z; exact hyx z),jK,cK (by intro z; injection z with z; exact hyx z)] at e;exact h y u' e
theorem yS{x y:Str}(h:y=x\/(cM kvs (.inr y)).isSome=true):(cM (putK kvs (.inr x) v) (.inr y)).isSome=true:=by
 rw [jK]
 by_cases hyx:y=x
 ·subst hyx;rw [dE rfl];rfl
 ·rw [cK (by intro z; injection z with z; exact hyx z)];exact h.resolve_left hyx
theorem Nk{f:Fam}(h:Paired (fun(v:V) (y:Str)=>yR H f y v) ys es):(∀ z∈ys,z=.non\/∃ a zs,z=.ref a/\H a=some (.tup zs))/\(¬ V.non∈ys->jX H ys (es.map fun y=>(jU f y).getD [])/\∀ y∈es,(jU f y).isSome=true)/\(V.non∈ys->¬ ∀ y∈es,(jU f y).isSome=true):=by
 induction h with
 | nil=>exact⟨by simp,fun _=>⟨.nil,by simp⟩,by simp⟩
 | @cons v y ys es r _ ih=>
  obtain ⟨i1,i2,i3⟩:=ih;rcases r with ⟨h1,rfl⟩ | ⟨o,q,h1,rfl,h3⟩
  ·refine⟨fun z hz=>?_,fun h=>absurd bn h,fun _ h=>?_⟩
   ·rcases bz.mp hz with rfl | h
    ·exact .inl rfl
    ·exact i1 z h
   ·have:=h y bn;rw [h1] at this;cases this
  ·refine⟨fun z hz=>?_,fun h=>?_,fun h hh=>?_⟩
   ·rcases bz.mp hz with rfl | h
    ·exact .inr ⟨q,_,rfl,h3⟩
    ·exact i1 z h
   ·obtain ⟨j1,j2⟩:=i2 fun z=>h (cr _ z);refine⟨.cons ⟨q,rfl,?_⟩ j1,fun z hz=>?_⟩
    ·show H q=some (.tup (((jU f y).getD []).map V.str));rw [h1];exact h3
    ·rcases bz.mp hz with rfl | h
     ·rw [h1];rfl
     ·exact j2 z h
   ·rcases bz.mp h with h | h
    ·cases h
    ·exact i3 h fun z hz=>hh z (cr _ hz)
theorem Mu{d:ut}{R:It->Hp->Prop}(h:Rd H d (.dK kvs))(hR:∀ o H4,H4 d=some ‹39›->(∀ b u,b≠d->H b=some u->H4 b=some u)->R (Itd o d kvs) H4) :
  (H d=some (.dK kvs)/\∀ o,R (Itd o d kvs) (upd H d ‹39›))\/∃ o,H d=some ‹39›/\R (Itd o d kvs) H:=by
 rcases h with h | ⟨o,h⟩
 ·exact .inl ⟨h,fun o=>hR o _ ak fun b u hb e=>by rw [aA hb]; exact e⟩
 ·exact .inr ⟨o,h,hR o H h fun b u _ e=>e⟩
theorem Cz{D:Ends}{σ:L2.St}{d:ut}(hσ:σ[i]?=some (some (.ref d)))(h:Rd H d (.dK kvs)) (hR:∀ o H4,H4 d=some ‹39›->(∀ b u,b≠d->H b=some u->H4 b=some u)->
  ∃ W:Nat->Nat->L2.St->Hp->Prop,(∃ m,W 0 m σ H4)/\∀ i m σ H,W i m σ H->
   ((Itd o d kvs).stop i H/\D.nx σ H)\/((Itd o d kvs).go i H/\∃ N:L2.St->Hp->Prop,‹10›/\∀ x H',(Itd o d kvs).yld i H x H'->g x σ H' fun σ2 H2=>tb { D with nx:=N,ct:=N,bk:=D.nx } σ2 H2)):Rj (Ds (KR i)) g tb D σ H:=
 ⟨_,hσ,d,kvs,rfl,Mu (R:=fun J H4=>∃ W:Nat->Nat->L2.St->Hp->Prop,(∃ m,W 0 m σ H4)/\∀ i m σ H,W i m σ H->
   (J.stop i H/\D.nx σ H)\/(J.go i H/\∃ N:L2.St->Hp->Prop,‹10›/\∀ x H',J.yld i H x H'->g x σ H' fun σ2 H2=>tb { D with nx:=N,ct:=N,bk:=D.nx } σ2 H2)) h hR⟩
section
variable {P:uC}{w:ww}{K:PySem.W.Frag}{mg:MG}{base:Heap}{t:Adr}
inductive Bx (vs:LV) (H:Hp) (Q:VK) (E_:XK):Prop
 | mk (a:ut) (xs:LV) (f:Fam):vs=[.ref a]->H a=some (.lst xs)->DpL H (f.map qy) xs->Rw8 f->(∀(od:ut) (kvs:LK0) H',H od=none->H' od=some (.dK kvs)->jq H' kvs f->(∀ x,Pl f x->(cM kvs (.inr x)).isSome=true)->Same H H'->Q (.ref od) H')->Bx vs H Q E_
theorem xM(D:Defs K mg t):cA P w K mg base CX0 2 t.fW.1 t.fW.2 ["_law_family"] Bx:=by
 have Gai:=@vR P w K mg base t D;exists 5;refine D.fW.fn.ok fQ ‹7› ‹1›
 ·obtain ⟨a,xs,f,rfl,_⟩:=h;rfl
 ·obtain ⟨a,xs,f,rfl,ha,dl,gf,k⟩:=h;obtain ⟨kvs0,hpr,el⟩:=xH dl;have hkl:kvs0.length=f.length:=el.len;have hxl:xs.length=f.length:=by have:=dl.length; rwa [aa] at this
  have f7:=gf.len;have hnl:(nms f).length=f.length:=aa _;obtain ⟨tp,T,t2,t1,_⟩:=gf.top;have t0:=T.nd;have htl:=T.len
  refine⟨_,(aB (aM (i:=1) fQ.nd rfl (uA rfl) (bG (Ah rfl) (by rfl) D.Ep zy ‹36›))
   (aB (aM (i:=2) fQ.nd rfl (Mm rfl) jN)
   (aB (fP dP rfl (jG rfl D.nY (aj ‹15› aq)) (aN (i:=3) fQ.nd rfl (uA rfl))
   (aF (fP dP rfl (Lh (pv 1)) (aN (i:=4) fQ.nd rfl (uA rfl))
   (aF (bO (V5 (tZ (zM (qb (dZ hr) (pv 4) (pv 2))) (uV (bZ (aH (cW rfl) (by rfl) D.jL iw (aj (bI rfl (Wf ["_law_one"] [2] ["_law_one","_law_orders_here"] (aG (top 47)) ["_law_family","_law_elders_here","_law_orders_here","_law_turn","_law_kind","_law_rows"] rfl rfl ‹5›) ⟨fun _ _ _ _ _=>(aN (i:=0) (show List.Nodup [("_law_one" : Str),("_law_orders_here" : Str)] by decide +kernel) rfl ‹24› ‹17›),fun _ _ _ _ _=>bJ,fun _ _ _ _ _=>(JN (Jt (dZ hr) (pv 0) (pv 1)))⟩ (bW (eE (dZ hr) (pv 1) (pv 4) ‹3›))) aq))))))
   (aB (j8 (i:=5) rfl fQ.nd rfl (uA rfl) (Wf ["_law_one"] [2] ["_law_one","_law_orders_here"] (aG (top 47)) ["_law_family","_law_elders_here","_law_orders_here","_law_turn","_law_kind","_law_rows"] rfl rfl ‹5›) ⟨fun _ _ _ _ _=>(aN (i:=0) (show List.Nodup [("_law_one" : Str),("_law_orders_here" : Str)] by decide +kernel) rfl ‹24› ‹17›),fun _ _ _ _ _=>bJ,fun _ _ _ _ _=>(eE (dZ hr) (pv 1) (pv 0) ‹3›)⟩ (bW (eE (dZ hr) (pv 1) (pv 4) ‹3›)))
   (aB (kJ (dZ hr) (pv 2) (pv 4) jR rfl)
   (aF (bO (aY (Ie rfl (Rq hr)) jR (pv 5) ‹29›)
   (aF (kJ (dZ hr) (pv 2) (pv 4) (aD D.gb Gai ‹2› (by rfl) (aj (pv 4) (aj (aR vW (pv 5) (cN (aj (eE (dZ hr) (pv 1) (pv 4) ‹3›) aq))) aq))) rfl))
   aU))))
   aU)))))
   (aF (aL (pv 2)))))),?_⟩
  exists 18;refine⟨_,rfl,a,xs,kvs0,rfl,ha,hpr,by omega,fun d hd=>?_⟩;rw [el.merge gf.nd];exists 1,s1,hd1,H,d,(.dK kvs0),hd,H1;intro od hod;have s2:Same H1 (upd H1 od (.dK [])):=We hod;have hod2:(upd H1 od (.dK [])) od=some (.dK []):=ak
  have hodH:H od=none:=by
   cases q:H od with
   | none=>rfl
   | some o=>
    rw [s1 od o q] at hod;cases hod
  have dod:d≠od:=au hd1 hod;have hd2:=s2 d _ hd1;have sm2:Same H (upd H1 od (.dK [])):=s1.trans s2;generalize upd H1 od (.dK [])=H2 at s2 hod2 hd2 sm2;refine⟨_,rfl,a,_,rfl,.inl (V6 (sm2 a _ ha)),_,rfl,by omega,by omega,?_⟩;rw [hxl]
  refine mC (lo:=0) (n:=((f.length:Nat):Int).toNat) (fun i σ H3=>∃(kvs:LK0) (v3 v4 v5:OV),σ=[some (.ref a),some (.ref d),some (.ref od),v3,v4,v5]/\H3 od=some (.dK kvs)/\kvs.length<=16 * i/\jq H3 kvs f/\(∀ x∈tp.take i,(cM kvs (.inr x)).isSome=true)/\Rd H3 d (.dK kvs0)/\∀ b u,b≠od->b≠d->H2 b=some u->H3 b=some u)
   ⟨[],_,_,_,rfl,hod2,dk _,(by intro x v e; cases e),(by intro x hx; simp at hx),.inl hd2,fun b u _ _ e=>e⟩ ?_ ?_
  ·rintro i σ H3 hi ⟨kvs,v3,v4,v5,rfl,hod3,kl3,oa3,cov3,hd3,kp3⟩;have hi7:i < 8:=by omega
   show Rj (Ds (KR 1)) _ _ _ [some (.ref a),some (.ref d),some (.ref od),some (.int (0+(i:Int))),v4,v5] H3;refine Cz (i:=1) (d:=d) (kvs:=kvs0) rfl hd3 fun o H4 hd4 kp4=>?_
   have tu34:dH H3 H4:=fun c zs e=>by
    refine kp4 c _ (fun z=>?_) e;rw [z] at e;rcases hd3 with h | ⟨o,h⟩
    ·rw [h] at e; cases e
    ·rw [h] at e; cases e
   refine wD (o:=o) (d:=d) (kvs:=kvs0) (fun m σ H5=>∃(kvs:LK0) (v4 v5:OV),σ=[some (.ref a),some (.ref d),some (.ref od),some (.int (0+(i:Int))),v4,v5]/\H5 od=some (.dK kvs)/\kvs.length<=16 * i+2 * m/\jq H5 kvs f/\(∀ x∈tp.take i,(cM kvs (.inr x)).isSome=true)/\(∀ x∈(nms f).take m,tp[i]?=some x->(cM kvs (.inr x)).isSome=true)/\H5 d=some (.frz o (.dK kvs0))/\∀ b u,b≠od->b≠d->H2 b=some u->H5 b=some u)
    ⟨kvs,_,_,rfl,kp4 od _ dod.symm hod3,kl3,oa3.mono tu34,cov3,(by intro x hx; simp at hx),hd4,fun b u h1 h2 e=>kp4 b u h2 (kp3 b u h1 h2 e)⟩ (fun m σ H5 _ ⟨_,_,_,_,_,_,_,_,_,e,_⟩=>e) ?_ ?_
   ·rintro m kv σ H5 ekv ⟨kvs,v4,v5,rfl,hod5,kl5,oa5,cov5,cur5,hd5,kp5⟩;obtain ⟨r,hfr,ek,hnr⟩:=el.at ekv;have hm:m < (nms f).length:=(bv.mp hnr).1;have hr':r∈f:=eI hfr;have hm7:m < 8:=by omega
    obtain ⟨e,he1,he2⟩:=el.get gf.nd r hr';have sm5:Same H H5:=fun b u e=>kp5 b u (au e hodH) (au e hd) (sm2 b u e);have he5:=sm5 e _ he2;have e7:=gf.el r hr';have gd:∀ {H6:Hp},H6 d=some (.frz o (.dK kvs0))->lY H6 d (.str r.1) (some (.ref e)):=fun {H6} h=>.inl ⟨kvs0,.inr r.1,.inr ⟨o,h⟩,rfl,he1.symm⟩
    have nxt:∀ (kvs':LK0) (H6:Hp) (v5':OV),H6 od=some (.dK kvs')->kvs'.length<=kvs.length+2->jq H6 kvs' f->(∀ y,((y=r.1/\tp[i]?=some r.1)\/(cM kvs (.inr y)).isSome=true)->(cM kvs' (.inr y)).isSome=true)->(∀ b u,b≠od->H5 b=some u->H6 b=some u)->
      ∃(kvs:LK0) (v4 v5:OV),([some (.ref a),some (.ref d),some (.ref od),some (.int (0+(i:Int))),some (.str r.1),v5']:L2.St)=[some (.ref a),some (.ref d),some (.ref od),some (.int (0+(i:Int))),v4,v5]/\H6 od=some (.dK kvs)/\kvs.length<=16 * i+2 * (m+1)/\jq H6 kvs f/\(∀ x∈tp.take i,(cM kvs (.inr x)).isSome=true)/\(∀ x∈(nms f).take (m+1),tp[i]?=some x->(cM kvs (.inr x)).isSome=true)/\H6 d=some (.frz o (.dK kvs0))/\∀ b u,b≠od->b≠d->H2 b=some u->H6 b=some u:=fun kvs' H6 v5' h1 h2 h3 h4 h5=>by
     refine⟨kvs',_,_,rfl,h1,by omega,h3,fun x hx=>h4 x (.inr (cov5 x hx)),fun x hx ex=>?_,h5 d _ dod hd5,fun b u hb hb' e=>h5 b u hb (kp5 b u hb hb' e)⟩;rw [take_snoc hm] at hx;rcases cw.mp hx with h | h
     ·exact h4 x (.inr (cur5 x h ex))
     ·have e1:x=r.1:=by
       rw [bj.mp h];rw [ae hm] at hnr;exact ck hnr
      exact h4 x (.inl ⟨e1,e1 ▸ ex⟩)
    rw [ek];refine⟨_,rfl,_,rfl,od,_,rfl,lY.k (k:=.inr r.1) hod5,_,rfl,?_⟩;cases hin:(cM kvs (.inr r.1)).isSome with
    | true=>
     refine bT (bT ?_);exact nxt kvs H5 _ hod5 ‹26› oa5 (fun y h=>h.elim (fun e=>e.1 ▸ hin) id) fun b u _ e=>e
    | false=>
    have kl7:kvs.length<=200:=by omega
    refine bM ⟨_,rfl,_,rfl,d,.ref e,rfl,gd hd5,e,rfl,⟨_,V7 he5⟩,fun D1 hD1=>?_⟩;have s6:∀ u,Same H5 (upd H5 D1 u):=fun u=>We hD1;refine bA (n:=(r.2.map V.str).length) (fun j bs H6=>bs=((r.2.take j).map fun y=>(cM kvs (.inr y)).isSome).map V.bl/\H6=upd H5 D1 (.lst bs)) ⟨rfl,rfl⟩ ?_ ?_;rotate_left
    ·rintro j bs H6 hj ⟨rfl,rfl⟩;have hj':j < r.2.length:=by rw [aa] at hj; exact hj
     have ej:(r.2.map V.str)[j]?=some (.str r.2[j]):=by rw [bg,ae hj']; rfl
     refine⟨⟨_,_,V7 (s6 _ e _ he5),ej⟩,?_⟩;rintro y5 H7 ⟨rfl,yy⟩ σo5 ho5;obtain ⟨o5,rfl⟩:=own1 ho5;have ey5:=yy _ (V7 (s6 _ e _ he5));rw [ej] at ey5;cases ey5;refine⟨‹13›,cg ⟨_,rfl,_,rfl,od,_,rfl,lY.k (k:=.inr r.2[j]) (s6 _ od _ hod5),by rw [aa,aa,bc]; omega,ak,aW hj ‹42›⟩⟩;rw [take_snoc hj',aI,aI];rfl
    rintro bs H6 ⟨rfl,rfl⟩;rw [aw (by rw [aa]; exact ai _)];refine⟨⟨_,V7 (s6 _ e _ he5),ai _⟩,D1,_,rfl,V6 ak,?_⟩;have hod6:=s6 (.lst ((r.2.map fun y=>(cM kvs (.inr y)).isSome).map V.bl)) od _ hod5;have sm6:=s6 (.lst ((r.2.map fun y=>(cM kvs (.inr y)).isSome).map V.bl));generalize upd H5 D1 (.lst ((r.2.map fun y=>(cM kvs (.inr y)).isSome).map V.bl))=H6 at hod6 sm6;have hd6:=sm6 d _ hd5;have he6:=sm6 e _ he5;have oa6:=oa5.mono (V9 sm6);refine⟨_,rfl,?_⟩;cases hall:(r.2.map fun y=>(cM kvs (.inr y)).isSome).all id with
    | false=>
     refine bT (nxt kvs H6 _ hod6 ‹26› oa6 (fun y h=>h.elim (fun⟨_,ex⟩=>?_) id) fun b u _ e=>sm6 b u e)
     exfalso
     obtain ⟨j,h1,h2⟩:=t2 r hr' (eI ex);have ej:=sU t0 ex h1;subst ej
     have:(r.2.map fun y=>(cM kvs (.inr y)).isSome).all id=true:=by
      rw [lr,cz];exact fun y hy=>cov5 y (h2 y hy)
     rw [this] at hall;cases hall
    | true=>
    rw [lr,cz] at hall;have hall:∀ y∈r.2,(cM kvs (.inr y)).isSome=true:=hall
    have hx:Pl f r.1:=.mk hr' fun y hy=>by
     obtain ⟨v,hv⟩:=fN.mp (hall y hy);exact(oa6 y v hv).1
    refine bM ⟨_,rfl,_,rfl,d,.ref e,rfl,gd hd6,e,rfl,⟨_,V7 he6⟩,fun D2 hD2=>?_⟩;have s7:∀ u,Same H6 (upd H6 D2 u):=fun u=>We hD2;refine bA (n:=(r.2.map V.str).length) (fun j ys H7=>Paired (fun(v:V) (y:Str)=>yR H6 f y v) ys (r.2.take j)/\H7=upd H6 D2 (.lst ys)) ⟨.nil,rfl⟩ ?_ ?_;rotate_left
    ·rintro j ys H7 hj ⟨pr,rfl⟩;have hj':j < r.2.length:=by rw [aa] at hj; exact hj
     have ej:(r.2.map V.str)[j]?=some (.str r.2[j]):=by rw [bg,ae hj']; rfl
     refine⟨⟨_,_,V7 (s7 _ e _ he6),ej⟩,?_⟩;rintro y5 H8 ⟨rfl,yy⟩ σo5 ho5;obtain ⟨o5,rfl⟩:=own1 ho5;have ey5:=yy _ (V7 (s7 _ e _ he6));rw [ej] at ey5;cases ey5;obtain ⟨v,hv⟩:=fN.mp (hall r.2[j] (bS hj'));refine⟨‹13›,cg ⟨_,rfl,_,rfl,od,v,rfl,.inl ⟨kvs,.inr r.2[j],.inl (s7 _ od _ hod6),rfl,hv.symm⟩,by rw [cE pr,bc]; omega,ak,aW hj ‹42›⟩⟩;rw [take_snoc hj'];exact dY pr (oa6 _ _ hv).2
    rintro ys H7 ⟨pr,rfl⟩;rw [aa,aw (ai _)] at pr;refine⟨⟨_,V7 (s7 _ e _ he6),ai _⟩,?_⟩;have hod7:=s7 (.lst ys) od _ hod6;have hD27:(upd H6 D2 (.lst ys)) D2=some (.lst ys):=ak;have sm7:=s7 (.lst ys);generalize upd H6 D2 (.lst ys)=H7 at hod7 sm7 hD27;obtain ⟨p1,p2,p3⟩:=Nk (V4 pr fun v y (h:yR H6 f y v)=>h.mono (V9 sm7))
    have tuP:∀ {Ha:Hp} {kv':LK0} {kv2:LK0},Ha od=some (.dK kv')->dH Ha (upd Ha od (.dK kv2)):=fun {Ha kv' kv2} h c zs e'=>by
     rw [aA (eG e' h ‹11›)];exact e'
    have oa7:=oa6.mono (V9 sm7);have lp:=fU kvs (.inr r.1) V.non;refine⟨_,rfl,_,rfl,od,_,rfl,tD.k (k:=.inr r.1) hod7 ‹26›,?_⟩
    have hD28:(upd H7 od (.dK (putK kvs (.inr r.1) .non))) D2=some (.lst ys):=by
     rw [aA (eG hD27 hod7 ‹11›)];exact hD27
    have kp8:∀ b u,b≠od->H7 b=some u->(upd H7 od (.dK (putK kvs (.inr r.1) .non))) b=some u:=fun b u hb e'=>by rw [aA hb]; exact e'
    have hod8:(upd H7 od (.dK (putK kvs (.inr r.1) .non))) od=some (.dK (putK kvs (.inr r.1) .non)):=ak;have tu8:dH H7 (upd H7 od (.dK (putK kvs (.inr r.1) .non))):=tuP hod7;generalize upd H7 od (.dK (putK kvs (.inr r.1) .non))=H8 at hD28 kp8 hod8 tu8;refine⟨_,rfl,D2,ys,rfl,rfl,V6 hD28,fun z hz=>?_,?_⟩
    ·rcases p1 z hz with h | ⟨b,zs,h1,h2⟩
     ·exact .inl h
     ·exact .inr ⟨b,zs,h1,tu8 b _ h2⟩
    by_cases hnon:V.non∈ys
    ·refine⟨_,rfl,eU (by simp [hnon]) ?_⟩;refine nxt _ H8 _ hod8 ‹26› ((oa7.put hx (.inl ⟨?_,rfl⟩)).mono tu8) (fun y h=>yS (h.imp (·.1) id)) fun b u hb e'=>kp8 b u hb (sm7 b u (sm6 b u e'));rw [yP gf hr' hx,cK (fun h=>p3 hnon (cz.mp h))]
    ·obtain ⟨rt,hs⟩:=p2 hnon;have hd8:=kp8 d _ dod (sm7 d _ hd6);have he8:=kp8 e _ (eG (sm7 e _ he6) hod7 ‹11›) (sm7 e _ he6);obtain ⟨q1,q2⟩:=Hw gf hr' hx;have hyl:ys.length=r.2.length:=cE pr;refine⟨_,rfl,eO (by simp [hnon]) ?_⟩;refine⟨_,rfl,_,rfl,_,rfl,_,rfl,d,.ref e,rfl,gd hd8,by show 1<=sizeLine; decide,fun p hp=>?_⟩;have s9:Same H8 (upd H8 p (.lst [.ref e])):=We hp;refine⟨D2,p,ys,[.ref e],rfl,rfl,s9 D2 _ hD28,ak,by show ys.length+1<=sizeLine; omega,fun q hq=>?_⟩;have s10:=s9.trans (We (o:=.lst (ys++[.ref e])) hq);have hod10:=s10 od _ hod8;refine⟨r.1,q,ys++[.ref e],cu (jU f) r.2,rfl,ak,dY ((rt.mono tu8).mono (V9 s10)) ⟨e,rfl,s10 e _ he8⟩,by omega,by omega,fun v m H11 hM hres s11=>?_⟩;have sm11:=s10.trans s11;have hod11:=sm11 od _ hod8;have lp2:=fU (putK kvs (.inr r.1) .non) (.inr r.1) v;refine⟨_,rfl,_,rfl,od,_,rfl,tD.k (k:=.inr r.1) hod11 ‹26›,?_⟩;have tu12:dH H11 (upd H11 od (.dK (putK (putK kvs (.inr r.1) .non) (.inr r.1) v))):=tuP hod11;refine nxt _ _ _ ak ‹26› (((((oa7.mono tu8).mono (V9 sm11)).put2 hx ?_)).mono tu12) (fun y h=>yS (.inr (yS (h.imp (·.1) id)))) fun b u hb e'=>by rw [aA hb]; exact sm11 b u (kp8 b u hb (sm7 b u (sm6 b u e')))
     have eo:=yP gf hr' hx;rw [dE (cz.mpr hs),qw hM] at eo;cases m with
     | none=>exact .inl ⟨eo,hres⟩
     | some os=>
      obtain ⟨q3,e1,e2⟩:=hres;exact .inr ⟨r.1::os,q3,eo,e1,e2⟩
   ·rintro σ H5 ⟨kvs,v4,v5,rfl,hod5,kl5,oa5,cov5,cur5,hd5,kp5⟩;refine⟨kvs,_,_,_,rfl,hod5,by omega,oa5,fun x hx=>?_,.inr ⟨o,hd5⟩,kp5⟩
    by_cases hil:i < tp.length
    ·rw [take_snoc hil] at hx;rcases cw.mp hx with h | h
     ·exact cov5 x h
     ·refine cur5 x ?_ (by rw [ae hil,bj.mp h]);rw [aw ‹26›];exact T.sub x (bj.mp h ▸ bS hil)
    ·refine cov5 x ?_;rw [aw ‹26›] at hx;rw [aw ‹26›];exact hx
  ·rintro σ H3 ⟨kvs,v3,v4,v5,rfl,hod3,kl3,oa3,cov3,hd3,kp3⟩;refine⟨_,rfl,k od kvs H3 hodH hod3 oa3 (fun x hx=>cov3 x ?_) fun b u e=>kp3 b u (au e hodH) (au e hd) (sm2 b u e)⟩;rw [aw ‹26›];exact t1 x hx
def UnD(m:Nat)(d:PyData):Prop:=∃ ns:LS,d=.tuple (ns.map .str)/\ns.length<=m/\(∀ x∈ns,Nm x)/\ns.Nodup
inductive Cp (vs:LV) (H:Hp) (Q:VK) (E_:XK):Prop
 | mk (v:V) (d:PyData) (m:Int):vs=[v,.int m]->RdV H v d->Q (.bl (dcd (∃ n,d=.int n/\m<=n))) H->Cp vs H Q E_
theorem Jb(D:Defs K mg t):cA P w K mg base CX0 1 t.gP.1 t.gP.2 ["_law_thing_here","_law_least"] Cp:=by
 refine D.gP.fn.ok wX ‹7› ‹1›
 ·obtain ⟨v,d,m,rfl,_⟩:=h;rfl
 ·obtain ⟨v,d,m,rfl,rd,k⟩:=h;refine⟨_,(aF (aL (iG (aH bf (by rfl) D.aX aQ (aj (pv 0) (aj (cF (v:=V.ty "int") rfl D.Bd wC rfl) aq))) (iG (M4 (aH bf (by rfl) D.aX aQ (aj (pv 0) (aj (cF (v:=V.ty "bool") rfl D.Ea yF rfl) aq)))) (jP (dO Mp (pv 0) (pv 1) (bh _))))))),?_⟩;refine⟨_,rfl,_,_,_,isIn d,rfl,rd.ty,Pb N0 d,_,rfl,?_⟩
  have nw:isW d=false->Q (.bl false) H:=fun h=>by
   rw [bD (fun⟨n,e,_⟩=>by rw [e] at h; cases h)] at k;exact k
  cases d with
  | int n=>
   refine bM ⟨_,rfl,_,_,_,M5 (.int n),rfl,rd.ty,GR N0 (.int n),_,rfl,_,rfl,bM ?_⟩;obtain rfl:=K09.E.RdV.oN rd;refine⟨_,rfl,_,rfl,_,_,rfl,rfl,?_⟩;show Q (.bl (decide (n ≥ m))) H
   by_cases h:n ≥ m
   ·rw [dR ⟨n,rfl,h⟩] at k;rw [bo h];exact k
   ·rw [bD (fun⟨a,e,h'⟩=>by injection e with e; exact h (by rw [e]; exact h'))] at k;rw [bE h];exact k
  | bool b=>exact bM ⟨_,rfl,_,_,_,M5 (.bool b),rfl,rd.ty,GR N0 (.bool b),_,rfl,_,rfl,bT (nw rfl)⟩
  | none=>exact bT (nw rfl)
  | str x=>exact bT (nw rfl)
  | list xs=>exact bT (nw rfl)
  | tuple xs=>exact bT (nw rfl)
  | dict kvs=>exact bT (nw rfl)
theorem zZ(D:Defs K mg t):cA P w K mg base CX0 1 t.iD.1 t.iD.2 ["_law_thing_here"] Dt:=by
 exists 5;refine D.iD.fn.ok zL ‹7› ‹1›
 ·exists 17
 ·obtain ⟨v,d,rfl,rd,g,k⟩:=h
  refine⟨_,(aB (bO (V5 (gK (cL (bZ (aH bf (by rfl) D.aX aQ (aj (pv 0) (aj (cF (v:=V.ty "str") rfl D.Ad vZ rfl) aq))))) (gk (cL (rT qK qK aC (aH jZ (by rfl) D.cI bQ ‹36›) aC)))))
   (aF (aL fO))
   aU)
   (aF (aL (aH (cW rfl) (by rfl) D.jL iw (aj (bI rfl (Wf ["_law_sign"] [] ["_law_sign"] (aG (top 49)) ["_law_thing_here"] rfl rfl ‹5›) ⟨fun _ _ _ _ _=>(aN (i:=0) (show List.Nodup [("_law_sign" : Str)] by decide +kernel) rfl ‹24› ‹17›),fun _ _ _ _ _=>bJ,fun _ _ _ _ _=>(dO KQ (pv 0) dG ‹29›)⟩ (Dw (pv 0))) aq))))),?_⟩
  refine⟨_,rfl,_,_,_,wQ d,rfl,rd.ty,Fi N0 d,_,rfl,?_⟩;cases hb:wQ d with
  | false=>
   have kf:=k H (V8 H);rw [bD (fun⟨x,e,_⟩=>by rw [e] at hb; cases hb)] at kf;exact bM (bM kf)
  | true=>
   obtain ⟨x,rfl⟩:=Cv hb;obtain rfl:=rd.jm;rw [gs] at g
   have nf:¬ (1<=x.length/\x.length<=6)->Q (.bl false) H:=fun h=>by
    have kf:=k H (V8 H);rw [bD (fun⟨y,e,n1,n2,_⟩=>by injection e with e; rw [<- e] at n1 n2; exact h ⟨n1,n2⟩)] at kf;exact kf
   refine bT ⟨_,rfl,x,rfl,by omega,_,_,rfl,rfl,_,rfl,?_⟩
   by_cases h1:1<=x.length
   ·refine eO (bo ‹26›) ⟨_,_,rfl,rfl,_,rfl,?_⟩
    by_cases h6:x.length<=6
    ·refine eU (by rw [bo (show (x.length:Int)<=6 by omega)]; exact aS) ?_;refine⟨_,rfl,x,rfl,g.2,fun Dd hD=>?_⟩;refine bA (n:=x.length) (fun i ys H2=>ys=((x.cps.toList.take i).map fun c=>decide (c∈abc.cps.toList)).map V.bl/\H2=upd H Dd (.lst ys)) ⟨rfl,rfl⟩ ?_ ?_
     ·rintro ys H2 ⟨rfl,rfl⟩;rw [aw (by rw [fE]; exact ai _)];refine⟨ai _,Dd,_,rfl,V6 ak,?_⟩;rw [uf];have kf:=k _ (We (o:=.lst ((x.cps.toList.map fun c=>decide (c∈abc.cps.toList)).map V.bl)) hD);rw [kW (q:=Lw x) ⟨fun⟨y,e,_,_,n3⟩=>by injection e with e; rw [e]; exact n3,fun l=>⟨x,rfl,h1,h6,l⟩⟩] at kf;exact kf
     ·rintro i ys H2 hi ⟨rfl,rfl⟩;refine⟨hi,?_⟩;rintro y H3 ⟨rfl,c,ec,rfl⟩ σo ho;exists 15;have ec':x.cps[i]?=some c:=ec;refine⟨‹13›,cg ⟨_,rfl,c,abc,rfl,rfl,by rw [aa,aa,bc]; omega,ak,aW hi ‹42›⟩⟩;rw [jS,kG,ec',aI,aI];rfl
    ·refine eO (by rw [bE (show ¬ (x.length:Int)<=6 by omega)]; rfl) (nf fun h=>h6 h.2)
   ·refine eU (by rw [bE (show ¬ (1:Int)<=(x.length:Int) by omega)]; exact aS) ?_;exact⟨_,rfl,bM (nf fun h=>h1 h.1)⟩
inductive Bg (vs:LV) (H:Hp) (Q:VK) (E_:XK):Prop
 | mk (v:V) (d:PyData) (m:Nat):vs=[v,.int m]->RdV H v d->gs d->m<=100->(∀ H',Same H H'->Q (.bl (dcd (UnD m d))) H')->Bg vs H Q E_
theorem Hr(D:Defs K mg t):cA P w K mg base CX0 2 t.fV.1 t.fV.2 ["_law_thing_here","_law_most"] Bg:=by
 have Gab:=@zZ P w K mg base t D;exists 5;refine D.fV.fn.ok vO ‹7› ‹1›
 ·obtain ⟨v,d,m,rfl,_⟩:=h;rfl
 ·obtain ⟨v,d,m,rfl,rd,g,hm,k⟩:=h;have kf:∀ {H'},Same H H'->¬ UnD m d->Q (.bl false) H':=fun s h=>by have:=k _ s; rw [bD h] at this; exact this
  refine⟨_,(aB (bO (V5 (gK (cL (bZ ‹4›)) (gK (aY n6 ‹15› (pv 1) (bh _)) (gk (cL (bZ (aH (cW rfl) (by rfl) D.jL iw (aj (bI rfl (Wf ["_law_one"] [] ["_law_one"] (aG (top 50)) ["_law_thing_here","_law_most"] rfl rfl ‹5›) ⟨fun _ _ _ _ _=>(aN (i:=0) (show List.Nodup [("_law_one" : Str)] by decide +kernel) rfl ‹24› ‹17›),fun _ _ _ _ _=>bJ,fun _ _ _ _ _=>(aD D.iD Gab ‹2› (by rfl) ‹36›)⟩ (bW (pv 0))) aq))))))))
   (aF (aL fO))
   aU)
   (aF (aL (dO gq (aH iK (by rfl) D.cI bQ (aj (bG (mK rfl) (by rfl) D.xK sW ‹36›) aq)) ‹15› (bh _))))),?_⟩
  exists 8;cases hb:iZ d with
  | false=>exact bM (bM (kf (V8 H) fun⟨es,e,_⟩=>by rw [e] at hb; cases hb))
  | true=>
   exists 7;refine bT ⟨_,rfl,b,_,rfl,.inr (V7 hb'),_,rfl,_,_,rfl,rfl,_,rfl,?_⟩
   by_cases hlen:ds.length > m
   ·refine eO (bo (show (xs.length:Int) > m by omega)) (bM (kf (V8 H) ?_));rintro ⟨es,e,h3,_⟩;exists 10;rw [e,aa] at hlen;omega
   ·refine eU (by rw [bE (show ¬ ((xs.length:Int) > m) by omega)]; exact aS) ?_;refine⟨_,rfl,b,rfl,⟨_,V7 hb'⟩,fun Dd hD=>?_⟩;refine bA (n:=xs.length) (fun i ys H2=>ys=((ds.take i).map fun d=>dcd (NmD d)).map V.bl/\H2 Dd=some (.lst ys)/\Same H H2) ⟨rfl,ak,We hD⟩ ?_ ?_
    ·rintro ys H2 ⟨rfl,hD2,s2⟩;rw [aw ‹26›] at hD2;refine⟨⟨_,V7 (s2 b _ hb'),ai _⟩,Dd,_,rfl,V6 hD2,_,rfl,?_⟩;have am:=all_map (Pd:=NmD) (f:=PyData.str) (ok:=Nm) (fun d=>Iff.rfl) (ds:=ds);cases hall:(ds.map fun d=>dcd (NmD d)).all id with
     | false=>
      refine bM (kf s2 ?_);rintro ⟨es,e,h3,hn,nd⟩;exists 10;rw [am.mpr ⟨es,e,hn⟩] at hall;cases hall
     | true=>
      obtain ⟨es,rfl,hn⟩:=am.mp hall;obtain rfl:=rl.jx;have hel:es.length<=m:=by rw [aa] at hlen; omega
      refine bT ⟨_,rfl,b,es,rfl,.inr (V7 (s2 b _ hb')),by omega,fun sd hsd=>?_⟩;refine⟨sd,_,rfl,ak,_,rfl,b,_,rfl,.inr (V7 (We hsd b _ (s2 b _ hb'))),?_⟩;rw [aa];have fin:=k _ (s2.trans (We (o:=HN P w sd (un es es.length)) hsd))
      by_cases nd:es.Nodup
      ·rw [dR ⟨es,rfl,hel,hn,nd⟩] at fin;refine⟨rfl,?_⟩;rw [bo (by rw [(mq es).mpr nd])];exact fin
      ·rw [bD (fun⟨fs,e,_,_,n⟩=>by injection e with e; rw [rW e] at nd; exact nd n)] at fin;refine⟨rfl,?_⟩;rw [bE (fun z=>by injection z with z; exact nd ((mq es).mp ‹26›))];exact fin
    ·rintro i ys H2 hi ⟨rfl,hD2,s2⟩;have hil:i < ds.length:=by omega
     obtain ⟨y,ey,ry⟩:=rl.get (ae hil);exists 3;have g':gsA ds:=by rw [gs] at g; exact g
     refine⟨‹13›,cg ⟨_,rfl,y,ds[i],rfl,ry.bH s2,lK g' i hil,fun H4 s4=>⟨by rw [aa,aa,bc]; omega,s4 Dd _ hD2,aW hi ‹34›⟩⟩⟩
     ·rw [take_snoc hil,aI,aI];rfl
     ·rw [aA (au z hD)];exact s4 c _ (s2 c _ z)
end
end K09.E
end
section
namespace L2
open PySem PySem.Spec PyProof.Rows SeqAt
variable {a:ut}{kvs:LK0}{xs:LV}{d:PyData}{v:V}{u:sr}{X:Cx}
theorem oZ(l:ut)(es:Array Hm)(ep:Nat)(b:Str)(u:Tok) :
  Meets (uB.«dict.__eq__» ⟨[.ref l,.str b u],[]⟩) (fun _ R s=>s.heap.get? l=some { cls:=.type "dict",data:=.dict es ep }/\R (.ok (.ret .notImplemented)) s):=
 .of_wp fun prog w A R s h=>by obtain ⟨hp,g,d,tk,os⟩:=s; obtain ⟨hl,h⟩:=h; have f1:=F.sub_str_dict; wp_walk using i8 hl; exact⟨_,rfl,h⟩
theorem oX(b:Str)(u:Tok)(l:ut)(es:Array Hm)(ep:Nat) :
  Meets (uB.«str.__eq__» ⟨[.str b u,.ref l],[]⟩) (fun _ R s=>s.heap.get? l=some { cls:=.type "dict",data:=.dict es ep }/\R (.ok (.ret .notImplemented)) s):=
 .of_wp fun prog w A R s h=>by obtain ⟨hp,g,d,tk,os⟩:=s; obtain ⟨hl,h⟩:=h; wp_walk using i8 hl; exact⟨_,rfl,h⟩
theorem nP(l b:ut)(es:Array Hm)(ep:Nat)(items:AV)(n:Nat)(dd:Option ut)(sl:Array (Option sr)) :
  Meets (uB.«dict.__eq__» ⟨[.ref l,.ref b],[]⟩) (fun _ R s=>s.heap.get? l=some { cls:=.type "dict",data:=.dict es ep }/\s.heap.get? b=some { cls:=.type "tuple",dict:=dd,data:=.seq items n,slots:=sl }/\R (.ok (.ret .notImplemented)) s):=
 .of_wp fun prog w A R s h=>by obtain ⟨hp,g,d,tk,os⟩:=s; obtain ⟨hl,hb,h⟩:=h; have f1:=F.sub_tuple_dict; wp_walk using i8 hl,i8 hb; exact⟨_,rfl,h⟩
theorem nG(b l:ut)(items:AV)(n:Nat)(dd:Option ut)(sl:Array (Option sr))(es:Array Hm)(ep:Nat) :
  Meets (uB.«tuple.__eq__» ⟨[.ref b,.ref l],[]⟩) (fun _ R s=>s.heap.get? l=some { cls:=.type "dict",data:=.dict es ep }/\s.heap.get? b=some { cls:=.type "tuple",dict:=dd,data:=.seq items n,slots:=sl }/\R (.ok (.ret .notImplemented)) s):=
 .of_wp fun prog w A R s h=>by obtain ⟨hp,g,d,tk,os⟩:=s; obtain ⟨hl,hb,h⟩:=h; have f1:=F.sub_dict_tuple; wp_walk using i8 hl,i8 hb; exact⟨_,rfl,h⟩
def Fd(h:Heap)(l:ut):Prop:=∃ es ep,h.get? l=some { cls:=.type "dict",data:=.dict es ep }
section
variable {A:xf}{s:ue}
theorem wR{l:ut}(b:Str)(u:Tok)(hl:Fd s.heap l)(hu:A.units < cLine):RcAt A s (.ref l) (.str b u) false:=fun prog w E Q h=>by
 obtain ⟨es,ep,ho⟩:=hl
 exact rc_eq_decline_or (k:=false) ⟨_,ho,rfl⟩ (rL s b u) ‹6› F.sub_str_dict my F.slot_str_eq_refl
  (fun _ hq=>nS my ⟨_,ho,rfl⟩ F.entry_dict_eq (VH _ _) (oZ l es ep b u) ⟨ho,hq⟩)
  (fun _ hq=>nS F.slot_str_eq_refl (rL s b u) F.entry_str_eq (F.args_str_eq_2 _ _) (oX b u l es ep) ⟨ho,hq⟩)
  (fun _ hq=>jI (rfl:isSame (.ref l) (.str b u)=Hn false) hq) (.inr hu) h
theorem wV{l:ut}(b:Str)(u:Tok)(hl:Fd s.heap l)(hu:A.units < cLine):EqAt A s (.ref l) (.str b u) false:=fun prog w E Q h=>by
 unfold eqBool;refine eL ?_;refine qB (fun hab=>absurd (eq_of_beq hab) nofun) (fun _=>?_);exact af (wR b u hl hu prog w E _ (gL h))
theorem uL{l b:ut}{items2:AV}(hl:Fd s.heap l)(hb:s.heap.IsTuple b items2)(hu:A.units < cLine):RcAt A s (.ref l) (.ref b) false:=fun prog w E Q h=>by
 obtain ⟨es,ep,ho⟩:=hl
 have hne:l≠b:=fun e=>by
  subst e;obtain ⟨o2,ho2,hc2,_⟩:=hb;rw [ho] at ho2;cases ho2;exact absurd hc2 ‹45›
 obtain ⟨⟨cls2,dd2,data2,sl2⟩,ho2,hc2,n2,hd2⟩:=id hb;simp only at hc2 hd2;subst hc2 hd2
 exact(rc_eq_decline_or (k:=false) ⟨_,ho,rfl⟩ ⟨_,ho2,rfl⟩ ‹6› F.sub_tuple_dict my F.slot_tuple_eq_refl
  (fun _ hq=>nS my ⟨_,ho,rfl⟩ F.entry_dict_eq (VH _ _) (nP l b es ep items2 n2 dd2 sl2) ⟨ho,ho2,hq⟩)
  (fun _ hq=>nS F.slot_tuple_eq_refl ⟨_,ho2,rfl⟩ F.entry_tuple_eq (F.args_tuple_eq_2 _ _) (nG b l items2 n2 dd2 sl2 es ep) ⟨ho,ho2,hq⟩)
  (fun _ hq=>wpAny_isSame_ref_other hne ho ho2 ‹45› hq) (.inr hu) h)
end
section
variable {X:Cx}{pins:LO}{σ:St}{H:Hp}{s:ue}
theorem K4(I:Inv X pins σ H s)(h:H a=some (.dK kvs)):Fd s.heap a:=by
 obtain ⟨_,_,_,_,o,es,ep,ho,⟨e1,e2,e3⟩,hd,_⟩:=(show cT X.prog X.w H s.heap a (.dK kvs) from I.hok a _ h);refine⟨es,ep,?_⟩;rw [ho];obtain ⟨c,d,dt,sl⟩:=o;cases e1;cases e2;cases e3;cases hd;rfl
theorem tL(I:Inv X pins σ H s)(h:H a=some (.lst xs)):∃ its:LU,Vals xs its/\s.heap.IsList a its.toArray:=by
 obtain ⟨its,r,p,_⟩:=I.list (V6 h);exact⟨its,r,p.isList⟩
theorem IW(I:Inv X pins σ H s)(A:xf)(hu:A.units < cLine)(rd:RdV H v d)(r:RelV v u)(x:Str)(t:Tok):EqAt A s u (.str x t) (dcd (d=.str x)):=by
 cases rd with
 | non=>cases r; rw [bD ‹43›]; exact EqAt.none_str x t
 | bl b=>cases r; rw [bD ‹43›]; exact EqAt.bool_str b x t
 | int i=>obtain ⟨t',rfl⟩:=r; rw [bD ‹43›]; exact EqAt.int_str i t' x t
 | str y=>
  obtain ⟨t',rfl⟩:=r
  have e:dcd (PyData.str y=.str x)=(y == x):=by
   symm;apply rA;rw [kA];exact⟨fun h=>by rw [h],fun h=>by injection h⟩
  rw [e];exact EqAt.str_str y t' x t
 | tup h _=>
  obtain ⟨its,_,p⟩:=iy I h;cases r;rw [bD ‹43›];exact EqAt.tuple_str x t p hu
 | lst h _=>
  obtain ⟨its,_,p⟩:=tL I h;cases r;rw [bD ‹43›];exact EqAt.list_str x t p hu
 | dct h _=>
  cases r;rw [bD ‹43›];exact wV x t (K4 I h) hu
end
inductive RV (x:V) (y:V) (H:Hp) (Q:VK):Prop
 | mk (d:PyData) (b:ut) (o:LS):y=.ref b->RdV H x d->H b=some (.tup (o.map V.str))->Q (.bl (dcd (d=.tuple (o.map .str)))) H->RV x y H Q
theorem QK(hu:X.A.units+10 < cLine):OpR X (xN .Eq) RV:=by
 exists 6;obtain ⟨d,b,o,rfl,rd,hb,q⟩:=h;cases ry;obtain ⟨its2,r2,p2⟩:=iy I hb;have hu0:X.A.units < cLine:=by omega
 have no:¬ d=.tuple (o.map .str)->RcAt X.A s v (.ref b) false->uv ‹9› X.A (xN .Eq v (.ref b)) (EP X pins σ Q) X.xe s:=fun hn key=>by
  rw [bD hn] at q;exact key X.prog X.w X.xe _ ⟨.bl _,H,I,rfl,q⟩
 cases rd with
 | non=>cases rx; exact no ‹43› (RcAt.none_tuple p2 hu0)
 | bl c=>cases rx; exact no ‹43› (RcAt.bool_tuple c p2 hu0)
 | int i=>obtain ⟨t,rfl⟩:=rx; exact no ‹43› (RcAt.int_tuple i t p2 hu0)
 | str y=>obtain ⟨t,rfl⟩:=rx; exact no ‹43› (RcAt.str_tuple y t p2 hu0)
 | lst h _=>
  obtain ⟨its,_,p⟩:=tL I h;cases rx;exact no ‹43› (RcAt.list_tuple p p2 hu0)
 | dct h _=>
  cases rx;exact no ‹43› (uL (K4 I h) p2 hu0)
 | @tup a xs ds ha rl=>
  obtain ⟨its,r,p⟩:=iy I ha;cases rx;have l1:=r.length;have l2:=r2.length;have n1:=rl.length;rw [aa] at l2
  have key:=RcAt.tuples (A:=X.A) (s:=s) (e:=fun j=>dcd (ds[j]?=(o.map PyData.str)[j]?)) p p2 ‹26› (fun j h1 h2=>by
   have h1':j < its.length:=by simpa using h1
   have h2':j < its2.length:=by simpa using h2
   have j1:j < ds.length:=by omega
   have j2:j < o.length:=by omega
   obtain ⟨v1,e1,rv1⟩:=rl.get (ae j1);obtain ⟨w1,k1,m1⟩:=r.get e1;obtain ⟨w2,k2,t2,m2⟩:=r2.get (i:=j) (x:=.str o[j]) (by rw [bg,ae j2]; rfl)
   have e3:its.toArray[j]=w1:=by
    have:its.toArray[j]?=some w1:=by simpa using k1
    rw [eW h1] at this;exact ck this
   have e4:its2.toArray[j]=w2:=by
    have:its2.toArray[j]?=some w2:=by simpa using k2
    rw [eW h2] at this;exact ck this
   rw [e3,e4,m2];have:=IW I X.A.in1 (by show X.A.units+1 < cLine; omega) rv1 m1 o[j] t2;rw [ae j1,bg,ae j2];have e5:dcd (some ds[j]=Option.map PyData.str (some o[j]))=dcd (ds[j]=.str o[j]):=kW ⟨fun h=>ck h,fun h=>by rw [h]; rfl⟩;rw [e5];exact this)
  have ee:((List.range (min its.toArray.size its2.toArray.size)).all (fun j=>dcd (ds[j]?=(o.map PyData.str)[j]?)) && its.toArray.size == its2.toArray.size)=dcd (PyData.tuple ds=.tuple (o.map .str)):=by
   apply rA;rw [eK,cz,kA];constructor
   ·rintro ⟨h1,h2⟩;have h2:its.length=its2.length:=by simpa using h2
    congr 1;apply me;intro j
    by_cases hj:j < ds.length
    ·exact lQ.mp (h1 j (fR.mpr (by simp; omega)))
    ·rw [fc ‹26›,fc (by rw [aa]; omega)]
   ·intro h;injection h with h;refine⟨fun j _=>dR (by rw [h]),?_⟩;have:=congrArg List.length h;rw [aa] at this;have:its.length=its2.length:=by omega
    simpa using this
  rw [ee] at key;exact key X.prog X.w X.xe _ ⟨.bl _,H,I,rfl,q⟩
end L2
end
section
namespace L2
open PySem PySem.Spec PyProof.Rows
variable {X:Cx}{K:PySem.W.Frag}{id:String}
inductive RX (x:V) (vs:LV) (H:Hp) (Q:VK):Prop
 | mk (d:ut) (kvs:LK0) (k:Key):x=.ref d->vs=[kV k]->H d=some (.dK kvs)->Q ((cM kvs k).getD .non) H->RX x vs H Q
theorem JV:MtM X "dict.get" RX:=by
 intro pins s σ H x vs v us Q I rx rv h;obtain ⟨d,kvs,k,rfl,rfl,hd,q⟩:=h;cases rx;obtain ⟨u,rfl,ru⟩:=rv.one;obtain ⟨_,hs,vs,rel,dd⟩:=(show cT X.prog X.w H s.heap d (.dK kvs) from I.hok d _ hd);refine call_meetsIn F.slot_dict_get dd.typeIs F.entry_dict_get (F.args_dict_get_2 _ _) (meets_dict_get (bU X.prog X.w) d (uh ru) hs) ⟨_,dd.mapOf,?_⟩;refine⟨(cM kvs k).getD .non,H,I.tok _,?_,q⟩;have:=rel.val k;cases h:cM kvs k with
 | none=>
  rw [h] at this;cases h2:Vr vs k with
  | none=>rfl
  | some w=>rw [h2] at this; exact this.elim
 | some v=>
  rw [h] at this;cases h2:Vr vs k with
  | none=>rw [h2] at this; exact this.elim
  | some w=>rw [h2] at this; exact this
theorem Om{o e:Expr}{es:List Expr}{to:TE}{t:TA}{name:Str}{apos cpos:Pos}{T:String}{r:V->LV->Hp->VK->Prop}(hK:X.K=K)(pa:PlainAttrs T)(slot:Slot T name id)(hty:typeOf (.builtin id)=Hn (.type "method_descriptor"))(hm:MtR X id r)(ho:PE X o to)(ha:PA X (e::es) t)
  (hbase:UV o name X.env (eval o X.env)=eval o X.env:=by rfl)
  (hfew:((NB cpos (xx (e::es) X.env)).all (fun x=>!x.1) && (backToKw cpos (keywordEach [] X.env)).all (fun x=>x.1.isSome) && decide ((e::es).length+([]:List Vq).length+(if ([]:List Vq).isEmpty then 0 else 1) < 30))=true:=by rfl)
  (hline:(apos.endLine == cpos.line)=true:=by rfl) (hs:xx (e::es) X.env=(false,eval e X.env)::xx es X.env:=by rfl) (hplain:(NB cpos (xx es X.env)).any (·.1)=false:=by rfl):PE X (.Call (.Attribute o name apos) (e::es) [] cpos) (tBM K T r to t):=by
 subst hK;exact pB pa slot hty hm ho ha hbase hfew hline hs hplain
end L2
end
section
namespace K09.E
open PySem PyProof.Rows L2
def Dk:List (PyData × PyData)->Bool
 | []=>true
 | [(.str _,.int _)]=>true
 | _=>false
mutual
def br:PyData->Nat
 | .list xs | .tuple xs=>max xs.length (brA xs)
 | .dict kvs=>if Dk kvs=true then brK kvs else 100
 | _=>0
def brA:LP->Nat
 | []=>0
 | d::ds=>max (br d) (brA ds)
def brK:List (PyData × PyData)->Nat
 | []=>0
 | (_,v)::r=>max (br v) (brK r)
end
theorem mj{n:Nat}:∀ {ds:LP},brA ds<=n↔∀ d∈ds,br d<=n
 | []=>by simp [brA]
 | d::ds=>by
  rw [brA,kC,mj];simp
def zq(d:PyData):Prop:=∃ q:S6,d=six q/\NmD q.a/\UnD 7 q.b/\sO q
theorem Ld:∀ {qs:List S6},(∀ q∈qs,NmD q.a/\UnD 7 q.b/\sO q)->∃ f:Fam,qs.map two=f.map jT/\∀ r∈f,Ao r/\r.2.length<=7
 | [],_=>⟨[],rfl,(fun r h=>nomatch h)⟩
 | q::qs,h=>by
  obtain ⟨f,e,hf⟩:=Ld fun p hp=>h p (cr _ hp);obtain ⟨⟨x,ex,nx⟩,⟨es,ee,el,en,nd⟩,_⟩:=h q bn;refine⟨(x,es)::f,?_,fun r hr=>?_⟩
  ·rw [de,de,e,two,ex,ee];rfl
  ·rcases bz.mp hr with rfl | hr
   ·exact⟨⟨nx,en,nd⟩,el⟩
   ·exact hf r hr
def vX(f:Fam)(q:S6):Prop:=∃ x o,q.a=.str x/\Pl f x/\jU f x=some o/\q.c=.tuple (o.map .str)
section
variable {P:uC}{w:ww}{K:PySem.W.Frag}{mg:MG}{base:Heap}{t:Adr}
inductive CK (vs:LV) (H:Hp) (Q:VK) (E_:XK):Prop
 | mk (v:V) (d:PyData):vs=[v]->RdV H v d->gs d->wt d<=20000->br d<=62->(∀ H',Same H H'->Q (.bl (dcd (zq d))) H')->CK vs H Q E_
inductive Kd (vs:LV) (H:Hp) (Q:VK) (E_:XK):Prop
 | mk (v:V) (d:PyData):vs=[v]->RdV H v d->gs d->wt d<=20000->br d<=62->(∀ H',Same H H'->Q (.bl (dcd (IsT d))) H')->Kd vs H Q E_
theorem Rk(D:Defs K mg t)(Gb:cA P w K mg base CX0 3 t.jw.1 t.jw.2 ["_law_row_here"] CK):cA P w K mg base CX0 4 t.ju.1 t.ju.2 ["_law_thing_here"] Kd:=by
 have Gak:=@xM P w K mg base t D;exists 5;refine D.ju.fn.ok lM ‹7› ‹1›
 ·exists 17
 ·obtain ⟨v,d,rfl,rd,g,hw,hbr,k⟩:=h;have kf:∀ {H'},Same H H'->¬ IsT d->Q (.bl false) H':=fun s h=>by have:=k _ s; rw [bD h] at this; exact this
  refine⟨_,(aB (bO (V5 (gK (cL (bZ ‹4›)) (gk (cL (rT qK qK aC ‹15› aC)))))
   (aF (aL fO))
   aU)
   (aB (bO (cL (bZ (aH (cW rfl) (by rfl) D.jL iw (aj (bI rfl (Wf ["_law_row_here"] [] ["_law_row_here"] (aG (top 53)) ["_law_thing_here","_law_kinds","_law_row_here","_law_orders_here"] rfl rfl ‹5›) ⟨fun _ _ _ _ _=>(aN (i:=0) (show List.Nodup [("_law_row_here" : Str)] by decide +kernel) rfl ‹24› ‹17›),fun _ _ _ _ _=>bJ,fun _ _ _ _ _=>(aD D.jw Gb ‹2› (by rfl) ‹36›)⟩ (bW (pv 0))) aq))))
   (aF (aL fO))
   aU)
   (aB (aM (i:=1) lM.nd rfl (Mm rfl) (bI rfl (Wf ["_law_row_here"] [] ["_law_row_here"] (aG (top 53)) ["_law_thing_here","_law_kinds","_law_row_here","_law_orders_here"] rfl rfl ‹5›) ⟨fun _ _ _ _ _=>(aN (i:=0) (show List.Nodup [("_law_row_here" : Str)] by decide +kernel) rfl ‹24› ‹17›),fun _ _ _ _ _=>bJ,fun _ _ _ _ _=>‹27›⟩ (bW (pv 0))))
   (aB (bO (aY vP (aH iK (by rfl) D.cI bQ (aj (bG (mK rfl) (by rfl) D.xK sW (aj (pv 1) aq)) aq)) ‹18› (bh _))
   (aF (aL fO))
   aU)
   (aB (fP dP rfl (bW (pv 0)) (aN (i:=2) lM.nd rfl (uA rfl))
   (aF (bO (cL (bZ (aH (cW rfl) (by rfl) D.jL iw (aj (bI rfl (Wf ["_law_elder"] [1] ["_law_elder","_law_kinds"] (aG (top 53)) ["_law_thing_here","_law_kinds","_law_row_here","_law_orders_here"] rfl rfl ‹5›) ⟨fun _ _ _ _ _=>(aN (i:=0) (show List.Nodup [("_law_elder" : Str),("_law_kinds" : Str)] by decide +kernel) rfl ‹24› ‹17›),fun _ _ _ _ _=>bJ,fun _ _ _ _ _=>(dO zu (pv 0) (pv 1) ‹29›)⟩ (bW (aP aO (pv 2) aC ‹3›))) aq))))
   (aF (aL fO))
   aU)))
   (aB (aM (i:=3) lM.nd rfl (Mm rfl) (aD D.fW Gak ‹2› (by rfl) (aj (bI rfl (Wf ["_law_row_here"] [] ["_law_row_here"] (aG (top 53)) ["_law_thing_here","_law_kinds","_law_row_here","_law_orders_here"] rfl rfl ‹5›) ⟨fun _ _ _ _ _=>(aN (i:=0) (show List.Nodup [("_law_row_here" : Str)] by decide +kernel) rfl ‹24› ‹17›),fun _ _ _ _ _=>bJ,fun _ _ _ _ _=>(cC (aj ‹27› (aj ‹27› aq)))⟩ (bW (pv 0))) aq)))
   (aF (aL (aH (cW rfl) (by rfl) D.jL iw (aj (bI rfl (Wf ["_law_row_here"] [3] ["_law_row_here","_law_orders_here"] (aG (top 53)) ["_law_thing_here","_law_kinds","_law_row_here","_law_orders_here"] rfl rfl ‹5›) ⟨fun _ _ _ _ _=>(aN (i:=0) (show List.Nodup [("_law_row_here" : Str),("_law_orders_here" : Str)] by decide +kernel) rfl ‹24› ‹17›),fun _ _ _ _ _=>bJ,fun _ _ _ _ _=>(iG (dO OJ (Om (K:=K) rfl PySem.F.plainAttrs_dict PySem.F.slot_dict_get PySem.F.type_dict_get JV (pv 1) (aj ‹27› aq)) jR (bh _)) (jP (dO (QK (Rq hr)) ‹27› (eE (dZ hr) (pv 1) ‹27› ‹3›) (bh _))))⟩ (bW (pv 0))) aq)))))))))),?_⟩
  exists 18;exists 8;cases hb:iZ d with
  | false=>exact bM (bM (kf (V8 H) fun⟨qs,f,e,_⟩=>by rw [e] at hb; cases hb))
  | true=>
   exists 7;have g':gsA ds:=by rw [gs] at g; exact g
   have nf:¬ (1<=ds.length/\ds.length<=7)->Q (.bl false) H:=fun h=>kf (V8 H) fun⟨qs,f,e,e2,ok,_⟩=>by
    exists 10;have:=congrArg List.length e2;rw [aa,aa] at this;have:=ok.l1;have:=ok.l7;rw [e,aa] at h;omega
   refine bT ⟨_,rfl,b,_,rfl,.inr (V7 hb'),_,_,rfl,rfl,_,rfl,?_⟩
   by_cases h1:1<=ds.length
   rotate_left
   ·refine eU (by rw [bE (show ¬ (1:Int)<=(xs.length:Int) by omega)]; exact aS) ?_;exact⟨_,rfl,bM (nf fun h=>h1 h.1)⟩
   refine eO (bo ‹26›) ⟨_,_,rfl,rfl,_,rfl,?_⟩
   by_cases h7:ds.length<=7
   rotate_left
   ·exact eO (by rw [bE (show ¬ (xs.length:Int)<=7 by omega)]; rfl) (nf fun h=>h7 h.2)
   refine eU (by rw [bo (show (xs.length:Int)<=7 by omega)]; exact aS) ?_;refine⟨_,rfl,b,rfl,⟨_,V7 hb'⟩,fun Dd hD=>?_⟩;refine bA (n:=xs.length) (fun i ys H2=>ys=((ds.take i).map fun d=>dcd (zq d)).map V.bl/\H2 Dd=some (.lst ys)/\Same H H2) ⟨rfl,ak,We hD⟩ ?_ ?_;rotate_left
   ·rintro i ys H2 hi ⟨rfl,hD2,s2⟩;have hil:i < ds.length:=by omega
    obtain ⟨y,ey,ry⟩:=rl.get (ae hil);exists 3
    have bi:br ds[i]<=62:=by
     rw [br] at hbr;exact mj.mp (kC.mp hbr).2 _ (bS hil)
    have wi:wt ds[i]<=20000:=by
     have:=yU (bS hil);rw [wt] at hw;omega
    refine⟨‹13›,cg ⟨_,rfl,y,ds[i],rfl,ry.bH s2,lK g' i hil,wi,bi,fun H4 s4=>⟨by rw [aa,aa,bc]; omega,s4 Dd _ hD2,aW hi ‹34›⟩⟩⟩
    ·rw [take_snoc hil,aI,aI];rfl
    ·rw [aA (au z hD)];exact s4 c _ (s2 c _ z)
   rintro ys H2 ⟨rfl,hD2,s2⟩;rw [aw ‹26›] at hD2;refine⟨⟨_,V7 (s2 b _ hb'),ai _⟩,Dd,_,rfl,V6 hD2,_,rfl,?_⟩;have am:=all_map (Pd:=zq) (f:=six) (ok:=fun q=>NmD q.a/\UnD 7 q.b/\sO q) (fun d=>Iff.rfl) (ds:=ds);cases hall:(ds.map fun d=>dcd (zq d)).all id with
   | false=>
    refine bM (kf s2 ?_);rintro ⟨qs,f,e,e2,ok,h⟩;exists 10;rw [am.mpr ⟨qs,e,fun q hq=>?_⟩] at hall
    ·cases hall
    obtain ⟨r,hr',er⟩:∃ r∈f,jT r=two q:=by
     have:two q∈f.map jT:=by rw [<- e2]; exact bu.mpr ⟨q,hq,rfl⟩
     obtain ⟨r,h1,h2⟩:=bu.mp this;exact⟨r,h1,h2⟩
    obtain ⟨o1,o2,o3⟩:=ok.ok r hr';injection er with er;injection er with e3 er;injection er with e4 _;exact⟨⟨r.1,e3.symm,o1⟩,⟨r.2,e4.symm,ok.good.el r hr',o2,o3⟩,(h q hq).2⟩
   | true=>
   obtain ⟨qs,rfl,hq⟩:=am.mp hall;obtain ⟨f,ef,hf⟩:=Ld hq;rw [aa] at h1 h7 hxl
   have hfl:f.length=qs.length:=by
    have:=congrArg List.length ef;rw [aa,aa] at this;exact this.symm
   have e2:∀ i (h:i < qs.length),qs[i].a=.str (f[i]'‹26›).1/\qs[i].b=.tuple ((f[i]'‹26›).2.map .str):=fun i h=>by
    have:=congrArg (fun l=>l[i]?) ef;simp only [bg,ae h,ae (show i < f.length by omega),il] at this;have:=ck this;injection this with this;injection this with e3 this;injection this with e4 _;exact⟨e3,e4⟩
   have rowAt:∀ {H':Hp} (s:Same H H') (i:Nat) (h:i < qs.length),∃(p:ut) (e:ut) (v2 v3 v4 v5:V),xs[i]?=some (.ref p)/\H' p=some (.tup [.str (f[i]'‹26›).1,.ref e,v2,v3,v4,v5])/\H' e=some (.tup ((f[i]'‹26›).2.map V.str))/\RdV H' v2 qs[i].c:=fun {H'} s i h=>by
    obtain ⟨y,ey,ry⟩:=rl.get (i:=i) (d:=six qs[i]) (by rw [bg,ae h]; rfl);obtain ⟨p,v0,v1,v2,v3,v4,v5,rfl,hp,r0,r1,r2,-⟩:=K09.E.RdV.six (ry.bH s);rw [(e2 i h).1] at r0;rw [(e2 i h).2] at r1;obtain rfl:=r0.jm;obtain ⟨e,zs,rfl,he,rz⟩:=r1.bV;obtain rfl:=rz.jx;exact⟨p,e,v2,v3,v4,v5,ey,hp,he,r2⟩
   refine bT ⟨_,rfl,b,rfl,⟨_,V7 (s2 b _ hb')⟩,fun kl hkl=>?_⟩;refine bA (n:=xs.length) (fun i ys H3=>ys=((nms f).take i).map V.str/\H3 kl=some (.lst ys)/\Same H2 H3) ⟨rfl,ak,We hkl⟩ ?_ ?_;rotate_left
   ·rintro i ys H3 hi ⟨rfl,hk3,s3⟩;have hil:i < qs.length:=by omega
    obtain ⟨p,e,v2,v3,v4,v5,ey,hp,he,r2⟩:=rowAt (s2.trans s3) i hil;have hb3:=s3 b _ (s2 b _ hb');refine⟨⟨_,_,V7 hb3,ey⟩,?_⟩;rintro z H4 ⟨rfl,yy⟩ σo ho;exists 15;have ez:=yy _ (V7 hb3);rw [ey] at ez;cases ez;refine⟨‹13›,cg ⟨_,rfl,p,_,_,_,rfl,rfl,V7 hp,aJ (j:=0) rfl,by rw [aa,bc]; omega,hk3,aW hi ‹34›⟩⟩
    ·rw [take_snoc (by rw [aa]; omega),aI,List.getElem_map];rfl
    ·rw [aA (au z hkl)];exact s3 c _ z
   rintro ys H3 ⟨rfl,hk3,s3⟩;have hnl:(nms f).length=qs.length:=by rw [aa]; exact hfl
   rw [aw ‹26›] at hk3;have s13:=s2.trans s3;refine⟨⟨_,V7 (s13 b _ hb'),ai _⟩,?_⟩;refine⟨_,rfl,kl,_,rfl,.inl (V6 hk3),by omega,fun sd hsd=>?_⟩;have s4:∀ o,Same H3 (upd H3 sd o):=fun o=>We hsd;refine⟨sd,_,rfl,ak,_,rfl,kl,_,rfl,.inl (V6 (s4 _ kl _ hk3)),_,_,rfl,rfl,_,rfl,?_⟩;have s14:∀ o,Same H (upd H3 sd o):=fun o=>s13.trans (s4 o);have hk4:∀ o,(upd H3 sd o) kl=some (.lst ((nms f).map V.str)):=fun o=>s4 o kl _ hk3;have hml:((nms f).map V.str).length=(nms f).length:=aa _;have ule:=xP (nms f) (nms f).length;have inj:∀ g:Fam,qs.map two=g.map jT->g=f:=fun g e=>wJ (by rw [<- e,ef])
   by_cases nd:(nms f).Nodup
   rotate_left
   ·refine eO (bo ?_) (kf (s14 _) ?_)
    ·have:un (nms f) (nms f).length≠(nms f).length:=fun z=>nd ((mq _).mp z);omega
    ·rintro ⟨ps,g,e,eg,ok,_⟩;exists 10;rw [<- mY e] at eg;have:=inj g eg;subst this;exact nd ok.nd
   have une:=(mq _).mpr nd;refine eU (by rw [bE ‹26›]; exact aS) ?_;generalize hH4:upd H3 sd _=H4;have s14:Same H H4:=hH4 ▸ s14 _;have hk4:H4 kl=some (.lst ((nms f).map V.str)):=hH4 ▸ hk4 _;refine⟨_,rfl,b,rfl,⟨_,V7 (s14 b _ hb')⟩,qu (K:=N0) (a:=b) (xs:=xs) (fun i σ H5=>∃ v2:OV,σ=[some (.ref b),some (.ref kl),v2,none]/\(∀ r∈f.take i,∀ e∈r.2,e∈nms f)/\Same H4 H5) ⟨_,rfl,(by intro r hr; simp at hr),V8 _⟩ (fun i σ H5 _ ⟨_,_,_,s5⟩=>V7 (s5 b _ (s14 b _ hb'))) ?_ ?_⟩
   ·rintro i x σ H5 hi ⟨v2,rfl,hsub,s5⟩
    have hil:i < qs.length:=by
     have:=(bv.mp hi).1;omega
    obtain ⟨p,e,w2,w3,w4,w5,ey,hp,he,r2⟩:=rowAt (s14.trans s5) i hil;rw [ey] at hi;cases hi;refine⟨_,rfl,p,_,_,_,rfl,rfl,V7 hp,aJ (j:=1) rfl,e,rfl,⟨_,V7 he⟩,fun D2 hD2=>?_⟩;have hfi:i < f.length:=by omega
    have hf7:=(hf _ (bS hfi)).2;refine bA (n:=((f[i]).2.map V.str).length) (fun j ys H6=>ys=(((f[i]).2.take j).map fun e=>decide (e∈nms f)).map V.bl/\H6 D2=some (.lst ys)/\Same H5 H6) ⟨rfl,ak,We hD2⟩ ?_ ?_;rotate_left
    ·rintro j ys H6 hj ⟨rfl,hD6,s6⟩;have hj':j < (f[i]).2.length:=by rw [aa] at hj; exact hj
     have ej:((f[i]).2.map V.str)[j]?=some (.str (f[i]).2[j]):=by rw [bg,ae hj']; rfl
     have he6:=s6 e _ he;refine⟨⟨_,_,V7 he6,ej⟩,?_⟩;rintro z H7 ⟨rfl,yy⟩ σo ho;exists 15;have ez:=yy _ (V7 he6);rw [ej] at ez;cases ez;have hk6:=s6 kl _ (s5 kl _ hk4);refine⟨‹13›,cg ⟨_,rfl,_,rfl,kl,_,rfl,.inl (V6 hk6),rfl,by rw [lr,cz]; exact fun _ _=>rfl,by rw [aa,aa,bc]; omega,hD6,aW hj ‹34›⟩⟩
     ·rw [take_snoc hj',aI,aI];show _++[V.bl (inV _ _)]=_++[V.bl _];rw [iI]
     ·rw [aA (au z hD2)];exact s6 c _ z
    ·rintro ys H6 ⟨rfl,hD6,s6⟩;rw [aa,aw (ai _)] at hD6;refine⟨⟨_,V7 (s6 e _ he),ai _⟩,D2,_,rfl,V6 hD6,_,rfl,?_⟩;have s16:=(s14.trans s5).trans s6;cases ha:((f[i]).2.map fun e=>decide (e∈nms f)).all id with
     | false=>
      refine bM (kf s16 ?_);rintro ⟨ps,g,e',eg,ok,_⟩;injection e' with e';rw [<- mY e'] at eg;have:=inj g eg;subst this
      have:((g[i]).2.map fun e=>decide (e∈nms g)).all id=true:=by
       rw [lr,cz];exact fun e he=>bo (ok.good.sub _ (bS hfi) e he)
      rw [this] at ha;cases ha
     | true=>
      refine bT ⟨_,rfl,fun r hr e he=>?_,s5.trans s6⟩;rw [take_snoc hfi] at hr;rcases cw.mp hr with h | h
      ·exact hsub r h e he
      ·rw [lr,cz] at ha;rw [bj.mp h] at he;exact eA (ha e he)
   ·rintro σ H5 ⟨v2,rfl,hsub,s5⟩;rw [aw ‹26›] at hsub;have R:Rw8 f:=⟨nd,by omega,fun r hr=>by have:=(hf r hr).2; omega,hsub⟩;have s15:=s14.trans s5;refine⟨_,rfl,b,rfl,⟨_,V7 (s15 b _ hb')⟩,fun D3 hD3=>?_⟩;refine bA (n:=xs.length) (fun i ys H6=>Jy H5 H6 ys (qs.take i)/\H6 D3=some (.lst ys)/\Same H5 H6) ⟨.nil,ak,We hD3⟩ ?_ ?_;rotate_left
    ·rintro i ys H6 hi ⟨ryl,hD6,s6⟩;have hil:i < qs.length:=by omega
     obtain ⟨p,e,w2,w3,w4,w5,ey,hp,he,r2⟩:=rowAt s15 i hil;have hb6:=s6 b _ (s15 b _ hb');refine⟨⟨_,_,V7 hb6,ey⟩,?_⟩;rintro z H7 ⟨rfl,yy⟩ σo ho;exists 15;have ez:=yy _ (V7 hb6);rw [ey] at ez;cases ez;have hp6:=s6 p _ hp;refine⟨‹13›,cg ⟨_,rfl,p,_,_,_,rfl,rfl,V7 hp6,aJ (j:=0) rfl,_,rfl,p,_,_,_,rfl,rfl,V7 hp6,aJ (j:=1) rfl,show 2<=sizeLine by omega,fun z hz=>?_⟩⟩;have hDz:D3≠z:=au hD6 hz;refine⟨?_,by rw [aA hDz]; exact hD6,aW hi ⟨?_,ak,fun c u e=>?_⟩⟩
     ·have:=cE ryl;rw [this,bc];omega
     ·rw [take_snoc hil];refine Paired.snoc (V4 ryl fun v q ⟨a,y0,y1,e,h,h'⟩=>⟨a,y0,y1,e,?_,h'⟩) ⟨z,.str (f[i]'‹26›).1,.ref e,rfl,?_,?_,?_⟩
      ·rw [aA (eG h hD6 ‹11›),aA (au h hz)];exact h
      ·rw [aA (kL hDz)];exact ak
      ·rw [(e2 i hil).1];exact .str _
      ·rw [(e2 i hil).2];exact .tup he (RdA.strs _ _)
     ·rw [aA (au e hD3),aA (au (s6 c u e) hz)];exact s6 c u e
    ·rintro ys H6 ⟨ryl,hD6,s6⟩;rw [aw ‹26›] at ryl;have rd6:=ryl.rd s6;rw [ef] at rd6
     have e7:f.map jT=mD (f.map qy):=by
      rw [lu,gN];exact gr fun r _=>(GX r).symm
     rw [e7] at rd6;refine⟨⟨_,V7 (s6 b _ (s15 b _ hb')),ai _⟩,D3,ys,f,rfl,hD6,RdA.dp _ rd6,R,fun od kvs H7 hod6 hod oa cov s7=>?_⟩;have s17:=(s15.trans s6).trans s7;refine⟨_,rfl,b,rfl,⟨_,V7 (s17 b _ hb')⟩,fun D4 hD4=>?_⟩;refine bA (n:=xs.length) (fun i ys H8=>ys=((qs.take i).map fun q=>dcd (vX f q)).map V.bl/\H8 D4=some (.lst ys)/\Same H7 H8) ⟨rfl,ak,We hD4⟩ ?_ ?_
     ·rintro ys H8 ⟨rfl,hD8,s8⟩;rw [aw ‹26›] at hD8;have s18:=s17.trans s8;refine⟨⟨_,V7 (s18 b _ hb'),ai _⟩,D4,_,rfl,V6 hD8,?_⟩;have fin:=k _ s18
      have key:IsT (.tuple (qs.map six))↔∀ q∈qs,vX f q:=by
       constructor
       ·rintro ⟨ps,g,e,eg,ok,h⟩ q hq';exists 10;have:=mY e;subst this;have:=inj g eg;subst this;obtain ⟨⟨x,ex,o,eo,ho⟩,_⟩:=h q hq'
        have hx:x∈nms g:=by
         have:two q∈g.map jT:=by rw [<- eg]; exact bu.mpr ⟨q,hq',rfl⟩
         obtain ⟨r,hr1,hr2⟩:=bu.mp this;injection hr2 with hr2;injection hr2 with hr2 _;rw [ex] at hr2;injection hr2 with hr2;rw [<- hr2];exact bu.mpr ⟨r,hr1,rfl⟩
        exact⟨x,o,ex,ok.pl x hx,(yM R (ok.pl x hx) (ai 8)).symm.trans ho,eo⟩
       ·intro h
        have pl:∀ x∈nms f,Pl f x:=fun x hx=>by
         obtain ⟨r,hr1,rfl⟩:=bu.mp hx;have:jT r∈qs.map two:=by rw [ef]; exact bu.mpr ⟨r,hr1,rfl⟩
         obtain ⟨q,hq1,hq2⟩:=bu.mp this;injection hq2 with hq2;injection hq2 with hq2 _;obtain ⟨x,o,ex,hp,_⟩:=h q hq1;rw [ex] at hq2;injection hq2 with hq2;rw [<- hq2];exact hp
        exact⟨qs,f,rfl,ef,⟨by omega,by omega,fun r hr=>(hf r hr).1,nd,pl⟩,fun q hq'=>⟨by
         obtain ⟨x,o,ex,hp,ho,eo⟩:=h q hq';exact⟨x,ex,o,eo,(yM R hp (ai 8)).trans ho⟩,(hq q hq').2.2⟩⟩
      cases ha:(qs.map fun q=>dcd (vX f q)).all id with
      | true=>
       rw [dR (key.mpr (sS.mp ha))] at fin;exact fin
      | false=>
       rw [bD (fun h=>by rw [sS.mpr (key.mp h)] at ha; cases ha)] at fin;exact fin
     ·rintro i ys H8 hi ⟨rfl,hD8,s8⟩;have hil:i < qs.length:=by omega
      have hfi:i < f.length:=by omega
      have s18:=s17.trans s8;obtain ⟨p,e,w2,w3,w4,w5,ey,hp,he,r2⟩:=rowAt s18 i hil;refine⟨⟨_,_,V7 (s18 b _ hb'),ey⟩,?_⟩;rintro z H9 ⟨rfl,yy⟩ σo ho;exists 15;have ez:=yy _ (V7 (s18 b _ hb'));rw [ey] at ez;cases ez;have hod8:=s8 od _ hod
      have fin:∀ {B:Bool},B=dcd (vX f qs[i])->(((qs.take i).map fun q=>dcd (vX f q)).map V.bl).length < sizeLine/\H9 D4=some (.lst (((qs.take i).map fun q=>dcd (vX f q)).map V.bl))/\∃ m',m' < xs.length - i/\(m'=xs.length - (i+1)/\i+1<=xs.length/\(((qs.take i).map fun q=>dcd (vX f q)).map V.bl++[.bl B]=((qs.take (i+1)).map fun q=>dcd (vX f q)).map V.bl/\(upd H9 D4 (.lst (((qs.take i).map fun q=>dcd (vX f q)).map V.bl++[.bl B]))) D4=some (.lst (((qs.take i).map fun q=>dcd (vX f q)).map V.bl++[.bl B]))/\Same H7 (upd H9 D4 (.lst (((qs.take i).map fun q=>dcd (vX f q)).map V.bl++[.bl B]))))):=fun {B} eB=>⟨by rw [aa,aa,bc]; omega,hD8,aW hi ⟨by
        rw [take_snoc hil,aI,aI,eB];rfl,ak,fun c u z=>by
        rw [aA (au z hD4)];exact s8 c _ z⟩⟩
      have ea:=(e2 i hil).1;refine⟨‹13›,cg ?_⟩;refine⟨_,rfl,.inr (.inr (.inl ⟨rfl,.inl ⟨kvs,hod8⟩⟩)),_,rfl,p,_,_,_,rfl,rfl,V7 hp,aJ (j:=0) rfl,od,kvs,.inr _,rfl,rfl,hod8,rfl,?_⟩;cases hv:cM kvs (.inr (f[i]).1) with
      | none=>
       refine⟨_,rfl,bT (fin (bD ?_).symm)⟩;rintro ⟨x,o,ex,hp,_⟩;rw [ea] at ex;injection ex with ex;have:=cov x hp;rw [<- ex,hv] at this;cases this
      | some v=>
       obtain ⟨hpl,hov⟩:=oa _ _ hv;rcases hov with ⟨h1,rfl⟩ | ⟨l,q,h1,rfl,hq⟩
       ·refine⟨_,rfl,bT (fin (bD ?_).symm)⟩;rintro ⟨x,o,ex,hp,h2,_⟩;rw [ea] at ex;injection ex with ex;rw [<- ex,h1] at h2;cases h2
       ·have gt:lY H9 od (.str (f[i]).1) (some (.ref q)):=.inl ⟨kvs,.inr (f[i]).1,.inl hod8,rfl,hv.symm⟩;refine⟨_,rfl,bM ⟨_,rfl,p,_,_,_,rfl,rfl,V7 hp,aJ (j:=2) rfl,_,rfl,_,rfl,p,_,_,_,rfl,rfl,V7 hp,aJ (j:=0) rfl,od,.ref q,rfl,gt,qs[i].c,q,l,rfl,r2,s8 q _ hq,fin (kW ⟨fun h=>⟨_,l,ea,hpl,h1,h⟩,?_⟩)⟩⟩;rintro ⟨x,o,ex,_,h2,h3⟩;rw [ea] at ex;injection ex with ex;rw [<- ex,h1] at h2;injection h2 with h2;rw [h3,h2]
end
end K09.E
end
section
namespace K09.B
open PySem PyProof.Rows L2
variable {S es os:LS}{H H':Hp}{kvs:LK0}{e q:ut}
theorem Kr{x:Str}{q:LS}(h:¬ x∈q):cJ x q=q:=by
 unfold cJ;rw [List.filter_eq_self];intro y hy;exact bo fun e=>h (e ▸ hy)
theorem yd:∀(os:LS),os.Nodup->Mg (full [os]) (some os)
 | [],_=>.nil
 | y::os,nd=>by
  obtain ⟨n1,n2⟩:=fh.mp nd;have ih:=yd os n2
  have hh:¬ cY [y::os] y=true:=by
   unfold cY;simp [n1]
  have hf:frees [y::os]=y::[]:=by
   show (if cY [y::os] y=true then [] else [y])++[]=_;rw [cK hh];rfl
  have ho:full ([y::os].map (cJ y))=full [os]:=by
   have:cJ y (y::os)=os:=by
    have h1:cJ y (y::os)=cJ y os:=by
     unfold cJ;rw [fz];simp
    rw [h1,Kr n1]
   show full [cJ y (y::os)]=_;rw [this]
  have:=Mg.step hf (r:=some os) (by rw [ho]; exact ih);exact this
theorem Rc{e:Str}(nd:(e::os).Nodup):Mg (full [e::os,[e]]) (some (e::os)):=by
 obtain ⟨n1,n2⟩:=fh.mp nd;have ih:=yd os n2
 have hh:¬ cY [e::os,[e]] e=true:=by
  unfold cY;simp [n1]
 have hf:frees [e::os,[e]]=e::[e]:=by
  show (if cY [e::os,[e]] e=true then [] else [e])++((if cY [e::os,[e]] e=true then [] else [e])++[])=_;rw [cK hh];rfl
 have h1:cJ e (e::os)=os:=by
  have h1:cJ e (e::os)=cJ e os:=by
   unfold cJ;rw [fz];simp
  rw [h1,Kr n1]
 have h2:cJ e [e]=[]:=by
  unfold cJ;simp
 have ho:full ([e::os,[e]].map (cJ e))=full [os]:=by
  show full [cJ e (e::os),cJ e [e]]=_;rw [h1,h2];cases os <;> rfl
 have hfull:full [e::os,[e]]=[e::os,[e]]:=rfl;rw [hfull];exact Mg.step hf (r:=some os) (by rw [ho]; exact ih)
def GOk(g:Str->LS)(S:LS):Prop:=∀ x∈S,(g x).Nodup/\(∃ os,g x=x::os)/\∀ y∈g x,y∈S
theorem Qv{g:Str->LS}(gg:GOk g S)(sub:∀ x∈es,x∈S)(h:es.length<=1\/∃ os,Mg (full (mQ g es)) (some os)):∃ os,Mg (full (mQ g es)) (some os):=by
 rcases h with h | h
 ·cases es with
  | nil=>exact⟨[],.nil⟩
  | cons e r=>
   cases r with
   | nil=>
    obtain ⟨nd,⟨os,eo⟩,_⟩:=gg e (sub e bn);rw [eo] at nd;refine⟨e::os,?_⟩;show Mg (full [g e,[e]]) _;rw [eo];exact Rc nd
   | cons e2 r=>simp at h
 ·exact h
theorem Ri{g:Str->LS}(gg:GOk g S)(sub:∀ x∈es,x∈S)(h:Mg (full (mQ g es)) (some os)):os.Nodup/\∀ y∈os,y∈S:=by
 obtain ⟨h1,h2⟩:=Mg.wH h os rfl;refine⟨h2,fun y hy=>?_⟩;obtain ⟨q,hq,hyq⟩:=h1 y hy;have hq:=(dC.mp hq).1;rcases cw.mp hq with h | h
 ·obtain ⟨e,he,rfl⟩:=bu.mp h;exact(gg e (sub e he)).2.2 y hyq
 ·rw [bj.mp h] at hyq;exact sub y hyq
def KC(g:Str->LS)(x:Str)(o:LS):Str->LS:=fun y=>if y=x then o else g y
theorem GOk.put{g:Str->LS}{x:Str}(gg:GOk g S)(hx:¬ x∈S)(nd:os.Nodup)(sub:∀ y∈os,y∈S):GOk (KC g x (x::os)) (S++[x]):=fun y hy=>by
 unfold KC
 by_cases e:y=x
 ·rw [dE e,e];refine⟨fh.mpr ⟨fun h=>hx (sub x h),nd⟩,⟨os,rfl⟩,fun z hz=>?_⟩;rcases bz.mp hz with rfl | h
  ·exact dQ _ (bj.mpr rfl)
  ·exact fk _ (sub z h)
 ·rw [cK e]
  have hy':y∈S:=by
   rcases cw.mp hy with h | h
   ·exact h
   ·exact absurd (bj.mp h) e
  obtain ⟨a,b,c⟩:=gg y hy';exact⟨a,b,fun z hz=>fk _ (c z hz)⟩
theorem rO.put{g:Str->LS}{x:Str}(h:rO H kvs g S)(s:dH H H')(hq:H' q=some (.tup (os.map V.str)))(hl:os.length<=9):rO H' (putK kvs (.inr x) (.ref q)) (KC g x os) (S++[x]):=fun y hy=>by
 unfold KC;rw [jK]
 by_cases e:y=x
 ·rw [dE e,dE (by rw [e])];exact⟨q,rfl,hq,hl⟩
 ·rw [cK e,cK (by intro z; injection z with z; exact e z)]
  have hy':y∈S:=by
   rcases cw.mp hy with h | h
   ·exact h
   ·exact absurd (bj.mp h) e
  exact h.mono s y hy'
theorem Dp.KH{o f:ut}{d:V}{x:Str}{fs:LS}{ds:List (Str × Int)}{n:Int}(hq:H q=some (.tup [.str x,.ref e,.ref o,.ref f,d,.int n]))(he:H e=some (.tup (es.map V.str)))(ho:H o=some (.tup (os.map V.str)))(hf:H f=some (.tup (fs.map V.str)))(hd:Dp H (.tup (ds.map Jo)) d):Dp H (tM ⟨x,es,os,fs,ds,n⟩) (.ref q):=
 L2.Dp.tup hq (.cons (L2.Dp.str x) (.cons (L2.Dp.tup he (Wb es)) (.cons (L2.Dp.tup ho (Wb os)) (.cons (L2.Dp.tup hf (Wb fs)) (.cons hd (.cons (L2.Dp.int n) .nil))))))
def Ao(ds fs S:LS)(r:Row):Prop:=(∀ x∈r.order,x∈S)/\r.order.length<=9/\r.fields.length<=8/\(∀ x∈r.cU,x∈S)/\r.cU.length<=8/\Nm r.kind/\Lx ds r.lJ/\∀ x∈r.fields,x∈fs
structure En (ds fs:LS) (tb:List Row):Prop where
 gt:wj tb
 own:∀ r∈tb,Lx ds r.lJ
 fd:∀ r∈tb,∀ x∈r.fields,x∈fs
theorem wj.perm{tb tb':List Row}(G:wj tb)(p:tb'.Perm tb):wj tb':=by
 have pk:(kns tb').Perm (kns tb):=p.map _;exact⟨pk.nodup_iff.mpr G.nd,by rw [p.length_eq]; exact G.len,fun r hr x hx=>pk.mem_iff.mpr (G.ord r (p.mem_iff.mp hr) x hx),fun r hr=>G.ol r (p.mem_iff.mp hr),fun r hr=>G.fl r (p.mem_iff.mp hr),fun r hr=>G.kl r (p.mem_iff.mp hr),fun r hr=>⟨fun x hx=>pk.mem_iff.mpr ((G.es r (p.mem_iff.mp hr)).1 x hx),(G.es r (p.mem_iff.mp hr)).2⟩⟩
def AtJ(H:Hp)(y:V)(j:Nat):Prop:=∃(q:ut) (i:Int),y=.ref q/\H q=some (.tup [.int i,.int j])
section
variable {P:uC}{w:ww}{K:PySem.W.Frag}{mg:MG}{base:Heap}{t:Adr}
inductive Gf (vs:LV) (H:Hp) (Q:VK) (E_:XK):Prop
 | mk (p dl fl:ut) (n:Nat) (ds fs:LS):vs=[.ref p,.int n,.ref dl,.ref fl]->Pu H p->1<=n->n<=8->H dl=some (.lst (ds.map V.str))->ds.length<=11->H fl=some (.lst (fs.map V.str))->fs.length<=100->(∀(v:V) (tb:List Row) H',Dp H' (DK tb) v->En ds fs tb->tb.length=n->Off p H H'->Pu H' p->Q v H')->Gf vs H Q E_
theorem Mj(D:Defs K mg t):cA P w K mg base CX0 4 t.iY.1 t.iY.2 ["_law_purse_here","_law_many","_law_deeds","_law_fields"] Gf:=by
 exists 13;have Gaj:=@zX P w K mg base t D;have Gad:=@uT P w K mg base t D;have Gbi:=@Rr P w K mg base t D;have Gai:=@vR P w K mg base t D;have Gbt:=@RK P w K mg base t D;exists 5;refine D.iY.fn.ok cZ ‹7› ‹1›
 ·obtain ⟨p,dl,fl,n,ds,fs,rfl,_⟩:=h;rfl
 ·obtain ⟨p,dl,fl,n,ds,fs,rfl,hp,hn1,hn7,hdl,hds,hfl,hfs,k⟩:=h;have dlp:dl≠p:=hp.ne hdl;have flp:fl≠p:=hp.ne hfl
  refine⟨_,(aB (aM (i:=4) cZ.nd rfl (uA rfl) ‹28›)
   (aB (aM (i:=5) cZ.nd rfl (uA rfl) (aD D.fZ Gaj ‹2› (by rfl) (aj (pv 0) (aj (pv 1) (aj (cN aq) aq)))))
   (aB (qY (cC (aj (cN aq) (aj jN aq))) (qd rfl (fG (aN (i:=6) cZ.nd rfl (Mm rfl)) (fG (aN (i:=7) cZ.nd rfl (Mm rfl)) nF))))
   (aB (fP dP rfl (zx rfl D.oU (aj (pv 5) aq)) (qd rfl (fG (aN (i:=8) cZ.nd rfl (uA rfl)) (fG (aN (i:=9) cZ.nd rfl (uA rfl)) nF)))
   (aB (aM (i:=10) cZ.nd rfl (uA rfl) (aD D.iu Gbi ‹2› (by rfl) (aj (pv 0) (aj (aZ sI (pv 5) bB (bC (pv 8))) (aj (pv 4) (aj (pv 7) aq))))))
   (aB (kJ (dZ hr) (pv 7) (pv 9) (aD D.gb Gai ‹2› (by rfl) (aj (pv 9) (aj (aR vW (bI rfl (Wf ["_law_one"] [7] ["_law_one","_law_orders_here"] (aG (top 42)) ["_law_purse_here","_law_many","_law_deeds","_law_fields","_law_shape","_law_names_here","_law_rows","_law_orders_here","_law_k","_law_kind","_law_elders_here","_law_number","_law_places"] rfl rfl ‹5›) ⟨fun _ _ _ _ _=>(aN (i:=0) (show List.Nodup [("_law_one" : Str),("_law_orders_here" : Str)] by decide +kernel) rfl ‹24› ‹17›),fun _ _ _ _ _=>bJ,fun _ _ _ _ _=>(eE (dZ hr) (pv 1) (pv 0) ‹3›)⟩ (bW (pv 10))) (cN (aj (pv 10) aq))) aq))) rfl)
   (aB (aM (i:=11) cZ.nd rfl (uA rfl) (aD D.aV Ga ‹2› (by rfl) (aj (pv 0) (aj (aP bN (cN (aj aC (aj aC (aj (aR Dr aC aC) aq)))) ‹28› ‹3›) aq))))
   (aF (kI (pB fT gT gX iz (pv 6) (aj (cC (aj (pv 9) (aj (pv 10) (aj (eE (dZ hr) (pv 7) (pv 9) ‹3›) (aj (aD D.gF Gad ‹2› (by rfl) (aj (pv 0) (aj (pv 3) (aj aC aq)))) (aj (aD D.lg Gbt ‹2› (by rfl) (aj (pv 0) (aj (pv 2) aq))) (aj (pv 11) aq))))))) aq))))))))
   (aB (aM (i:=12) cZ.nd rfl (uA rfl) (aH (Ar false) (by rfl) D.wA tU (aj (bI rfl (Wf ["_law_k"] [0] ["_law_k","_law_purse_here"] (aG (top 42)) ["_law_purse_here","_law_many","_law_deeds","_law_fields","_law_shape","_law_names_here","_law_rows","_law_orders_here","_law_k","_law_kind","_law_elders_here","_law_number","_law_places"] rfl rfl ‹5›) ⟨fun _ _ _ _ _=>(aN (i:=0) (show List.Nodup [("_law_k" : Str),("_law_purse_here" : Str)] by decide +kernel) rfl ‹24› ‹17›),fun _ _ _ _ _=>bJ,fun _ _ _ _ _=>(cC (aj (aD D.aV Ga ‹2› (by rfl) (aj (pv 1) (aj aC aq))) ‹36›))⟩ (jG rfl D.nY (aj (pv 1) aq))) aq)))
   (aF (aL (bG cB (by rfl) D.bY bK (aj (bI rfl (Wf ["_law_number","_law_k"] [6] ["_law_number","_law_k","_law_rows"] (aG (top 42)) ["_law_purse_here","_law_many","_law_deeds","_law_fields","_law_shape","_law_names_here","_law_rows","_law_orders_here","_law_k","_law_kind","_law_elders_here","_law_number","_law_places"] rfl rfl ‹5›) ⟨fun _ _ _ _ _=>(qd (n:=2) rfl (fG (aN (i:=0) (show List.Nodup [("_law_number" : Str),("_law_k" : Str),("_law_rows" : Str)] by decide +kernel) rfl ‹24› ‹17›) (fG (aN (i:=1) (show List.Nodup [("_law_number" : Str),("_law_k" : Str),("_law_rows" : Str)] by decide +kernel) rfl ‹24› ‹17›) nF))),fun _ _ _ _ _=>bJ,fun _ _ _ _ _=>(aP bN (pv 2) (pv 1) ‹3›)⟩ (gO (pv 12))) aq))))))))),?_⟩
  exists 18;refine⟨_,rfl,p,6,rfl,hp,by decide,by decide,fun sh a1 b1 c1 l1 u1=>?_⟩;refine⟨_,rfl,_,rfl,dk _,fun u hu=>?_⟩;have pu:p≠u:=Pu.upd.neN hu;refine⟨p,u,[],n,rfl,Pu.upd.aA pu,ak,by omega,by show 0+_<=25; omega,fun l ns H1 hl hns nd nlen hl1 o1 p1=>?_⟩;have o1:Off p H H1:=(Off.upd.trans (Wd hu)).trans o1;have lp:l≠p:=p1.ne hl1;have hns7:ns.length<=8:=by omega
  refine⟨dk _,fun rl hrl od hod=>⟨by show 2<=sizeLine; decide,fun tq htq=>?_⟩⟩;have p3:=((p1.aA (o:=.lst []) (p1.neN hrl)).aA (o:=.dK []) ((p1.aA (p1.neN hrl)).neN hod)).aA (o:=.tup [.ref rl,.ref od]) (((p1.aA (p1.neN hrl)).aA ((p1.aA (p1.neN hrl)).neN hod)).neN htq);have o3:Off p H (upd (upd (upd H1 rl (.lst [])) od (.dK [])) tq (.tup [.ref rl,.ref od])):=o1.trans ((Wd hrl).trans ((Wd hod).trans (Wd htq)));have rlo:rl≠od:=au ak hod;have odt:od≠tq:=au ak htq;have rlt:rl≠tq:=fun e=>by rw [<- e,aA rlo,ak] at htq; cases htq
  have hrl3:(upd (upd (upd H1 rl (.lst [])) od (.dK [])) tq (.tup [.ref rl,.ref od])) rl=some (.lst []):=by rw [aA rlt,aA rlo,ak]
  have hod3:(upd (upd (upd H1 rl (.lst [])) od (.dK [])) tq (.tup [.ref rl,.ref od])) od=some (.dK []):=by rw [aA odt,ak]
  have lrl:l≠rl:=au hl1 hrl;have lod:l≠od:=fun e=>by rw [<- e,aA lrl,hl1] at hod; cases hod
  have ltq:l≠tq:=fun e=>by rw [<- e,aA lod,aA lrl,hl1] at htq; cases htq
  have hl3:(upd (upd (upd H1 rl (.lst [])) od (.dK [])) tq (.tup [.ref rl,.ref od])) l=some (.lst ‹31›):=by rw [aA ltq,aA lod,aA lrl]; exact hl1
  have nof:∀ {b:ut},b≠p->H1 b=none->H b=none:=fun {b} hb hn=>by
   cases q:H b with
   | none=>rfl
   | some o=>rw [o1 b o hb q] at hn; cases hn
  have hrlH:H rl=none:=nof (p1.neN hrl).symm hrl;have hodH:H od=none:=nof ((p1.aA (p1.neN hrl)).neN hod).symm (by rw [aA rlo.symm] at hod; exact hod);have rlp:rl≠p:=(p1.neN hrl).symm;have odp:od≠p:=((p1.aA (p1.neN hrl)).neN hod).symm;refine⟨tq,_,rfl,V7 ak,rfl,_,_,rfl,_,_,rfl,rfl,?_⟩;generalize upd (upd (upd H1 rl (.lst [])) od (.dK [])) tq (.tup [.ref rl,.ref od])=H3 at p3 o3 hrl3 hod3 hl3
  refine⟨_,rfl,l,_,rfl,V6 hl3,Ml (K:=K) (a:=l) (xs:=ns.map V.str) (fun i σ H2=>∃(rs:List Row) (ys:LV) (kvs:LK0) (g:Str->LS) (v8 v9 v10 v11:OV),σ=[some (.ref p),some (.int n),some (.ref dl),some (.ref fl),some (.int sh),some (.ref l),some (.ref rl),some (.ref od),v8,v9,v10,v11,none]/\
   kns rs=ns.take i/\(∀ r∈rs,Ao ds fs (ns.take i) r)/\kvs.length<=i/\rO H2 kvs g (ns.take i)/\GOk g (ns.take i)/\H2 rl=some (.lst ys)/\DpL H2 (rs.map tM) ys/\H2 od=some (.dK kvs)/\H2 l=some (.lst ‹31›)/\Off p H H2/\Pu H2 p)
   ⟨[],[],[],fun _=>[],_,_,_,_,rfl,rfl,by simp,ai _,fun x hx=>by simp at hx,fun x hx=>by simp at hx,hrl3,.nil,hod3,hl3,o3,p3⟩ (fun i σ H2 _ h=>by obtain ⟨_,_,_,_,_,_,_,_,_,_,_,_,_,_,_,_,_,e,_⟩:=h; exact V6 e) ?_ ?_⟩
  ·rintro i x σ H2 q0 hi ⟨rs,ys,kvs,g,v8,v9,v10,v11,rfl,hrn,hrs,hkl,og,gg,hrl2,dl2,hod2,hl2,o2,p2⟩ hq0
   have hil:i < ns.length:=by
    have:=(bv.mp hi).1
    rwa [aa] at this
   have ex:x=.str ns[i]:=by
    rw [bg,ae hil] at hi;exact(ck hi).symm
   subst ex
   have hni:¬ ns[i]∈ns.take i:=fun h=>by
    have nd':=nd;rw [<- ja i ns] at nd';exact(i7.mp nd').2.2 _ h _ (by rw [List.drop_eq_getElem_cons hil]; exact bn) rfl
   refine⟨q0,_,rfl,V7 ak,rfl,_,_,rfl,_,_,rfl,rfl,?_⟩;have s0:Same H2 (upd H2 q0 (.tup [.int i,.str ns[i]])):=We hq0;refine⟨_,rfl,_,rfl,_,rfl,_,rfl,l,_,rfl,V6 (s0 l _ hl2),fun m hm=>?_⟩;have s1:=s0.trans (We (o:=.lst (eF ‹31› none (some (i:Int)))) hm);have hm1:(upd (upd H2 q0 (.tup [.int i,.str ns[i]])) m (.lst (eF ‹31› none (some (i:Int))))) m=some (.lst ((ns.take i).map V.str)):=by rw [ak,Fq _ _ (by rw [aa]; omega),nz]
   generalize upd (upd H2 q0 (.tup [.int i,.str ns[i]])) m (.lst (eF ‹31› none (some (i:Int))))=H4 at s1 hm1;have hti:(ns.take i).length<=8:=by rw [bc]; omega
   refine⟨_,rfl,_,rfl,p,m,od,sh,ns.take i,kvs,g,rfl,p2.same s1,hm1,nd.sublist (oz _ _),hti,l1,u1,s1 od _ hod2,og.mono (V9 s1),fun q es H5 hq sub nde hmg o5 p5=>?_⟩;have o5:Off p H2 H5:=s1.off.trans o5;have hod5:=o5 od _ odp hod2;have hrl5:=o5 rl _ rlp hrl2;have hl5:=o5 l _ lp hl2
   have tu5:dH H2 H5:=fun c zs e=>by
    obtain ⟨x1,x2,x3,ep⟩:=p2;exact o5 c _ (eG e ep ‹11›) e
   have og5:=og.mono tu5;have hel:es.length<=8:=cS (dh nde (m:=ns.take i) sub) hti;refine⟨_,rfl,_,rfl,q,rfl,⟨_,V7 hq⟩,fun D1 hD1=>?_⟩;have s4:∀ u,Same H5 (upd H5 D1 u):=fun u=>We hD1;refine bA (n:=(es.map V.str).length) (fun j ys H6=>jX H5 ys ((es.take j).map g)/\H6=upd H5 D1 (.lst ys)) ⟨.nil,rfl⟩ ?_ ?_;rotate_left
   ·rintro j ys H6 hj ⟨rt,rfl⟩;have hj':j < es.length:=by rw [aa] at hj; exact hj
    have ej:(es.map V.str)[j]?=some (.str es[j]):=by rw [bg,ae hj']; rfl
    refine⟨⟨_,_,V7 (s4 _ q _ hq),ej⟩,?_⟩;rintro y H7 ⟨rfl,yy⟩ σo ho;obtain ⟨oo,rfl⟩:=own1 ho;have ey:=yy _ (V7 (s4 _ q _ hq));rw [ej] at ey;cases ey;obtain ⟨q',h1,h2,_⟩:=og5 es[j] (sub _ (bS hj'));refine⟨‹13›,cg ⟨_,rfl,_,rfl,od,.ref q',rfl,.inl ⟨kvs,.inr es[j],.inl (s4 _ od _ hod5),rfl,h1.symm⟩,by rw [cE rt,aa,bc]; omega,ak,aW hj ‹42›⟩⟩;rw [take_snoc hj',aI];exact dY rt ⟨q',rfl,h2⟩
   rintro us H6 ⟨rt,rfl⟩;rw [aa,aw (ai _)] at rt;refine⟨⟨_,V7 (s4 _ q _ hq),ai _⟩,?_⟩;have hyl:us.length=es.length:=by rw [cE rt,aa]
   refine⟨_,rfl,by show 1<=sizeLine; decide,fun m2 hm2=>?_⟩;have s6:=(s4 (.lst us)).trans (We (o:=.lst [.ref q]) hm2);have hD6:(upd (upd H5 D1 (.lst us)) m2 (.lst [.ref q])) D1=some (.lst us):=by rw [aA (au ak hm2),ak]
   refine⟨D1,m2,us,[.ref q],rfl,rfl,hD6,ak,by show us.length+1<=sizeLine; omega,fun ra hra=>?_⟩;have s7:=s6.trans (We (o:=.lst (us++[.ref q])) hra);have hra7:(upd (upd (upd H5 D1 (.lst us)) m2 (.lst [.ref q])) ra (.lst (us++[.ref q]))) ra=some (.lst (us++[.ref q])):=ak;generalize upd (upd (upd H5 D1 (.lst us)) m2 (.lst [.ref q])) ra (.lst (us++[.ref q]))=H7 at s7 hra7;have rt7:jX H7 (us++[.ref q]) (mQ g es):=dY (rt.mono (V9 s7)) ⟨q,rfl,s7 q _ hq⟩
   have tt:=xU (g:=g) (es:=es) fun x hx=>by
    obtain ⟨_,_,_,h⟩:=og5 x (sub x hx);exact h
   refine⟨ns[i],ra,_,mQ g es,rfl,hra7,rt7,by omega,by unfold mQ; rw [bX,aa,eQ]; omega,fun v r H8 hm res s8=>?_⟩;have s58:=s7.trans s8;have p8:Pu H8 p:=p5.same s58;have o8:Off p H2 H8:=o5.trans s58.off;obtain ⟨os,hos⟩:=Qv gg sub hmg;have er:=Mg.det hm hos;subst er;obtain ⟨qo,rfl,hqo⟩:∃ qo,v=V.ref qo/\H8 qo=some (.tup ((ns[i]::os).map V.str)):=res;obtain ⟨ndo,subo⟩:=Ri gg sub hos
   have hol:(ns[i]::os).length<=9:=by
    have:=dh ndo subo;rw [dA];omega
   have hod8:=s58 od _ hod5;have hrl8:=s58 rl _ hrl5;have hl8:=s58 l _ hl5;have hq8:=s58 q _ hq;refine⟨_,rfl,_,rfl,od,_,rfl,tD.k (k:=.inr ns[i]) hod8 ‹26›,?_⟩
   have tu9:dH H8 (upd H8 od (.dK (putK kvs (.inr ns[i]) (.ref qo)))):=fun c zs e=>by
    rw [aA (eG e hod8 ‹11›)];exact e
   have og9:=(og5.mono (V9 s58)).put (x:=ns[i]) tu9 (tu9 qo _ hqo) hol;have gg9:=gg.put hni ndo subo;have p9:=p8.aA (o:=.dK (putK kvs (.inr ns[i]) (.ref qo))) odp.symm;have kp9:∀ b u,b≠od->H8 b=some u->(upd H8 od (.dK (putK kvs (.inr ns[i]) (.ref qo)))) b=some u:=fun b u hb e=>by rw [aA hb]; exact e
   have hod9:(upd H8 od (.dK (putK kvs (.inr ns[i]) (.ref qo)))) od=some (.dK (putK kvs (.inr ns[i]) (.ref qo))):=ak;have tu29:dH H2 (upd H8 od (.dK (putK kvs (.inr ns[i]) (.ref qo)))):=tu5.trans ((V9 s58).trans tu9);have hqo9:=tu9 qo _ hqo;have hq9:=tu9 q _ hq8;have hrl9:=kp9 rl _ rlo hrl8;have hl9:=kp9 l _ lod hl8;have o9:Off p H (upd H8 od (.dK (putK kvs (.inr ns[i]) (.ref qo)))):=fun b u hb e=>kp9 b u (au e hodH) (o8 b u hb (o2 b u hb e));have hkl9:(putK kvs (.inr ns[i]) (V.ref qo)).length<=i+1:=cS (fU _ _ _) ‹26›;have hg9:cM (putK kvs (.inr ns[i]) (V.ref qo)) (.inr ns[i])=some (.ref qo):=by rw [jK,dE rfl]
   generalize hk9:putK kvs (.inr ns[i]) (V.ref qo)=kvs9 at og9 p9 hod9 tu29 hqo9 hq9 hrl9 hl9 o9 hkl9 hg9;generalize upd H8 od (.dK kvs9)=H9 at og9 p9 hod9 tu29 hqo9 hq9 hrl9 hl9 o9;clear kp9 tu9 hk9;refine⟨_,rfl,_,_,rfl,rfl,⟨by decide,by decide,by decide⟩,by show 3<=sizeLine; decide,fun mn hmn=>?_⟩;have pmn:p≠mn:=p9.neN hmn;have p10:Pu (upd H9 mn ‹19›) p:=p9.aA pmn;have s10:Same H9 (upd H9 mn ‹19›):=We hmn;have hmn10:(upd H9 mn ‹19›) mn=some (.lst [.int 1,.int 4,.int (10 ^ (12:Int).toNat)]):=ak;refine⟨_,rfl,p,3,rfl,p10,by decide,by decide,fun r2 a2 b2 c2 l2 u2=>?_⟩;have o11:Off p H9 (upd (upd H9 mn ‹19›) p (.lst [.int a2,.int b2,.int c2])):=s10.off.trans Wc;have hmn11:(upd (upd H9 mn ‹19›) p (.lst [.int a2,.int b2,.int c2])) mn=some (.lst [.int 1,.int 4,.int (10 ^ (12:Int).toNat)]):=by rw [aA pmn.symm]; exact hmn10
   have p11:Pu (upd (upd H9 mn ‹19›) p (.lst [.int a2,.int b2,.int c2])) p:=Wg;generalize upd (upd H9 mn ‹19›) p (.lst [.int a2,.int b2,.int c2])=H11 at o11 hmn11 p11
   obtain ⟨z,hz',hz1,hz2⟩:∃ z:Int,atI [V.int 1,V.int 4,V.int (10 ^ (12:Int).toNat)] r2=some (.int z)/\0 < z/\z < 1606938044258990275541962092341162602522202993782792835301376:=by
    rcases (by omega:r2=0\/r2=1\/r2=2) with rfl | rfl | rfl
    ·exact⟨_,aJ (j:=0) rfl,by decide,by decide⟩
    ·exact⟨_,aJ (j:=1) rfl,by decide,by decide⟩
    ·exact⟨_,aJ (j:=2) rfl,by decide,by decide⟩
   refine⟨mn,_,_,_,rfl,rfl,V6 hmn11,hz',p,z,rfl,p11,hz1,hz2,fun num a3 b3 c3 _ _=>?_⟩;exists 2,o12,p12,p,H9,H11,a3,b3,c3,o11.trans Wc,H12;have hrl12:=o12 rl _ rlp hrl9;have hod12:=o12 od _ odp hod9;have hfl12:=o12 fl _ flp (o9 fl _ flp hfl);refine⟨_,rfl,.inl ⟨rfl,_,V6 hrl12⟩,_,rfl,_,rfl,_,rfl,_,rfl,od,.ref qo,rfl,.inl ⟨kvs9,.inr ns[i],.inl hod12,rfl,hg9.symm⟩,?_⟩;refine⟨_,rfl,_,rfl,p,fl,fs,3,rfl,p12,hfl12,by decide,hfs,fun qf fs' H13 hqf fsub _ hfl' o13 p13=>?_⟩;have o13:Off p H9 H13:=o12.trans o13;have hdl13:=o13 dl _ dlp (o9 dl _ dlp hdl);refine⟨_,rfl,_,rfl,p,dl,ds,rfl,p13,hdl13,hds,fun vd dds H14 dvd own o14 p14=>?_⟩
   have tu14:dH H13 H14:=fun c zs e=>by
    obtain ⟨x1,x2,x3,ep⟩:=p13;exact o14 c _ (eG e ep ‹11›) e
   have hqf14:=tu14 qf _ hqf;have o14:Off p H9 H14:=o13.trans o14
   have tu914:dH H9 H14:=fun c zs e=>by
    obtain ⟨x1,x2,x3,ep⟩:=p9;exact o14 c _ (eG e ep ‹11›) e
   have hrl14:=o14 rl _ rlp hrl9;have hod14:=o14 od _ odp hod9;have hl14:=o14 l _ lp hl9;refine⟨_,rfl,by show 6<=sizeLine; decide,fun qr hqr=>?_⟩
   have hyl:ys.length=i:=by
    have e1:=dl2.length;rw [aa] at e1;have e2:=congrArg List.length hrn;unfold kns at e2;rw [aa,bc] at e2;omega
   have qrr:rl≠qr:=au hrl14 hqr;refine⟨rl,ys,.ref qr,rfl,rfl,by rw [aA qrr]; exact hrl14,by omega,?_⟩
   have tu15:dH H14 (upd (upd H14 qr (.tup [.str ns[i],.ref q,.ref qo,.ref qf,vd,.int num])) rl (.lst (ys++[.ref qr]))):=fun c zs e=>by
    rw [aA (eG e hrl14 ‹11›),aA (au e hqr)];exact e
   refine⟨rs++[⟨ns[i],es,ns[i]::os,fs',dds,num⟩],ys++[.ref qr],kvs9,KC g ns[i] (ns[i]::os),_,_,_,_,rfl,?_,?_,hkl9,?_,?_,ak,?_,?_,?_,?_,?_⟩
   ·unfold kns;rw [aI,take_snoc hil];show kns rs++[ns[i]]=_;rw [hrn]
   ·intro r hr';rw [take_snoc hil];rcases cw.mp hr' with h | h
    ·obtain ⟨h1,h2,h3,h4,h5⟩:=hrs r h;exact⟨fun x hx=>fk _ (h1 x hx),h2,h3,fun x hx=>fk _ (h4 x hx),h5⟩
    ·rw [bj.mp h];refine⟨fun x hx=>?_,hol,by show fs'.length<=8; omega,fun x hx=>fk _ (sub x hx),hel,(nlen _ (bS hil)).2,own,fsub⟩;rcases bz.mp hx with rfl | h
     ·exact dQ _ (bj.mpr rfl)
     ·exact fk _ (subo x h)
   ·rw [take_snoc hil];exact og9.mono (tu914.trans tu15)
   ·rw [take_snoc hil];exact gg9
   ·rw [aI];refine(dl2.mono (tu29.trans (tu914.trans tu15))).append (.cons (K09.B.Dp.KH (e:=q) (o:=qo) (f:=qf) ?_ ((tu914.trans tu15) q _ hq9) ((tu914.trans tu15) qo _ hqo9) (tu15 qf _ hqf14) (dvd.mono tu15)) .nil);rw [aA qrr.symm,ak]
   ·rw [aA rlo.symm,aA (au hod14 hqr)];exact hod14
   ·rw [aA lrl,aA (au hl14 hqr)];exact hl14
   ·intro b u hb e;rw [aA (au e hrlH)];exact(Wd hqr:L2.Off p _ _) b u hb (o14 b u hb (o9 b u hb e))
   ·exact(p14.aA (p14.neN hqr)).aA rlp.symm
  ·rintro σ H2 ⟨rows,ys,kvs,g,v8,v9,v10,v11,rfl,hrn,hrs,_,_,_,hf2,dl,_,hl2,o2,p2⟩;have hrn:kns rows=ns:=by rw [hrn,aa,aw (ai _)]
   have hrl:rows.length=ns.length:=by rw [<- hrn]; exact(aa _).symm
   have good0:wj rows:=by
    refine⟨by rw [hrn]; exact nd,by omega,fun r hr x hx=>?_,fun r hr=>(hrs r hr).2.1,fun r hr=>(hrs r hr).2.2.1,fun r hr=>(hrs r hr).2.2.2.2.2.1,fun r hr=>⟨fun x hx=>?_,(hrs r hr).2.2.2.2.1⟩⟩;rotate_left
    ·rw [hrn];exact gS ((hrs r hr).2.2.2.1 x hx)
    rw [hrn];exact gS ((hrs r hr).1 x hx)
   have good:∀ {tb:List Row},tb.Perm rows->En ds fs tb:=fun pp=>⟨good0.perm pp,fun r hr=>(hrs r (pp.mem_iff.mp hr)).2.2.2.2.2.2.1,fun r hr=>(hrs r (pp.mem_iff.mp hr)).2.2.2.2.2.2.2⟩;have hyl:ys.length=rows.length:=by have:=dl.length; rwa [aa] at this
   have hyn:ys.length=n:=by omega
   refine⟨_,rfl,_,rfl,by omega,by omega,fun Dd hD=>?_⟩;have pD:p≠Dd:=p2.neN hD;have fD:rl≠Dd:=au hf2 hD
   have hDH:H Dd=none:=by
    cases q:H Dd with
    | none=>rfl
    | some o=>
     rw [o2 Dd o pD.symm q] at hD;cases hD
   have fp2:rl≠p:=rlp
   refine bA (n:=((n:Nat):Int).toNat) (fun i zs H3=>Paired (AtJ H3) zs (List.range i)/\H3 Dd=some (.lst zs)/\H3 rl=some (.lst ys)/\DpL H3 (rows.map tM) ys/\Off p H H3/\Pu H3 p)
    ⟨.nil,ak,by rw [aA fD]; exact hf2,dl.mono (V9 (We hD)),o2.trans (Wd hD),p2.aA pD⟩ ?_ ?_
   ·rintro zs H3 ⟨pz,hD3,hf3,dl3,o3,p3⟩;have hzl:zs.length=ys.length:=by have:=cE pz; rw [pT] at this; omega
    refine⟨ai _,Dd,zs,rfl,V6 hD3,by omega,?_,fun d qs pq hd=>?_⟩
    ·intro z hz';obtain ⟨i,hi,rfl⟩:=fF hz';obtain ⟨q,j,e,hq⟩:=fM pz i hi (by rw [<- cE pz]; exact hi);exact⟨q,j,_,e,hq,by unfold Qz; rw [cK aS]; exact⟨_,rfl⟩⟩
    obtain ⟨js,pj,pqj⟩:=K09.Paired.perm pq pz;have pd:p≠d:=p3.neN hd;have fd:rl≠d:=au hf3 hd;have hql:qs.length=ys.length:=by rw [pq.length_eq]; exact hzl
    have hjl:js.length=qs.length:=(cE pqj).symm
    have hjm:∀ j∈js,j < rows.length:=fun j hj=>by
     have:=fR.mp (pj.mem_iff.mp hj);omega
    refine⟨_,rfl,d,rfl,⟨_,V6 ak⟩,fun D2 hD2=>?_⟩;have dD2:d≠D2:=au ak hD2;have s4:Same H3 (upd H3 d (.lst qs)):=We hd;have fD2:rl≠D2:=au (s4 rl _ hf3) hD2;have p4:Pu (upd H3 d (.lst qs)) p:=p3.same s4;have s5:∀ o,Same H3 (upd (upd H3 d (.lst qs)) D2 o):=fun o=>s4.trans (We hD2);refine bA (n:=qs.length) (fun i ws H5=>ws=(js.take i).map (fun j=>ys.getD j .non)/\H5=upd (upd H3 d (.lst qs)) D2 (.lst ws)) ⟨rfl,rfl⟩ ?_ ?_
    ·rintro ws H5 ⟨rfl,rfl⟩;rw [aw ‹26›];refine⟨⟨_,V6 (by rw [aA dD2,ak]),ai _⟩,D2,_,rfl,.inl ⟨V6 ak,fun q hq=>?_⟩⟩;have s6:=(s5 (.lst (js.map fun j=>ys.getD j .non))).trans (We (o:=.tup (js.map fun j=>ys.getD j .non)) hq);refine k (.ref q) (js.map fun j=>rows.getD j ⟨"",[],[],[],[],0⟩) _ (L2.Dp.tup ak ?_) (good ?_) (by rw [aa]; omega) (o3.trans s6.off) (p3.same s6)
     ·have key:∀ js:List Nat,(∀ j∈js,j < rows.length)->DpL H3 ((js.map fun j=>rows.getD j ⟨"",[],[],[],[],0⟩).map tM) (js.map fun j=>ys.getD j .non):=by
       intro js
       induction js with
       | nil=>exact fun _=>.nil
       | cons j js ih=>
        intro h;have hj:j < rows.length:=h j bn;obtain ⟨y,ey,dy⟩:=dl3.get (i:=j) (t:=tM rows[j]) (by rw [bg,ae hj]; rfl);have e1:rows.getD j ⟨"",[],[],[],[],0⟩=rows[j]:=by simp [hj]
        have e2:ys.getD j .non=y:=by rw [mw,ey]; rfl
        rw [de,de,de,e1,e2];exact .cons dy (ih fun j' h'=>h j' (cr _ h'))
      exact(key js hjm).mono (V9 s6)
     ·have:=pj.map fun j=>rows.getD j ⟨"",[],[],[],[],0⟩
      have e3:(List.range ((n:Nat):Int).toNat).map (fun j=>rows.getD j ⟨"",[],[],[],[],0⟩)=rows:=by
       apply qc (by rw [aa,pT]; omega);intro i a b;simp [b]
      rw [e3] at this;exact this
    ·rintro i ws H5 hi ⟨rfl,rfl⟩;have ei:qs[i]?=some qs[i]:=ae hi;have hd5:(upd (upd H3 d (.lst qs)) D2 (.lst ((js.take i).map fun j=>ys.getD j .non))) d=some (.lst qs):=by rw [aA dD2,ak]
     refine⟨⟨_,_,V6 hd5,ei⟩,?_⟩;rintro y H6 ⟨rfl,yy⟩ σo ho;obtain ⟨o,o',rfl⟩:=Og ho;have ey:=yy _ (V6 hd5);rw [ei] at ey;have ey:=(ck ey).symm;have hij:i < js.length:=by omega
     obtain ⟨q',r',e,hq'⟩:=fM pqj i hi hij;rw [e] at ey;subst ey;have hj:=hjm js[i] (bS hij);have ey:ys[js[i]]?=some ys[js[i]]:=ae ‹26›;refine⟨q',_,rfl,V7 (s5 _ q' _ hq'),rfl,_,_,rfl,_,_,rfl,rfl,⟨[_,_],rfl,rfl⟩,cg ⟨_,rfl,_,rfl,rl,ys,_,_,rfl,rfl,V6 (s5 _ rl _ hf3),aJ ey,by rw [aa,bc]; omega,ak,aW hi ‹42›⟩⟩;rw [jS,ae hij,aI];congr 1;show [ys[js[i]]]=[ys.getD js[i] .non];rw [mw,ey];rfl
   ·rintro i zs H3 hi ⟨pz,hD3,hf3,dl3,o3,p3⟩;refine⟨hi,?_⟩;rintro x H4 ⟨rfl,rfl⟩ σo ho;exists 15;have hzl:zs.length=i:=by have:=cE pz; rwa [pT] at this
    refine⟨‹13›,cg ⟨_,rfl,p,997,rfl,p3,by decide,by decide,fun r a4 b4 c4 l4 u4=>⟨_,rfl,by show 2<=sizeLine; decide,fun q hq=>?_⟩⟩⟩
    have qD:q≠Dd:=by
     intro e;rw [e,aA pD.symm,hD3] at hq;cases hq
    have qp:q≠p:=fun e=>by
     rw [e,ak] at hq;cases hq
    rw [aA qp] at hq
    have tu:∀ o,dH H4 (upd (upd (upd H4 p (.lst [.int a4,.int b4,.int c4])) q (.tup [.int r,.int (0+(i:Int))])) Dd (.lst o)):=fun o c zs' e=>by
     obtain ⟨a,b,cc,ep⟩:=p3;rw [aA (eG e hD3 ‹11›),aA (au e hq),aA (eG e ep ‹11›)];exact e
    refine⟨by omega,by rw [aA qD.symm,aA pD.symm]; exact hD3,aW hi ⟨?_,ak,?_,dl3.mono (tu _),?_,?_⟩⟩
    ·rw [List.range_succ]
     have key:∀ {as:LV} {bs:List Nat} {y:V} {j:Nat} {F:V->Nat->Prop},Paired F as bs->F y j->Paired F (as++[y]) (bs++[j]):=by
      intro as bs y j F h hy
      induction h with
      | nil=>exact .cons hy .nil
      | cons a _ ih=>exact .cons a ih
     refine key (V4 pz fun y j ⟨q',r',e,hq'⟩=>⟨q',r',e,tu _ q' _ hq'⟩) ⟨q,r,rfl,?_⟩;rw [aA qD,ak];simp
    ·rw [aA fD,aA (au hf3 hq),aA fp2];exact hf3
    ·intro b o hb e;rw [aA (au e hDH),aA (fun z=>by rw [<- z] at hq; rw [o3 b o hb e] at hq; cases hq),aA hb];exact o3 b o hb e
    ·exact(Pu.upd.aA qp.symm).aA pD
end
end K09.B
end
section
namespace K09.E
open PySem PyProof.Rows L2
variable {H H':Hp}{p:ut}{m m' n n':Nat}{d:PyData}{v:V}
theorem lW(hp:Pu H p)(o:Off p H H'):dH H H':=fun c zs e=>by
 obtain ⟨x1,x2,x3,ep⟩:=hp;exact o c _ (eG e ep ‹11›) e
def is3:LP->Bool
 | [.int _,.int _,.int _]=>true
 | _=>false
mutual
def n3:PyData->Bool
 | .list xs=>!is3 xs && n3A xs
 | .tuple xs=>n3A xs
 | .dict kvs=>n3K kvs
 | _=>true
def n3A:LP->Bool
 | []=>true
 | x::xs=>n3 x && n3A xs
def n3K:List (PyData × PyData)->Bool
 | []=>true
 | (_,v)::r=>n3 v && n3K r
end
theorem Fz:∀(ks:LP) (ds:LP),ks.length=ds.length->n3K (ks.zip ds)=n3A ds
 | [],[],_=>by simp [n3K,n3A]
 | k::ks,d::ds,h=>by
  have ih:=Fz ks ds (by simpa using h);simp [n3K,n3A,ih]
 | [],_::_,h=>nomatch h
 | _::_,[],h=>nomatch h
mutual
theorem RdV.off{H H':Hp}{p:ut}(hp:Pu H p)(o:Off p H H'):∀ {v:V} {d:PyData},RdV H v d->n3 d=true->RdV H' v d
 | _,_,.non,_=>.non
 | _,_,.bl b,_=>.bl b
 | _,_,.int i,_=>.int i
 | _,_,.str x,_=>.str x
 | _,_,.tup e q,h=>.tup (lW hp o _ _ e) (RdA.off hp o q (by rw [n3] at h; exact h))
 | _,_,.lst (xs:=xs) (ds:=ds) e q,h=>by
  rw [n3,eK] at h;refine .lst (o _ _ (fun z=>?_) e) (RdA.off hp o q h.2);obtain ⟨x1,x2,x3,ep⟩:=hp;rw [z,ep] at e;exists 10;exists 10;rw [<- e] at q
  have h3:is3 ds=true:=by
   cases q with
   | cons q1 q=>
    cases q with
    | cons q2 q=>
     cases q with
     | cons q3 q=>
      cases q;cases q1;cases q2;cases q3;rfl
  rw [h3] at h;exact absurd h.1 ‹6›
 | _,_,.dct (kvs:=kvs) (ds:=ds) e q,h=>by
  rw [n3,Fz _ _ (by rw [aa,<- q.length,aa])] at h;refine .dct (o _ _ (fun z=>?_) e) (RdA.off hp o q h);obtain ⟨x1,x2,x3,ep⟩:=hp;rw [z,ep] at e;cases e
theorem RdA.off{H H':Hp}{p:ut}(hp:Pu H p)(o:Off p H H'):∀ {vs:LV} {ds:LP},RdA H vs ds->n3A ds=true->RdA H' vs ds
 | _,_,.nil,_=>.nil
 | _,_,.cons q r,h=>by
  rw [n3A,eK] at h;exact .cons (RdV.off hp o q h.1) (RdA.off hp o r h.2)
end
mutual
def dp:PyData->Nat
 | .list xs | .tuple xs=>1+dpA xs
 | .dict kvs=>1+dpK kvs
 | _=>0
def dpA:LP->Nat
 | []=>0
 | d::ds=>max (dp d) (dpA ds)
def dpK:List (PyData × PyData)->Nat
 | []=>0
 | (_,v)::r=>max (dp v) (dpK r)
end
structure Gd (m n:Nat) (d:PyData):Prop where
 nn:n3 d=true
 g:gs d
 w:wt d<=m
 p:dp d<=n
 b:br d<=62
theorem Gd.le(h:Gd m n d)(hm:m<=m')(hn:n<=n'):Gd m' n' d:=⟨h.nn,h.g,cS h.w hm,cS h.p hn,h.b⟩
theorem Gd.str{x:Str}(h:x.length<=20/\x.cps.all (· < 128)=true):Gd 21 0 (.str x):=⟨by simp [n3],by rw [gs]; exact⟨by omega,h.2⟩,by rw [wt]; omega,by simp [dp],by simp [br]⟩
theorem Gd.Q6(h:Gd m n d):Gd (m+1) (n+1) (.tuple [d]):=⟨by simp [n3,n3A,h.nn],by simp [gs,gsA,h.g],by simp [wt,wtA]; have:=h.w; omega,by simp [dp,dpA]; have:=h.p; omega,by simp [br,brA]; have:=h.b; omega⟩
theorem Gd.QT(h:Gd m n d):Gd (m+1) (n+1) (.list [d]):=⟨by simp [n3,n3A,is3,h.nn],by simp [gs,gsA,h.g],by simp [wt,wtA]; have:=h.w; omega,by simp [dp,dpA]; have:=h.p; omega,by simp [br,brA]; have:=h.b; omega⟩
theorem Gd.Uo{e:PyData}(h:Gd m n d)(h':Gd m n e):Gd (m+m+1) (n+1) (.tuple [d,e]):=⟨by simp [n3,n3A,h.nn,h'.nn],by simp [gs,gsA,h.g,h'.g],by simp [wt,wtA]; have:=h.w; have:=h'.w; omega,by simp [dp,dpA]; have:=h.p; have:=h'.p; omega,by simp [br,brA]; have:=h.b; have:=h'.b; omega⟩
theorem Gd.Tf:Gd 1 1 (.tuple []):=⟨by simp [n3,n3A],by simp [gs,gsA],by simp [wt,wtA],by simp [dp,dpA],by simp [br,brA]⟩
theorem Gd.Ub:Gd 1 1 (.list []):=⟨by simp [n3,n3A,is3],by simp [gs,gsA],by simp [wt,wtA],by simp [dp,dpA],by simp [br,brA]⟩
theorem Uv:∀ i:Nat,i < 16->i=0\/i=1\/i=2\/i=3\/i=4\/i=5\/i=6\/i=7\/i=8\/i=9\/i=10\/i=11\/i=12\/i=13\/i=14\/i=15:=by decide
theorem Uw:∀ i:Nat,i < 8->i=0\/i=1\/i=2\/i=3\/i=4\/i=5\/i=6\/i=7:=by decide
theorem Uj:∀ i:Nat,i < 6->i=0\/i=1\/i=2\/i=3\/i=4\/i=5:=by decide
theorem lt6(r:Int)(h:0<=r)(h':r < 6):r=0\/r=1\/r=2\/r=3\/r=4\/r=5:=by
 obtain ⟨n,rfl⟩:∃ n:Nat,r=n:=⟨r.toNat,by omega⟩;rcases Uj n ‹26› with e | e | e | e | e | e <;> subst e <;> simp
theorem lt8(r:Int)(h:0<=r)(h':r < 8):r=0\/r=1\/r=2\/r=3\/r=4\/r=5\/r=6\/r=7:=by
 obtain ⟨n,rfl⟩:∃ n:Nat,r=n:=⟨r.toNat,by omega⟩;rcases Uw n ‹26› with e | e | e | e | e | e | e | e <;> subst e <;> simp
theorem once{A G:Prop}(use:A->G)(rest:A):G:=use rest
def Odd(H:Hp)(v:V):Prop:=∃ d,RdV H v d/\Gd 60 30 d
theorem Odd.of(r:RdV H v d)(h:Gd m n d)(hm:m<=60)(hn:n<=30):Odd H v:=⟨d,r,h.le hm hn⟩
section
variable {P:uC}{w:ww}{K:PySem.W.Frag}{mg:MG}{base:Heap}{t:Adr}
inductive Py (vs:LV) (H:Hp) (Q:VK) (E_:XK):Prop
 | mk (p:ut):vs=[.ref p]->Pu H p->(∀(v:V) (d:PyData) H',RdV H' v d->Gd 60 30 d->Off p H H'->Pu H' p->Q v H')->Py vs H Q E_
theorem zA(D:Defs K mg t):cA P w K mg base CX0 2 t.gZ.1 t.gZ.2 ["_law_purse_here"] Py:=by
 exists 13;refine D.gZ.fn.ok jh ‹7› ‹1›
 ·obtain ⟨p,rfl,_⟩:=h;rfl
 ·obtain ⟨p,rfl,hp,k⟩:=h
  refine⟨_,(@aB _ _ _ _ _ (@aM _ _ 1 _ _ _ _ jh.nd rfl (uA rfl) (@cN _ _ _ _ (@aj _ _ _ _ _ jR (@aj _ _ _ _ _ fO (@aj _ _ _ _ _ fO (@aj _ _ _ _ _ aC (@aj _ _ _ _ _ aC (@aj _ _ _ _ _ (Cm u9 aC) (@aj _ _ _ _ _ (@cC _ _ _ _ _ (@aj _ _ _ _ _ (@cN _ _ _ _ (@aj _ _ _ _ _ dG aq (by rfl))) aq (by rfl))) (@aj _ _ _ _ _ dG (@aj _ _ _ _ _ dG (@aj _ _ _ _ _ dG (@aj _ _ _ _ _ dG (@aj _ _ _ _ _ dG (@aj _ _ _ _ _ dG (@aj _ _ _ _ _ (@cC _ _ _ _ _ aq) (@aj _ _ _ _ _ (@cC _ _ _ _ _ (@aj _ _ _ _ _ dG aq (by rfl))) (@aj _ _ _ _ _ (@cC _ _ _ _ _ (@aj _ _ _ _ _ dG (@aj _ _ _ _ _ dG aq (by rfl)) (by rfl))) aq (by rfl)) (by rfl)) (by rfl)) (by rfl)) (by rfl)) (by rfl)) (by rfl)) (by rfl)) (by rfl)) (by rfl)) (by rfl)) (by rfl)) (by rfl)) (by rfl)) (by rfl)) (by rfl))) (by rfl) (by first | exact .inl rfl | exact .inr rfl))
   (@aB _ _ _ _ _ (aM (i:=2) jh.nd rfl (uA rfl) (@aD _ _ _ _ _ _ _ _ _ _ _ _ _ D.aV Ga ‹2› (by rfl) (@aj _ _ _ _ _ (pv 0) (@aj _ _ _ _ _ (@aR _ _ _ _ _ _ _ _ cV (@aH _ _ _ _ _ _ _ _ _ bx (by rfl) D.cI bQ ‹20› ‹6› ‹6› (by rfl) (by rfl)) aC) aq (by rfl)) (by rfl)) ‹6› (by rfl) (by rfl)))
   (@aB _ _ _ _ _ (@bO _ _ _ _ _ _ _ _ (aY vP (pv 2) (@aH _ _ _ _ _ _ _ _ _ bx (by rfl) D.cI bQ ‹20› ‹6› ‹6› (by rfl) (by rfl)) (bh _))
   (@aF _ _ _ (@aL _ _ _ _ (@aP _ _ _ _ _ _ _ bN (pv 1) (pv 2) ‹3›)))
   aU)
   (@aB _ _ _ _ _ (aM (i:=3) jh.nd rfl (uA rfl) (@cC _ _ _ _ _ aq))
   (@aB _ _ _ _ _ (fP dP rfl (jG rfl D.nY (@aj _ _ _ _ _ aC aq (by rfl))) (aN (i:=4) jh.nd rfl (uA rfl))
   (@aF _ _ _ (aM (i:=3) jh.nd rfl (uA rfl) (@cC _ _ _ _ _ (@aj _ _ _ _ _ (pv 3) aq (by rfl))))))
   (@aF _ _ _ (@aL _ _ _ _ (@aP _ _ _ _ _ _ _ bN (@cN _ _ _ _ (@aj _ _ _ _ _ (@cN _ _ _ _ aq) (@aj _ _ _ _ _ (@cN _ _ _ _ (@aj _ _ _ _ _ dG aq (by rfl))) (@aj _ _ _ _ _ jN (@aj _ _ _ _ _ (O7 (Jv dG aC Ov) rfl rfl (by intro z; cases z) ‹6›) (@aj _ _ _ _ _ (pv 3) (@aj _ _ _ _ _ (@cN _ _ _ _ (@aj _ _ _ _ _ (pv 3) aq (by rfl))) aq (by rfl)) (by rfl)) (by rfl)) (by rfl)) (by rfl)) (by rfl))) (@aR _ _ _ _ _ _ _ _ nQ (pv 2) (@aH _ _ _ _ _ _ _ _ _ bx (by rfl) D.cI bQ ‹20› ‹6› ‹6› (by rfl) (by rfl))) ‹3›)))))))),?_⟩
  refine⟨1,rfl,by show 1<=sizeLine; decide,fun a1 ha1=>⟨by show 1<=sizeLine; decide,fun t1 ht1=>⟨dk _,fun t2 ht2=>⟨by show 1<=sizeLine; decide,fun t3 ht3=>⟨by show 2<=sizeLine; decide,fun t4 ht4=>⟨by show 16<=sizeLine; decide,fun m hm=>?_⟩⟩⟩⟩⟩⟩;have s1:=(We (o:=.lst [.str "a"]) ha1).trans (We (o:=.tup [.ref a1]) ht1);have e1:(upd (upd H a1 (.lst [.str "a"])) t1 (.tup [.ref a1])) t1=some (.tup [.ref a1]):=ak;have ea1:(upd (upd H a1 (.lst [.str "a"])) t1 (.tup [.ref a1])) a1=some (.lst [.str "a"]):=by rw [aA (au ak ht1),ak]
  generalize upd (upd H a1 (.lst [.str "a"])) t1 (.tup [.ref a1])=H1 at s1 e1 ea1 ht2 ht3 ht4 hm ⊢;have s2:Same H1 (upd H1 t2 (.tup [])):=We ht2;have e2:(upd H1 t2 (.tup [])) t2=some (.tup []):=ak;generalize upd H1 t2 (.tup [])=H2 at s2 e2 ht3 ht4 hm ⊢;have s3:Same H2 (upd H2 t3 (.tup [.str "a"])):=We ht3;have e3:(upd H2 t3 (.tup [.str "a"])) t3=some (.tup [.str "a"]):=ak;generalize upd H2 t3 (.tup [.str "a"])=H3 at s3 e3 ht4 hm ⊢;have s4:Same H3 (upd H3 t4 (.tup [.str "a",.str "a"])):=We ht4;have e4:(upd H3 t4 (.tup [.str "a",.str "a"])) t4=some (.tup [.str "a",.str "a"]):=ak;generalize upd H3 t4 (.tup [.str "a",.str "a"])=H4 at s4 e4 hm ⊢;generalize hvs:[V.non,V.bl true,V.bl false,V.int 0,V.int 1,V.int (-1),V.ref t1,V.str "",V.str "a",V.str "A",V.str "a1",V.str "abcdefg",V.str "a b",V.ref t2,V.ref t3,V.ref t4]=vs;have hvl:vs.length=16:=by rw [<- hvs]; rfl
  have hvh:∀ i:Nat,i < 16->∃ v,vs[i]?=some v/\Odd H4 v:=fun i hi=>by
   have z1:Odd H4 (.ref t1):=Odd.of (.tup (s4 _ _ (s3 _ _ (s2 _ _ e1))) (.cons (.lst (s4 _ _ (s3 _ _ (s2 _ _ ea1))) (.cons (.str "a") .nil)) .nil)) (Gd.Q6 (Gd.QT ‹12›)) ‹6› ‹6›;have z2:Odd H4 (.ref t2):=Odd.of (.tup (s4 _ _ (s3 _ _ e2)) .nil) Gd.Tf ‹6› ‹6›;have z3:Odd H4 (.ref t3):=Odd.of (.tup (s4 _ _ e3) (.cons (.str "a") .nil)) (Gd.Q6 ‹12›) ‹6› ‹6›;have z4:Odd H4 (.ref t4):=Odd.of (.tup e4 (.cons (.str "a") (.cons (.str "a") .nil))) (Gd.Uo ‹12› ‹12›) ‹6› ‹6›;rw [<- hvs];rcases Uv i hi with rfl | rfl | rfl | rfl | rfl | rfl | rfl | rfl | rfl | rfl | rfl | rfl | rfl | rfl | rfl | rfl
   ·exact⟨_,rfl,_,.non,‹8›⟩
   ·exact⟨_,rfl,_,.bl _,‹8›⟩
   ·exact⟨_,rfl,_,.bl _,‹8›⟩
   ·exact⟨_,rfl,_,.int _,‹8›⟩
   ·exact⟨_,rfl,_,.int _,‹8›⟩
   ·exact⟨_,rfl,_,.int _,‹8›⟩
   ·exact⟨_,rfl,z1⟩
   ·exact⟨_,rfl,Odd.of (.str _) ‹12› ‹6› ‹6›⟩
   ·exact⟨_,rfl,Odd.of (.str _) ‹12› ‹6› ‹6›⟩
   ·exact⟨_,rfl,Odd.of (.str _) ‹12› ‹6› ‹6›⟩
   ·exact⟨_,rfl,Odd.of (.str _) ‹12› ‹6› ‹6›⟩
   ·exact⟨_,rfl,Odd.of (.str _) ‹12› ‹6› ‹6›⟩
   ·exact⟨_,rfl,Odd.of (.str _) ‹12› ‹6› ‹6›⟩
   ·exact⟨_,rfl,z2⟩
   ·exact⟨_,rfl,z3⟩
   ·exact⟨_,rfl,z4⟩
  have s04:=s1.trans (s2.trans (s3.trans s4));have p4:Pu H4 p:=hp.same s04;clear s1 s2 s3 s4 e1 e2 e3 e4 ea1 hvs;have pm:p≠m:=p4.neN hm;have s5:Same H4 (upd H4 m (.lst vs)):=We hm;have p5:Pu (upd H4 m (.lst vs)) p:=p4.aA pm;have hm5:(upd H4 m (.lst vs)) m=some (.lst vs):=ak;generalize upd H4 m (.lst vs)=H5 at s5 p5 hm5;refine⟨_,rfl,_,rfl,m,_,rfl,.inl (V6 hm5),_,_,rfl,rfl,p,_,rfl,p5,by rw [hvl]; decide,by rw [hvl]; decide,fun r a b c l u=>?_⟩;have u:r < 22:=by rw [hvl] at u; exact u
  have o6:Off p H5 (upd H5 p (.lst [.int a,.int b,.int c])):=Wc;have p6:Pu (upd H5 p (.lst [.int a,.int b,.int c])) p:=Wg;have hm6:=o6 m _ pm.symm hm5;have o46:Off p H4 (upd H5 p (.lst [.int a,.int b,.int c])):=s5.off.trans o6;generalize upd H5 p (.lst [.int a,.int b,.int c])=H6 at o6 p6 hm6 o46;refine⟨_,rfl,_,rfl,m,_,rfl,.inl (V6 hm6),_,_,rfl,rfl,_,rfl,gH ‹44› ‹44›⟩
  ·have hb:r < 16:=by
    have:=eA hb;rw [hvl] at this;exact this
   obtain ⟨j,rfl⟩:∃ j:Nat,r=(j:Int):=⟨r.toNat,by omega⟩;obtain ⟨v,ev,d,rd,nd⟩:=hvh j ‹26›;refine⟨_,rfl,_,rfl,m,_,_,_,rfl,rfl,V6 hm6,aJ ev,?_⟩;exact k v d H6 (K09.E.RdV.off p4 o46 rd nd.nn) nd (s04.off.trans o46) p6
  ·have hb:¬ r < 16:=fun h=>hb (bo (by rw [hvl]; exact h));refine⟨dk _,fun d hd=>?_⟩;refine⟨_,rfl,by decide,by decide,?_⟩;have pd:p≠d:=p6.neN hd
   refine mC (lo:=0) (n:=(24:Int).toNat) (fun i σ H2=>∃(q:ut) (v4:OV),σ=[some (.ref p),some (.ref m),some (.int r),some (.ref q),v4]/\(∃ dq,RdV H2 (.ref q) dq/\Gd (i+1) (i+1) dq)/\Same H6 H2)
    ⟨d,_,rfl,⟨_,.tup ak .nil,Gd.Tf⟩,We hd⟩ ?_ ?_
   ·rintro i σ H2 hi ⟨q,v4,rfl,⟨dq,rq,nq⟩,s2⟩;refine⟨_,rfl,by show 1<=sizeLine; decide,fun q2 hq2=>?_⟩;exact⟨q2,_,rfl,⟨_,.tup ak (.cons (rq.bH (We hq2)) .nil),nq.Q6⟩,s2.trans (We hq2)⟩
   ·rintro σ H2 ⟨q,v4,rfl,⟨dq,rq,nq⟩,s2⟩;refine⟨dk _,fun l1 hl1=>⟨by show 1<=sizeLine; decide,fun l2 hl2=>fun d1 hd1=>fun d2 hd2=>?_⟩⟩;have sa:Same H2 (upd (upd H2 l1 (.lst [])) l2 (.lst [.str "a"])):=(We hl1).trans (We hl2);have f1:(upd (upd H2 l1 (.lst [])) l2 (.lst [.str "a"])) l1=some (.lst []):=by rw [aA (au ak hl2),ak]
    have f2:(upd (upd H2 l1 (.lst [])) l2 (.lst [.str "a"])) l2=some (.lst [.str "a"]):=ak;generalize upd (upd H2 l1 (.lst [])) l2 (.lst [.str "a"])=H3 at sa f1 f2 hd1 hd2 ⊢;have sb:Same H3 (upd H3 d1 (.dK [])):=We hd1;have f3:(upd H3 d1 (.dK [])) d1=some (.dK []):=ak;generalize upd H3 d1 (.dK [])=H4' at sb f3 hd2 ⊢;refine⟨ak,[(.inr "a",.int 1)],rfl,by decide,?_⟩;rw [cX];have sc:Same H4' (upd H4' d2 (.dK (cD [] [(.inr "a",.int 1)]))):=We hd2;have f4:(upd H4' d2 (.dK (cD [] [(.inr "a",.int 1)]))) d2=some (.dK (cD [] [(.inr "a",.int 1)])):=ak;generalize upd H4' d2 (.dK (cD [] [(.inr "a",.int 1)]))=H5' at sc f4 ⊢;refine⟨_,rfl,_,rfl,by show 1<=sizeLine; decide,fun l3 hl3=>?_⟩;have sd:Same H5' (upd H5' l3 (.lst [.ref q])):=We hl3;have f5:(upd H5' l3 (.lst [.ref q])) l3=some (.lst [.ref q]):=ak;generalize upd H5' l3 (.lst [.ref q])=H6' at sd f5 ⊢;refine⟨by show 6<=sizeLine; decide,fun l4 hl4=>?_⟩;have se:Same H6' (upd H6' l4 (.lst [.ref l1,.ref l2,.ref d1,.ref d2,.ref q,.ref l3])):=We hl4;have f6:(upd H6' l4 (.lst [.ref l1,.ref l2,.ref d1,.ref d2,.ref q,.ref l3])) l4=some (.lst [.ref l1,.ref l2,.ref d1,.ref d2,.ref q,.ref l3]):=ak;generalize upd H6' l4 (.lst [.ref l1,.ref l2,.ref d1,.ref d2,.ref q,.ref l3])=H7' at se f6 ⊢;have sall:=s2.trans (sa.trans (sb.trans (sc.trans (sd.trans se))));have rq7:=rq.bH (sa.trans (sb.trans (sc.trans (sd.trans se))))
    obtain ⟨v,ev,d,rv,nv⟩:∃ v,atI [V.ref l1,.ref l2,.ref d1,.ref d2,.ref q,.ref l3] (r - 16)=some v/\Odd H7' v:=by
     have g1:=se _ _ (sd _ _ (sc _ _ (sb _ _ f1)));have g2:=se _ _ (sd _ _ (sc _ _ (sb _ _ f2)));have g3:=se _ _ (sd _ _ (sc _ _ f3));have g4:=se _ _ (sd _ _ f4);have g5:=se _ _ f5;rcases lt6 (r - 16) ‹26› ‹26› with e | e | e | e | e | e <;> rw [e]
     ·exact⟨_,aJ (j:=0) rfl,Odd.of (.lst g1 .nil) Gd.Ub ‹6› ‹6›⟩
     ·exact⟨_,aJ (j:=1) rfl,Odd.of (.lst g2 (.cons (.str "a") .nil)) (Gd.QT ‹12›) ‹6› ‹6›⟩
     ·exact⟨_,aJ (j:=2) rfl,_,.dct g3 .nil,⟨by simp [n3,n3K],by simp [gs,gsK],by simp [wt,wtK],by simp [dp,dpK],by simp [br,brK,Dk]⟩⟩
     ·exact⟨_,aJ (j:=3) rfl,_,.dct g4 (.cons (.int 1) .nil),⟨by simp [cD,putK,n3,n3K],by simp [cD,putK,HS,gs,gsK]; exact⟨by decide +kernel,by unfold Asc; decide +kernel⟩,by simp [cD,putK,HS,wt,wtK]; decide +kernel,by simp [cD,putK,dp,dpK],by simp [cD,putK,HS,br,brK,Dk]⟩⟩
     ·exact⟨_,aJ (j:=4) rfl,Odd.of rq7 nq ‹6› ‹6›⟩
     ·exact⟨_,aJ (j:=5) rfl,Odd.of (.lst g5 (.cons rq7 .nil)) nq.QT ‹6› ‹6›⟩
    refine⟨_,rfl,_,rfl,m,_,rfl,.inl (V6 (sall _ _ hm6)),_,_,rfl,rfl,l4,_,_,_,rfl,rfl,V6 f6,by rw [hvl]; exact ev,?_⟩;exact k v d H7' rv nv ((s04.off.trans o46).trans sall.off) (p6.same sall)
end
end K09.E
end
section
namespace L2
open PySem PySem.Spec PyProof.Rows
def Vd(P:uC)(w:ww)(K:PySem.W.Frag)(a:ut)(kvs:LK0):Prop:=(a == An)=false/\∃(o:Obj) (es:Array Hm) (ep:Nat) (vs:List (Key × sr)),K.lookup a=some o/\o.ExactDict/\o.data=.dict es ep/\KeysOf (bU P w) es/\Pairs (bU P w) es.toList vs/\(vs.map (·.1)).Nodup/\KV kvs vs
section
variable {X:Cx}
end
end L2
end
section
namespace K09.E
open PySem PyProof.Rows L2
variable {i m m' n n':Nat}{ds:LP}{d:PyData}
theorem Asc.rep{x:Str}(h:Asc x)(n:Int):Asc (ig x n):=.of fun c hc=>by
 unfold ig at hc;split at hc
 ·exact nomatch hc
 ·split at hc
  ·exact h.to c hc
  ·rcases zK hc with q | q
   ·exact nomatch q
   ·exact h.to c q
theorem Asc.one{x:Str}(h:Asc x){i:Int}{c:Nat}(e:atI x.cps.toList i=some c):Asc ⟨#[c]⟩:=.of fun d hd=>by
 rw [bj.mp (show d∈[c] from hd)];exact h.to c (qU e)
theorem uc{x:Str}{j:Int}(h0:0<=j):(ym x none (some j)).length<=j.toNat:=by
 by_cases h:j<=x.length
 ·rw [kE h0 h];exact ai _
 ·exact cS (jD x _ _) ‹26›
section
variable {P:uC}{w:ww}{K:PySem.W.Frag}{mg:MG}{base:Heap}{t:Adr}
inductive Ft (vs:LV) (H:Hp) (Q:VK) (E_:XK):Prop
 | mk (p:ut) (x:Str):vs=[.ref p,.str x]->Pu H p->x.length<=1000->Asc x->(∀(y:Str) H',y.length<=2 * x.length+1->Asc y->Off p H H'->Pu H' p->Q (.str y) H')->Ft vs H Q E_
theorem Ce(D:Defs K mg t):cA P w K mg base CX0 2 t.dN.1 t.dN.2 ["_law_purse_here","_law_word_here"] Ft:=by
 exists 13;exists 5;refine D.dN.fn.ok gJ ‹7› ‹1›
 ·obtain ⟨p,x,rfl,_⟩:=h;rfl
 ·obtain ⟨p,x,rfl,hp,hx,ax,k⟩:=h
  refine⟨_,(aB (aM (i:=2) gJ.nd rfl (uA rfl) ‹28›)
   (aB (aM (i:=3) gJ.nd rfl (uA rfl) (aD D.aV Ga ‹2› (by rfl) (aj (pv 0) (aj (aR cV (aH jZ (by rfl) D.cI bQ (aj (pv 1) aq)) aC) aq))))
   (aB (aM (i:=4) gJ.nd rfl (uA rfl) (aP Ef dG ‹28› ‹3›))
   (aB (bO ‹38›
   (aF (aL (aR fY (aR fY (aZ lE (pv 1) bB (bC (pv 3))) (pv 4)) (aZ lE (pv 1) (bC (pv 3)) bB))))
   aU)
   (aF (aL (aR fY (aR fY (aZ lE (pv 1) bB (bC (pv 3))) (aR uP (pv 4) (aR nQ (pv 2) aC))) (aZ lE (pv 1) (bC (aR cV (pv 3) aC)) bB)))))))),?_⟩
  refine⟨_,rfl,p,3,rfl,hp,by decide,by decide,fun r1 a1 b1 c1 l1 u1=>?_⟩;refine⟨_,rfl,_,rfl,x,rfl,by omega,_,_,rfl,rfl,p,_,rfl,Wg,by omega,by omega,fun r2 a2 b2 c2 l2 u2=>?_⟩;rw [cX];exists 2,o2,p2,p,H,H,a2,b2,c2,Wc,H2;refine⟨_,rfl,p,32,rfl,p2,by decide,by decide,fun r3 a3 b3 c3 l3 u3=>?_⟩;have o3:=o2.trans (Wc (p:=p) (H:=H2) (o:=.lst [.int a3,.int b3,.int c3]));have p3:Pu (upd H2 p (.lst [.int a3,.int b3,.int c3])) p:=Wg;generalize upd H2 p (.lst [.int a3,.int b3,.int c3])=H3 at o3 p3;have h32:((("abcdefghijklmnopqrstuvwxyzAZ09 _" : Str).cps.toList).length:Int)=32:=by decide +kernel
  obtain ⟨cc,ec,_,_⟩:=wI (xs:=("abcdefghijklmnopqrstuvwxyzAZ09 _" : Str).cps.toList) l3 (by rw [h32]; exact u3);refine⟨_,_,cc,rfl,rfl,by decide +kernel,ec,?_⟩;have ac:Asc ⟨#[cc]⟩:=K09.E.Asc.one (by unfold Asc; decide +kernel) ec;have e1:=jD x none (some r2);refine⟨_,rfl,rfl,_,rfl,gH ‹44› ‹44›⟩
  ·have e2:=jD x (some r2) none;refine⟨_,rfl,_,rfl,_,rfl,x,rfl,by omega,_,rfl,_,_,rfl,rfl,by show _+1<=_; omega,_,rfl,_,rfl,_,rfl,x,rfl,by omega,_,_,rfl,rfl,?_,k _ H3 ?_ (((ax.slice _ _).app ac).app (ax.slice _ _)) o3 p3⟩
   ·rw [dF];show _+1+_<=_;omega
   ·rw [dF,dF];show _+1+_<=_;omega
  ·have hb:r1≠0:=fun h=>hb (bo (by rw [h]));have e2:=jD x (some (r2+1)) none
   have q3:(ig ⟨#[cc]⟩ (r1 - 1)).length<=1:=by
    rcases (by omega:r1=1\/r1=2) with rfl | rfl
    ·exact dk _
    ·exact ai _
   refine⟨_,rfl,_,rfl,_,rfl,x,rfl,by omega,_,rfl,_,rfl,_,_,rfl,rfl,_,_,rfl,rfl,by omega,by omega,by show 1<=1000; decide,_,_,rfl,rfl,by omega,_,rfl,_,rfl,_,_,rfl,rfl,_,rfl,x,rfl,by omega,_,_,rfl,rfl,?_,k _ H3 ?_ (((ax.slice _ _).app (K09.E.Asc.rep ac _)).app (ax.slice _ _)) o3 p3⟩
   ·rw [dF];omega
   ·rw [dF,dF];omega
theorem pZ:∀ {ds:LP},n3A ds=true↔∀ d∈ds,n3 d=true
 | []=>by simp [n3A]
 | d::ds=>by
  rw [n3A,eK,pZ];simp
theorem pA{n:Nat}:∀ {ds:LP},dpA ds<=n↔∀ d∈ds,dp d<=n
 | []=>by simp [dpA]
 | d::ds=>by
  rw [dpA,kC,pA];simp
structure GdA (m n:Nat) (ds:LP):Prop where
 nn:∀ d∈ds,n3 d=true
 g:∀ d∈ds,gs d
 w:wtA ds<=m
 p:∀ d∈ds,dp d<=n
 b:∀ d∈ds,br d<=62
theorem GdA.le(h:GdA m n ds)(hm:m<=m')(hn:n<=n'):GdA m' n' ds:=⟨h.nn,h.g,cS h.w hm,fun d hd=>cS (h.p d hd) hn,h.b⟩
theorem GdA.tup{m n:Nat}{ds:LP}(h:GdA m n ds)(hl:ds.length<=62):Gd (m+1) (n+1) (.tuple ds):=⟨by rw [n3]; exact pZ.mpr h.nn,by rw [gs]; exact nU.mpr h.g,by rw [wt]; have:=h.w; omega,by rw [dp]; have:=pA.mpr h.p; omega,by rw [br]; exact kC.mpr ⟨hl,mj.mpr h.b⟩⟩
theorem GdA.lst{m n:Nat}{ds:LP}(h:GdA m n ds)(h3:is3 ds=false)(hl:ds.length<=62):Gd (m+1) (n+1) (.list ds):=⟨by rw [n3,h3,pZ.mpr h.nn]; rfl,by rw [gs]; exact nU.mpr h.g,by rw [wt]; have:=h.w; omega,by rw [dp]; have:=pA.mpr h.p; omega,by rw [br]; exact kC.mpr ⟨hl,mj.mpr h.b⟩⟩
theorem Gd.eV(h:Gd (m+1) (n+1) (.tuple ds)):GdA m n ds:=by
 obtain ⟨h1,h2,h3,h4,h5⟩:=h;rw [br] at h5;rw [n3] at h1;rw [gs] at h2;rw [wt] at h3;rw [dp] at h4;exact⟨pZ.mp h1,nU.mp h2,by omega,pA.mp ‹26›,mj.mp (kC.mp h5).2⟩
theorem GdA.app{es:LP}(h:GdA m n ds)(h':GdA m' n es):GdA (m+m') n (ds++es):=⟨fun d hd=>(cw.mp hd).elim (h.nn d) (h'.nn d),fun d hd=>(cw.mp hd).elim (h.g d) (h'.g d),by rw [ql]; have:=h.w; have:=h'.w; omega,fun d hd=>(cw.mp hd).elim (h.p d) (h'.p d),fun d hd=>(cw.mp hd).elim (h.b d) (h'.b d)⟩
theorem GdA.take(h:GdA m n ds)(k:Nat):GdA m n (ds.take k):=⟨fun d hd=>h.nn d (gS hd),fun d hd=>h.g d (gS hd),by
 have:=ql (ds.take k) (ds.drop k);rw [ja] at this;have:=h.w;omega,fun d hd=>h.p d (gS hd),fun d hd=>h.b d (gS hd)⟩
theorem GdA.drop(h:GdA m n ds)(k:Nat):GdA m n (ds.drop k):=⟨fun d hd=>h.nn d (kg hd),fun d hd=>h.g d (kg hd),by
 have:=ql (ds.take k) (ds.drop k);rw [ja] at this;have:=h.w;omega,fun d hd=>h.p d (kg hd),fun d hd=>h.b d (kg hd)⟩
theorem GdA.one(h:Gd m n d):GdA m n [d]:=⟨fun e he=>by rw [bj.mp he]; exact h.nn,fun e he=>by rw [bj.mp he]; exact h.g,by rw [wtA,wtA]; have:=h.w; omega,fun e he=>by rw [bj.mp he]; exact h.p,fun e he=>by rw [bj.mp he]; exact h.b⟩
theorem GdA.get{m n:Nat}{ds:LP}(h:GdA m n ds){d:PyData}(hd:d∈ds):Gd m n d:=⟨h.nn d hd,h.g d hd,cS (yU hd) h.w,h.p d hd,h.b d hd⟩
theorem GdA.put(h:GdA m n ds)(hd:Gd m' n d)(k:Nat):GdA (m+m'+m) n (ds.take k++[d]++ds.drop (k+1)):=((h.take k).app (GdA.one hd)).app (h.drop (k+1))
theorem RdA.take{H:Hp}:∀ {vs:LV} {ds:LP},RdA H vs ds->∀ k:Nat,RdA H (vs.take k) (ds.take k)
 | _,_,.nil,k=>by rw [List.take_nil,List.take_nil]; exact .nil
 | _,_,.cons r q,0=>.nil
 | _,_,.cons r q,k+1=>.cons r (RdA.take q k)
theorem RdA.drop{H:Hp}:∀ {vs:LV} {ds:LP},RdA H vs ds->∀ k:Nat,RdA H (vs.drop k) (ds.drop k)
 | _,_,.nil,k=>by rw [List.drop_nil,List.drop_nil]; exact .nil
 | _,_,.cons r q,0=>.cons r q
 | _,_,.cons r q,k+1=>RdA.drop q k
theorem RdA.set{H:Hp}{v:V}{d:PyData}(rv:RdV H v d):∀ {vs:LV} {ds:LP},RdA H vs ds->∀ k:Nat,RdA H (vs.set k v) (ds.set k d)
 | _,_,.nil,k=>.nil
 | _,_,.cons r q,0=>.cons rv q
 | _,_,.cons r q,k+1=>.cons r (RdA.set rv q k)
theorem Gz{d:PyData}:∀(ds:LP) (k:Nat),wtA (ds.set k d)<=wtA ds+wt d
 | [],k=>by rw [List.set_nil]; omega
 | e::ds,0=>by rw [List.set_cons_zero,wtA,wtA]; omega
 | e::ds,k+1=>by
  rw [List.set_cons_succ,wtA,wtA];have:=Gz (d:=d) ds k;omega
theorem GdA.set(h:GdA m n ds)(hd:Gd m' n d)(k:Nat):GdA (m+m') n (ds.set k d):=
 ⟨fun e he=>(i9 he).elim (h.nn e) fun z=>z ▸ hd.nn,fun e he=>(i9 he).elim (h.g e) fun z=>z ▸ hd.g,by have:=Gz (d:=d) ds k; have:=h.w; have:=hd.w; omega,fun e he=>(i9 he).elim (h.p e) fun z=>z ▸ hd.p,fun e he=>(i9 he).elim (h.b e) fun z=>z ▸ hd.b⟩
inductive Mt (vs:LV) (H:Hp) (Q:VK) (E_:XK):Prop
 | mk (p a:ut) (xs:LV) (ds:LP) (m:Nat):vs=[.ref p,.ref a]->Pu H p->H a=some (.tup xs)->RdA H xs ds->GdA m 32 ds->is3 ds=false->ds.length<=61->(∀(v:V) (d:PyData) H',RdV H' v d->Gd (3 * m+62) 33 d->Off p H H'->Pu H' p->Q v H')->Mt vs H Q E_
theorem Ob(D:Defs K mg t):cA P w K mg base CX0 3 t.fL.1 t.fL.2 ["_law_purse_here","_law_row_here"] Mt:=by
 exists 13;have Gac:=@zA P w K mg base t D;exists 5;refine D.fL.fn.ok d7 ‹7› ‹1›
 ·obtain ⟨p,a,xs,ds,m,rfl,_⟩:=h;rfl
 ·obtain ⟨p,a,xs,ds,m,rfl,hp,ha,rl,gd,h3,hl,k⟩:=h;have hxl:=rl.length;have n3a:n3A ds=true:=pZ.mpr gd.nn
  refine⟨_,(aB (aM (i:=2) d7.nd rfl (uA rfl) ‹28›)
   (aB (bO (V5 (gK (aY gq ‹18› aC (bh _)) (gk ‹38›)))
   (aB (aM (i:=3) d7.nd rfl (uA rfl) (aD D.aV Ga ‹2› (by rfl) (aj (pv 0) (aj (aR cV ‹18› aC) aq))))
   (aF (aL (aR cP (aR cP (aZ bR (pv 1) bB (bC (pv 3))) (cC (aj (aD D.gZ Gac ‹2› (by rfl) ‹36›) aq))) (aZ bR (pv 1) (bC (pv 3)) bB)))))
   aU)
   (aB (aM (i:=3) d7.nd rfl (uA rfl) (aD D.aV Ga ‹2› (by rfl) (aj (pv 0) (aj ‹18› aq))))
   (aB (aM (i:=4) d7.nd rfl (uA rfl) (aD D.aV Ga ‹2› (by rfl) (aj (pv 0) (aj ‹18› aq))))
   (aB (aM (i:=5) d7.nd rfl (uA rfl) (bG qQ (by rfl) D.yV uZ (aj (pv 1) aq)))
   (aB (bO ‹38›
   (aF (aL (aR cP (aZ bR (pv 1) bB (bC (pv 3))) (aZ bR (pv 1) (bC (aR cV (pv 3) aC)) bB))))
   aU)
   (aB (bO ‹38›
   (aF (aL (aR cP (aR cP (aZ bR (pv 1) bB (bC (pv 3))) (cC (aj (aP aO (pv 1) (pv 4) ‹3›) aq))) (aZ bR (pv 1) (bC (pv 3)) bB))))
   aU)
   (aB (bO ‹38›
   (aB (qY (aP aO (pv 1) (pv 4) ‹3›) (tY (pv 5) (pv 3) set_list))
   (aB (qY (aP aO (pv 1) (pv 3) ‹3›) (tY (pv 5) (pv 4) set_list))
   (aF (aL (bG cB (by rfl) D.bY bK (aj (pv 5) aq))))))
   aU)
   (aB (bO ‹38›
   (aF (aL (pv 5)))
   aU)
   (aF (aL (aR cP (aR cP (aZ bR (pv 1) bB (bC (pv 3))) (cC (aj (aP aO (pv 1) (pv 4) ‹3›) aq))) (aZ bR (pv 1) (bC (aR cV (pv 3) aC)) bB))))))))))))),?_⟩
  refine⟨_,rfl,p,6,rfl,hp,by decide,by decide,fun r1 a1 b1 c1 l1 u1=>?_⟩;exists 2,o1,p1,p,H,H,a1,b1,c1,Wc,H1;have ha1:=lW hp o1 a _ ha;refine once (fun rest=>⟨_,rfl,a,_,rfl,.inr (V7 ha1),rfl,_,rfl,gH (fun hb=>bM rest) (fun hb=>⟨_,rfl,rfl,_,rfl,gH (fun hb2=>rest) (fun hb2=>?_)⟩)⟩) ?_
  ·have hpos:0 < xs.length:=by
    rcases Nat.eq_zero_or_pos xs.length with h | h
    ·exact absurd (bo (by rw [h]; rfl)) hb
    ·exact h
   refine⟨_,rfl,_,rfl,a,_,rfl,.inr (V7 ha1),p,_,rfl,p1,by omega,by omega,fun r2 a2 b2 c2 l2 u2=>?_⟩;exists 2,o2,p2,p,H,H1,a2,b2,c2,o1.trans Wc,H2;have ha2:=lW hp o2 a _ ha;refine⟨_,rfl,_,rfl,a,_,rfl,.inr (V7 ha2),p,_,rfl,p2,by omega,by omega,fun r3 a3 b3 c3 l3 u3=>?_⟩;exists 2,o3,p3,p,H,H2,a3,b3,c3,o2.trans Wc,H3;have ha3:=lW hp o3 a _ ha;refine⟨_,rfl,a,xs,rfl,.inr (V7 ha3),fun lt hlt=>?_⟩;have s4:Same H3 (upd H3 lt (.lst xs)):=We hlt;have hlt4:(upd H3 lt (.lst xs)) lt=some (.lst xs):=ak
   have hltH:H lt=none:=by
    cases q:H lt with
    | none=>rfl
    | some o=>rw [o3 lt o (p3.neN hlt).symm q] at hlt; cases hlt
   have plt:=p3.neN hlt;generalize upd H3 lt (.lst xs)=H4 at s4 hlt4;have o4:Off p H H4:=o3.trans s4.off;have p4:=p3.same s4;have ha4:=s4 a _ ha3;have rl4:=K09.E.RdA.off hp o4 rl n3a;obtain ⟨i2,rfl⟩:∃ i:Nat,r2=(i:Int):=⟨r2.toNat,by omega⟩;obtain ⟨i3,rfl⟩:∃ i:Nat,r3=(i:Int):=⟨r3.toNat,by omega⟩;have j2:i2 < ds.length:=by omega
   have j3:i3 < ds.length:=by omega
   obtain ⟨y2,ey2,ry2⟩:=rl4.get (ae j2);obtain ⟨y3,ey3,ry3⟩:=rl4.get (ae j3);have g2:=gd.get (bS j2);have g3:=gd.get (bS j3);have k1:=cH xs none (some (i2:Int));have k2:=cH xs (some (i2:Int)) none;have k3:=cH xs (some ((i2:Int)+1)) none;have cd1:eF xs (some ((i2:Int)+1)) none=xs.drop (i2+1):=dU xs (i2+1);refine⟨_,rfl,rfl,_,rfl,gH (fun hb3=>?_) (fun hb3=>?_)⟩
   ·refine⟨_,rfl,_,rfl,(i2:Int),rfl,a,xs,rfl,ha4,fun q5 H5 hq5 s5=>?_⟩;refine⟨_,rfl,_,rfl,_,_,rfl,rfl,(i2:Int)+1,rfl,a,xs,rfl,s5 a _ ha4,fun q6 H6 hq6 s6=>?_⟩;refine⟨q5,q6,_,_,rfl,rfl,s6 q5 _ hq5,hq6,by omega,fun q7 H7 hq7 s7=>?_⟩;have s47:=(s5.trans s6).trans s7;rw [d8,cd1] at hq7;have rl7:=rl4.bH s47;exact k (.ref q7) _ H7 (.tup hq7 ((K09.E.RdA.take rl7 _).append (K09.E.RdA.drop rl7 _))) ((((gd.take _).app (gd.drop _)).tup (by simp; omega)).le ‹26› ‹6›) (o4.trans s47.off) (p4.same s47)
   refine⟨_,rfl,rfl,_,rfl,gH (fun hb4=>?_) (fun hb4=>?_)⟩
   ·refine⟨_,rfl,_,rfl,(i2:Int),rfl,a,xs,rfl,ha4,fun q5 H5 hq5 s5=>?_⟩;refine⟨_,rfl,_,rfl,a,xs,_,_,rfl,rfl,V7 (s5 a _ ha4),aJ ey3,by show 1<=sizeLine; decide,fun q6 hq6=>?_⟩;exists 1,s6,k6,H5,q6,(.tup [y3]),hq6,H6;refine⟨q5,q6,_,_,rfl,rfl,s6 q5 _ hq5,k6,by show _+1<=_; omega,fun q7 H7 hq7 s7=>?_⟩;refine⟨_,rfl,_,rfl,(i2:Int),rfl,a,xs,rfl,s7 a _ (s6 a _ (s5 a _ ha4)),fun q8 H8 hq8 s8=>?_⟩;refine⟨q7,q8,_,_,rfl,rfl,s8 q7 _ hq7,hq8,by rw [bX]; show _+1+_<=_; omega,fun q9 H9 hq9 s9=>?_⟩;have s49:=(((s5.trans s6).trans s7).trans s8).trans s9;rw [d8,dU] at hq9;have rl9:=rl4.bH s49;exact k (.ref q9) _ H9 (.tup hq9 (((K09.E.RdA.take rl9 _).append (.cons (ry3.bH s49) .nil)).append (K09.E.RdA.drop rl9 _))) (((((gd.take _).app (GdA.one g3)).app (gd.drop _)).tup (by simp; omega)).le ‹26› ‹6›) (o4.trans s49.off) (p4.same s49)
   refine⟨_,rfl,rfl,_,rfl,gH (fun hb5=>?_) (fun hb5=>?_)⟩
   ·have alt:a≠lt:=eG ha4 hlt4 ‹11›
    have ix:∀ {i:Nat},i < xs.length->ixN xs.length (i:Int)=some i:=fun {i} h=>by
     unfold ixN;simp [h]
    refine⟨_,rfl,_,rfl,a,xs,_,_,rfl,rfl,V7 ha4,aJ ey3,_,rfl,_,rfl,lt,xs,(i2:Int),i2,rfl,rfl,hlt4,ix ‹26›,?_⟩;refine⟨_,rfl,_,rfl,a,xs,_,_,rfl,rfl,V7 (by rw [aA alt]; exact ha4),aJ ey2,_,rfl,_,rfl,lt,xs.set i2 y3,(i3:Int),i3,rfl,rfl,ak,by rw [List.length_set]; exact ix ‹26›,?_⟩;rw [cX];refine⟨_,rfl,lt,_,rfl,.inl ⟨V6 ak,fun q hq=>?_⟩⟩
    have s37:Same H3 (upd (upd H4 lt (.lst ((xs.set i2 y3).set i3 y2))) q (.tup ((xs.set i2 y3).set i3 y2))):=fun c u e=>by
     have e2:(upd H4 lt (.lst ((xs.set i2 y3).set i3 y2))) c=some u:=by
      rw [aA (au e hlt)];exact s4 c u e
     rw [aA (au e2 hq)];exact e2
    have rl7:=(K09.E.RdA.off hp o3 rl n3a).bH s37;obtain ⟨z2,ez2,rz2⟩:=rl7.get (ae j2);obtain ⟨z3,ez3,rz3⟩:=rl7.get (ae j3);rw [ey2] at ez2;rw [ey3] at ez3;cases ez2;cases ez3;exact k (.ref q) _ _ (.tup ak (K09.E.RdA.set rz2 (K09.E.RdA.set rz3 rl7 i2) i3)) ((((gd.set g3 i2).set g2 i3).tup (by simp; omega)).le ‹26› ‹6›) (o3.trans s37.off) (p3.same s37)
   refine⟨_,rfl,rfl,_,rfl,gH (fun hb6=>?_) (fun hb6=>?_)⟩
   ·exact⟨_,rfl,k (.ref lt) _ H4 (.lst hlt4 rl4) ((gd.lst h3 ‹26›).le ‹26› ‹6›) o4 p4⟩
   ·refine⟨_,rfl,_,rfl,(i2:Int),rfl,a,xs,rfl,ha4,fun q5 H5 hq5 s5=>?_⟩;refine⟨_,rfl,_,rfl,a,xs,_,_,rfl,rfl,V7 (s5 a _ ha4),aJ ey3,by show 1<=sizeLine; decide,fun q6 hq6=>?_⟩;exists 1,s6,k6,H5,q6,(.tup [y3]),hq6,H6;refine⟨q5,q6,_,_,rfl,rfl,s6 q5 _ hq5,k6,by show _+1<=_; omega,fun q7 H7 hq7 s7=>?_⟩;refine⟨_,rfl,_,rfl,_,_,rfl,rfl,(i2:Int)+1,rfl,a,xs,rfl,s7 a _ (s6 a _ (s5 a _ ha4)),fun q8 H8 hq8 s8=>?_⟩;refine⟨q7,q8,_,_,rfl,rfl,s8 q7 _ hq7,hq8,by rw [bX]; show _+1+_<=_; omega,fun q9 H9 hq9 s9=>?_⟩;have s49:=(((s5.trans s6).trans s7).trans s8).trans s9;rw [d8,cd1] at hq9;have rl9:=rl4.bH s49;exact k (.ref q9) _ H9 (.tup hq9 (((K09.E.RdA.take rl9 _).append (.cons (ry3.bH s49) .nil)).append (K09.E.RdA.drop rl9 _))) (((((gd.take _).app (GdA.one g3)).app (gd.drop _)).tup (by simp; omega)).le ‹26› ‹6›) (o4.trans s49.off) (p4.same s49)
  ·refine⟨_,rfl,_,rfl,a,_,rfl,.inr (V7 ha1),_,_,rfl,rfl,p,_,rfl,p1,by omega,by omega,fun r2 a2 b2 c2 l2 u2=>?_⟩;exists 2,o2,p2,p,H,H1,a2,b2,c2,o1.trans Wc,H2;have ha2:=lW hp o2 a _ ha;have e2:((r2.toNat:Nat):Int)=r2:=Int.toNat_of_nonneg l2;have ct:eF xs none (some r2)=xs.take r2.toNat:=by rw [<- e2,d8,ii]
   have cd:eF xs (some r2) none=xs.drop r2.toNat:=by rw [<- e2,dU,ii]
   have k1:=cH xs none (some r2);have k2:=cH xs (some r2) none;refine⟨_,rfl,_,rfl,r2,rfl,a,xs,rfl,ha2,fun q3 H3 hq3 s3=>?_⟩;refine⟨_,rfl,p,rfl,p2.same s3,fun v d H4 rv gv o4 p4=>⟨by show 1<=sizeLine; decide,fun q4 hq4=>?_⟩⟩;have tu4:=lW (p2.same s3) o4;exists 1,s5,k5,H4,q4,(.tup [v]),hq4,H5;refine⟨q3,q4,_,_,rfl,rfl,s5 q3 _ (tu4 q3 _ hq3),k5,by show _+1<=_; omega,fun q5 H6 hq5 s6=>?_⟩;refine⟨_,rfl,_,rfl,r2,rfl,a,xs,rfl,s6 a _ (s5 a _ (tu4 a _ (s3 a _ ha2))),fun q6 H7 hq6 s7=>?_⟩;refine⟨q5,q6,_,_,rfl,rfl,s7 q5 _ hq5,hq6,by rw [bX]; show _+1+_<=_; omega,fun q7 H8 hq7 s8=>?_⟩;have s48:Same H4 H8:=((s5.trans s6).trans s7).trans s8;have o28:Off p H H8:=((o2.trans s3.off).trans o4).trans s48.off;rw [ct,cd] at hq7;have rl8:=K09.E.RdA.off hp o28 rl n3a;refine k (.ref q7) _ H8 (.tup hq7 (((K09.E.RdA.take rl8 _).append (.cons (rv.bH s48) .nil)).append (K09.E.RdA.drop rl8 _))) (((((gd.take _).app (GdA.one (gv.le (ai _) ‹6›))).app (gd.drop _)).tup (by simp; omega)).le ‹26› ‹6›) o28 (p4.same s48)
def Tb:Nat->PyData->Prop
 | _,.str x=>x.length<=900
 | _,.int _=>True
 | n+1,.tuple ds=>ds.length<=61/\is3 ds=false/\∀ d∈ds,Tb n d
 | _,_=>False
theorem JH:∀ {ds:LP} {i:Nat} (h:i < ds.length),wtA (ds.take i)+wt ds[i]+wtA (ds.drop (i+1))=wtA ds
 | d::ds,0,h=>by simp [wtA]
 | d::ds,i+1,h=>by
  have:=JH (ds:=ds) (i:=i) (by simpa using h);simp only [List.take_succ_cons,List.getElem_cons_succ,List.drop_succ_cons,wtA];omega
theorem GdA.Ut(h:GdA m n ds)(hi:i < ds.length)(hd:Gd (3 * wt ds[i]+62) n' d)(hn:n<=n')(hl:ds.length<=61):Gd (3 * (m+1)+62) (n'+1) (.tuple (ds.take i++[d]++ds.drop (i+1))):=by
 have a:=((((h.le (ai _) hn).take i).app (GdA.one hd)).app ((h.le (ai _) hn).drop (i+1))).tup (by simp; omega);refine⟨a.nn,a.g,?_,a.p,a.b⟩;have e:=JH hi;have:=h.w;have:=hd.w;rw [wt,ql,ql,wtA,wtA];omega
inductive tX (n:Nat) (vs:LV) (H:Hp) (Q:VK) (E_:XK):Prop
 | mk (p:ut) (v:V) (d:PyData) (m dd:Nat):vs=[.ref p,v,.int n]->Pu H p->RdV H v d->Gd m 32 d->m<=2500->Tb dd d->(∀ (v':V) (d':PyData) H',RdV H' v' d'->Gd (3 * m+62) (33+n) d'->Off p H H'->Pu H' p->Q v' H')->tX n vs H Q E_
theorem yt(D:Defs K mg t)(n:Nat)(ih:cA P w K mg base CX0 (n+3) t.dB.1 t.dB.2 ["_law_purse_here","_law_thing_here","_law_deep"] (fun vs H Q E=>match n with | 0=>False | m+1=>tX m vs H Q E)) :
  cA P w K mg base CX0 (n+4) t.dB.1 t.dB.2 ["_law_purse_here","_law_thing_here","_law_deep"] (tX n):=by
 have Gaa:=ih;exists 13;have Gac:=@zA P w K mg base t D;have Gat:=@Ob P w K mg base t D;have Gan:=@Ce P w K mg base t D;exists 5;refine D.dB.fn.ok jo ‹7› ‹1›
 ·obtain ⟨p,v,d,m,dd,rfl,_⟩:=h;rfl
 ·obtain ⟨p,v,d,m,dd,rfl,hp,rd,gd,hm,tb,k⟩:=h
  refine⟨_,(@mL _ _ _ _ _ (@bO _ _ _ _ _ _ _ _ (V5 (tZ (bZ (@aH _ _ _ _ _ _ _ _ _ bf (by rfl) D.aX aQ (@aj _ _ _ _ _ (pv 1) (@aj _ _ _ _ _ (cF (v:=V.ty "tuple") rfl D.bY bK rfl) aq (by rfl)) (by rfl)) ‹6› ‹6› (by rfl) (by rfl))) (tZ (aY n6 (@aH _ _ _ _ _ _ _ _ _ bx (by rfl) D.cI bQ ‹20› ‹6› ‹6› (by rfl) (by rfl)) aC (bh _)) (tZ (aY n6 (pv 2) aC (bh _)) (uV (aY n6 ‹25› aC (bh _)))))))
   (@aB _ _ _ _ _ (aM (i:=3) jo.nd rfl (uA rfl) (@aD _ _ _ _ _ _ _ _ _ _ _ _ _ D.aV Ga ‹2› (by rfl) (@aj _ _ _ _ _ (pv 0) (@aj _ _ _ _ _ (@aH _ _ _ _ _ _ _ _ _ bx (by rfl) D.cI bQ ‹20› ‹6› ‹6› (by rfl) (by rfl)) aq (by rfl)) (by rfl)) ‹6› (by rfl) (by rfl)))
   (@aB _ _ _ _ _ (aM (i:=4) jo.nd rfl (uA rfl) (@aD _ _ _ _ _ _ _ _ _ _ _ _ _ D.dB Gaa ‹2› (by rfl) (@aj _ _ _ _ _ (pv 0) (@aj _ _ _ _ _ (@aP _ _ _ _ _ _ _ aO (pv 1) (pv 3) ‹3›) (@aj _ _ _ _ _ (@aR _ _ _ _ _ _ _ _ nQ (pv 2) aC) aq (by rfl)) (by rfl)) (by rfl)) ‹6› (by rfl) (by rfl)))
   (@aF _ _ _ (@aL _ _ _ _ (@aR _ _ _ _ _ _ _ _ cP (@aR _ _ _ _ _ _ _ _ cP (aZ bR (pv 1) bB (bC (pv 3))) (@cC _ _ _ _ _ (@aj _ _ _ _ _ (pv 4) aq (by rfl)))) (aZ bR (pv 1) (bC (@aR _ _ _ _ _ _ _ _ cV (pv 3) aC)) bB))))))
   aU)
   (@aB _ _ _ _ _ (@bO _ _ _ _ _ _ _ _ (aY gq ‹25› aC (bh _))
   (@aF _ _ _ (@aL _ _ _ _ (@aD _ _ _ _ _ _ _ _ _ _ _ _ _ D.gZ Gac ‹2› (by rfl) (@aj _ _ _ _ _ (pv 0) aq (by rfl)) ‹6› (by rfl) (by rfl))))
   aU)
   (@aB _ _ _ _ _ (@bO _ _ _ _ _ _ _ _ (bZ (@aH _ _ _ _ _ _ _ _ _ bf (by rfl) D.aX aQ (@aj _ _ _ _ _ (pv 1) (@aj _ _ _ _ _ (cF (v:=V.ty "tuple") rfl D.bY bK rfl) aq (by rfl)) (by rfl)) ‹6› ‹6› (by rfl) (by rfl)))
   (@aF _ _ _ (@aL _ _ _ _ (@aD _ _ _ _ _ _ _ _ _ _ _ _ _ D.fL Gat ‹2› (by rfl) (@aj _ _ _ _ _ (pv 0) ‹20› (by rfl)) ‹6› (by rfl) (by rfl))))
   aU)
   (@aB _ _ _ _ _ (@bO _ _ _ _ _ _ _ _ (bZ (@aH _ _ _ _ _ _ _ _ _ bf (by rfl) D.aX aQ (@aj _ _ _ _ _ (pv 1) (@aj _ _ _ _ _ (cF (v:=V.ty "str") rfl D.Ad vZ rfl) aq (by rfl)) (by rfl)) ‹6› ‹6› (by rfl) (by rfl)))
   (@aF _ _ _ (@aL _ _ _ _ (@aD _ _ _ _ _ _ _ _ _ _ _ _ _ D.dN Gan ‹2› (by rfl) (@aj _ _ _ _ _ (pv 0) ‹20› (by rfl)) ‹6› (by rfl) (by rfl))))
   aU)
   (@aB _ _ _ _ _ (@bO _ _ _ _ _ _ _ _ (bZ (@aH _ _ _ _ _ _ _ _ _ bf (by rfl) D.aX aQ (@aj _ _ _ _ _ (pv 1) (@aj _ _ _ _ _ (cF (v:=V.ty "int") rfl D.Bd wC rfl) aq (by rfl)) (by rfl)) ‹6› ‹6› (by rfl) (by rfl)))
   (@aB _ _ _ _ _ (@aM _ _ 5 _ _ _ _ jo.nd rfl (uA rfl) (@cN _ _ _ _ (@aj _ _ _ _ _ aC (@aj _ _ _ _ _ aC (@aj _ _ _ _ _ aC (@aj _ _ _ _ _ (@aR _ _ _ _ _ _ _ _ Dr aC aC) (@aj _ _ _ _ _ (dO gq (pv 1) aC (bh _)) aq (by rfl)) (by rfl)) (by rfl)) (by rfl)) (by rfl))) (by rfl) (by first | exact .inl rfl | exact .inr rfl))
   (@aB _ _ _ _ _ (kI (pB fT PySem.F.slot_list_extend PySem.F.type_list_extend HB (pv 5) (@aj _ _ _ _ _ (@cN _ _ _ _ (@aj _ _ _ _ _ (@aR _ _ _ _ _ _ _ _ cV (pv 1) aC) (@aj _ _ _ _ _ (@aR _ _ _ _ _ _ _ _ nQ (pv 1) aC) (@aj _ _ _ _ _ (Cm u9 (pv 1)) aq (by rfl)) (by rfl)) (by rfl))) aq (by rfl))))
   (@aF _ _ _ (@aL _ _ _ _ (@aP _ _ _ _ _ _ _ bN (pv 5) ‹25› ‹3›)))))
   aU)
   (@aF _ _ _ (@aL _ _ _ _ (@aD _ _ _ _ _ _ _ _ _ _ _ _ _ D.gZ Gac ‹2› (by rfl) (@aj _ _ _ _ _ (pv 0) aq (by rfl)) ‹6› (by rfl) (by rfl))))))))),?_⟩
  refine⟨fun σ H1=>σ=[some (.ref p),some v,some (.int n),none,none,none]/\Off p H H1/\Pu H1 p,?_,?_⟩
  ·exists 8;cases hb:iZ d with
   | false=>exact bT (bT ⟨rfl,Off.refl _ _,hp⟩)
   | true=>
   exists 7;refine bM ⟨_,rfl,b,_,rfl,.inr (V7 hb'),_,_,rfl,rfl,_,rfl,?_⟩
   by_cases hpos:0 < ds.length
   rotate_left
   ·exact eU (by rw [bE (show ¬ ((xs.length:Int) > 0) by omega)]; exact aS) (bT ⟨rfl,Off.refl _ _,hp⟩)
   refine eO (bo (show (xs.length:Int) > 0 by omega)) ⟨_,rfl,_,_,rfl,rfl,_,rfl,?_⟩;cases n with
   | zero=>exact bT (bT ⟨rfl,Off.refl _ _,hp⟩)
   | succ n=>
   cases dd with
   | zero=>exact absurd tb (by simp [Tb])
   | succ dd=>
   obtain ⟨hl61,_,tbs⟩:ds.length<=61/\is3 ds=false/\∀ d∈ds,Tb dd d:=by rw [Tb] at tb; exact tb
   refine eO (bo ‹26›) ⟨_,rfl,p,5,rfl,hp,by decide,by decide,fun r1 a1 b1 c1 l1 u1=>⟨_,_,rfl,rfl,_,rfl,?_⟩⟩;exists 2,o1,p1,p,H,H,a1,b1,c1,Wc,H1;refine gH (fun _=>?_) (fun _=>⟨rfl,o1,p1⟩);have hb1:=lW hp o1 b _ hb';refine⟨_,rfl,_,rfl,b,_,rfl,.inr (V7 hb1),p,_,rfl,p1,by omega,by omega,fun r2 a2 b2 c2 l2 u2=>?_⟩;exists 2,o2,p2,p,H,H1,a2,b2,c2,o1.trans Wc,H2;have hb2:=lW hp o2 b _ hb';obtain ⟨i,rfl⟩:∃ i:Nat,r2=(i:Int):=⟨r2.toNat,by omega⟩;have hi:i < ds.length:=by omega
   have ga:GdA (m - 1) 31 ds:=Gd.eV (by have:=gd.w; rw [wt] at this; rw [show m - 1+1=m by omega]; exact gd);have n3a:n3A ds=true:=pZ.mpr ga.nn;have rl2:=K09.E.RdA.off hp o2 rl n3a;obtain ⟨y,ey,ry⟩:=rl2.get (ae hi);have gy:=ga.get (bS hi);have wy:wt ds[i]<=m:=by have:=gy.w; omega
   refine⟨_,rfl,_,rfl,_,rfl,b,_,_,_,rfl,rfl,V7 hb2,aJ ey,_,rfl,_,_,rfl,rfl,?_⟩;refine⟨p,y,ds[i],wt ds[i],dd,?_,p2,ry,⟨gy.nn,gy.g,ai _,cS gy.p ‹6›,gy.b⟩,by omega,tbs _ (bS hi),fun v' d' H3 rv' gd' o3 p3=>?_⟩
   ·show [V.ref p,y,V.int (((n+1:Nat):Int) - 1)]=_;rw [show ((n+1:Nat):Int) - 1=(n:Int) by omega]
   have o3':=o2.trans o3;have hb3:=lW hp o3' b _ hb';have k1:=cH xs none (some (i:Int));have k3:=cH xs (some ((i:Int)+1)) none;have cd1:eF xs (some ((i:Int)+1)) none=xs.drop (i+1):=dU xs (i+1);refine⟨_,rfl,_,rfl,(i:Int),rfl,b,xs,rfl,hb3,fun q5 H5 hq5 s5=>?_⟩;refine⟨_,rfl,by show 1<=sizeLine; decide,fun q6 hq6=>?_⟩;exists 1,s6,k6,H5,q6,(.tup [v']),hq6,H6;refine⟨q5,q6,_,_,rfl,rfl,s6 q5 _ hq5,k6,by show _+1<=_; omega,fun q7 H7 hq7 s7=>?_⟩;refine⟨_,rfl,_,rfl,_,_,rfl,rfl,(i:Int)+1,rfl,b,xs,rfl,s7 b _ (s6 b _ (s5 b _ hb3)),fun q8 H8 hq8 s8=>?_⟩;refine⟨q7,q8,_,_,rfl,rfl,s8 q7 _ hq7,hq8,by rw [bX]; show _+1+_<=_; omega,fun q9 H9 hq9 s9=>?_⟩;have s39:=(((s5.trans s6).trans s7).trans s8).trans s9;rw [d8,cd1] at hq9;have rl9:=(K09.E.RdA.off hp o3' rl n3a).bH s39;have mm:m - 1+1=m:=by have:=gd.w; rw [wt] at this; omega
   have gg:=K09.E.GdA.Ut ga hi gd' ‹26› hl61;rw [mm] at gg;exact k (.ref q9) _ H9 (.tup hq9 (((K09.E.RdA.take rl9 _).append (.cons (rv'.bH s39) .nil)).append (K09.E.RdA.drop rl9 _))) (gg.le (ai _) ‹26›) (o3'.trans s39.off) (p3.same s39)
  ·rintro σ H1 ⟨rfl,o1,p1⟩;refine⟨_,rfl,p,4,rfl,p1,by decide,by decide,fun r1 a1 b1 c1 l1 u1=>⟨rfl,_,rfl,?_⟩⟩;exists 2,o2,p2,p,H,H1,a1,b1,c1,o1.trans Wc,H2;refine gH (fun _=>?_) (fun _=>?_)
   ·exact⟨_,rfl,p,rfl,p2,fun v' d' H3 rv gv o3 p3=>k v' d' H3 rv (gv.le ‹26› ‹26›) (o2.trans o3) p3⟩
   have rd2:=K09.E.RdV.off hp o2 rd gd.nn;cases rd2 with
   | @tup b xs ds hb2 rl2=>
    cases dd with
    | zero=>exact absurd tb (by simp [Tb])
    | succ dd=>
    obtain ⟨hl61,h3,tbs⟩:ds.length<=61/\is3 ds=false/\∀ d∈ds,Tb dd d:=by rw [Tb] at tb; exact tb
    have ga:GdA (m - 1) 31 ds:=Gd.eV (by have:=gd.w; rw [wt] at this; rw [show m - 1+1=m by omega]; exact gd);refine⟨_,rfl,_,_,_,true,rfl,.tup hb2,iR N0 "tuple",_,rfl,bM ⟨_,rfl,_,rfl,p,b,xs,ds,m - 1,rfl,p2,hb2,rl2,ga.le (ai _) ‹6›,h3,hl61,fun v' d' H3 rv gv o3 p3=>?_⟩⟩;exact k v' d' H3 rv (gv.le ‹26› ‹26›) (o2.trans o3) p3
   | str x=>
    have gx:x.length<=4000/\Asc x:=by have:=gd.g; rw [gs] at this; exact this
    have lx:x.length<=900:=by cases dd <;> exact tb
    have wx:x.length+1<=m:=by have:=gd.w; rw [wt] at this; exact this
    refine⟨_,rfl,_,_,_,false,rfl,.str x,rfl,_,rfl,bT ⟨_,rfl,_,_,_,true,rfl,.str x,iR N0 "str",_,rfl,bM ⟨_,rfl,_,rfl,p,x,rfl,p2,by omega,gx.2,fun y H3 hy ay o3 p3=>?_⟩⟩⟩;exact k (.str y) (.str y) H3 (.str y) ⟨by simp [n3],by rw [gs]; exact⟨by omega,ay⟩,by rw [wt]; omega,by simp [dp],by simp [br]⟩ (o2.trans o3) p3
   | int i=>
    refine⟨_,rfl,_,_,_,false,rfl,.int i,rfl,_,rfl,bT ⟨_,rfl,_,_,_,false,rfl,.int i,rfl,_,rfl,bT ⟨_,rfl,_,_,_,true,rfl,.int i,iR N0 "int",_,rfl,bM ?_⟩⟩⟩;refine⟨_,_,rfl,rfl,by unfold TQ; decide,_,rfl,rfl,by show 5<=sizeLine; decide,fun l hl=>?_⟩;have ps:p≠l:=p2.neN hl;refine⟨_,rfl,.inl ⟨rfl,_,V6 ak⟩,_,rfl,_,_,rfl,rfl,_,rfl,_,_,rfl,rfl,_,rfl,_,rfl,by show 3<=sizeLine; decide,fun l2 hl2=>?_⟩;have ll:l≠l2:=au ak hl2;refine⟨l,l2,_,_,rfl,rfl,by rw [aA ll]; exact ak,ak,by show 5+3<=sizeLine; decide,?_⟩
    have s3:Same H2 (upd (upd (upd H2 l (.lst [.int 0,.int 99,.int 100,.int (10 ^ Int.toNat 30),.bl (decide (V.int i=V.int 1))])) l2 (.lst [.int (i+1),.int (i - 1),.int (-i)])) l (.lst ([.int 0,.int 99,.int 100,.int (10 ^ Int.toNat 30),.bl (decide (V.int i=V.int 1))]++[.int (i+1),.int (i - 1),.int (-i)]))):=fun c u e=>by
     have c1:=au e hl;rw [aA c1,aA (au (show (upd H2 l _) c=some u by rw [aA c1]; exact e) hl2),aA c1];exact e
    have hl4:(upd (upd (upd H2 l (.lst [.int 0,.int 99,.int 100,.int (10 ^ Int.toNat 30),.bl (decide (V.int i=V.int 1))])) l2 (.lst [.int (i+1),.int (i - 1),.int (-i)])) l (.lst ([.int 0,.int 99,.int 100,.int (10 ^ Int.toNat 30),.bl (decide (V.int i=V.int 1))]++[.int (i+1),.int (i - 1),.int (-i)]))) l=some (.lst [.int 0,.int 99,.int 100,.int (10 ^ Int.toNat 30),.bl (decide (V.int i=V.int 1)),.int (i+1),.int (i - 1),.int (-i)]):=ak;generalize upd (upd (upd H2 l _) l2 _) l _=H4 at s3 hl4 ⊢;have p4:=p2.same s3;refine⟨_,rfl,_,rfl,p,8,rfl,p4,by decide,by decide,fun r5 a5 b5 c5 l5 u5=>?_⟩;have o5:=(o2.trans s3.off).trans (Wc (p:=p) (H:=H4) (o:=.lst [.int a5,.int b5,.int c5]));have p5:Pu (upd H4 p (.lst [.int a5,.int b5,.int c5])) p:=Wg;have hl5:(upd H4 p (.lst [.int a5,.int b5,.int c5])) l=_:=(aA ps.symm).trans hl4;generalize upd H4 p (.lst [.int a5,.int b5,.int c5])=H5 at o5 p5 hl5;have gi:∀(j:Int),RdV H5 (.int j) (.int j)/\Gd 1 0 (.int j):=fun j=>⟨.int j,‹8›⟩
    obtain ⟨y,d',ey,ry,gy⟩:∃ y d',atI [V.int 0,.int 99,.int 100,.int (10 ^ Int.toNat 30),.bl (decide (V.int i=V.int 1)),.int (i+1),.int (i - 1),.int (-i)] r5=some y/\RdV H5 y d'/\Gd 1 0 d':=by
     rcases lt8 r5 l5 u5 with rfl | rfl | rfl | rfl | rfl | rfl | rfl | rfl
     ·exact⟨_,_,aJ (j:=0) rfl,gi _⟩
     ·exact⟨_,_,aJ (j:=1) rfl,gi _⟩
     ·exact⟨_,_,aJ (j:=2) rfl,gi _⟩
     ·exact⟨_,_,aJ (j:=3) rfl,gi _⟩
     ·exact⟨_,_,aJ (j:=4) rfl,.bl _,‹8›⟩
     ·exact⟨_,_,aJ (j:=5) rfl,gi _⟩
     ·exact⟨_,_,aJ (j:=6) rfl,gi _⟩
     ·exact⟨_,_,aJ (j:=7) rfl,gi _⟩
    exact⟨l,_,_,y,rfl,rfl,V6 hl5,ey,k y d' H5 ry (gy.le ‹26› ‹26›) o5 p5⟩
   | _=>exact absurd tb (by cases dd <;> simp [Tb])
theorem Er(D:Defs K mg t)(n:Nat):cA P w K mg base CX0 (n+4) t.dB.1 t.dB.2 ["_law_purse_here","_law_thing_here","_law_deep"] (tX n):=by
 induction n with
 | zero=>exact yt D 0 (D.dB.fn.ok jo (fun vs H Q E h=>Do h) (fun cdv A outer s H vs Q E hr h=>Do h))
 | succ n ih=>exact yt D (n+1) ih
end
end K09.E
end
section
namespace L2
open PySem PyProof.Rows
variable {X:Cx}{st:Stmt}
def RL(H₀:Hp)(t:TS):TS:=fun D σ H=>t { D with nx:=fun σ' H'=>∃ d o kvs,H' d=some ‹39›/\(∀ o v,H₀ d≠some (.frz o v))/\D.nx σ' (upd H' d (.dK kvs)) } σ H
theorem Ou{t:TS}(h:PS X st t):PS X st (RL X.H₀ t):=by
 intro pins s σ H D I q;refine thn (h pins s σ H _ I q) fun f s1 g=>?_;cases f with
 | next=>
  obtain ⟨σ1,H1,I1,d,o,kvs,e,n,m⟩:=g;exact⟨σ1,_,I1.UW e n,m⟩
 | _=>exact g
end L2
end
section
namespace L2
open PySem PySem.Spec PyProof.Rows SeqAt
variable {id:String}{e1 e2 n:Nat}{a:ut}{v:V}{xs ys:LV}{ds:LP}{its:LU}{X:Cx}
def Av(es:Array Hm)(ep:Nat):Obj:={ cls:=.type "dict",data:=.dict es ep }
section
variable {prog:uC}{w:ww}{A:xf}{E:ES}{s:ue}
theorem R6{l b:ut}{Q:Bool->ue->Prop}(h1:s.heap.get? l=some (Av #[] e1))(h2:s.heap.get? b=some (Av #[] e2))(l1:(l == An)=false)(l2:(b == An)=false)(q:Q true s) :
  uv ‹32› A (Ex id l b) Q E s:=by
 unfold Ex uB.Dict.showsAll;rw [cK (by rw [l1]; exact aS),cK (by rw [l2]; exact aS)];refine af (aE (af (aE ?_)));refine af (kq h1 rfl (af (kq h2 rfl ?_)));rw [cK ‹45›];refine af (nN h1 rfl ?_);simp only [mB];exact af (aE (aE q))
theorem TX{l b:ut}{hs:Int}{k:Str}{t1 t2:Tok}{v1 v2:sr}{Q:Bool->ue->Prop}(h1:s.heap.get? l=some (Av #[⟨hs,.str k t1,v1⟩] e1))(h2:s.heap.get? b=some (Av #[⟨hs,.str k t2,v2⟩] e2))(l1:(l == An)=false)(l2:(b == An)=false)
  (ev:EqAt A s v1 v2 true) (q:Q true s) :
  uv ‹32› A (Ex id l b) Q E s:=by
 unfold Ex uB.Dict.showsAll;rw [cK (by rw [l1]; exact aS),cK (by rw [l2]; exact aS)];refine af (aE (af (aE ?_)));refine af (kq h1 rfl (af (kq h2 rfl ?_)));rw [cK ‹45›];refine af (nN h1 rfl ?_);simp only [mB];refine af ?_;rw [show List.range' 0 [:#[(⟨hs,.str k t1,v1⟩:Hm)].size].size=[0] from by simp [Std.Legacy.Range.size],nK];refine af (af (kq h1 rfl ?_));show uv _ _ (UT [.str k t1,v1] _ >>= _) _ _ _;refine af (eL (af ?_));unfold dictFind;refine eL (af (kq h2 rfl ?_));show uv _ _ (if ((#[⟨hs,.str k t2,v2⟩]:Array Hm).all fun e=>isExactStrKey e.key)=true then foundByValue b (.str k t1) #[⟨hs,.str k t2,v2⟩] k else _) _ _ _;rw [dE (by simp [isExactStrKey])];unfold foundByValue;have e:(#[⟨hs,.str k t2,v2⟩]:Array Hm).findIdx? (·.key.isStr k)=some 0:=by simp [sr.isStr]
 rw [e];show uv _ _ (dictEpoch b _ >>= _) _ _ _;refine af (nN h2 rfl (af (EqAt.str_str k t2 k t1 prog w _ _ ?_)));rw [ir];refine af (nN h2 rfl ?_);rw [cK ‹45›];refine af (jp (aE ?_));refine af (kq h2 rfl ?_);show uv _ _ (UT [v2] (eqBool v1 v2)) _ _ _;refine eL (ev prog w _ _ ?_);rw [cK ‹45›];refine af (nN h1 rfl ?_);rw [cK ‹45›];exact aE (aE (aE q))
theorem xR(ne:Bool){l b:ut}{es1 es2:Array Hm} :
  (∀(prog:uC) (w:ww) (A:xf) (E:ES) (Q:ES) (s:ue),s.heap.get? l=some (Av es1 e1)->s.heap.get? b=some (Av es2 e2)->A.units < cLine->
   (∀(id:String) (A':xf) (E':ES) (Q':Bool->ue->Prop),A'.units=A.units+1->A'=A.in1->Q' true s->uv ‹32› A' (Ex id l b) Q' E' s)->
   Q (.bool (!ne)) s->uv ‹32› A (richCompare (if ne then .NotEq else .Eq) (.ref l) (.ref b)) Q E s):=by
 intro prog w A E Q s h1 h2 hu sp q;have t1:s.TypeIs (.ref l) "dict" := ⟨_,h1,rfl⟩;have t2:s.TypeIs (.ref b) "dict" := ⟨_,h2,rfl⟩;have sub:isSubtype (.type "dict") (.type "dict")=Hn true:=by rw [sf]; kernel_rfl
 cases ne with
 | false=>
  refine wpAny_richCompare_same_room t1 t2 my (eM my t1 F.entry_dict_eq ?_ (VH _ _)) hu;show uv _ _ (isInstance (.ref b) (.type "dict") >>= _) _ _ s;refine af (ku t2 sub ?_);rw [cK ‹45›];refine af (jI (a:=l) rfl (af (jI (a:=b) rfl ?_)));refine af (sp _ _ _ _ rfl rfl ?_);exact aE ⟨_,rfl,fun z=>(nomatch z),q⟩
 | true=>
  refine wpAny_richCompare_same_room t1 t2 F.slot_dict_ne (eM F.slot_dict_ne t1 F.entry_dict_ne ?_ (F.args_dict_ne_2 _ _)) hu;show uv _ _ (isInstance (.ref b) (.type "dict") >>= _) _ _ s;refine af (ku t2 sub ?_);rw [cK ‹45›];refine af (jI (a:=l) rfl (af (jI (a:=b) rfl ?_)));refine af (sp _ _ _ _ rfl rfl ?_);exact aE ⟨_,rfl,fun z=>(nomatch z),q⟩
end
def Lk:Nat->PyData->Prop
 | n+1,.list xs=>∀ x∈xs,Lk n x
 | n+1,.tuple xs=>∀ x∈xs,Lk n x
 | n+1,.dict kvs=>kvs=[]\/∃ k v,kvs=[(.str k,v)]/\Lk n v
 | 0,.list _=>False
 | 0,.tuple _=>False
 | 0,.dict _=>False
 | _,.none=>True
 | _,.bool _=>True
 | _,.int _=>True
 | _,.str _=>True
section
variable {X:Cx}{pins:LO}{σ:St}{H:Hp}{s:ue}
theorem Gx(I:Inv X pins σ H s)(h:H a=some (.dK [])):(a == An)=false/\∃ ep,s.heap.get? a=some (Av #[] ep):=by
 obtain ⟨_,hs,vs,kv,o,es,ep,ho,⟨e1,e2,e3⟩,hd,ko,pr,_⟩:=(show cT X.prog X.w H s.heap a (.dK []) from I.hok a _ h);cases kv;obtain ⟨c,d,dt,sl⟩:=o;cases e1;cases e2;cases e3;cases hd;cases es with
 | mk l=>
  cases pr;exact⟨hs,ep,ho⟩
theorem Gi(I:Inv X pins σ H s){k:Str}(h:H a=some (.dK [(.inr k,v)])):(a == An)=false/\∃ ep t u,RelV v u/\s.heap.get? a=some (Av #[⟨(bU X.prog X.w).hash (.inr k),.str k t,u⟩] ep):=by
 obtain ⟨_,hs,vs,kv,o,es,ep,ho,⟨e1,e2,e3⟩,hd,ko,pr,_⟩:=(show cT X.prog X.w H s.heap a (.dK [(.inr k,v)]) from I.hok a _ h);cases kv with
 | @cons p q ps qs hp hq=>
  cases hq;obtain ⟨k',u⟩:=q;obtain ⟨hk,ru⟩:=hp;have hk:BV k=k':=hk;subst hk;obtain ⟨c,d,dt,sl⟩:=o;cases e1;cases e2;cases e3;cases hd;cases es with
  | mk l=>
   cases pr with
   | @cons e kv es kvs h1 h2 h3=>
    cases h3;obtain ⟨hh,ek,ev⟩:=e;have h1:(bU X.prog X.w).is (.inr k) ek=true:=h1;have h2:ev=u:=h2;subst h2;obtain ⟨k2,g1,g2⟩:=ko ⟨hh,ek,ev⟩ ‹45›;have g2:hh=(bU X.prog X.w).hash k2:=g2;have:=(bU X.prog X.w).inj _ _ _ h1 g1;subst this;rcases dM (show um (.inr k) ek=true from h1) with ⟨i,t,e1,e2⟩ | ⟨x,t,e1,e2⟩
    ·cases e1
    ·cases e1;subst e2 g2;exact⟨hs,ep,t,ev,ru,ho⟩
theorem Ew(ne:Bool)(A:xf)(hu:A.units+n+1 < cLine)(I:Inv X pins σ H s)(ih:∀(d:PyData) (A:xf),Lk n d->A.units+n < cLine->∀ {v v':V} {u u':sr},RdV H v d->RdV H v' d->RelV v u->RelV v' u'->EqAt A s u u' true)
  {b:ut} {kvs:List (PyData × PyData)} (hk:Lk (n+1) (.dict kvs)) (r1:RdV H (.ref a) (.dict kvs)) (r2:RdV H (.ref b) (.dict kvs)) :
  ∀(prog:uC) (w:ww) (E:ES) (Q:ES),Q (.bool (!ne)) s->uv ‹32› A (richCompare (if ne then .NotEq else .Eq) (.ref a) (.ref b)) Q E s:=by
 intro prog w E Q q
 have go:∀ {c:ut} {kvs:List (PyData × PyData)},RdV H (.ref c) (.dict kvs)->∃ ks ds,kvs=(ks.map fun p:Key × V=>HS p.1).zip ds/\H c=some (.dK ks)/\RdA H (ks.map (·.2)) ds:=fun {c kvs} r=>by
  generalize e1:V.ref c=v at r;generalize e2:PyData.dict kvs=d at r;cases r with
  | dct h q=>
   cases e1;injection e2 with e2;exact⟨_,_,e2,h,q⟩
  | _=>first | exact absurd e2 ‹43› | exact absurd e1 ‹43›
 obtain ⟨ks,ds,e1,h1,q1⟩:=go r1;obtain ⟨ks',ds',e2,h2,q2⟩:=go r2;have l1:=q1.length;have l2:=q2.length;rw [aa] at l1 l2;rw [Lk] at hk;rcases hk with rfl | ⟨k,v,rfl,hv⟩
 ·obtain rfl:ks=[]:=by
   cases ks with
   | nil=>rfl
   | cons p ks=>cases ds with
    | nil=>cases l1
    | cons d ds=>cases e1
  obtain rfl:ks'=[]:=by
   cases ks' with
   | nil=>rfl
   | cons p ks=>cases ds' with
    | nil=>cases l2
    | cons d ds=>cases e2
  obtain ⟨z1,ep1,g1⟩:=Gx I h1;obtain ⟨z2,ep2,g2⟩:=Gx I h2;exact xR ne prog w A E Q s g1 g2 ‹26› (fun id A' E' Q' _ _ q=>R6 g1 g2 z1 z2 q) q
 ·have one:∀ {ks:LK0} {ds:LP},ks.length=ds.length->[(PyData.str k,v)]=(ks.map fun p:Key × V=>HS p.1).zip ds->∃ y,ks=[(.inr k,y)]/\ds=[v]:=fun {ks ds} l e=>by
   cases ks with
   | nil=>cases e
   | cons p ks=>cases ds with
    | nil=>cases l
    | cons d ds=>
     injection e with e3 e4;injection e3 with e5 e6;cases ks with
     | nil=>
      cases ds with
      | nil=>
       obtain ⟨k',y⟩:=p;cases k' with
       | inl i=>cases e5
       | inr x=>cases e5; exact⟨y,rfl,by rw [e6]⟩
      | cons _ _=>cases l
     | cons p2 ks=>cases ds with
      | nil=>cases l
      | cons _ _=>cases e4
  obtain ⟨y,rfl,rfl⟩:=one l1 e1;obtain ⟨y',rfl,rfl⟩:=one l2 e2;obtain ⟨z1,ep1,t1,u1,ru1,g1⟩:=Gi I h1;obtain ⟨z2,ep2,t2,u2,ru2,g2⟩:=Gi I h2;have a1:RdV H y v:=by cases q1 with | cons x _=>exact x
  have a2:RdV H y' v:=by cases q2 with | cons x _=>exact x
  exact xR ne prog w A E Q s g1 g2 ‹26› (fun id A' E' Q' hA _ q=>TX g1 g2 z1 z2 (ih v A' hv ‹26› a1 a2 ru1 ru2) q) q
theorem sJ(I:Inv X pins σ H s)(ih:∀(d:PyData) (A:xf),Lk n d->A.units+n < cLine->∀ {v v':V} {u u':sr},RdV H v d->RdV H v' d->RelV v u->RelV v' u'->EqAt A s u u' true)
  (A:xf) (hu:A.units+n < cLine)   {its2:LU} (hk:∀ x∈ds,Lk n x) (q1:RdA H xs ds) (q2:RdA H ys ds) (r1:Vals xs its) (r2:Vals ys its2) :
  its.toArray.size=its2.toArray.size/\∀ j (h1:j < its.toArray.size) (h2:j < its2.toArray.size),EqAt A s its.toArray[j] its2.toArray[j] true:=by
 have l1:=q1.length;have l2:=q2.length;have l3:=r1.length;have l4:=r2.length;refine⟨by simp; omega,fun j h1 h2=>?_⟩;have h1':j < its.length:=by simpa using h1
 have h2':j < its2.length:=by simpa using h2
 have jd:j < ds.length:=by omega
 obtain ⟨v1,e1,rv1⟩:=q1.get (ae jd);obtain ⟨v2,e2,rv2⟩:=q2.get (ae jd);obtain ⟨w1,k1,m1⟩:=r1.get e1;obtain ⟨w2,k2,m2⟩:=r2.get e2
 have e3:its.toArray[j]=w1:=by
  have:its.toArray[j]?=some w1:=by simpa using k1
  rw [eW h1] at this;exact ck this
 have e4:its2.toArray[j]=w2:=by
  have:its2.toArray[j]?=some w2:=by simpa using k2
  rw [eW h2] at this;exact ck this
 rw [e3,e4];exact ih _ A (hk _ (bS jd)) hu rv1 rv2 m1 m2
theorem yE(n:Nat):(List.range n).all (fun _=>true)=true:=by simp
theorem Oo(I:Inv X pins σ H s):∀(n:Nat) (d:PyData) (A:xf),Lk n d->A.units+n < cLine->∀ {v v':V} {u u':sr},RdV H v d->RdV H v' d->RelV v u->RelV v' u'->EqAt A s u u' true:=by
 intro n
 induction n with
 | zero=>
  intro d A hk hu v v' u u' r1 r2 m1 m2;cases r1 with
  | non=>cases r2; cases u <;> cases m1; cases u' <;> cases m2; exact EqAt.same _
  | bl b=>cases r2; cases m1; cases m2; exact EqAt.same _
  | int i=>cases r2; obtain ⟨t,rfl⟩:=m1; obtain ⟨t',rfl⟩:=m2; have:=EqAt.int_int (A:=A) (s:=s) i t i t'; rwa [ir] at this
  | str x=>cases r2; obtain ⟨t,rfl⟩:=m1; obtain ⟨t',rfl⟩:=m2; have:=EqAt.str_str (A:=A) (s:=s) x t x t'; rwa [ir] at this
  | _=>simp [Lk] at hk
 | succ n ih=>
  intro d A hk hu v v' u u' r1 r2 m1 m2;cases r1 with
  | non=>cases r2; cases u <;> cases m1; cases u' <;> cases m2; exact EqAt.same _
  | bl b=>cases r2; cases m1; cases m2; exact EqAt.same _
  | int i=>cases r2; obtain ⟨t,rfl⟩:=m1; obtain ⟨t',rfl⟩:=m2; have:=EqAt.int_int (A:=A) (s:=s) i t i t'; rwa [ir] at this
  | str x=>cases r2; obtain ⟨t,rfl⟩:=m1; obtain ⟨t',rfl⟩:=m2; have:=EqAt.str_str (A:=A) (s:=s) x t x t'; rwa [ir] at this
  | @tup a xs ds h q=>
   obtain ⟨b,ys,rfl,h2,q2⟩:=r2.bV;cases m1;cases m2
   by_cases hab:a=b
   ·rw [hab]; exact EqAt.same _
   obtain ⟨its,rv,p⟩:=iy I h;obtain ⟨its2,rv2,p2⟩:=iy I h2;rw [Lk] at hk;obtain ⟨z,ev⟩:=sJ I ih A.in1 (by show A.units+1+n < cLine; omega) hk q q2 rv rv2;have key:=RcAt.tuples (e:=fun _=>true) p p2 ‹26› ev;rw [yE,z,ir] at key;exact EqAt.of_refs hab key
  | @lst a xs ds h q=>
   have h0:∃ b ys,v'=.ref b/\H b=some (.lst ys)/\RdA H ys ds:=by cases r2 with | lst h q=>exact⟨_,_,rfl,h,q⟩
   obtain ⟨b,ys,rfl,h2,q2⟩:=h0;cases m1;cases m2
   by_cases hab:a=b
   ·rw [hab]; exact EqAt.same _
   obtain ⟨its,rv,p⟩:=tL I h;obtain ⟨its2,rv2,p2⟩:=tL I h2;rw [Lk] at hk;obtain ⟨z,ev⟩:=sJ I ih A.in1 (by show A.units+1+n < cLine; omega) hk q q2 rv rv2;have key:=RcAt.lists (e:=fun _=>true) p p2 z ‹26› ev;rw [yE] at key;exact EqAt.of_refs hab key
  | @dct a ks ds h q=>
   have h0:∃ b,v'=.ref b:=by
    generalize e:PyData.dict _=d' at r2;cases r2 <;> first | cases e | exact⟨_,rfl⟩
   obtain ⟨b,rfl⟩:=h0;cases m1;cases m2
   by_cases hab:a=b
   ·rw [hab]; exact EqAt.same _
   exact EqAt.of_refs hab fun prog w E Q h'=>Ew false A ‹26› I ih hk (.dct h q) r2 prog w E Q h'
end
inductive TY (x:V) (y:V) (H:Hp) (Q:VK):Prop
 | mk (d:_):RdV H x d->RdV H y d->Lk 50 d->Q (.bl false) H->TY x y H Q
theorem Rb(hu:X.A.units+60 < cLine):OpR X (xN .NotEq) TY:=by
 exists 6;obtain ⟨d,r1,r2,hk,q⟩:=h;have fin:RcNeAt X.A s v u false->uv ‹9› X.A (xN .NotEq v u) (EP X pins σ Q) X.xe s:=fun key=>key X.prog X.w X.xe _ ⟨.bl _,H,I,rfl,q⟩;have ih:=fun d A=>Oo (X:=X) I 49 d A;cases r1 with
 | non=>cases r2; cases v <;> cases rx; cases u <;> cases ry; exact fin RcNeAt.none_none
 | bl b=>cases r2; cases rx; cases ry; have:=RcNeAt.bool_bool (A:=X.A) (s:=s) b b; rw [ir] at this; exact fin this
 | int i=>cases r2; obtain ⟨t,rfl⟩:=rx; obtain ⟨t',rfl⟩:=ry; have:=RcNeAt.int_int (A:=X.A) (s:=s) i t i t'; rw [ir] at this; exact fin this
 | str x=>cases r2; obtain ⟨t,rfl⟩:=rx; obtain ⟨t',rfl⟩:=ry; have:=RcNeAt.str_str (A:=X.A) (s:=s) x t x t'; rw [ir] at this; exact fin this
 | @tup a xs ds h q1=>
  obtain ⟨b,ys,rfl,h2,q2⟩:=r2.bV;cases rx;cases ry;obtain ⟨its,rv,p⟩:=iy I h;obtain ⟨its2,rv2,p2⟩:=iy I h2;rw [Lk] at hk;obtain ⟨z,ev⟩:=sJ I ih X.A.in1 (by show X.A.units+1+49 < cLine; omega) hk q1 q2 rv rv2;have key:=RcNeAt.tuples (e:=fun _=>true) p p2 ‹26› ev;rw [yE,z,ir] at key;exact fin key
 | @lst a xs ds h q1=>
  have h0:∃ b ys,y=.ref b/\H b=some (.lst ys)/\RdA H ys ds:=by cases r2 with | lst h q=>exact⟨_,_,rfl,h,q⟩
  obtain ⟨b,ys,rfl,h2,q2⟩:=h0;cases rx;cases ry;obtain ⟨its,rv,p⟩:=tL I h;obtain ⟨its2,rv2,p2⟩:=tL I h2;rw [Lk] at hk;obtain ⟨z,ev⟩:=sJ I ih X.A.in1 (by show X.A.units+1+49 < cLine; omega) hk q1 q2 rv rv2;have key:=RcNeAt.lists (e:=fun _=>true) p p2 z ‹26› ev;rw [yE] at key;exact fin key
 | @dct a ks ds h q1=>
  have h0:∃ b,y=.ref b:=by
   generalize e:PyData.dict _=d' at r2;cases r2 <;> first | cases e | exact⟨_,rfl⟩
  obtain ⟨b,rfl⟩:=h0;cases rx;cases ry;exact fin fun prog w E Q h'=>Ew true X.A ‹26› I ih hk (.dct h q1) r2 prog w E Q h'
end L2
end
section
namespace K09.E
open PySem PyProof.Rows L2
variable {H H' H1:Hp}{a:ut}{v:V}
theorem Jc{kvs:List (PyData × PyData)}(h:Dk kvs=true):kvs=[]\/∃ k i,kvs=[(.str k,.int i)]:=by
 unfold Dk at h;split at h
 ·exact .inl rfl
 ·exact .inr ⟨_,_,rfl⟩
 ·cases h
theorem Td:∀(n:Nat) (d:PyData),dp d<=n->br d<=62->Lk n d:=by
 intro n
 induction n with
 | zero=>
  intro d h _;cases d <;> first | (rw [dp] at h; omega) | simp [Lk]
 | succ n ih=>
  intro d h hb;cases d with
  | list xs=>
   rw [dp] at h;rw [br] at hb;rw [Lk];exact fun x hx=>ih x (pA.mp ‹26› x hx) (mj.mp (kC.mp hb).2 x hx)
  | tuple xs=>
   rw [dp] at h;rw [br] at hb;rw [Lk];exact fun x hx=>ih x (pA.mp ‹26› x hx) (mj.mp (kC.mp hb).2 x hx)
  | dict kvs=>
   rw [Lk];rw [br] at hb;split at hb
   ·rename_i h1
    rcases Jc h1 with rfl | ⟨k,i,rfl⟩
    ·exact .inl rfl
    ·exact .inr ⟨k,_,rfl,by cases n <;> simp [Lk]⟩
   ·omega
  | _=>simp [Lk]
def New(H H':Hp):Hp:=fun a=>match H a with
 | none=>H' a
 | some _=>none
theorem New.at{u:HO}(h:H a=none)(h':H' a=some u):New H H' a=some u:=by
 unfold New;rw [h];exact h'
theorem New.sub{H'':Hp}(h:∀ a,H1 a=none->H a=none)(s:∀ a u,H1 a=none->H' a=some u->H'' a=some u):Same (New H1 H') (New H H''):=fun a u e=>by
 unfold New at e;cases q:H1 a with
 | none=>
  rw [q] at e;exact New.at (h a q) (s a u q e)
 | some o=>
  rw [q] at e;cases e
theorem New.same:Same (New H H') H':=fun a u e=>by
 unfold New at e;cases q:H a with
 | none=>rw [q] at e; exact e
 | some o=>rw [q] at e; cases e
theorem none_of(s:Same H H')(h:H' a=none):H a=none:=by
 cases q:H a with
 | none=>rfl
 | some o=>rw [s a o q] at h; cases h
def Ny:PyData->Bool
 | .list _=>true
 | _=>false
def Oc:PyData->Bool
 | .dict _=>true
 | _=>false
theorem Qx(K:PySem.W.Frag)(d:PyData):PySem.W.kitOne K (.type (tyD d)) (.type "list")=some (Ny d):=by
 cases d <;> first | exact iR N0 "list" | rfl
theorem Rh(K:PySem.W.Frag)(d:PyData):PySem.W.kitOne K (.type (tyD d)) (.type "dict")=some (Oc d):=by
 cases d <;> first | exact iR N0 "dict" | rfl
theorem El{kvs:List (PyData × PyData)}(r:RdV H v (.dict kvs))(h:Dk kvs=true):∃ a,v=.ref a/\((kvs=[]/\H a=some (.dK []))\/∃ k i,kvs=[(.str k,.int i)]/\H a=some (.dK [(.inr k,.int i)])):=by
 generalize e2:PyData.dict kvs=d at r;cases r with
 | @dct a ks ds h1 q=>
  injection e2 with e2;refine⟨a,rfl,?_⟩;have l:=q.length;rw [aa] at l;rcases Jc h with rfl | ⟨k,i,rfl⟩
  ·refine .inl ⟨rfl,?_⟩;cases ks with
   | nil=>exact h1
   | cons p ks=>cases ds with
    | nil=>cases l
    | cons d ds=>cases e2
  ·refine .inr ⟨k,i,rfl,?_⟩;cases ks with
   | nil=>cases e2
   | cons p ks=>cases ds with
    | nil=>cases l
    | cons d ds=>
     injection e2 with e3 e4;injection e3 with e5 e6;cases ks with
     | nil=>
      obtain ⟨k',y⟩:=p;cases k' with
      | inl i=>cases e5
      | inr x=>
       cases e5;cases q with
       | cons q1 _=>
        rw [<- e6] at q1;obtain rfl:=K09.E.RdV.oN q1;exact h1
     | cons p2 ks=>cases ds with
      | nil=>cases l
      | cons _ _=>cases e4
 | _=>cases e2
section
variable {P:uC}{w:ww}{K:PySem.W.Frag}{mg:MG}{base:Heap}{t:Adr}
inductive zG (n:Nat) (vs:LV) (H:Hp) (Q:VK) (E_:XK):Prop
 | mk (v:V) (d:PyData):vs=[v]->RdV H v d->dp d<=n->br d<=62->(∀ v' H',RdV (New H H') v' d->Same H H'->Q v' H')->zG n vs H Q E_
theorem xO(D:Defs K mg t)(n:Nat)(ih:cA P w K mg base CX0 (n+1) t.dI.1 t.dI.2 ["_law_thing_here"] (fun vs H Q E=>match n with | 0=>False | m+1=>zG m vs H Q E)) :
  cA P w K mg base CX0 (n+2) t.dI.1 t.dI.2 ["_law_thing_here"] (zG n):=by
 have Gaf:=ih;exists 5;refine D.dI.fn.ok j7 ‹7› ‹1›
 ·exists 17
 ·obtain ⟨v,d,rfl,rd,hd,hb,k⟩:=h
  refine⟨_,(aB (bO (bZ ‹4›)
   (aF (aL (bG cB (by rfl) D.bY bK (aj (bI rfl (Wf ["_law_one"] [] ["_law_one"] (aG (top 51)) ["_law_thing_here","_law_twin","_law_key"] rfl rfl ‹5›) ⟨fun _ _ _ _ _=>(aN (i:=0) (show List.Nodup [("_law_one" : Str)] by decide +kernel) rfl ‹24› ‹17›),fun _ _ _ _ _=>bJ,fun _ _ _ _ _=>(aD D.dI Gaf ‹2› (by rfl) ‹36›)⟩ (oO (K:=K) (pv 0) rfl)) aq))))
   aU)
   (aB (bO (bZ (aH bf (by rfl) D.aX aQ (aj (pv 0) (aj (cF (v:=V.ty "list") rfl D.yV uZ rfl) aq))))
   (aF (aL (bI rfl (Wf ["_law_one"] [] ["_law_one"] (aG (top 51)) ["_law_thing_here","_law_twin","_law_key"] rfl rfl ‹5›) ⟨fun _ _ _ _ _=>(aN (i:=0) (show List.Nodup [("_law_one" : Str)] by decide +kernel) rfl ‹24› ‹17›),fun _ _ _ _ _=>bJ,fun _ _ _ _ _=>(aD D.dI Gaf ‹2› (by rfl) ‹36›)⟩ (oO (K:=K) (pv 0) rfl))))
   aU)
   (aB (bO (bZ (aH bf (by rfl) D.aX aQ (aj (pv 0) (aj (cF (v:=V.ty "dict") rfl D.Ep zy rfl) aq))))
   (aB (aM (i:=1) j7.nd rfl (uA rfl) jN)
   (aB (Ou (fP dP rfl (M8 (pv 0)) (aN (i:=2) j7.nd rfl (uA rfl))
   (aF (kJ (dZ hr) (pv 1) (pv 2) (aD D.dI Gaf ‹2› (by rfl) (aj (eE (dZ hr) (pv 0) (pv 2) ‹3›) aq)) rfl))))
   (aF (aL (pv 1)))))
   aU)
   (aF (aL (pv 0)))))),?_⟩
  exists 18
  have leaf:iZ d=false->Ny d=false->Oc d=false->RdV (New H H) v d:=fun h1 h2 h3=>by
   cases rd with
   | non=>exact .non
   | bl b=>exact .bl b
   | int i=>exact .int i
   | str x=>exact .str x
   | tup=>cases h1
   | lst=>cases h2
   | dct=>cases h3
  exists 8;cases hb1:iZ d with
  | true=>
   obtain ⟨ds,rfl⟩:=jt hb1;obtain ⟨b,xs,rfl,hb',rl⟩:=rd.bV;have hxl:=rl.length;rw [dp] at hd;rw [br] at hb;cases n with
   | zero=>omega
   | succ n=>
   refine bM ⟨_,rfl,b,rfl,.inl ⟨xs,V7 hb',fun Dd hD=>?_⟩⟩;refine bA (n:=xs.length) (fun i ys H2=>RdA (New (upd H Dd (.lst [])) H2) ys (ds.take i)/\H2 Dd=some (.lst ys)/\∀ c u,c≠Dd->H c=some u->H2 c=some u) ⟨.nil,ak,fun c u h e=>by rw [aA h]; exact e⟩ ?_ ?_
   ·rintro ys H2 ⟨rl2,hD2,kp2⟩;have sm2:Same H H2:=fun c u e=>kp2 c u (au e hD) e;rw [aw ‹26›] at rl2;refine⟨⟨_,V7 (kp2 b _ (au hb' hD) hb'),ai _⟩,Dd,ys,rfl,.inl ⟨V6 hD2,fun l hl=>?_⟩⟩;refine k (.ref l) _ (.tup (New.at (none_of sm2 hl) ak) (rl2.bH (New.sub (fun a h=>none_of (We hD) h) fun a u h e=>?_))) (sm2.trans (We hl));rw [aA (au e hl)];exact e
   ·rintro i ys H2 hi ⟨rl2,hD2,kp2⟩;have sm2:Same H H2:=fun c u e=>kp2 c u (au e hD) e;have hil:i < ds.length:=by omega
    obtain ⟨y,ey,ry⟩:=rl.get (ae hil);have hb2':=kp2 b _ (au hb' hD) hb';refine⟨⟨_,_,V7 hb2',ey⟩,?_⟩;rintro z H3 ⟨rfl,yy⟩ σo ho;exists 15;have ez:=yy _ (V7 hb2');rw [ey] at ez;cases ez;refine⟨‹13›,cg ⟨_,rfl,y,ds[i],rfl,ry.bH sm2,pA.mp ‹26› _ (bS hil),mj.mp (kC.mp hb).2 _ (bS hil),fun v' H4 rv s4=>⟨?_,s4 Dd _ hD2,aW hi ⟨?_,ak,fun c u h e=>?_⟩⟩⟩⟩
    ·have:=rl2.length;rw [bc] at this;omega
    ·rw [take_snoc hil]
     have kp:∀ a u,(upd H Dd (.lst [])) a=none->H4 a=some u->(upd H4 Dd (.lst (ys++[v']))) a=some u:=fun a u h e=>by
      rw [aA (fun z=>by rw [z,ak] at h; cases h)];exact e
     refine(rl2.bH (New.sub (fun a h=>h) fun a u h e=>kp a u h (s4 a u e))).append (.cons (rv.bH (New.sub (fun a h=>?_) fun a u h e=>kp a u ?_ e)) .nil)
     all_goals
      rw [aA (fun z=>by rw [z,hD2] at h; cases h)];exact none_of sm2 h
    ·rw [aA h];exact s4 c _ (kp2 c u h e)
  | false=>
  refine bT ⟨_,rfl,_,_,_,Ny d,rfl,rd.ty,Qx N0 d,_,rfl,?_⟩;cases hb2:Ny d with
  | true=>
   obtain ⟨ds,b,xs,rfl,rfl,hb',rl⟩:∃ ds b xs,d=.list ds/\v=.ref b/\H b=some (.lst xs)/\RdA H xs ds:=by
    cases rd with
    | lst h q=>exact⟨_,_,_,rfl,rfl,h,q⟩
    | _=>cases hb2
   have hxl:=rl.length;rw [dp] at hd;rw [br] at hb;cases n with
   | zero=>omega
   | succ n=>
   refine bM ⟨_,rfl,b,rfl,.inr ⟨xs,V6 hb',fun Dd hD=>?_⟩⟩;refine bA (n:=xs.length) (fun i ys H2=>RdA (New (upd H Dd (.lst [])) H2) ys (ds.take i)/\H2 Dd=some (.lst ys)/\∀ c u,c≠Dd->H c=some u->H2 c=some u) ⟨.nil,ak,fun c u h e=>by rw [aA h]; exact e⟩ ?_ ?_
   ·rintro ys H2 ⟨rl2,hD2,kp2⟩;have sm2:Same H H2:=fun c u e=>kp2 c u (au e hD) e;rw [aw ‹26›] at rl2;refine⟨⟨_,V6 (kp2 b _ (au hb' hD) hb'),ai _⟩,?_⟩;exact k (.ref Dd) _ (.lst (New.at hD hD2) (rl2.bH (New.sub (fun a h=>none_of (We hD) h) fun a u h e=>e))) sm2
   ·rintro i ys H2 hi ⟨rl2,hD2,kp2⟩;have sm2:Same H H2:=fun c u e=>kp2 c u (au e hD) e;have hil:i < ds.length:=by omega
    obtain ⟨y,ey,ry⟩:=rl.get (ae hil);have hb2':=kp2 b _ (au hb' hD) hb';refine⟨⟨_,_,V6 hb2',ey⟩,?_⟩;rintro z H3 ⟨rfl,yy⟩ σo ho;exists 15;have ez:=yy _ (V6 hb2');rw [ey] at ez;cases ez;refine⟨‹13›,cg ⟨_,rfl,y,ds[i],rfl,ry.bH sm2,pA.mp ‹26› _ (bS hil),mj.mp (kC.mp hb).2 _ (bS hil),fun v' H4 rv s4=>⟨?_,s4 Dd _ hD2,aW hi ⟨?_,ak,fun c u h e=>?_⟩⟩⟩⟩
    ·have:=rl2.length;rw [bc] at this;omega
    ·rw [take_snoc hil]
     have kp:∀ a u,(upd H Dd (.lst [])) a=none->H4 a=some u->(upd H4 Dd (.lst (ys++[v']))) a=some u:=fun a u h e=>by
      rw [aA (fun z=>by rw [z,ak] at h; cases h)];exact e
     refine(rl2.bH (New.sub (fun a h=>h) fun a u h e=>kp a u h (s4 a u e))).append (.cons (rv.bH (New.sub (fun a h=>?_) fun a u h e=>kp a u ?_ e)) .nil)
     all_goals
      rw [aA (fun z=>by rw [z,hD2] at h; cases h)];exact none_of sm2 h
    ·rw [aA h];exact s4 c _ (kp2 c u h e)
  | false=>
  refine bT ⟨_,rfl,_,_,_,Oc d,rfl,rd.ty,Rh N0 d,_,rfl,?_⟩;cases hb3:Oc d with
  | false=>exact bT ⟨_,rfl,k v H (leaf hb1 hb2 hb3) (V8 H)⟩
  | true=>
   obtain ⟨kvs,rfl⟩:∃ kvs,d=.dict kvs:=by cases d <;> first | exact⟨_,rfl⟩ | cases hb3
   have h1:Dk kvs=true:=by
    rw [br] at hb;split at hb
    ·assumption
    ·omega
   obtain ⟨a,rfl,sh⟩:=El rd h1;refine bM fun T hT=>?_;have s1:Same H (upd H T (.dK [])):=We hT;rcases sh with ⟨rfl,ha⟩ | ⟨key,i,rfl,ha⟩
   ·have aT:=au ha hT;refine⟨_,rfl,a,_,rfl,s1 a _ ha,fun o=>?_⟩;refine wD (o:=o) (d:=a) (kvs:=[]) (fun m σ H5=>σ=[some (.ref a),some (.ref T),none]/\H5=upd (upd H T (.dK [])) a (.frz o (.dK []))) ⟨rfl,rfl⟩ (fun m σ H5 _ e=>by rw [e.2]; exact ak) (fun i kv σ H5 e=>nomatch e) ?_;rintro σ H5 ⟨rfl,rfl⟩;refine⟨a,o,[],ak,fun o' v' z=>?_,_,rfl,?_⟩
    ·exact nomatch (ha.symm.trans z)
    rw [cX];refine k (.ref T) _ (.dct (kvs:=[]) (ds:=[]) (New.at hT ?_) .nil) fun c u e=>?_
    ·rw [aA aT.symm];exact ak
    ·by_cases ca:c=a
     ·subst ca;rw [ha] at e;cases e;exact ak
     ·rw [aA ca];exact s1 c u e
   ·have aT:=au ha hT;cases n with
    | zero=>rw [dp] at hd; omega
    | succ n=>
    refine⟨_,rfl,a,_,rfl,s1 a _ ha,fun o=>?_⟩;refine wD (o:=o) (d:=a) (kvs:=[(.inr key,.int i)]) (fun m σ H5=>∃ v2,σ=[some (.ref a),some (.ref T),v2]/\H5 a=some (.frz o (.dK [(.inr key,.int i)]))/\(m=0->H5 T=some (.dK []))/\(m=1->H5 T=some (.dK [(.inr key,.int i)]))/\∀ c u,c≠a->H c=some u->H5 c=some u) ⟨_,rfl,ak,fun _=>by rw [aA aT.symm]; exact ak,‹11›,fun c u h e=>by rw [aA h]; exact s1 c u e⟩ (fun m σ H5 _ ⟨_,_,e,_⟩=>e) ?_ ?_
    ·rintro m kv σ H5 ekv ⟨v2,rfl,ha5,hT5,_,kp5⟩
     obtain rfl:m=0:=by
      have:=(bv.mp ekv).1;simpa using this
     cases ekv;refine⟨_,rfl,_,rfl,a,.int i,rfl,.inl ⟨_,.inr key,.inr ⟨o,ha5⟩,rfl,by simp [cM]⟩,.int i,.int i,rfl,.int i,by simp [dp],by simp [br],fun v' H6 rv s6=>?_⟩;obtain rfl:=K09.E.RdV.oN rv;refine⟨_,rfl,_,rfl,T,_,rfl,tD.k (k:=.inr key) (s6 T _ (hT5 rfl)) ‹6›,_,rfl,?_,‹11›,fun _=>ak,fun c u h e=>?_⟩
     ·rw [aA aT];exact s6 a _ ha5
     ·rw [aA (au e hT)];exact s6 c u (kp5 c u h e)
    ·rintro σ H5 ⟨v2,rfl,ha5,_,hT5,kp5⟩;refine⟨a,o,_,ha5,fun o' v' z=>?_,_,rfl,?_⟩
     ·exact nomatch (ha.symm.trans z)
     refine k (.ref T) _ (.dct (kvs:=[(.inr key,.int i)]) (ds:=[.int i]) (New.at hT ?_) (.cons (.int i) .nil)) fun c u e=>?_
     ·rw [aA aT.symm];exact hT5 rfl
     ·by_cases ca:c=a
      ·subst ca;rw [ha] at e;cases e;exact ak
      ·rw [aA ca];exact kp5 c u ca e
theorem Oa(D:Defs K mg t)(n:Nat):cA P w K mg base CX0 (n+2) t.dI.1 t.dI.2 ["_law_thing_here"] (zG n):=by
 induction n with
 | zero=>exact xO D 0 (D.dI.fn.ok j7 (fun vs H Q E h=>Do h) (fun cdv A outer s H vs Q E hr h=>Do h))
 | succ n ih=>exact xO D (n+1) ih
end
end K09.E
end
section
namespace L2
open PySem PySem.Spec PyProof.Rows
variable {X:Cx}
theorem Ek:∀ c∈abc.cps.toList,∀ d∈Vh c,d < 128:=by decide +kernel
theorem Hq{x:Str}(h:Lw x):∀ c∈(Txt.upper x).cps.toList,c < 128:=fun c hc=>by
 have hc:c∈(x.cps.mapIdx fun i c=>(Vh c).toArray).flatten:=iX.mp hc;obtain ⟨a,ha,hca⟩:=Array.mem_flatten.mp hc;obtain ⟨i,hi,rfl⟩:=Array.mem_mapIdx.mp ha;exact Ek _ (h _ (iX.mpr (Array.getElem_mem hi))) c (by simpa using hca)
inductive Ez (v:V) (vs:LV) (H:Hp) (Q:VK):Prop
 | mk (x:Str):v=.str x->vs=[]->Lw x->x.length<=1000->(∀ y:Str,y.length<=3 * x.length->(∀ c∈y.cps.toList,c < 128)->Q (.str y) H)->Ez v vs H Q
theorem Ib:MtM X "str.upper" Ez:=by
 intro pins s σ H v vs u us Q I rx rv h;obtain ⟨x,rfl,rfl,lw,hl,q⟩:=h;exists 16;cases rv;exists 5;have l3:(Txt.upper x).length<=3 * x.length:=placed_le3 x _ fun _ c=>StrLaws.upperOf_le3 c
 have hf:Vi (placed x fun _ c=>Vh c).size=false:=by
  have l3':(placed x fun _ c=>Vh c).size<=3 * x.length:=l3;unfold Vi;exact bE ‹26›
 exact call_gives F.slot_str_upper (rL s x t) F.entry_str_upper (F.args_str_upper_1 _) (gives_str_upper x t hf) ⟨by show (Txt.upper x).length<=sizeLine; omega,⟨.str (Txt.upper x),H,I.tok _,⟨_,rfl⟩,q _ l3 (Hq lw)⟩⟩
end L2
end
section
namespace K09.E
open PySem PyProof.Rows L2 K09.B
variable {m n:Nat}{ds:LP}{es ns ps:LS}{H:Hp}{v:V}{dn:PyData}{P:uC}{w:ww}{K:PySem.W.Frag}{mg:MG}{fd:vz}{sp:Sp}
theorem Gd.nm{x:Str}(h:Nm x):Gd 7 0 (.str x):=⟨by simp [n3],by rw [gs]; exact⟨by have:=h.2.1; omega,h.2.2.asc⟩,by rw [wt]; have:=h.2.1; omega,by simp [dp],by simp [br]⟩
theorem Gd.int(i:Int):Gd 1 0 (.int i):=‹8›
theorem Gd.non:Gd 1 0 .none:=‹8›
theorem GdA.nil:GdA 0 n []:=⟨(fun d h=>nomatch h),(fun d h=>nomatch h),by simp [wtA],(fun d h=>nomatch h),(fun d h=>nomatch h)⟩
theorem GdA.cons{m m' n:Nat}{d:PyData}{ds:LP}(h:Gd m n d)(t:GdA m' n ds):GdA (m+m') n (d::ds):=(GdA.one h).app t
theorem GdA.all{m n:Nat}:∀ {ds:LP},(∀ d∈ds,Gd m n d)->GdA (m * ds.length) n ds
 | [],_=>GdA.nil
 | d::ds,h=>((GdA.cons (h d bn) (GdA.all fun e he=>h e (cr _ he)))).le (by rw [dA,Nat.mul_succ]; omega) (ai _)
theorem Gd.row{k:Nat}(h:∀ d∈ds,Gd m n d)(hl:ds.length<=k)(hk:k<=62):Gd (m * k+1) (n+1) (.tuple ds):=
 ((GdA.all h).tup ‹26›).le (by have:=Nat.mul_le_mul_left m hl; omega) (ai _)
theorem Gd.names(h:∀ x∈ns,Nm x)(hl:ns.length<=9):Gd 64 1 (.tuple (ns.map .str)):=
 Gd.row (m:=7) (n:=0) (k:=9) (fun d hd=>by obtain ⟨x,hx,rfl⟩:=bu.mp hd; exact Gd.nm (h x hx)) (by rw [aa]; exact hl) ‹6›
theorem Gd.six{q:S6}{m1 m2 m3 m4 m5 m6:Nat}(h1:Gd m1 n q.a)(h2:Gd m2 n q.b)(h3:Gd m3 n q.c)(h4:Gd m4 n q.e)(h5:Gd m5 n q.g)(h6:Gd m6 n q.n):Gd (m1+m2+m3+m4+m5+m6+1) (n+1) (six q):=
 ((GdA.cons h1 (GdA.cons h2 (GdA.cons h3 (GdA.cons h4 (GdA.cons h5 (GdA.one h6)))))).tup (by show 6<=62; decide)).le ‹26› (ai _)
structure rM (r:Row):Prop where
 k:Nm r.kind
 e:∀ x∈r.cU,Nm x
 el:r.cU.length<=8
 o:∀ x∈r.order,Nm x
 ol:r.order.length<=9
 f:∀ x∈r.fields,Nm x
 fl:r.fields.length<=8
 g:∀ d∈r.lJ,Nm d.1
 gl:r.lJ.length<=11
def lC(r:Row):PyData:=.tuple (r.lJ.map mH)
def Ci(r:Row):S6:=⟨.str r.kind,.tuple (r.cU.map .str),.tuple (r.order.map .str),.tuple (r.fields.map .str),lC r,.int r.num⟩
theorem qx(ds:List (Str × Int)):mD (ds.map fun d=>T.tup [.str d.1,.int d.2])=ds.map mH:=by
 rw [lu,gN];exact gr fun d _=>by simp [toD,mD,mH]
theorem BP(r:Row):toD (tM r)=K09.E.six (Ci r):=by
 simp only [tM,RW,toD,mD,kO,qx,K09.E.six,Ci,lC]
theorem rM.lJ{r:Row}(h:rM r):Gd 100 2 (lC r):=
 Gd.row (m:=9) (n:=1) (k:=11) (fun d hd=>by
  obtain ⟨x,hx,rfl⟩:=bu.mp hd;exact((GdA.cons (Gd.nm (h.g x hx)) (GdA.one (Gd.int x.2))).tup (by show 2<=62; decide)).le ‹6› ‹6›) (by rw [aa]; exact h.gl) ‹6›
theorem rM.rest{r:Row}(h:rM r):Gd 64 2 (.tuple (r.fields.map .str))/\Gd 100 2 (lC r)/\Gd 1 2 (.int r.num):=⟨(Gd.names h.f (by have:=h.fl; omega)).le (ai _) ‹6›,h.lJ,(Gd.int _).le (ai _) ‹6›⟩
theorem rM.gd{r:Row}(h:rM r):Gd 301 3 (K09.E.six (Ci r)):=by
 obtain ⟨h4,h5,h6⟩:=h.rest;exact(Gd.six (n:=2) ((Gd.nm h.k).le (ai _) ‹6›) ((Gd.names h.e (by have:=h.el; omega)).le (ai _) ‹6›) ((Gd.names h.o h.ol).le (ai _) ‹6›) h4 h5 h6).le ‹6› (ai _)
def DX(tb:List Row):PyData:=.tuple (tb.map fun r=>K09.E.six (Ci r))
theorem yH(tb:List Row):toD (DK tb)=DX tb:=by
 rw [DK,toD,lu,gN,DX];congr 1;exact gr fun r _=>BP r
theorem K9{tb:List Row}(h:∀ r∈tb,rM r)(hl:tb.length<=8):Gd 2409 4 (DX tb):=
 Gd.row (m:=301) (n:=3) (k:=8) (fun d hd=>by obtain ⟨r,hr,rfl⟩:=bu.mp hd; exact(h r hr).gd) (by rw [aa]; exact hl) ‹6›
theorem yQ(h:∀ x∈ns,Nm x)(hl:ns.length<=61)(n:Nat):Tb (n+1) (.tuple (ns.map .str)):=by
 rw [Tb];refine⟨by rw [aa]; exact hl,?_,fun d hd=>?_⟩
 ·cases ns with
  | nil=>rfl
  | cons x ns=>rfl
 ·obtain ⟨x,hx,rfl⟩:=bu.mp hd;have:=(h x hx).2.1;cases n <;> (rw [Tb]; omega)
theorem Jh{r:Row}(h:rM r):Tb 2 (lC r):=by
 rw [lC,Tb];refine⟨by rw [aa]; have:=h.gl; omega,?_,fun d hd=>?_⟩
 ·cases r.lJ with
  | nil=>rfl
  | cons x ns=>rfl
 ·obtain ⟨x,hx,rfl⟩:=bu.mp hd;rw [mH,Tb];refine⟨by simp,rfl,fun d hd=>?_⟩;have:=(h.g x hx).2.1;simp only [bz,dL,iF] at hd;rcases hd with rfl | rfl
  ·rw [Tb]; omega
  ·simp [Tb]
theorem Gk{r:Row}(h:rM r):∀ d∈[PyData.str r.kind,.tuple (r.cU.map .str),.tuple (r.order.map .str),.tuple (r.fields.map .str),lC r,.int r.num],Tb 2 d:=fun d hd=>by
 simp only [bz,dL,iF] at hd;rcases hd with rfl | rfl | rfl | rfl | rfl | rfl
 ·have:=h.k.2.1;rw [Tb];omega
 ·exact yQ h.e (by have:=h.el; omega) 1
 ·exact yQ h.o (by have:=h.ol; omega) 1
 ·exact yQ h.f (by have:=h.fl; omega) 1
 ·exact Jh h
 ·simp [Tb]
theorem Q8{tb:List Row}(h:∀ r∈tb,rM r)(hl:tb.length<=8):Tb 4 (DX tb):=by
 rw [DX,Tb];refine⟨by rw [aa]; omega,?_,fun d hd=>?_⟩
 ·cases tb with
  | nil=>rfl
  | cons x ns=>rfl
 ·obtain ⟨r,hr,rfl⟩:=bu.mp hd;rw [K09.E.six,Tb];exact⟨by simp,rfl,Gk (h r hr)⟩
structure Iv (tb:List Row):Prop where
 r:∀ r∈tb,rM r
 l1:1<=tb.length
 l8:tb.length<=8
 nd:(kns tb).Nodup
 sub:∀ r∈tb,∀ x∈r.cU,x∈kns tb
theorem Iv.nm{tb:List Row}(h:Iv tb):∀ x∈kns tb,Nm x:=fun x hx=>by
 obtain ⟨r,hr,rfl⟩:=bu.mp hx;exact(h.r r hr).k
theorem vV{r:Row}(d:Dp H (tM r) v):∃(q e o f g:ut),v=.ref q/\H q=some (.tup [.str r.kind,.ref e,.ref o,.ref f,.ref g,.int r.num])/\H e=some (.tup (r.cU.map V.str))/\H o=some (.tup (r.order.map V.str))/\Dp H (.tup (r.fields.map T.str)) (.ref f)/\Dp H (.tup (r.lJ.map fun d=>T.tup [.str d.1,.int d.2])) (.ref g):=by
 obtain ⟨q,xs,rfl,hq,dl⟩:=L2.Dp.eV d;obtain ⟨x1,r1,rfl,d1,dl⟩:=Wa dl;obtain ⟨x2,r2,rfl,d2,dl⟩:=Wa dl;obtain ⟨x3,r3,rfl,d3,dl⟩:=Wa dl;obtain ⟨x4,r4,rfl,d4,dl⟩:=Wa dl;obtain ⟨x5,r5,rfl,d5,dl⟩:=Wa dl;obtain ⟨x6,r6,rfl,d6,dl⟩:=Wa dl;obtain rfl:=dl.ni;obtain rfl:=d1.jm;obtain rfl:=d6.oN;obtain ⟨a2,y2,rfl,h2,l2⟩:=L2.Dp.eV d2;obtain ⟨a3,y3,rfl,h3,l3⟩:=L2.Dp.eV d3;obtain ⟨a4,y4,rfl,h4,l4⟩:=L2.Dp.eV d4;obtain ⟨a5,y5,rfl,h5,l5⟩:=L2.Dp.eV d5;rw [DpL.jx l2] at h2;rw [DpL.jx l3] at h3;exact⟨q,a2,a3,a4,a5,rfl,hq,h2,h3,.tup h4 l4,.tup h5 l5⟩
def Ig(r:Row)(es:LS)(o:T):T:=.tup [.str r.kind,.tup (es.map T.str),o,.tup (r.fields.map T.str),.tup (r.lJ.map fun d=>T.tup [.str d.1,.int d.2]),.int r.num]
theorem Fw{r:Row}(h:rM r)(he:∀ x∈es,Nm x)(hl:es.length<=9){o:T}(ho:Gd 64 2 (toD o)):Gd 301 3 (toD (Ig r es o)):=by
 have e:toD (Ig r es o)=K09.E.six ⟨.str r.kind,.tuple (es.map .str),toD o,.tuple (r.fields.map .str),lC r,.int r.num⟩:=by
  simp only [Ig,toD,mD,kO,qx,K09.E.six,lC]
 rw [e];obtain ⟨h4,h5,h6⟩:=h.rest;exact(Gd.six (n:=2) ((Gd.nm h.k).le (ai _) ‹6›) ((Gd.names he hl).le (ai _) ‹6›) ho h4 h5 h6).le ‹6› (ai _)
theorem pC(h:∀ x∈ns,Nm x)(hl:ns.length<=9):Gd 64 2 (toD (.tup (ns.map T.str))):=by
 rw [toD,kO];exact(Gd.names h hl).le (ai _) ‹6›
theorem DpL.set{H:Hp}{t:T}{x:V}(h:Dp H t x):∀ {ts:List T} {xs:LV} (i:Nat),DpL H ts xs->DpL H (ts.set i t) (xs.set i x)
 | [],xs,i,r=>by rw [DpL.ni r]; exact .nil
 | u::ts,xs,i,r=>by
  obtain ⟨y,ys,rfl,d,l⟩:=Wa r;cases i with
  | zero=>exact .cons h l
  | succ i=>exact .cons d (DpL.set h i l)
section
variable {P:uC}{w:ww}{K:PySem.W.Frag}{mg:MG}{base:Heap}{t:Adr}
inductive Ay (vs:LV) (H:Hp) (Q:VK) (E_:XK):Prop
 | mk (p:ut) (v:V) (tb:List Row):vs=[.ref p,v]->Pu H p->Dp H (DK tb) v->Iv tb->(∀ v' d' H',RdV H' v' d'->Gd 2409 4 d'->Off p H H'->Pu H' p->Q v' H')->Ay vs H Q E_
theorem Ja(D:Defs K mg t):cA P w K mg base CX0 4 t.gR.1 t.gR.2 ["_law_purse_here","_law_table_here"] Ay:=by
 exists 13;have Gad:=@uT P w K mg base t D;have Gak:=@xM P w K mg base t D;exists 5;refine D.gR.fn.ok cG ‹7› ‹1›
 ·obtain ⟨p,v,tb,rfl,_⟩:=h;rfl
 ·obtain ⟨p,v,tb,rfl,hp,dt,ok,k⟩:=h;obtain ⟨a,xs,rfl,ha,dx⟩:=L2.Dp.eV dt;have hxl:=dx.length;rw [aa] at hxl;have l1:=ok.l1;have l8:=ok.l8;have knl:(kns tb).length=tb.length:=aa _
  have rowAt:∀ {H'},dH H H'->∀ i (h:i < tb.length),∃(q e o f g:ut),xs[i]?=some (.ref q)/\H' q=some (.tup [.str tb[i].kind,.ref e,.ref o,.ref f,.ref g,.int tb[i].num])/\H' e=some (.tup (tb[i].cU.map V.str))/\H' o=some (.tup (tb[i].order.map V.str))/\Dp H' (.tup (tb[i].fields.map T.str)) (.ref f)/\Dp H' (.tup (tb[i].lJ.map fun d=>T.tup [.str d.1,.int d.2])) (.ref g):=fun {H'} tu i h=>by
   obtain ⟨x,ex,d⟩:=dx.get (i:=i) (t:=tM tb[i]) (by rw [bg,ae h]; rfl);obtain ⟨q,e,o,f,g,rfl,r⟩:=vV (d.mono tu);exact⟨q,e,o,f,g,ex,r⟩
  refine⟨_,(@aB _ _ _ _ _ (aM (i:=2) cG.nd rfl (uA rfl) (@aD _ _ _ _ _ _ _ _ _ _ _ _ _ D.aV Ga ‹2› (by rfl) (@aj _ _ _ _ _ (pv 0) (@aj _ _ _ _ _ (@aH _ _ _ _ _ _ _ _ _ bx (by rfl) D.cI bQ ‹20› ‹6› ‹6› (by rfl) (by rfl)) aq (by rfl)) (by rfl)) ‹6› (by rfl) (by rfl)))
   (@aB _ _ _ _ _ (j8 (i:=3) rfl cG.nd rfl (uA rfl) (Wf ["_law_row_here"] [] ["_law_row_here"] (aG (top 54)) ["_law_purse_here","_law_table_here","_law_at","_law_kinds","_law_family","_law_orders_here","_law_none","_law_rows","_law_k","_law_row_here","_law_order"] rfl rfl ‹5›) ⟨fun _ _ _ _ _=>(aN (i:=0) (show List.Nodup [("_law_row_here" : Str)] by decide +kernel) rfl ‹24› ‹17›),fun _ _ _ _ _=>bJ,fun _ _ _ _ _=>(@aP _ _ _ _ _ _ _ aO (pv 0) aC ‹3›)⟩ (bW (pv 1)))
   (@aB _ _ _ _ _ (j8 (i:=4) rfl cG.nd rfl (uA rfl) (Wf ["_law_row_here"] [] ["_law_row_here"] (aG (top 54)) ["_law_purse_here","_law_table_here","_law_at","_law_kinds","_law_family","_law_orders_here","_law_none","_law_rows","_law_k","_law_row_here","_law_order"] rfl rfl ‹5›) ⟨fun _ _ _ _ _=>(aN (i:=0) (show List.Nodup [("_law_row_here" : Str)] by decide +kernel) rfl ‹24› ‹17›),fun _ _ _ _ _=>bJ,fun _ _ _ _ _=>(@cC _ _ _ _ _ (@aj _ _ _ _ _ (@aP _ _ _ _ _ _ _ aO (pv 0) aC ‹3›) (@aj _ _ _ _ _ (@aP _ _ _ _ _ _ _ aO (pv 0) aC ‹3›) aq (by rfl)) (by rfl)))⟩ (bW (pv 1)))
   (@aB _ _ _ _ _ (qY (@cC _ _ _ _ _ (@aj _ _ _ _ _ (@aP _ _ _ _ _ _ _ bN (pv 3) (pv 2) ‹3›) (@aj _ _ _ _ _ (@aD _ _ _ _ _ _ _ _ _ _ _ _ _ D.gF Gad ‹2› (by rfl) (@aj _ _ _ _ _ (pv 0) (@aj _ _ _ _ _ (pv 3) (@aj _ _ _ _ _ aC aq (by rfl)) (by rfl)) (by rfl)) ‹6› (by rfl) (by rfl)) aq (by rfl)) (by rfl))) (tY (pv 4) (pv 2) set_list))
   (@aB _ _ _ _ _ (aM (i:=5) cG.nd rfl (uA rfl) (@aD _ _ _ _ _ _ _ _ _ _ _ _ _ D.fW Gak ‹2› (by rfl) (@aj _ _ _ _ _ (pv 4) aq (by rfl)) ‹6› (by rfl) (by rfl)))
   (@aB _ _ _ _ _ (aM (i:=6) cG.nd rfl (uA rfl) (@aP _ _ _ _ _ _ _ bN (@cN _ _ _ _ (@aj _ _ _ _ _ jR (@aj _ _ _ _ _ (@cC _ _ _ _ _ aq) (@aj _ _ _ _ _ (@cC _ _ _ _ _ (@aj _ _ _ _ _ (@aP _ _ _ _ _ _ _ bN (pv 3) (pv 2) ‹3›) aq (by rfl))) (@aj _ _ _ _ _ (@aP _ _ _ _ _ _ _ aO (@aP _ _ _ _ _ _ _ aO (pv 1) (pv 2) ‹3›) aC ‹3›) aq (by rfl)) (by rfl)) (by rfl)) (by rfl))) ‹25› ‹3›))
   (@aB _ _ _ _ _ (aM (i:=7) cG.nd rfl (uA rfl) (@cN _ _ _ _ aq))
   (@aB _ _ _ _ _ (fP dP rfl (BJ (K:=K) rfl rfl D.oU ‹20›) (qd rfl (fG (aN (i:=8) cG.nd rfl (uA rfl)) (fG (aN (i:=9) cG.nd rfl (uA rfl)) nF)))
   (@aB _ _ _ _ _ (aM (i:=10) cG.nd rfl (uA rfl) (pB PySem.F.plainAttrs_dict PySem.F.slot_dict_get PySem.F.type_dict_get JV (pv 5) (@aj _ _ _ _ _ (@aP _ _ _ _ _ _ _ aO (pv 9) aC ‹3›) aq (by rfl))))
   (@mL _ _ _ _ _ (@bO _ _ _ _ _ _ _ _ (aY zJ (pv 10) jR (bh _))
   (@aF _ _ _ (aM (i:=10) cG.nd rfl (uA rfl) (pv 6)))
   aU)
   (@aF _ _ _ (kI (pB fT gT gX iz (pv 7) (@aj _ _ _ _ _ (@aR _ _ _ _ _ _ _ _ cP (@cC _ _ _ _ _ (@aj _ _ _ _ _ (@aP _ _ _ _ _ _ _ aO (pv 9) aC ‹3›) (@aj _ _ _ _ _ (@aP _ _ _ _ _ _ _ aO (@aP _ _ _ _ _ _ _ bN (pv 4) (pv 8) ‹3›) aC ‹3›) (@aj _ _ _ _ _ (pv 10) aq (by rfl)) (by rfl)) (by rfl))) (aZ bR (pv 9) (bC aC) bB)) aq (by rfl))))))))
   (@aF _ _ _ (@aL _ _ _ _ (bG cB (by rfl) D.bY bK (@aj _ _ _ _ _ (pv 7) aq (by rfl))))))))))))),?_⟩
  exists 18;refine⟨_,rfl,_,rfl,a,_,rfl,.inr (V7 ha),p,_,rfl,hp,by omega,by omega,fun r1 a1 b1 c1 l1' u1=>?_⟩;exists 2,o1,p1,p,H,H,a1,b1,c1,Wc,H1;have tu1:=lW hp o1;obtain ⟨at0,rfl⟩:∃ i:Nat,r1=(i:Int):=⟨r1.toNat,by omega⟩;have hat:at0 < tb.length:=by omega
  have ha1:=tu1 a _ ha;refine⟨_,rfl,a,rfl,⟨_,V7 ha1⟩,fun kl hkl=>?_⟩;refine bA (n:=xs.length) (fun i ys H2=>ys=((kns tb).take i).map V.str/\H2 kl=some (.lst ys)/\Same H1 H2) ⟨rfl,ak,We hkl⟩ ?_ ?_;rotate_left
  ·rintro i ys H2 hi ⟨rfl,hk2,s2⟩;have hil:i < tb.length:=by omega
   have tu2:=tu1.trans (V9 s2);obtain ⟨q,e,o,f,g,ey,hq,-⟩:=rowAt tu2 i hil;have ha2:=tu2 a _ ha;refine⟨⟨_,_,V7 ha2,ey⟩,?_⟩;rintro z H4 ⟨rfl,yy⟩ σo ho;exists 15;have ez:=yy _ (V7 ha2);rw [ey] at ez;cases ez;refine⟨‹13›,cg ⟨_,rfl,q,_,_,_,rfl,rfl,V7 hq,aJ (j:=0) rfl,by rw [aa,bc]; omega,hk2,aW hi ‹34›⟩⟩
   ·rw [L2.take_snoc (show i < (kns tb).length by rw [knl]; omega),aI];simp [kns]
   ·rw [aA (au z hkl)];exact s2 c _ z
  rintro ys H2 ⟨rfl,hk2,s2⟩;rw [aw ‹26›] at hk2;have tu2:=tu1.trans (V9 s2);refine⟨⟨_,V7 (tu2 a _ ha),ai _⟩,?_⟩;refine⟨_,rfl,a,rfl,⟨_,V7 (tu2 a _ ha)⟩,fun fm hfm=>?_⟩;refine bA (n:=xs.length) (fun i ys H3=>DpL H3 ((tb.take i).map fun r=>qy (r.kind,r.cU)) ys/\H3 fm=some (.lst ys)/\Same H2 H3) ⟨.nil,ak,We hfm⟩ ?_ ?_;rotate_left
  ·rintro i ys H3 hi ⟨dy,hf3,s3⟩;have hil:i < tb.length:=by omega
   have tu3:=tu2.trans (V9 s3);obtain ⟨q,e,o,f,g,ey,hq,he,-⟩:=rowAt tu3 i hil;have ha3:=tu3 a _ ha;refine⟨⟨_,_,V7 ha3,ey⟩,?_⟩;rintro z H4 ⟨rfl,yy⟩ σo ho;exists 15;have ez:=yy _ (V7 ha3);rw [ey] at ez;cases ez;refine⟨‹13›,cg ⟨_,rfl,q,_,_,_,rfl,rfl,V7 hq,aJ (j:=0) rfl,_,rfl,q,_,_,_,rfl,rfl,V7 hq,aJ (j:=1) rfl,show 2<=sizeLine by omega,fun z hz'=>?_⟩⟩;have hfz:fm≠z:=au hf3 hz'
   have tu4:dH H4 (upd (upd H4 z (.tup [.str tb[i].kind,.ref e])) fm (.lst (ys++[.ref z]))):=fun c zs e'=>by
    rw [aA (eG e' hf3 ‹11›),aA (au e' hz')];exact e'
   refine⟨?_,by rw [aA hfz]; exact hf3,aW hi ⟨?_,ak,fun c u e'=>?_⟩⟩
   ·have:=dy.length;rw [aa,bc] at this;omega
   ·rw [take_snoc hil,aI];refine DpL.append (dy.mono tu4) (.cons (K09.Dp.row ?_ (tu4 e _ he)) .nil);rw [aA (kL hfz)];exact ak
   ·rw [aA (au e' hfm),aA (au (s3 c u e') hz')];exact s3 c u e'
  rintro ys H3 ⟨dy,hf3,s3⟩;rw [aw ‹26›] at dy;have tu3:=tu2.trans (V9 s3);have hk3:=s3 kl _ hk2;have p3:=(p1.same s2).same s3;have o3:Off p H H3:=(o1.trans s2.off).trans s3.off;refine⟨⟨_,V7 (tu3 a _ ha),ai _⟩,?_⟩
  have ek:((kns tb).map V.str)[at0]?=some (.str tb[at0].kind):=by
   rw [bg,kns,bg,ae hat];rfl
  refine⟨_,rfl,_,rfl,kl,_,_,_,rfl,rfl,V6 hk3,aJ ek,_,rfl,_,rfl,p,kl,kns tb,4,rfl,p3,hk3,by decide,by omega,fun qe es H4 hqe hsub nde hel o4 p4=>?_⟩;have pfm:p≠fm:=(p1.same s2).neN hfm;have pkl:p≠kl:=p1.neN hkl;have hf4:=o4 fm _ pfm.symm hf3;have hk4:=o4 kl _ pkl.symm hk3;have tu34:=lW p3 o4;refine⟨by show 2<=sizeLine; omega,fun wq hwq=>?_⟩;exists 1,s5,hw5,H4,wq,(.tup [.str tb[at0].kind,.ref qe]),hwq,H5
  have yl:ys.length=tb.length:=by
   have:=dy.length;rw [aa] at this;exact this
  have hf5:=s5 fm _ hf4;refine⟨_,rfl,_,rfl,fm,ys,(at0:Int),at0,rfl,rfl,hf5,by unfold ixN; simp; omega,?_⟩
  have tu56:dH H5 (upd H5 fm (.lst (ys.set at0 (.ref wq)))):=fun c zs e=>by
   rw [aA (eG e hf5 ‹11›)];exact e
  have hf6:(upd H5 fm (.lst (ys.set at0 (.ref wq)))) fm=some (.lst (ys.set at0 (.ref wq))):=ak;have off6:∀ c u,c≠fm->H5 c=some u->(upd H5 fm (.lst (ys.set at0 (.ref wq)))) c=some u:=fun c u h e=>by rw [aA h]; exact e
  generalize upd H5 fm (.lst (ys.set at0 (.ref wq)))=H6 at tu56 hf6 off6;have tu06:dH H H6:=((tu3.trans tu34).trans (V9 s5)).trans tu56;have tu46:=(V9 s5).trans tu56
  have p6:Pu H6 p:=by
   obtain ⟨x1,x2,x3,ep⟩:=p4;exact⟨x1,x2,x3,off6 p _ pfm (s5 p _ ep)⟩
  have hfmH:H fm=none:=by
   cases q:H fm with
   | none=>rfl
   | some u=>rw [s2 fm u (o1 fm u pfm.symm q)] at hfm; cases hfm
  have o6:Off p H H6:=fun c u h e=>off6 c u (au e hfmH) (s5 c u (o4 c u h (o3 c u h e)));have hk6:=off6 kl _ (fun z=>by rw [z,hfm] at hk2; cases hk2) (s5 kl _ hk4);have hkat:tb[at0].kind∈kns tb:=bu.mpr ⟨_,bS hat,rfl⟩
  let f:Fam:=(tb.map fun r=>(r.kind,r.cU)).set at0 (tb[at0].kind,es)
  have hfdef:f=(tb.map fun r=>(r.kind,r.cU)).set at0 (tb[at0].kind,es):=rfl;have fl:f.length=tb.length:=by rw [hfdef,List.length_set,aa]
  have fnm:nms f=kns tb:=by
   rw [hfdef,nms,List.map_set,gN];refine qc (by simp [kns]) fun i h1 h2=>?_;rw [List.getElem_set];split
   ·rename_i e; subst e; simp [kns]
   ·simp [kns]
  have fmem:∀ r∈f,(∀ x∈r.2,x∈kns tb)/\r.2.length<=8:=fun r hr=>by
   rcases i9 hr with h | h
   ·obtain ⟨r',hr',rfl⟩:=bu.mp h;exact⟨ok.sub r' hr',(ok.r r' hr').el⟩
   ·rw [h];exact⟨hsub,by show es.length<=8; omega⟩
  have dfm:DpL H6 (f.map qy) (ys.set at0 (.ref wq)):=by
   rw [hfdef,List.map_set,gN];exact K09.E.DpL.set (K09.Dp.row (tu56 wq _ hw5) (tu46 qe _ hqe)) at0 (dy.mono (tu34.trans tu46))
  have R:Rw8 f:=⟨by rw [fnm]; exact ok.nd,by omega,fun r hr=>(fmem r hr).2,fun r hr e he=>by rw [fnm]; exact(fmem r hr).1 e he⟩
  clear_value f
  refine⟨_,rfl,fm,_,f,rfl,hf6,dfm,R,fun od kvs H7 hodn hod oa cov s7=>?_⟩;have tu07:=tu06.trans (V9 s7);have hk7:=s7 kl _ hk6;have p7:=p6.same s7;have o7:Off p H H7:=o6.trans s7.off;obtain ⟨q,e0,oo,f0,g0,eq,hq,he0,hoo,-⟩:=rowAt tu07 at0 hat;refine⟨dk _,fun t1 ht1=>?_⟩;exists 1,s8,h81,H7,t1,(.tup []),ht1,H8;refine⟨_,rfl,_,rfl,kl,_,_,_,rfl,rfl,V6 (s8 kl _ hk7),aJ ek,by show 1<=sizeLine; decide,fun t2 ht2=>?_⟩;exists 1,s9,h92,H8,t2,(.tup [.str tb[at0].kind]),ht2,H9;have s79:=s8.trans s9;refine⟨_,rfl,_,rfl,a,_,_,_,rfl,rfl,V7 (s79 a _ (tu07 a _ ha)),aJ eq,q,_,_,_,rfl,rfl,V7 (s79 q _ hq),aJ (j:=2) rfl,by show 4<=sizeLine; decide,fun L hL=>?_⟩;exists 1,s10,hL10,H9,L,(.lst [.non,.ref t1,.ref t2,.ref oo]),hL,H10;have s710:=s79.trans s10;have p10:=p7.same s710;refine⟨_,rfl,p,4,rfl,p10,by decide,by decide,fun r5 a5 b5 c5 l5 u5=>?_⟩;exists 2,o11,p11,p,H10,H10,a5,b5,c5,Wc,H11;have tu711:=(V9 s710).trans (lW p10 o11);have pL:p≠L:=(p7.same s79).neN hL;have o7_11:Off p H7 H11:=s710.off.trans o11;have o011:Off p H H11:=o7.trans o7_11
  obtain ⟨vn,tn,ev,dn,gn⟩:∃ vn tn,atI [V.non,.ref t1,.ref t2,.ref oo] r5=some vn/\Dp H11 tn vn/\Gd 64 2 (toD tn):=by
   have tu10:=lW p10 o11;rcases (by omega:r5=0\/r5=1\/r5=2\/r5=3) with rfl | rfl | rfl | rfl
   ·refine⟨_,.non,aJ (j:=0) rfl,by rw [Dp],?_⟩;rw [toD];exact Gd.non.le ‹6› ‹6›
   ·exact⟨_,.tup (([]:LS).map T.str),aJ (j:=1) rfl,.tup (tu10 t1 _ (s10 t1 _ (s9 t1 _ h81))) .nil,pC (fun x h=>nomatch h) ‹6›⟩
   ·exact⟨_,.tup ([tb[at0].kind].map T.str),aJ (j:=2) rfl,.tup (tu10 t2 _ (s10 t2 _ h92)) (.cons (.str _) .nil),pC (fun x h=>by rw [bj.mp h]; exact ok.nm _ hkat) (by show 1<=9; decide)⟩
   ·exact⟨_,.tup ((tb[at0].order).map T.str),aJ (j:=3) rfl,.tup (tu711 oo _ hoo) (Wb _),pC (ok.r _ (bS hat)).o (ok.r _ (bS hat)).ol⟩
  refine⟨L,_,_,vn,rfl,rfl,V6 (o11 L _ pL.symm hL10),ev,?_⟩;refine⟨dk _,fun rw0 hrw=>?_⟩;have pod:p≠od:=p6.neN hodn;have hod11:=o7_11 od _ pod.symm hod;have hfm11:=o7_11 fm _ pfm.symm (s7 fm _ hf6);have oa11:=oa.mono tu711;have dfm11:=dfm.mono ((V9 s7).trans tu711);have tu011:=tu07.trans tu711;have prw:p≠rw0:=p11.neN hrw;have rwod:od≠rw0:=au hod11 hrw;have rwfm:fm≠rw0:=au hfm11 hrw;refine⟨_,rfl,a,rfl,.inr ⟨_,V7 (We hrw a _ (tu011 a _ ha)),?_⟩⟩
  refine Im (K:=K) (a:=a) (xs:=xs) (fun i σ H2=>∃(v8 v9 v10:OV) (ts:List T) (zs:LV),σ=[some (.ref p),some (.ref a),some (.int at0),some (.ref kl),some (.ref fm),some (.ref od),some vn,some (.ref rw0),v8,v9,v10]/\H2 rw0=some (.lst zs)/\DpL H2 ts zs/\ts.length=i/\(∀ t∈ts,Gd 301 3 (toD t))/\∀ c u,c≠rw0->H11 c=some u->H2 c=some u)
   ⟨_,_,_,[],[],rfl,ak,.nil,rfl,(fun t h=>nomatch h),fun c u h e=>by rw [aA h]; exact e⟩ (fun i σ H2 _ ⟨_,_,_,_,_,_,_,_,_,_,kp⟩=>V7 (kp a _ (au (tu011 a _ ha) hrw) (tu011 a _ ha))) ?_ ?_
  ·rintro i x σ H2 z hi ⟨v8,v9,v10,ts,zs,rfl,hrw2,dz,tsl,gts,kp⟩ hz2
   have hil:i < tb.length:=by
    have:=(bv.mp hi).1;omega
   have tu2':dH H11 H2:=fun c ws e=>kp c _ (au e hrw) e;have tz:dH H2 (upd H2 z (.tup [.int i,x])):=fun c ws e=>by rw [aA (au e hz2)]; exact e
   have kpz:∀ c u,c≠rw0->H11 c=some u->(upd H2 z (.tup [.int i,x])) c=some u:=fun c u h e=>by
    rw [aA (au (kp c u h e) hz2)];exact kp c u h e
   have hrwz:(upd H2 z (.tup [.int i,x])) rw0=some (.lst zs):=by rw [aA (au hrw2 hz2)]; exact hrw2
   have hzz:(upd H2 z (.tup [.int i,x])) z=some (.tup [.int i,x]):=ak;generalize upd H2 z (.tup [.int i,x])=H3' at tz kpz hrwz hzz;have tu3':dH H H3':=(tu011.trans tu2').trans tz;obtain ⟨q',e',o',f',g',ex,hq',he',ho',df',dg'⟩:=rowAt tu3' i hil;rw [ex] at hi;have hi:=ck hi;subst hi;have hod':=kpz od _ rwod hod11;have hfm':=kpz fm _ rwfm hfm11;have hif:i < f.length:=by omega
   obtain ⟨yf,eyf,dyf⟩:=(dfm11.mono (tu2'.trans tz)).get (i:=i) (t:=qy f[i]) (by rw [bg,ae hif]; rfl);obtain ⟨qf,ef,rfl,hqf,hef⟩:=K09.Dp.zP dyf;refine⟨z,_,rfl,V7 hzz,rfl,_,_,rfl,_,_,rfl,rfl,?_⟩;refine⟨_,rfl,.inr (.inr (.inl ⟨rfl,.inl ⟨kvs,hod'⟩⟩)),_,rfl,q',_,_,_,rfl,rfl,V7 hq',aJ (j:=0) rfl,od,kvs,.inr tb[i].kind,rfl,rfl,hod',?_⟩;have dn':=dn.mono (tu2'.trans tz);have oa':=oa11.mono (tu2'.trans tz);refine⟨fun σ' H'=>∃ vo to,σ'=[some (.ref p),some (.ref a),some (.int at0),some (.ref kl),some (.ref fm),some (.ref od),some vn,some (.ref rw0),some (.int i),some (.ref q'),some vo]/\H'=H3'/\Dp H3' to vo/\Gd 64 2 (toD to),?_,?_⟩
   ·cases hv:cM kvs (.inr tb[i].kind) with
    | none=>exact⟨_,rfl,rfl,_,rfl,bM ⟨_,rfl,vn,tn,rfl,rfl,dn',gn⟩⟩
    | some v=>
     obtain ⟨hpl,hov⟩:=oa' _ _ hv;rcases hov with ⟨h1,rfl⟩ | ⟨lo,q2,h1,rfl,hq2⟩
     ·exact⟨_,rfl,rfl,_,rfl,bM ⟨_,rfl,vn,tn,rfl,rfl,dn',gn⟩⟩
     ·obtain ⟨nm,nl⟩:=vp R hpl lo h1;rw [fnm] at nm;exact⟨_,rfl,rfl,_,rfl,bT ⟨.ref q2,.tup (lo.map T.str),rfl,rfl,.tup hq2 (Wb _),pC (fun x hx=>ok.nm x (nm x hx)) nl⟩⟩
   ·rintro σ' H' ⟨vo,to,rfl,rfl,dvo,gto⟩;have hzl:=dz.length
    have fki:f[i].1=tb[i].kind:=by
     have:=congrArg (fun l=>l[i]?) fnm;simp only [nms,kns,bg,ae hif,ae hil,il] at this;exact ck this
    refine⟨_,rfl,.inl ⟨rfl,_,V6 hrwz⟩,_,rfl,q',_,_,_,rfl,rfl,V7 hq',aJ (j:=0) rfl,_,rfl,_,rfl,fm,_,_,_,rfl,rfl,V6 hfm',aJ eyf,qf,_,_,_,rfl,rfl,V7 hqf,aJ (j:=1) rfl,_,rfl,by show 3<=sizeLine; decide,fun w1 hw1=>?_⟩;exists 1,s4,h4,H',w1,(.tup [.str tb[i].kind,.ref ef,vo]),hw1,H4';refine⟨_,rfl,3,rfl,q',_,rfl,s4 q' _ hq',fun w2 H5' hw2 s5'=>?_⟩;refine⟨w1,w2,_,_,rfl,rfl,s5' w1 _ h4,hw2,by rw [show eF [V.str tb[i].kind,.ref e',.ref o',.ref f',.ref g',.int tb[i].num] (some 3) none=_ from dU _ 3]; show 3+3<=sizeLine; decide,fun w3 H6' hw3 s6'=>?_⟩;rw [show eF [V.str tb[i].kind,.ref e',.ref o',.ref f',.ref g',.int tb[i].num] (some 3) none=[.ref f',.ref g',.int tb[i].num] from dU _ 3] at hw3;have s36:=(s4.trans s5').trans s6';have hrw6:=s36 rw0 _ hrwz;refine⟨rw0,_,_,rfl,rfl,hrw6,by omega,?_⟩;have t36:=V9 s36;have t67:dH H6' (upd H6' rw0 (.lst (zs++[.ref w3]))):=fun c ws e=>by rw [aA (eG e hrw6 ‹11›)]; exact e
    refine⟨_,_,_,ts++[Ig tb[i] f[i].2 to],zs++[.ref w3],rfl,ak,?_,by rw [bX,tsl]; rfl,fun t ht=>?_,fun c u h e=>?_⟩
    ·refine DpL.append (dz.mono ((tz.trans t36).trans t67)) (.cons (.tup (t67 w3 _ hw3) ?_) .nil);have tt:=t36.trans t67;exact .cons (.str _) (.cons (.tup (tt ef _ hef) (Wb _)) (.cons (dvo.mono tt) (.cons (df'.mono tt) (.cons (dg'.mono tt) (.cons (.int _) .nil)))))
    ·rcases cw.mp ht with ht | ht
     ·exact gts t ht
     ·rw [bj.mp ht];exact Fw (ok.r _ (bS hil)) (fun x hx=>ok.nm x ((fmem _ (bS hif)).1 x hx)) (by have:=(fmem _ (bS hif)).2; omega) gto
    ·rw [aA h];exact s36 c u (kpz c u h e)
  ·rintro σ H2 ⟨v8,v9,v10,ts,zs,rfl,hrw2,dz,tsl,gts,kp⟩;refine⟨_,rfl,rw0,zs,rfl,.inl ⟨V6 hrw2,fun l hl=>?_⟩⟩;have tl:dH H2 (upd H2 l (.tup zs)):=V9 (We hl);have e2:toD (.tup ts)=.tuple (ts.map toD):=by rw [toD,lu]
   have d2:Dp (upd H2 l (.tup zs)) (.tup ts) (.ref l):=.tup ak (dz.mono tl);have rd2:=d2.rd;rw [e2] at rd2;refine k (.ref l) _ _ rd2 (Gd.row (m:=301) (n:=3) (k:=8) (fun d hd=>?_) (by rw [aa,tsl]; omega) ‹6›) ?_ ?_
   ·obtain ⟨t,ht,rfl⟩:=bu.mp hd;exact gts t ht
   ·have hrwH:H rw0=none:=by
     cases q:H rw0 with
     | none=>rfl
     | some u=>rw [o011 rw0 u prw.symm q] at hrw; cases hrw
    exact fun c u h e=>We hl c u (kp c u (au e hrwH) (o011 c u h e))
   ·obtain ⟨x1,x2,x3,ep⟩:=p11;exact⟨x1,x2,x3,We hl p _ (kp p _ prw ep)⟩
def zT(old:Str)(dn:PyData)(x:Str):PyData:=if x=old then dn else .str x
def jl(old:Str)(vn:V)(x:Str):V:=if x=old then vn else .str x
theorem Je{old:Str}{vn:V}(r:RdV H vn dn)(x:Str):RdV H (jl old vn x) (zT old dn x):=by
 unfold jl zT;split
 ·exact r
 ·exact .str x
theorem yZ{H:Hp}{old:Str}{vn:V}{dn:PyData}(r:RdV H vn dn):∀ xs:LS,RdA H (xs.map (jl old vn)) (xs.map (zT old dn))
 | []=>.nil
 | x::xs=>.cons (Je r x) (yZ r xs)
theorem JF{old:Str}(g:Gd 60 30 dn){x:Str}(h:Nm x):Gd 60 30 (zT old dn x):=by
 unfold zT;split
 ·exact g
 ·exact(Gd.nm h).le ‹6› ‹6›
theorem Gw{old:Str}(g:Gd 60 30 dn){xs:LS}(h:∀ x∈xs,Nm x)(hl:xs.length<=9):Gd 541 31 (.tuple (xs.map (zT old dn))):=
 Gd.row (m:=60) (n:=30) (k:=9) (fun d hd=>by obtain ⟨x,hx,rfl⟩:=bu.mp hd; exact JF g (h x hx)) (by rw [aa]; exact hl) ‹6›
inductive xV (vs:LV) (H:Hp) (Q:VK) (E_:XK):Prop
 | mk (p:ut) (v:V) (tb:List Row) (old:Str):vs=[.ref p,v,.str old]->Pu H p->Dp H (DK tb) v->Iv tb->Nm old->(∀ v' d' H',RdV H' v' d'->Gd 11000 33 d'->Off p H H'->Pu H' p->Q v' H')->xV vs H Q E_
theorem CN(D:Defs K mg t):cA P w K mg base CX0 4 t.fX.1 t.fX.2 ["_law_purse_here","_law_table_here","_law_old"] xV:=by
 exists 13;have Gac:=@zA P w K mg base t D;have Gan:=@Ce P w K mg base t D;exists 5;refine D.fX.fn.ok dX ‹7› ‹1›
 ·obtain ⟨p,v,tb,old,rfl,_⟩:=h;rfl
 ·obtain ⟨p,v,tb,old,rfl,hp,dt,ok,nmo,k⟩:=h;obtain ⟨a,xs,rfl,ha,dx⟩:=L2.Dp.eV dt;have hxl:=dx.length;rw [aa] at hxl;have l8:=ok.l8;have o6:=nmo.2.1;have aso:=nmo.2.2.asc
  have rowAt:∀ {H'},dH H H'->∀ i (h:i < tb.length),∃(q e o f g:ut),xs[i]?=some (.ref q)/\H' q=some (.tup [.str tb[i].kind,.ref e,.ref o,.ref f,.ref g,.int tb[i].num])/\H' e=some (.tup (tb[i].cU.map V.str))/\H' o=some (.tup (tb[i].order.map V.str))/\Dp H' (.tup (tb[i].fields.map T.str)) (.ref f)/\Dp H' (.tup (tb[i].lJ.map fun d=>T.tup [.str d.1,.int d.2])) (.ref g):=fun {H'} tu i h=>by
   obtain ⟨x,ex,d⟩:=dx.get (i:=i) (t:=tM tb[i]) (by rw [bg,ae h]; rfl);obtain ⟨q,e,o,f,g,rfl,r⟩:=vV (d.mono tu);exact⟨q,e,o,f,g,ex,r⟩
  refine⟨_,(@aB _ _ _ _ _ (aM (i:=3) dX.nd rfl (uA rfl) ‹25›)
   (@aB _ _ _ _ _ (aM (i:=4) dX.nd rfl (Mm rfl) (@aP _ _ _ _ _ _ _ bN (@cN _ _ _ _ (@aj _ _ _ _ _ (@aD _ _ _ _ _ _ _ _ _ _ _ _ _ D.dN Gan ‹2› (by rfl) (@aj _ _ _ _ _ (pv 0) (@aj _ _ _ _ _ (pv 2) aq (by rfl)) (by rfl)) ‹6› (by rfl) (by rfl)) (@aj _ _ _ _ _ (aZ lE (@aR _ _ _ _ _ _ _ _ uP (pv 2) aC) bB (bC aC)) (@aj _ _ _ _ _ (aZ lE (@aR _ _ _ _ _ _ _ _ uP (pv 2) aC) bB (bC aC)) (@aj _ _ _ _ _ dG (@aj _ _ _ _ _ (Q0 PySem.F.plainAttrs_str PySem.F.slot_str_upper PySem.F.type_str_upper Ib (pv 2)) (@aj _ _ _ _ _ (@aD _ _ _ _ _ _ _ _ _ _ _ _ _ D.gZ Gac ‹2› (by rfl) (@aj _ _ _ _ _ (pv 0) aq (by rfl)) ‹6› (by rfl) (by rfl)) aq (by rfl)) (by rfl)) (by rfl)) (by rfl)) (by rfl)) (by rfl))) (pv 3) ‹3›))
   (@aB _ _ _ _ _ (aM (i:=5) dX.nd rfl (uA rfl) (@cN _ _ _ _ aq))
   (@aB _ _ _ _ _ (fP dP rfl (bW (pv 1)) (aN (i:=6) dX.nd rfl (uA rfl))
   (@aB _ _ _ _ _ (j8 (i:=7) rfl dX.nd rfl (uA rfl) (Wf ["_law_one"] [4,2] ["_law_one","_law_new","_law_old"] (aG (top 55)) ["_law_purse_here","_law_table_here","_law_old","_law_pick","_law_new","_law_rows","_law_row_here","_law_names_here","_law_order"] rfl rfl ‹5›) ⟨fun _ _ _ _ _=>(aN (i:=0) (show List.Nodup [("_law_one" : Str),("_law_new" : Str),("_law_old" : Str)] by decide +kernel) rfl ‹24› ‹17›),fun _ _ _ _ _=>bJ,fun _ _ _ _ _=>(@aP _ _ _ _ _ _ _ bN (@cN _ _ _ _ (@aj _ _ _ _ _ (pv 0) ‹20› (by rfl))) (bG xX (by rfl) D.Bd wC (@aj _ _ _ _ _ (dO gq (pv 0) (pv 2) (bh _)) aq (by rfl))) ‹3›)⟩ (bW (@aR _ _ _ _ _ _ _ _ cP (@cC _ _ _ _ _ (@aj _ _ _ _ _ (@aP _ _ _ _ _ _ _ aO (pv 6) aC ‹3›) aq (by rfl))) (@aP _ _ _ _ _ _ _ aO (pv 6) aC ‹3›))))
   (@aB _ _ _ _ _ (aM (i:=8) dX.nd rfl (uA rfl) (bG cB (by rfl) D.bY bK (@aj _ _ _ _ _ (bI rfl (Wf ["_law_one"] [4,2] ["_law_one","_law_new","_law_old"] (aG (top 55)) ["_law_purse_here","_law_table_here","_law_old","_law_pick","_law_new","_law_rows","_law_row_here","_law_names_here","_law_order"] rfl rfl ‹5›) ⟨fun _ _ _ _ _=>(aN (i:=0) (show List.Nodup [("_law_one" : Str),("_law_new" : Str),("_law_old" : Str)] by decide +kernel) rfl ‹24› ‹17›),fun _ _ _ _ _=>bJ,fun _ _ _ _ _=>(@aP _ _ _ _ _ _ _ bN (@cN _ _ _ _ (@aj _ _ _ _ _ (pv 0) ‹20› (by rfl))) (bG xX (by rfl) D.Bd wC (@aj _ _ _ _ _ (dO gq (pv 0) (pv 2) (bh _)) aq (by rfl))) ‹3›)⟩ (bW (@aP _ _ _ _ _ _ _ aO (pv 6) aC ‹3›))) aq (by rfl))))
   (@aF _ _ _ (kI (pB fT gT gX iz (pv 5) (@aj _ _ _ _ _ (@aR _ _ _ _ _ _ _ _ cP (@cC _ _ _ _ _ (@aj _ _ _ _ _ (@aP _ _ _ _ _ _ _ bN (pv 7) aC ‹3›) (@aj _ _ _ _ _ (bG cB (by rfl) D.bY bK (@aj _ _ _ _ _ (aZ sI (pv 7) (bC aC) bB) aq (by rfl))) (@aj _ _ _ _ _ (pv 8) aq (by rfl)) (by rfl)) (by rfl))) (aZ bR (pv 6) (bC aC) bB)) aq (by rfl))))))))
   (@aF _ _ _ (@aL _ _ _ _ (bG cB (by rfl) D.bY bK (@aj _ _ _ _ _ (pv 5) aq (by rfl))))))))),?_⟩
  exists 18;refine⟨_,rfl,p,6,rfl,hp,by decide,by decide,fun r1 a1 b1 c1 l1' u1=>?_⟩;exists 2,o1,p1,p,H,H,a1,b1,c1,Wc,H1;refine⟨_,rfl,_,rfl,p,old,rfl,p1,by omega,aso,fun y1 H2 hy1 ay1 o2 p2=>?_⟩;refine⟨_,rfl,old,7,rfl,rfl,by decide,by decide,by omega,_,rfl,_,rfl,?_,?_⟩
  ·have:=qP old (n:=7) ‹6›;have e7:(7:Int).toNat=7:=rfl;rw [e7] at this;omega
  refine⟨_,rfl,old,7,rfl,rfl,by decide,by decide,by omega,_,rfl,_,rfl,?_,?_⟩
  ·have:=qP old (n:=7) ‹6›;have e7:(7:Int).toNat=7:=rfl;rw [e7] at this;omega
  refine⟨_,rfl,rfl,old,rfl,rfl,nmo.2.2,by omega,fun y4 hy4 ay4=>?_⟩;refine⟨_,rfl,p,rfl,p2,fun vo do' H3 rvo gvo o3 p3=>?_⟩;refine⟨by show 6<=sizeLine; decide,fun L hL=>?_⟩;generalize hvs:[V.str y1,.str (ym (ig old 7) none (some 7)),.str (ym (ig old 7) none (some 6)),.str "",.str y4,vo]=vls;have s4:Same H3 (upd H3 L (.lst vls)):=We hL;have hL4:(upd H3 L (.lst vls)) L=some (.lst vls):=ak;have o04:Off p H (upd H3 L (.lst vls)):=((o1.trans o2).trans o3).trans s4.off;have p4:=p3.same s4;have pL:p≠L:=p3.neN hL;generalize upd H3 L (.lst vls)=H4 at s4 hL4 o04 p4;have tu4:=lW hp o04
  obtain ⟨vn,dn,ev,rn,gn⟩:∃ vn dn,atI vls r1=some vn/\RdV H4 vn dn/\Gd 60 30 dn:=by
   rw [<- hvs];have tx:∀ y:Str,y.length<=20->Asc y->RdV H4 (.str y) (.str y)/\Gd 60 30 (.str y):=fun y h1 h2=>⟨.str y,(Gd.str ⟨h1,h2⟩).le ‹6› ‹6›⟩;rcases lt6 r1 l1' u1 with rfl | rfl | rfl | rfl | rfl | rfl
   ·exact⟨_,_,aJ (j:=0) rfl,tx y1 ‹26› ay1⟩
   ·exact⟨_,_,aJ (j:=1) rfl,tx _ (cS (uc (j:=7) ‹6›) ‹6›) ((K09.E.Asc.rep aso 7).slice _ _)⟩
   ·exact⟨_,_,aJ (j:=2) rfl,tx _ (cS (uc (j:=6) ‹6›) ‹6›) ((K09.E.Asc.rep aso 7).slice _ _)⟩
   ·exact⟨_,_,aJ (j:=3) rfl,tx _ ‹5› (by unfold Asc; decide +kernel)⟩
   ·exact⟨_,_,aJ (j:=4) rfl,tx y4 ‹26› (.of ay4)⟩
   ·exact⟨_,_,aJ (j:=5) rfl,rvo.bH s4,gvo⟩
  refine⟨_,rfl,L,_,_,vn,rfl,rfl,V6 hL4,ev,?_⟩;clear hvs ev;refine⟨dk _,fun rw0 hrw=>?_⟩;have prw:p≠rw0:=p4.neN hrw;refine⟨_,rfl,a,rfl,⟨_,V7 (We hrw a _ (tu4 a _ ha))⟩,?_⟩
  refine qu (K:=N0) (a:=a) (xs:=xs) (fun i σ H2=>∃(v6 v7 v8:OV) (ds:LP) (zs:LV),σ=[some (.ref p),some (.ref a),some (.str old),some (.int r1),some vn,some (.ref rw0),v6,v7,v8]/\H2 rw0=some (.lst zs)/\(∀ H',dH H2 H'->Same H4 H'->RdA H' zs ds)/\ds.length=i/\(∀ d∈ds,Gd 1374 32 d)/\Same H4 H2)
   ⟨_,_,_,[],[],rfl,ak,fun H' _ _=>.nil,rfl,(fun t h=>nomatch h),We hrw⟩ (fun i σ H2 _ ⟨_,_,_,_,_,_,_,_,_,_,kp⟩=>V7 (kp a _ (tu4 a _ ha))) ?_ ?_
  ·rintro i x σ H5 hi ⟨v6,v7,v8,ds,zs,rfl,hrw5,rz,dl,gds,s5⟩
   have hil:i < tb.length:=by
    have:=(bv.mp hi).1;omega
   have tu5:=tu4.trans (V9 s5);obtain ⟨q',e',o',f',g',ex,hq',he',ho',df',dg'⟩:=rowAt tu5 i hil;rw [ex] at hi;have hi:=ck hi;subst hi;have trk:=ok.r _ (bS hil);generalize hks:tb[i].kind::tb[i].cU=ks;have ksl:ks.length<=9:=by rw [<- hks]; have:=trk.el; show _+1<=9; omega
   have ksn:∀ x∈ks,Nm x:=fun x hx=>by
    rw [<- hks] at hx;rcases bz.mp hx with rfl | hx
    ·exact trk.k
    ·exact trk.e x hx
   refine⟨_,rfl,q',_,_,_,rfl,rfl,V7 hq',aJ (j:=0) rfl,by show 1<=sizeLine; decide,fun w1 hw1=>?_⟩;exists 1,s6,h6,H5,w1,(.tup [.str tb[i].kind]),hw1,H6;refine⟨_,rfl,q',_,_,_,rfl,rfl,V7 (s6 q' _ hq'),aJ (j:=1) rfl,w1,e',_,_,rfl,rfl,h6,s6 e' _ he',by rw [aa]; have:=trk.el; show 1+_<=_; omega,fun w2 H6' hw2 s6'=>?_⟩;rw [show [V.str tb[i].kind]++tb[i].cU.map V.str=ks.map V.str by rw [<- hks]; rfl] at hw2;have s56:=s6.trans s6';refine⟨w2,rfl,⟨_,V7 hw2⟩,fun D2 hD2=>?_⟩;refine bA (n:=(ks.map V.str).length) (fun j ys H7=>ys=(ks.take j).map (jl old vn)/\H7 D2=some (.lst ys)/\Same H6' H7) ⟨rfl,ak,We hD2⟩ ?_ ?_;rotate_left
   ·rintro j ys H7 hj ⟨rfl,hD7,s7⟩;have hj':j < ks.length:=by rw [aa] at hj; exact hj
    have ej:(ks.map V.str)[j]?=some (.str ks[j]):=by rw [bg,ae hj']; rfl
    have hs7:=s7 _ _ hw2;refine⟨⟨_,_,V7 hs7,ej⟩,?_⟩;rintro z H8 ⟨rfl,yy⟩ σo ho;exists 15;have ez:=yy _ (V7 hs7);rw [ej] at ez;cases ez;refine⟨‹13›,cg ⟨_,rfl,_,rfl,by show 2<=sizeLine; decide,fun l2 hl2=>?_⟩⟩;have D2l:D2≠l2:=au hD7 hl2;refine⟨_,rfl,_,rfl,rfl,.inr ⟨_,rfl,l2,_,_,jl old vn ks[j],rfl,rfl,V6 ak,?_,by rw [aa,bc]; omega,by rw [aA D2l]; exact hD7,aW hj ‹34›⟩⟩
    ·unfold jl
     by_cases e:ks[j]=old
     ·rw [bo (by rw [e]),dE e];exact aJ (j:=1) rfl
     ·rw [bE (fun z=>e (by injection z)),cK e];exact aJ (j:=0) rfl
    ·rw [L2.take_snoc hj',aI];rfl
    ·rw [aA (au z hD2),aA (au (s7 c _ z) hl2)];exact s7 c _ z
   rintro ys H7 ⟨rfl,hD7,s7⟩;rw [aa,aw (ai _)] at hD7;refine⟨⟨_,V7 (s7 w2 _ hw2),ai _⟩,?_⟩;have s57:=s56.trans s7;refine⟨_,rfl,q',_,_,_,rfl,rfl,V7 (s57 q' _ hq'),aJ (j:=2) rfl,o',rfl,⟨_,V7 (s57 o' _ ho')⟩,fun D3 hD3=>?_⟩;generalize hos:tb[i].order=os at ho';have osl:os.length<=9:=by rw [<- hos]; exact trk.ol
   have osn:∀ x∈os,Nm x:=fun x hx=>trk.o x (hos ▸ hx);have ho7:=s57 o' _ ho';refine bA (n:=(os.map V.str).length) (fun j ys H77=>ys=(os.take j).map (jl old vn)/\H77 D3=some (.lst ys)/\Same H7 H77) ⟨rfl,ak,We hD3⟩ ?_ ?_;rotate_left
   ·rintro j ys H77 hj ⟨rfl,hD7,s7⟩;have hj':j < os.length:=by rw [aa] at hj; exact hj
    have ej:(os.map V.str)[j]?=some (.str os[j]):=by rw [bg,ae hj']; rfl
    have hs7:=s7 _ _ ho7;refine⟨⟨_,_,V7 hs7,ej⟩,?_⟩;rintro z H8 ⟨rfl,yy⟩ σo ho;exists 15;have ez:=yy _ (V7 hs7);rw [ej] at ez;cases ez;refine⟨‹13›,cg ⟨_,rfl,_,rfl,by show 2<=sizeLine; decide,fun l2 hl2=>?_⟩⟩;have D2l:D3≠l2:=au hD7 hl2;refine⟨_,rfl,_,rfl,rfl,.inr ⟨_,rfl,l2,_,_,jl old vn os[j],rfl,rfl,V6 ak,?_,by rw [aa,bc]; omega,by rw [aA D2l]; exact hD7,aW hj ‹34›⟩⟩
    ·unfold jl
     by_cases e:os[j]=old
     ·rw [bo (by rw [e]),dE e];exact aJ (j:=1) rfl
     ·rw [bE (fun z=>e (by injection z)),cK e];exact aJ (j:=0) rfl
    ·rw [L2.take_snoc hj',aI];rfl
    ·rw [aA (au z hD3),aA (au (s7 c _ z) hl2)];exact s7 c _ z
   rintro ys H8 ⟨rfl,hD8,s8⟩;rw [aa,aw (ai _)] at hD8;refine⟨⟨_,V7 (s8 o' _ ho7),ai _⟩,?_⟩;have s58:=s57.trans s8;refine⟨D3,_,rfl,.inl ⟨V6 hD8,fun t3 ht3=>?_⟩⟩;exists 1,s9,h9,H8,t3,(.tup (os.map (jl old vn))),ht3,H9;have s59:=s58.trans s9;have hD9:=s9 D2 _ (s8 D2 _ hD7);have hn0:(ks.map (jl old vn))[0]?=some (jl old vn tb[i].kind):=by rw [<- hks]; rfl
   refine⟨_,rfl,.inl ⟨rfl,_,V6 (s59 rw0 _ hrw5)⟩,_,rfl,D2,_,_,_,rfl,rfl,V6 hD9,aJ (j:=0) hn0,_,rfl,1,rfl,D2,_,rfl,V6 hD9,fun l3 hl3=>?_⟩
   have ec:eF (ks.map (jl old vn)) (some 1) none=tb[i].cU.map (jl old vn):=by
    rw [show eF (ks.map (jl old vn)) (some 1) none=_ from dU _ 1,<- hks];rfl
   rw [ec];exists 1,s10,h10,H9,l3,(.lst (tb[i].cU.map (jl old vn))),hl3,H10;refine⟨l3,_,rfl,.inl ⟨V6 h10,fun t4 ht4=>?_⟩⟩;exists 1,s11,h11,H10,t4,(.tup (tb[i].cU.map (jl old vn))),ht4,H11;refine⟨_,rfl,by show 3<=sizeLine; decide,fun w3 hw3=>?_⟩;exists 1,s12,h12,H11,w3,(.tup [jl old vn tb[i].kind,.ref t4,.ref t3]),hw3,H12;have s912:=(s10.trans s11).trans s12;have s512:=s59.trans s912;refine⟨_,rfl,3,rfl,q',_,rfl,s512 q' _ hq',fun w4 H13 hw4 s13=>?_⟩;have ec3:eF [V.str tb[i].kind,.ref e',.ref o',.ref f',.ref g',.int tb[i].num] (some 3) none=[.ref f',.ref g',.int tb[i].num]:=dU _ 3;rw [ec3] at hw4;refine⟨w3,w4,_,_,rfl,rfl,s13 w3 _ h12,hw4,by show 3+3<=sizeLine; decide,fun w5 H14 hw5 s14=>?_⟩;have s914:=(s912.trans s13).trans s14;have s514:=s59.trans s914;have hrw14:=s514 rw0 _ hrw5;have zl:zs.length=ds.length:=(rz H5 (dH.refl _) s5).length;refine⟨rw0,_,_,rfl,rfl,hrw14,by omega,?_⟩;have t14:dH H14 (upd H14 rw0 (.lst (zs++[.ref w5]))):=fun c ws e=>by rw [aA (eG e hrw14 ‹11›)]; exact e
   refine⟨_,_,_,ds++[K09.E.six ⟨zT old dn tb[i].kind,.tuple (tb[i].cU.map (zT old dn)),.tuple (os.map (zT old dn)),.tuple (tb[i].fields.map .str),lC tb[i],.int tb[i].num⟩],zs++[.ref w5],rfl,ak,fun H' tu' s'=>?_,by rw [bX,dl]; rfl,fun d hd=>?_,fun c u e=>?_⟩
   ·have tt:dH H5 H':=(V9 s514).trans (t14.trans tu');have t9:dH H9 H':=(V9 s914).trans (t14.trans tu');have t11:dH H11 H':=(V9 ((s12.trans s13).trans s14)).trans (t14.trans tu');refine(rz H' tt s').append (.cons (.tup (tu' w5 _ (t14 w5 _ hw5)) ?_) .nil);have rn':=rn.bH s';have r4:=(df'.mono tt).rd;have r5:=(dg'.mono tt).rd;rw [toD,kO] at r4;rw [toD,qx] at r5;exact .cons (Je rn' _) (.cons (.tup (t11 t4 _ h11) (yZ rn' _)) (.cons (.tup (t9 t3 _ h9) (yZ rn' _)) (.cons r4 (.cons r5 (.cons (.int _) .nil)))))
   ·rcases cw.mp hd with hd | hd
    ·exact gds d hd
    ·rw [bj.mp hd];obtain ⟨h4,h5,h6⟩:=trk.rest;exact(Gd.six (n:=31) ((JF gn trk.k).le (ai _) ‹6›) (Gw gn trk.e (by have:=trk.el; omega)) (Gw gn osn osl) (h4.le (ai _) ‹6›) (h5.le (ai _) ‹6›) (h6.le (ai _) ‹6›)).le ‹6› ‹6›
   ·rw [aA (au e hrw)];exact s514 c u (s5 c u e)
  ·rintro σ H2 ⟨v6,v7,v8,ds,zs,rfl,hrw2,rz,dl,gds,s2⟩;refine⟨_,rfl,rw0,zs,rfl,.inl ⟨V6 hrw2,fun l hl=>?_⟩⟩;have sl:Same H2 (upd H2 l (.tup zs)):=We hl;refine k (.ref l) _ _ (.tup ak (rz _ (V9 sl) (s2.trans sl))) ((Gd.row (m:=1374) (n:=32) (k:=8) gds ‹26› ‹6›).le ‹6› (ai _)) ((o04.trans s2.off).trans sl.off) ((p4.same s2).same sl)
def parts(r:Row):LP:=[PyData.str r.kind,.tuple (r.cU.map .str),.tuple (r.order.map .str),.tuple (r.fields.map .str),lC r,.int r.num]
theorem Oe{r:Row}(h:rM r):∀ d∈parts r,Gd 100 2 d:=fun d hd=>by
 simp only [parts,bz,dL,iF] at hd;rcases hd with rfl | rfl | rfl | rfl | rfl | rfl
 ·exact(Gd.nm h.k).le ‹6› ‹6›
 ·exact(Gd.names h.e (by have:=h.el; omega)).le ‹6› ‹6›
 ·exact(Gd.names h.o h.ol).le ‹6› ‹6›
 ·exact(Gd.names h.f (by have:=h.fl; omega)).le ‹6› ‹6›
 ·exact h.lJ
 ·exact(Gd.int _).le ‹6› ‹6›
def four:LS:=["one","two","three","four"]
theorem Nr:∀ x∈four,Nm x:=by unfold four Nm Lw; decide +kernel
theorem RZ{base:Heap}{k:Nat}{f:ut}{sp':Sp}(F:cA P w K mg base CX0 k f fd ps sp)(F':cA P w K mg base CX0 k f fd ps sp'):cA P w K mg base CX0 k f fd ps (fun vs H Q E=>sp vs H Q E\/sp' vs H Q E):=
 ⟨fun vs H Q E h=>h.elim (F.len vs H Q E) (F'.len vs H Q E),fun A outer s H args us vs Q E hr he hb hv hs=>hs.elim (F.run A outer s H args us vs Q E hr he hb hv) (F'.run A outer s H args us vs Q E hr he hb hv)⟩
inductive GJ (vs:LV) (H:Hp) (Q:VK) (E_:XK):Prop
 | mk (p:ut) (v:V) (tb:List Row):vs=[.ref p,v]->Pu H p->Dp H (DK tb) v->Iv tb->(∀ v' d' H',RdV H' v' d'->Gd 12000 40 d'->Off p H H'->Pu H' p->Q v' H')->GJ vs H Q E_
theorem Mh(D:Defs K mg t):cA P w K mg base CX0 9 t.iW.1 t.iW.2 ["_law_purse_here","_law_table_here"] GJ:=by
 exists 13;have Gac:=@zA P w K mg base t D;have Gbk:=@Ja P w K mg base t D;have Gau:=@CN P w K mg base t D;have Gaa:cA P w K mg base CX0 8 t.dB.1 t.dB.2 ["_law_purse_here","_law_thing_here","_law_deep"] (fun vs H Q E=>tX 2 vs H Q E\/tX 4 vs H Q E):=RZ ((Er D 2).mono ‹6›) (Er D 4);exists 5;refine D.iW.fn.ok dJ ‹7› ‹1›
 ·obtain ⟨p,v,tb,rfl,_⟩:=h;rfl
 ·obtain ⟨p,v,tb,rfl,hp,dt,ok,k⟩:=h;obtain ⟨a,xs,rfl,ha,dx⟩:=L2.Dp.eV dt;have hxl:=dx.length;rw [aa] at hxl;have l8:=ok.l8;have l1:=ok.l1
  refine⟨_,(@aB _ _ _ _ _ (aM (i:=2) dJ.nd rfl (uA rfl) ‹25›)
   (@aB _ _ _ _ _ (aM (i:=3) dJ.nd rfl (uA rfl) (@aD _ _ _ _ _ _ _ _ _ _ _ _ _ D.aV Ga ‹2› (by rfl) (@aj _ _ _ _ _ (pv 0) (@aj _ _ _ _ _ (@aH _ _ _ _ _ _ _ _ _ bx (by rfl) D.cI bQ ‹20› ‹6› ‹6› (by rfl) (by rfl)) aq (by rfl)) (by rfl)) ‹6› (by rfl) (by rfl)))
   (@aB _ _ _ _ _ (aM (i:=4) dJ.nd rfl (uA rfl) (@aP _ _ _ _ _ _ _ aO (pv 1) (pv 3) ‹3›))
   (@aB _ _ _ _ _ (aM (i:=5) dJ.nd rfl (uA rfl) ‹25›)
   (@aB _ _ _ _ _ (@bO _ _ _ _ _ _ _ _ ‹38›
   (@aF _ _ _ (@aL _ _ _ _ (pv 1)))
   aU)
   (@aB _ _ _ _ _ (@bO _ _ _ _ _ _ _ _ ‹38›
   (@aF _ _ _ (@aL _ _ _ _ (@aD _ _ _ _ _ _ _ _ _ _ _ _ _ D.gZ Gac ‹2› (by rfl) (@aj _ _ _ _ _ (pv 0) aq (by rfl)) ‹6› (by rfl) (by rfl))))
   aU)
   (@aB _ _ _ _ _ (@bO _ _ _ _ _ _ _ _ (V5 (gK ‹38› (gk ‹38›)))
   (@aF _ _ _ (@aL _ _ _ _ (@aD _ _ _ _ _ _ _ _ _ _ _ _ _ D.gR Gbk ‹2› (by rfl) (@aj _ _ _ _ _ (pv 0) ‹20› (by rfl)) ‹6› (by rfl) (by rfl))))
   aU)
   (@aB _ _ _ _ _ (@bO _ _ _ _ _ _ _ _ (V5 (tZ ‹38› (uV (aY n6 (@aH _ _ _ _ _ _ _ _ _ bx (by rfl) D.cI bQ (@aj _ _ _ _ _ (@aP _ _ _ _ _ _ _ aO (pv 4) aC ‹3›) aq (by rfl)) ‹6› ‹6› (by rfl) (by rfl)) aC (bh _)))))
   (@aB _ _ _ _ _ (aM (i:=6) dJ.nd rfl (uA rfl) (@aR _ _ _ _ _ _ _ _ cV aC (@aD _ _ _ _ _ _ _ _ _ _ _ _ _ D.aV Ga ‹2› (by rfl) (@aj _ _ _ _ _ (pv 0) (@aj _ _ _ _ _ (@aR _ _ _ _ _ _ _ _ nQ (@aH _ _ _ _ _ _ _ _ _ bx (by rfl) D.cI bQ (@aj _ _ _ _ _ (@aP _ _ _ _ _ _ _ aO (pv 4) aC ‹3›) aq (by rfl)) ‹6› ‹6› (by rfl) (by rfl)) aC) aq (by rfl)) (by rfl)) ‹6› (by rfl) (by rfl))))
   (@aB _ _ _ _ _ (aM (i:=7) dJ.nd rfl (uA rfl) (@aR _ _ _ _ _ _ _ _ cP (@aR _ _ _ _ _ _ _ _ cP (aZ bR (@aP _ _ _ _ _ _ _ aO (pv 4) aC ‹3›) bB (bC (pv 6))) (@cC _ _ _ _ _ (@aj _ _ _ _ _ (@aP _ _ _ _ _ _ _ aO (@aP _ _ _ _ _ _ _ aO (pv 4) aC ‹3›) (@aR _ _ _ _ _ _ _ _ cV (pv 6) aC) ‹3›) (@aj _ _ _ _ _ (@aP _ _ _ _ _ _ _ aO (@aP _ _ _ _ _ _ _ aO (pv 4) aC ‹3›) (pv 6) ‹3›) aq (by rfl)) (by rfl)))) (aZ bR (@aP _ _ _ _ _ _ _ aO (pv 4) aC ‹3›) (bC (@aR _ _ _ _ _ _ _ _ cV (pv 6) aC)) bB)))
   (@aF _ _ _ (@aL _ _ _ _ (@aR _ _ _ _ _ _ _ _ cP (@aR _ _ _ _ _ _ _ _ cP (aZ bR (pv 1) bB (bC (pv 3))) (@cC _ _ _ _ _ (@aj _ _ _ _ _ (@aR _ _ _ _ _ _ _ _ cP (@aR _ _ _ _ _ _ _ _ cP (aZ bR (pv 4) bB (bC aC)) (@cC _ _ _ _ _ (@aj _ _ _ _ _ (pv 7) aq (by rfl)))) (aZ bR (pv 4) (bC aC) bB)) aq (by rfl)))) (aZ bR (pv 1) (bC (@aR _ _ _ _ _ _ _ _ cV (pv 3) aC)) bB))))))
   aU)
   (@aB _ _ _ _ _ (@bO _ _ _ _ _ _ _ _ (aY n6 (pv 2) aC (bh _))
   (@aF _ _ _ (@aL _ _ _ _ (@aD _ _ _ _ _ _ _ _ _ _ _ _ _ D.fX Gau ‹2› (by rfl) (@aj _ _ _ _ _ (pv 0) (@aj _ _ _ _ _ (pv 1) (@aj _ _ _ _ _ (@aP _ _ _ _ _ _ _ aO (pv 4) aC ‹3›) aq (by rfl)) (by rfl)) (by rfl)) ‹6› (by rfl) (by rfl))))
   aU)
   (@aB _ _ _ _ _ (@bO _ _ _ _ _ _ _ _ ‹38›
   (@aB _ _ _ _ _ (aM (i:=4) dJ.nd rfl (uA rfl) (@aR _ _ _ _ _ _ _ _ cP (@aR _ _ _ _ _ _ _ _ cP (aZ bR (pv 4) bB (bC aC)) (@cC _ _ _ _ _ (@aj _ _ _ _ _ (aZ bR (@cC _ _ _ _ _ (@aj _ _ _ _ _ dG (@aj _ _ _ _ _ dG (@aj _ _ _ _ _ dG (@aj _ _ _ _ _ dG aq (by rfl)) (by rfl)) (by rfl)) (by rfl))) bB (bC (@aR _ _ _ _ _ _ _ _ cV aC ‹25›))) aq (by rfl)))) (aZ bR (pv 4) (bC aC) bB)))
   (@aF _ _ _ (@aL _ _ _ _ (@aR _ _ _ _ _ _ _ _ cP (@aR _ _ _ _ _ _ _ _ cP (aZ bR (pv 1) bB (bC (pv 3))) (@cC _ _ _ _ _ (@aj _ _ _ _ _ (pv 4) aq (by rfl)))) (aZ bR (pv 1) (bC (@aR _ _ _ _ _ _ _ _ cV (pv 3) aC)) bB)))))
   aU)
   (@aB _ _ _ _ _ (@bO _ _ _ _ _ _ _ _ (aY vP (pv 2) aC (bh _))
   (@aB _ _ _ _ _ (aM (i:=4) dJ.nd rfl (uA rfl) (@aR _ _ _ _ _ _ _ _ cP (@aR _ _ _ _ _ _ _ _ cP (aZ bR (pv 4) bB (bC (pv 5))) (@cC _ _ _ _ _ (@aj _ _ _ _ _ (@aD _ _ _ _ _ _ _ _ _ _ _ _ _ D.dB Gaa ‹2› (by rfl) (@aj _ _ _ _ _ (pv 0) (@aj _ _ _ _ _ (@aP _ _ _ _ _ _ _ aO (pv 4) (pv 5) ‹3›) (@aj _ _ _ _ _ aC aq (by rfl)) (by rfl)) (by rfl)) ‹6› (by rfl) (by rfl)) aq (by rfl)))) (aZ bR (pv 4) (bC (@aR _ _ _ _ _ _ _ _ cV (pv 5) aC)) bB)))
   (@aF _ _ _ (@aL _ _ _ _ (@aR _ _ _ _ _ _ _ _ cP (@aR _ _ _ _ _ _ _ _ cP (aZ bR (pv 1) bB (bC (pv 3))) (@cC _ _ _ _ _ (@aj _ _ _ _ _ (pv 4) aq (by rfl)))) (aZ bR (pv 1) (bC (@aR _ _ _ _ _ _ _ _ cV (pv 3) aC)) bB)))))
   aU)
   (@aF _ _ _ (@aL _ _ _ _ (@aD _ _ _ _ _ _ _ _ _ _ _ _ _ D.dB Gaa ‹2› (by rfl) (@aj _ _ _ _ _ (pv 0) (@aj _ _ _ _ _ (pv 1) (@aj _ _ _ _ _ aC aq (by rfl)) (by rfl)) (by rfl)) ‹6› (by rfl) (by rfl))))))))))))))),?_⟩
  refine⟨_,rfl,p,12,rfl,hp,by decide,by decide,fun sp a1 b1 c1 l1' u1=>?_⟩;exists 2,o1,p1,p,H,H,a1,b1,c1,Wc,H1;refine⟨_,rfl,_,rfl,a,_,rfl,.inr (V7 (lW hp o1 a _ ha)),p,_,rfl,p1,by omega,by omega,fun r2 a2 b2 c2 l2 u2=>?_⟩;exists 2,o2,p2,p,H,H1,a2,b2,c2,o1.trans Wc,H2;obtain ⟨at0,rfl⟩:∃ i:Nat,r2=(i:Int):=⟨r2.toNat,by omega⟩;have hat:at0 < tb.length:=by omega
  obtain ⟨x,ex,d⟩:=dx.get (i:=at0) (t:=tM tb[at0]) (by rw [bg,ae hat]; rfl);refine⟨_,rfl,_,rfl,a,_,_,_,rfl,rfl,V7 (lW hp o2 a _ ha),aJ ex,?_⟩;refine⟨_,rfl,p,6,rfl,p2,by decide,by decide,fun r3 a3 b3 c3 l3 u3=>?_⟩;exists 2,o3,p3,p,H,H2,a3,b3,c3,o2.trans Wc,H3;have tu3:=lW hp o3;have dt3:=dt.mono tu3;obtain ⟨q,e,o,f,g,rfl,hq,he,ho,df,dg⟩:=vV (d.mono tu3);have trk:=ok.r _ (bS hat);have ha3:=tu3 a _ ha;refine⟨_,rfl,rfl,_,rfl,gH (fun _=>?_) (fun h0=>?_)⟩
  ·have r:=dt3.rd;rw [yH] at r;exact⟨_,rfl,k _ _ H3 r ((K9 ok.r l8).le ‹6› ‹6›) o3 p3⟩
  refine⟨_,rfl,rfl,_,rfl,gH (fun _=>?_) (fun h1=>?_)⟩
  ·exact⟨_,rfl,p,rfl,p3,fun v' d' H4 rv gv o4 p4=>k v' d' H4 rv (gv.le ‹6› ‹6›) (o3.trans o4) p4⟩
  refine⟨_,rfl,rfl,_,rfl,gH (fun _=>bM ?_) (fun h2=>⟨_,rfl,rfl,_,rfl,gH (fun _=>?_) (fun h3=>?_)⟩)⟩;rotate_left 2
  ·
   have hxl8:xs.length<=8:=by omega
   have ka:=cH xs none (some (at0:Int));have kb:=cH xs (some ((at0:Int)+1)) none;have cda:eF xs (some ((at0:Int)+1)) none=xs.drop (at0+1):=dU xs (at0+1)
   have put:∀ {H4:Hp} {w0:ut} {d':PyData},dH H H4->Pu H4 p->Off p H H4->RdV H4 (.ref w0) d'->Gd 3000 39 d'->∀ H5 l,H5 l=some (.tup (xs.take at0++[.ref w0]++xs.drop (at0+1)))->Same H4 H5->Q (.ref l) H5:=fun {H4 w0 d'} tu p4 o4 rw gw H5 l hl s5=>by
    have r:=(dt.mono (tu.trans (V9 s5))).rd;rw [yH,DX] at r;obtain ⟨a',xs',ea,ha',rl⟩:=r.bV;cases ea;rw [s5 a _ (tu a _ ha)] at ha';cases ha';have gt:GdA 2408 39 (tb.map fun r=>K09.E.six (Ci r)):=(GdA.all (m:=301) (n:=3) fun d hd=>by obtain ⟨r,hr,rfl⟩:=bu.mp hd; exact(ok.r r hr).gd).le (by rw [aa]; omega) ‹6›;exact k _ _ H5 (.tup hl (((K09.E.RdA.take rl _).append (.cons (rw.bH s5) .nil)).append (K09.E.RdA.drop rl _))) (((gt.put gw at0).tup (by simp; omega)).le ‹6› ‹6›) (o4.trans s5.off) (p4.same s5)
   have ec3:eF [V.str tb[at0].kind,.ref e,.ref o,.ref f,.ref g,.int tb[at0].num] (some 3) none=[.ref f,.ref g,.int tb[at0].num]:=dU _ 3;have ec2:eF [V.str tb[at0].kind,.ref e,.ref o,.ref f,.ref g,.int tb[at0].num] none (some 2)=[.str tb[at0].kind,.ref e]:=d8 _ 2;refine once (fun rest=>⟨_,rfl,rfl,_,rfl,gH (fun h4=>⟨_,rfl,q,_,_,_,rfl,rfl,V7 hq,aJ (j:=2) rfl,o,_,rfl,.inr (V7 ho),_,_,rfl,rfl,_,rfl,gH (fun h5=>?_) (fun h5=>rest)⟩) (fun h4=>bT rest)⟩) ?_
   ·have h5:((tb[at0].order.map V.str).length:Int) > 2:=eA h5;refine⟨_,rfl,_,rfl,q,_,_,_,rfl,rfl,V7 hq,aJ (j:=2) rfl,o,_,rfl,.inr (V7 ho),_,_,rfl,rfl,p,_,rfl,p3,by omega,by rw [aa]; have:=trk.ol; omega,fun r4 a4 b4 c4 l4 u4=>⟨_,_,rfl,rfl,?_⟩⟩;have o4:Off p H (upd H3 p (.lst [.int a4,.int b4,.int c4])):=o3.trans Wc;have p4:Pu (upd H3 p (.lst [.int a4,.int b4,.int c4])) p:=Wg;have tu34:dH H3 (upd H3 p (.lst [.int a4,.int b4,.int c4])):=lW p3 Wc;generalize upd H3 p (.lst [.int a4,.int b4,.int c4])=H4 at o4 p4 tu34;rw [aa] at h5 u4;generalize hos:tb[at0].order=os at ho h5 u4;have osl:os.length<=9:=by rw [<- hos]; exact trk.ol
    have osn:∀ x∈os,Nm x:=fun x hx=>trk.o x (hos ▸ hx);obtain ⟨n1,en⟩:∃ i:Nat,(1:Int)+r4=(i:Int):=⟨(1+r4).toNat,by omega⟩;have b1:n1 < os.length:=by omega
    have b2:n1+1 < os.length:=by omega
    have hq4:=tu34 q _ hq;have ho4:=tu34 o _ ho;have kc:=cH (os.map V.str) none (some (n1:Int));have kd:=cH (os.map V.str) (some ((n1:Int)+2)) none;rw [aa] at kc kd;have y1:(os.map V.str)[n1]?=some (.str os[n1]):=by rw [bg,ae b1]; rfl
    have y2:(os.map V.str)[n1+1]?=some (.str os[n1+1]):=by rw [bg,ae b2]; rfl
    refine⟨_,rfl,q,_,_,_,rfl,rfl,V7 hq4,aJ (j:=2) rfl,_,rfl,1+r4,rfl,o,_,rfl,ho4,fun z1 J1 hz1 sj1=>?_⟩;refine⟨_,rfl,q,_,_,_,rfl,rfl,V7 (sj1 q _ hq4),aJ (j:=2) rfl,_,rfl,_,_,rfl,rfl,o,_,_,_,rfl,rfl,V7 (sj1 o _ ho4),(by show atI _ (1+r4+1)=_; rw [en]; exact aJ (j:=n1+1) y2),_,rfl,q,_,_,_,rfl,rfl,V7 (sj1 q _ hq4),aJ (j:=2) rfl,_,rfl,o,_,_,_,rfl,rfl,V7 (sj1 o _ ho4),(by show atI _ (1+r4)=_; rw [en]; exact aJ (j:=n1) y1),by show 2<=sizeLine; decide,fun z2 hz2=>?_⟩;exists 1,sj2,kz2,J1,z2,(.tup [.str os[n1+1],.str os[n1]]),hz2,J2;refine⟨z1,z2,_,_,rfl,rfl,sj2 z1 _ hz1,kz2,by rw [en]; show _+2<=_; omega,fun z3 J3 hz3 sj3=>?_⟩;have s43:=(sj1.trans sj2).trans sj3;refine⟨_,rfl,q,_,_,_,rfl,rfl,V7 (s43 q _ hq4),aJ (j:=2) rfl,_,rfl,_,_,rfl,rfl,1+r4+2,rfl,o,_,rfl,s43 o _ ho4,fun z4 J4 hz4 sj4=>?_⟩;refine⟨z3,z4,_,_,rfl,rfl,sj4 z3 _ hz3,hz4,by rw [en,bX]; show _+2+_<=_; omega,fun z5 J5 hz5 sj5=>?_⟩;have s45:=(s43.trans sj4).trans sj5;rw [en,d8,show eF (os.map V.str) (some ((n1:Int)+2)) none=_ from dU _ (n1+2),show (os.map V.str).take n1++[V.str os[n1+1],.str os[n1]]++(os.map V.str).drop (n1+2)=(os.take n1++[os[n1+1],os[n1]]++os.drop (n1+2)).map V.str by simp [nz,List.map_drop]] at hz5;refine⟨_,rfl,_,rfl,(at0:Int),rfl,a,xs,rfl,s45 a _ (tu34 a _ ha3),fun z6 J6 hz6 sj6=>?_⟩;have s46:=s45.trans sj6;refine⟨_,rfl,2,rfl,q,_,rfl,s46 q _ hq4,fun z7 J7 hz7 sj7=>?_⟩;rw [ec2] at hz7;refine⟨_,rfl,by show 1<=sizeLine; decide,fun z8 hz8=>?_⟩;exists 1,sj8,kz8,J7,z8,(.tup [.ref z5]),hz8,J8;refine⟨z7,z8,_,_,rfl,rfl,sj8 z7 _ hz7,kz8,by show 2+1<=_; decide,fun z9 J9 hz9 sj9=>?_⟩;have s49:=((s46.trans sj7).trans sj8).trans sj9;refine⟨_,rfl,3,rfl,q,_,rfl,s49 q _ hq4,fun z10 J10 hz10 sj10=>?_⟩;rw [ec3] at hz10;refine⟨z9,z10,_,_,rfl,rfl,sj10 z9 _ hz9,hz10,by show 3+3<=_; decide,fun z11 J11 hz11 sj11=>?_⟩;refine⟨by show 1<=sizeLine; decide,fun z12 hz12=>?_⟩;exists 1,sj12,kz12,J11,z12,(.tup [.ref z11]),hz12,J12;have s612:=((((sj7.trans sj8).trans sj9).trans sj10).trans sj11).trans sj12;refine⟨z6,z12,_,_,rfl,rfl,s612 z6 _ hz6,kz12,by show _+1<=_; omega,fun z13 J13 hz13 sj13=>?_⟩;have s413:=(s46.trans s612).trans sj13;refine⟨_,rfl,_,rfl,_,_,rfl,rfl,(at0:Int)+1,rfl,a,xs,rfl,s413 a _ (tu34 a _ ha3),fun z14 J14 hz14 sj14=>?_⟩;refine⟨z13,z14,_,_,rfl,rfl,sj14 z13 _ hz13,hz14,by rw [bX]; show _+1+_<=_; omega,fun z15 J15 hz15 sj15=>?_⟩;rw [d8,cda] at hz15;have s415:=(s413.trans sj14).trans sj15;have s515:Same J5 J15:=((((sj6.trans s612).trans sj13).trans sj14).trans sj15);have s1115:Same J11 J15:=(((sj12.trans sj13).trans sj14).trans sj15);have tt:dH H3 J15:=tu34.trans (V9 s415)
    have dr:Dp J15 (Ig tb[at0] tb[at0].cU (.tup ((os.take n1++[os[n1+1],os[n1]]++os.drop (n1+2)).map T.str))) (.ref z11):=
     .tup (s1115 z11 _ hz11) (.cons (.str _) (.cons (.tup (tt e _ he) (Wb _)) (.cons (.tup (s515 z5 _ hz5) (Wb _)) (.cons (df.mono tt) (.cons (dg.mono tt) (.cons (.int _) .nil))))))
    have gn:Gd 301 3 (toD (Ig tb[at0] tb[at0].cU (.tup ((os.take n1++[os[n1+1],os[n1]]++os.drop (n1+2)).map T.str)))):=Fw trk trk.e (by have:=trk.el; omega) (pC (fun x hx=>osn x (by
     simp only [cw,bz,dL,iF] at hx;rcases hx with (hx | rfl | rfl) | hx
     ·exact gS hx
     ·exact bS b2
     ·exact bS b1
     ·exact kg hx)) (by simp; omega))
    exact put (tu3.trans tt) (p4.same s415) (o4.trans s415.off) dr.rd (gn.le ‹6› ‹6›) J15 z15 hz15 (V8 _)
   ·refine⟨_,rfl,_,_,rfl,rfl,_,rfl,gH (fun h6=>?_) (fun h6=>?_)⟩
    ·exact⟨_,rfl,_,rfl,_,rfl,q,_,_,_,rfl,rfl,V7 hq,aJ (j:=0) rfl,p,_,tb,_,rfl,p3,dt3,ok,trk.k,fun v' d' H4 rv gv o4 p4=>k v' d' H4 rv (gv.le ‹6› ‹6›) (o3.trans o4) p4⟩
    refine⟨_,rfl,rfl,_,rfl,gH (fun h7=>?_) (fun h7=>?_)⟩
    ·refine⟨_,rfl,3,rfl,q,_,rfl,hq,fun z1 J1 hz1 sj1=>?_⟩;rw [show eF [V.str tb[at0].kind,.ref e,.ref o,.ref f,.ref g,.int tb[at0].num] none (some 3)=[.str tb[at0].kind,.ref e,.ref o] from d8 _ 3] at hz1;refine⟨by show 4<=sizeLine; decide,fun t4 ht4=>?_⟩;have sj2:Same J1 (upd J1 t4 (.tup [.str "one",.str "two",.str "three",.str "four"])):=We ht4;have kt4:(upd J1 t4 (.tup [.str "one",.str "two",.str "three",.str "four"])) t4=some (.tup (four.map V.str)):=ak;generalize upd J1 t4 (.tup [.str "one",.str "two",.str "three",.str "four"])=J2 at sj2 kt4;have pj2:=(p3.same sj1).same sj2;refine⟨_,rfl,p,2,rfl,pj2,by decide,by decide,fun r4 a4 b4 c4 l4 u4=>?_⟩;exists 2,oj3,pj3,p,J2,J2,a4,b4,c4,Wc,J3;have tj3:=lW pj2 oj3;refine⟨_,_,rfl,rfl,3+r4,rfl,t4,four.map V.str,rfl,tj3 t4 _ kt4,fun z2 J4 hz2 sj4=>?_⟩;obtain ⟨n3',en⟩:∃ i:Nat,(3:Int)+r4=(i:Int):=⟨(3+r4).toNat,by omega⟩;rw [en,d8,<- nz] at hz2;refine⟨by show 1<=sizeLine; decide,fun z3 hz3=>?_⟩;exists 1,sj5,kz3,J4,z3,(.tup [.ref z2]),hz3,J5;have s35:=sj4.trans sj5;have tH35:dH H3 J5:=((V9 (sj1.trans sj2)).trans tj3).trans (V9 s35);refine⟨z1,z3,_,_,rfl,rfl,s35 z1 _ (tj3 z1 _ (sj2 z1 _ hz1)),kz3,by show 3+1<=_; decide,fun z4 J6' hz4 sj6'=>?_⟩;refine⟨_,rfl,4,rfl,q,_,rfl,sj6' q _ (tH35 q _ hq),fun z5 J7 hz5 sj7=>?_⟩;rw [show eF [V.str tb[at0].kind,.ref e,.ref o,.ref f,.ref g,.int tb[at0].num] (some 4) none=[.ref g,.int tb[at0].num] from dU _ 4] at hz5;refine⟨z4,z5,_,_,rfl,rfl,sj7 z4 _ hz4,hz5,by show 4+2<=_; decide,fun z9 J9 hz9 sj9=>?_⟩;have s59:=(sj6'.trans sj7).trans sj9;have tb9:dH H3 J9:=tH35.trans (V9 s59);have s39:=s35.trans s59;have pb9:Pu J9 p:=pj3.same s39;have ob9:Off p H J9:=(((o3.trans (sj1.trans sj2).off).trans oj3).trans s39.off)
     have dr:Dp J9 (tM { tb[at0] with fields:=four.take n3' }) (.ref z9):=
      .tup hz9 (.cons (.str _) (.cons (.tup (tb9 e _ he) (Wb _)) (.cons (.tup (tb9 o _ ho) (Wb _)) (.cons (.tup (s59 z2 _ (sj5 z2 _ hz2)) (Wb _)) (.cons (dg.mono tb9) (.cons (.int _) .nil))))))
     have rd9:=dr.rd;rw [BP] at rd9;have tr9:rM { tb[at0] with fields:=four.take n3' }:=⟨trk.k,trk.e,trk.el,trk.o,trk.ol,fun x hx=>Nr x (gS hx),by show (four.take n3').length<=8; rw [bc]; show min _ 4<=8; omega,trk.g,trk.gl⟩;refine⟨_,rfl,_,rfl,(at0:Int),rfl,a,xs,rfl,tb9 a _ ha3,fun z6 J6 hz6 sj6=>?_⟩;refine⟨_,rfl,by show 1<=sizeLine; decide,fun z12 hz12=>?_⟩;exists 1,sj12,kz12,J6,z12,(.tup [.ref z9]),hz12,J12;refine⟨z6,z12,_,_,rfl,rfl,sj12 z6 _ hz6,kz12,by show _+1<=_; omega,fun z13 J13 hz13 sj13=>?_⟩;have s913:=(sj6.trans sj12).trans sj13;refine⟨_,rfl,_,rfl,_,_,rfl,rfl,(at0:Int)+1,rfl,a,xs,rfl,s913 a _ (tb9 a _ ha3),fun z14 J14 hz14 sj14=>?_⟩;refine⟨z13,z14,_,_,rfl,rfl,sj14 z13 _ hz13,hz14,by rw [bX]; show _+1+_<=_; omega,fun z15 J15 hz15 sj15=>?_⟩;rw [d8,cda] at hz15;exact put (tu3.trans tb9) pb9 ob9 rd9 (tr9.gd.le ‹6› ‹6›) J15 z15 hz15 ((s913.trans sj14).trans sj15)
    refine⟨_,rfl,_,_,rfl,rfl,_,rfl,gH (fun h8=>?_) (fun h8=>?_)⟩
    ·obtain ⟨pl,rfl⟩:∃ i:Nat,r3=(i:Int):=⟨r3.toNat,by omega⟩;have hpl:pl < 6:=by omega
     have KH:∀ {J},dH H3 J->RdA J [V.str tb[at0].kind,.ref e,.ref o,.ref f,.ref g,.int tb[at0].num] (parts tb[at0]):=fun {J} tj=>by
      have r4:=(df.mono tj).rd;have r5:=(dg.mono tj).rd;rw [toD,kO] at r4;rw [toD,qx] at r5;exact .cons (.str _) (.cons (.tup (tj e _ he) (RdA.strs _ _)) (.cons (.tup (tj o _ ho) (RdA.strs _ _)) (.cons r4 (.cons r5 (.cons (.int _) .nil)))))
     have pl6:(parts tb[at0]).length=6:=rfl;obtain ⟨y,ey,ry⟩:=(KH (dH.refl H3)).get (i:=pl) (ae (show pl < (parts tb[at0]).length by omega));have gp:=Oe trk;generalize hvs:[V.str tb[at0].kind,.ref e,.ref o,.ref f,.ref g,.int tb[at0].num]=vs6 at hq KH ey;have vl:vs6.length=6:=by rw [<- hvs]; rfl
     have kc:=cH vs6 none (some (pl:Int));have kd:=cH vs6 (some ((pl:Int)+1)) none;refine⟨_,rfl,_,rfl,(pl:Int),rfl,q,_,rfl,hq,fun z1 J1 hz1 sj1=>?_⟩;have hmem:=bS (show pl < (parts tb[at0]).length by omega);refine⟨_,rfl,_,rfl,_,rfl,q,_,_,_,rfl,rfl,V7 (sj1 q _ hq),aJ ey,.inl ⟨p,y,_,100,2,rfl,p3.same sj1,ry.bH sj1,(gp _ hmem).le (ai _) ‹6›,by decide,Gk trk _ hmem,fun v' d' J2 rv gv oj2 pj2=>?_⟩⟩;have tj2:dH H3 J2:=(V9 sj1).trans (lW (p3.same sj1) oj2);refine⟨by show 1<=sizeLine; decide,fun z2 hz2=>?_⟩;exists 1,sj3,kz2,J2,z2,(.tup [v']),hz2,J3;refine⟨z1,z2,_,_,rfl,rfl,sj3 z1 _ (lW (p3.same sj1) oj2 z1 _ hz1),kz2,by show _+1<=_; omega,fun z4 J4 hz4 sj4=>?_⟩;have s24:=sj3.trans sj4;refine⟨_,rfl,_,rfl,_,_,rfl,rfl,(pl:Int)+1,rfl,q,_,rfl,s24 q _ (tj2 q _ hq),fun z5 J5 hz5 sj5=>?_⟩;refine⟨z4,z5,_,_,rfl,rfl,sj5 z4 _ hz4,hz5,by rw [bX]; show _+1+_<=_; omega,fun z9 J9 hz9 sj9=>?_⟩;rw [d8,show eF vs6 (some ((pl:Int)+1)) none=_ from dU _ (pl+1)] at hz9;have s29:=(s24.trans sj5).trans sj9;have tb9:dH H3 J9:=tj2.trans (V9 s29);have pb9:Pu J9 p:=pj2.same s29;have ob9:Off p H J9:=((o3.trans sj1.off).trans oj2).trans s29.off;have r6:=KH tb9;have rd9:RdV J9 (.ref z9) _:=.tup hz9 (((K09.E.RdA.take r6 pl).append (.cons (rv.bH s29) .nil)).append (K09.E.RdA.drop r6 (pl+1)));have g9:=(((GdA.all gp).le (m':=600) (n':=35) (by rw [pl6]; decide) ‹6›).put (gv.le (ai _) ‹6›) pl).tup (by simp; omega);refine⟨_,rfl,_,rfl,(at0:Int),rfl,a,xs,rfl,tb9 a _ ha3,fun z6 J6 hz6 sj6=>?_⟩;refine⟨_,rfl,by show 1<=sizeLine; decide,fun z12 hz12=>?_⟩;exists 1,sj12,kz12,J6,z12,(.tup [.ref z9]),hz12,J12;refine⟨z6,z12,_,_,rfl,rfl,sj12 z6 _ hz6,kz12,by show _+1<=_; omega,fun z13 J13 hz13 sj13=>?_⟩;have s913:=(sj6.trans sj12).trans sj13;refine⟨_,rfl,_,rfl,_,_,rfl,rfl,(at0:Int)+1,rfl,a,xs,rfl,s913 a _ (tb9 a _ ha3),fun z14 J14 hz14 sj14=>?_⟩;refine⟨z13,z14,_,_,rfl,rfl,sj14 z13 _ hz13,hz14,by rw [bX]; show _+1+_<=_; omega,fun z15 J15 hz15 sj15=>?_⟩;rw [d8,cda] at hz15;exact put (tu3.trans tb9) pb9 ob9 rd9 (g9.le ‹6› ‹6›) J15 z15 hz15 ((s913.trans sj14).trans sj15)
    ·have r:=dt3.rd;rw [yH] at r;exact⟨_,rfl,_,rfl,.inr ⟨p,_,DX tb,2409,4,rfl,p3,r,(K9 ok.r l8).le (ai _) ‹6›,by decide,Q8 ok.r l8,fun v' d' H4 rv gv o4 p4=>k v' d' H4 rv (gv.le ‹6› ‹6›) (o3.trans o4) p4⟩⟩
  all_goals exact⟨_,rfl,_,rfl,p,_,tb,rfl,p3,dt3,ok,fun v' d' H4 rv gv o4 p4=>k v' d' H4 rv (gv.le ‹6› ‹6›) (o3.trans o4) p4⟩
end
end K09.E
end
section
namespace K09.E
open PySem PyProof.Rows L2
variable {ds:LP}
theorem Bk:(∃ xs:List (Str × Int),ds=xs.map mH/\∀ x∈xs,Nm x.1/\1<=x.2/\x.2<=99)↔∀ d∈ds,pN d:=by
 constructor
 ·rintro ⟨xs,rfl,h⟩ d hd;obtain ⟨x,hx,rfl⟩:=bu.mp hd;exact⟨x,rfl,h x hx⟩
 ·intro h
  induction ds with
  | nil=>exact⟨[],rfl,fun x hx=>nomatch hx⟩
  | cons d ds ih=>
   obtain ⟨xs,rfl,hx⟩:=ih fun e he=>h e (cr _ he);obtain ⟨x,rfl,h1⟩:=h d bn;refine⟨x::xs,rfl,fun y hy=>?_⟩;rcases bz.mp hy with rfl | hy
   ·exact h1
   ·exact hx y hy
theorem Cj{xs:List (Str × Int)}:Kq xs↔oA (xs.map (·.1)):=by
 constructor
 ·intro h i hi;have:=h i (by simpa using hi);simpa using this
 ·intro h i hi;have:=h i (by simpa using hi);simpa using this
section
variable {P:uC}{w:ww}{K:PySem.W.Frag}{mg:MG}{base:Heap}{t:Adr}
theorem Nz(D:Defs K mg t):cA P w K mg base CX0 3 t.jw.1 t.jw.2 ["_law_row_here"] CK:=by
 have Gab:=@zZ P w K mg base t D;have Gao:=@Jb P w K mg base t D;have Gap:=@Hr P w K mg base t D;exists 5;refine D.jw.fn.ok pI ‹7› ‹1›
 ·exists 17
 ·obtain ⟨v,d,rfl,rd,g,hw,hbr,k⟩:=h;have kf:∀ {H'},Same H H'->¬ zq d->Q (.bl false) H':=fun s h=>by have:=k _ s; rw [bD h] at this; exact this
  refine⟨_,(aB (bO (V5 (gK (cL (bZ ‹4›)) (gK (aY yg ‹15› aC (bh _)) (gk (cL (bZ (aD D.iD Gab ‹2› (by rfl) (aj ‹27› aq))))))))
   (aF (aL fO))
   aU)
   (aB (bO (V5 (gK (cL (bZ (aD D.fV Gap ‹2› (by rfl) (aj ‹27› (aj aC aq))))) (gK (cL (bZ (aD D.fV Gap ‹2› (by rfl) (aj ‹27› (aj aC aq))))) (gk (cL (bZ (aH bf (by rfl) D.aX aQ (aj ‹27› (aj (cF (v:=V.ty "tuple") rfl D.bY bK rfl) aq)))))))))
   (aF (aL fO))
   aU)
   (aB (fP dP rfl (bW ‹27›) (aN (i:=1) pI.nd rfl (uA rfl))
   (aB (bO (V5 (gK (cL (bZ (aH bf (by rfl) D.aX aQ (aj (pv 1) (aj (cF (v:=V.ty "tuple") rfl D.bY bK rfl) aq))))) (gK (aY yg ‹18› aC (bh _)) (gk (cL (bZ (aD D.iD Gab ‹2› (by rfl) (aj (aP aO (pv 1) aC ‹3›) aq))))))))
   (aF (aL fO))
   aU)
   (aF (bO (V5 (gK (cL (bZ (aD D.gP Gao ‹2› (by rfl) (aj (aP aO (pv 1) aC ‹3›) (aj aC aq))))) (gk (aY n6 (aP aO (pv 1) aC ‹3›) aC (bh _)))))
   (aF (aL fO))
   aU))))
   (aB (j8 (i:=2) rfl pI.nd rfl (uA rfl) (Wf ["_law_one"] [] ["_law_one"] (aG (top 52)) ["_law_row_here","_law_one","_law_names_here"] rfl rfl ‹5›) ⟨fun _ _ _ _ _=>(aN (i:=0) (show List.Nodup [("_law_one" : Str)] by decide +kernel) rfl ‹24› ‹17›),fun _ _ _ _ _=>bJ,fun _ _ _ _ _=>‹27›⟩ (bW ‹27›))
   (aF (aL (iG (dO (M6 hr.yO) (pv 2) (aH (yW rfl) (by rfl) D.wA tU (aj (bG (Ik rfl) (by rfl) D.xK sW (aj (pv 2) aq)) aq)) (bh _)) (jP (aD D.gP Gao ‹2› (by rfl) (aj ‹27› (aj aC aq))))))))))),?_⟩
  exists 18;exists 8;cases hb:iZ d with
  | false=>exact bM (bM (kf (V8 H) fun⟨q,e,_⟩=>by rw [e] at hb; cases hb))
  | true=>
   exists 7;refine bT ⟨_,rfl,b,_,rfl,.inr (V7 hb'),rfl,_,rfl,?_⟩
   by_cases h6:ds.length=6
   rotate_left
   ·refine eO (by simpa using (show ¬ ((xs.length:Int)=6) by omega)) (bM (kf (V8 H) ?_));rintro ⟨q,e,_⟩;exists 10;rw [e] at h6;exact h6 rfl
   refine eU (by simpa using (show ((xs.length:Int)=6) by omega)) ?_
   obtain ⟨q,eq⟩:∃ q:S6,PyData.tuple ds=six q:=by
    match ds,h6 with
    | [d0,d1,d2,d3,d4,d5],_=>exact⟨⟨d0,d1,d2,d3,d4,d5⟩,rfl⟩
   rw [eq] at rd g hw hbr k kf;clear hb h6 hxl rl hb' eq;obtain ⟨b',v0,v1,v2,v3,v4,v5,eb,hb',r0,r1,r2,r3,r4,r5⟩:=K09.E.RdV.six rd;cases eb
   have gA:gs q.a/\gs q.b/\gs q.c/\gs q.e/\gs q.g/\gs q.n:=by
    simp only [six,gs,gsA,and_true] at g;exact g
   obtain ⟨g0,g1,-,g3,g4,g5⟩:=gA;refine⟨_,rfl,b,_,_,_,rfl,rfl,V7 hb',aJ (j:=0) rfl,v0,q.a,rfl,r0,g0,fun H1 s1=>⟨_,rfl,?_⟩⟩;have no:∀ {H'},Same H H'->(zq (six q)->False)->Q (.bl false) H':=fun s h=>kf s h;have inv:zq (six q)->NmD q.a/\UnD 7 q.b/\sO q:=fun⟨q',e,h⟩=>by rw [FW e]; exact h
   by_cases hn:NmD q.a
   rotate_left
   ·rw [bD hn];exact bM (no s1 fun h=>hn (inv h).1)
   rw [dR hn];refine bT ⟨_,rfl,b,_,_,_,rfl,rfl,V7 (s1 b _ hb'),aJ (j:=1) rfl,v1,q.b,7,rfl,r1.bH s1,g1,by decide,fun H2 s2=>⟨_,rfl,?_⟩⟩;have s02:=s1.trans s2
   by_cases hu:UnD 7 q.b
   rotate_left
   ·rw [bD hu];exact bM (bM (no s02 fun h=>hu (inv h).2.1))
   rw [dR hu];refine bT ⟨_,rfl,b,_,_,_,rfl,rfl,V7 (s02 b _ hb'),aJ (j:=3) rfl,v3,q.e,3,rfl,r3.bH s02,g3,by decide,fun H3 s3=>⟨_,rfl,?_⟩⟩;have s03:=s02.trans s3
   by_cases hf:UnD 3 q.e
   rotate_left
   ·rw [bD hf];exact bM (bM (no s03 fun h=>hf (inv h).2.2.1))
   rw [dR hf];refine bT ⟨_,rfl,b,_,_,_,rfl,rfl,V7 (s03 b _ hb'),aJ (j:=4) rfl,_,_,_,iZ q.g,rfl,(r4.bH s03).ty,lN N0 q.g,_,rfl,?_⟩;cases hb4:iZ q.g with
   | false=>exact bM (no s03 fun h=>by obtain ⟨xs,e,_⟩:=(inv h).2.2.2.1; rw [e] at hb4; cases hb4)
   | true=>
   obtain ⟨es,e4⟩:=jt hb4;rw [e4] at r4;obtain ⟨c,cs,rfl,hc,rc⟩:=r4.bV;have hcl:=rc.length
   have hes:es.length<=62:=by
    rw [six,br] at hbr;have hg:=mj.mp (kC.mp hbr).2 q.g ‹45›;rw [e4,br] at hg;exact(kC.mp hg).1
   have gE:gsA es:=by rw [e4,gs] at g4; exact g4
   refine bT ⟨_,rfl,b,_,_,_,rfl,rfl,V7 (s03 b _ hb'),aJ (j:=4) rfl,c,rfl,⟨_,V7 (s03 c _ hc)⟩,?_⟩;refine qu (K:=N0) (a:=c) (xs:=cs) (fun i σ H5=>∃ v1:OV,σ=[some (.ref b),v1,none]/\(∀ d∈es.take i,pN d)/\Same H H5) ⟨_,rfl,(by intro d hd; simp at hd),s03⟩ (fun i σ H5 _ ⟨_,_,_,s5⟩=>V7 (s5 c _ hc)) ?_ ?_
   ·rintro i x σ H5 hi ⟨w1,rfl,hall,s5⟩
    have hil:i < es.length:=by
     have:=(bv.mp hi).1;omega
    have dn:(zq (six q)->pN es[i]):=fun h=>by
     obtain ⟨xs,e,h1,_⟩:=(inv h).2.2.2.1;rw [e4] at e;exists 10;exact Bk.mp ⟨xs,e,h1⟩ _ (bS hil)
    obtain ⟨y,ey,ry⟩:=rc.get (ae hil);rw [ey] at hi;have hi:=ck hi;subst hi;have ry:=ry.bH s5;have gi:=lK gE i hil
    have nx:pN es[i]->∀ {H6},Same H5 H6->∃ v1:OV,[some (V.ref b),some y,none]=[some (.ref b),v1,none]/\(∀ d∈es.take (i+1),pN d)/\Same H H6:=fun h {H6} s6=>⟨_,rfl,fun d hd=>by
     rw [take_snoc hil] at hd;rcases cw.mp hd with hd | hd
     ·exact hall d hd
     ·rw [bj.mp hd];exact h,s5.trans s6⟩
    generalize es[i]=d at dn ry gi nx;refine⟨_,rfl,_,_,_,iZ d,rfl,ry.ty,lN N0 d,_,rfl,?_⟩;cases hbd:iZ d with
    | false=>exact bM (bM (no s5 fun h=>by obtain ⟨x,e,_⟩:=dn h; rw [e] at hbd; cases hbd))
    | true=>
    obtain ⟨ps,rfl⟩:=jt hbd;obtain ⟨a,us,rfl,ha,ru⟩:=ry.bV;have hul:=ru.length;refine bT ⟨_,rfl,a,_,rfl,.inr (V7 ha),rfl,_,rfl,?_⟩
    by_cases h2:ps.length=2
    rotate_left
    ·refine eO (by simpa using (show ¬ ((us.length:Int)=2) by omega)) (bM (no s5 fun h=>?_));obtain ⟨x,e,_⟩:=dn h;exists 10;rw [e] at h2;exact h2 rfl
    refine eU (by simpa using (show ((us.length:Int)=2) by omega)) ?_
    match ps,h2 with
    | [d0,d1],_=>
    cases ru with
    | @cons u0 _ _ _ ru0 ru=>
    cases ru with
    | @cons u1 _ _ _ ru1 ru=>
    cases ru;have g0':gs d0:=by rw [gs,gsA] at gi; exact gi.1
    refine⟨_,rfl,a,_,_,_,rfl,rfl,V7 ha,aJ (j:=0) rfl,u0,d0,rfl,ru0,g0',fun H6 s6=>⟨_,rfl,?_⟩⟩;have s06:=s5.trans s6
    by_cases hn0:NmD d0
    rotate_left
    ·rw [bD hn0];refine bM (no s06 fun h=>hn0 ?_);obtain ⟨x,e,hx,_⟩:=dn h;exists 10;exists 10;exact⟨x.1,e,hx⟩
    rw [dR hn0];refine bT ⟨_,rfl,a,_,_,_,rfl,rfl,V7 (s6 a _ ha),aJ (j:=1) rfl,u1,d1,1,rfl,ru1.bH s6,_,rfl,?_⟩
    by_cases hw1:∃ n,d1=.int n/\1<=n
    rotate_left
    ·rw [bD hw1];refine bM (bM (no s06 fun h=>hw1 ?_));obtain ⟨x,e,_,h1,_⟩:=dn h;exists 10;injection e with _ e;exists 10;exact⟨x.2,e,h1⟩
    rw [dR hw1];obtain ⟨n,rfl,h1⟩:=hw1;obtain rfl:=K09.E.RdV.oN ru1;refine bT ⟨_,rfl,a,_,_,_,rfl,rfl,V7 (s6 a _ ha),aJ (j:=1) rfl,_,_,rfl,rfl,_,rfl,?_⟩
    by_cases h99:n > 99
    ·refine eO (bo h99) (no s06 fun h=>?_);obtain ⟨x,e,_,_,h3⟩:=dn h;exists 10;injection e with _ e;exists 10;exists 10;omega
    refine eU (by rw [bE h99]; exact aS) ?_;obtain ⟨x,rfl,hx⟩:=hn0;exact nx ⟨(x,n),rfl,hx,h1,by show n<=99; omega⟩ s6
   ·rintro σ H5 ⟨w1,rfl,hall,s5⟩;rw [aw ‹26›] at hall;obtain ⟨xs,rfl,hxs⟩:=Bk.mpr hall;refine⟨_,rfl,b,_,_,_,rfl,rfl,V7 (s5 b _ hb'),aJ (j:=4) rfl,c,rfl,⟨_,V7 (s5 c _ hc)⟩,fun D2 hD2=>?_⟩;refine bA (n:=cs.length) (fun i ys H6=>ys=((xs.map (·.1)).take i).map V.str/\H6 D2=some (.lst ys)/\Same H5 H6) ⟨rfl,ak,We hD2⟩ ?_ ?_;rotate_left
    ·rintro i ys H6 hi ⟨rfl,hD6,s6⟩;have hil:i < xs.length:=by rw [aa] at hcl; omega
     obtain ⟨y,ey,ry⟩:=rc.get (i:=i) (d:=mH xs[i]) (by rw [bg,ae hil]; rfl);have hc6:=s6 c _ (s5 c _ hc);refine⟨⟨_,_,V7 hc6,ey⟩,?_⟩;rintro z H7 ⟨rfl,yy⟩ σo ho;exists 15;have ez:=yy _ (V7 hc6);rw [ey] at ez;cases ez;obtain ⟨a,us,rfl,ha,ru⟩:=((ry.bH s5).bH s6).bV;cases ru with
     | @cons u0 _ _ _ ru0 ru=>
     obtain rfl:=ru0.jm;refine⟨‹13›,cg ⟨_,rfl,a,_,_,_,rfl,rfl,V7 ha,aJ (j:=0) rfl,by rw [aa,bc]; omega,hD6,aW hi ‹34›⟩⟩
     ·rw [take_snoc (by rw [aa]; omega),aI,List.getElem_map];rfl
     ·rw [aA (au z hD2)];exact s6 c _ z
    rintro ys H6 ⟨rfl,hD6,s6⟩;have hxl2:xs.length=cs.length:=by rw [aa] at hcl; omega
    rw [aw (by rw [aa]; omega)] at hD6;have s06:=s5.trans s6;rw [aa] at hes;refine⟨⟨_,V7 (s06 c _ hc),ai _⟩,?_⟩;refine⟨_,rfl,_,rfl,D2,xs.map (·.1),rfl,V6 hD6,by rw [aa]; omega,fun sd ks mem nd kl hsd=>?_⟩;have s7:∀ o,Same H6 (upd H6 sd o):=fun o=>We hsd;rw [aa] at kl;refine⟨sd,ks,rfl,ak,by omega,fun so ss hp hs hso=>?_⟩;have s8:Same H6 (upd (upd H6 sd (Oj P w sd ks)) so (.lst (ss.map V.str))):=(s7 _).trans (We hso);refine⟨D2,so,xs.map (·.1),ss,rfl,rfl,s8 D2 _ hD6,ak,?_⟩;have s08:=s06.trans s8;have ri:=K1 mem nd hp hs
    by_cases hri:oA (xs.map (·.1))
    rotate_left
    ·rw [bE fun h=>hri (ri.mp h)];refine⟨_,rfl,bT (no s08 fun h=>hri ?_)⟩;obtain ⟨xs',e,_,hr'⟩:=(inv h).2.2.2.1;rw [e4] at e;exists 10
     have:xs'=xs:=by
      have:=e.symm;exact jv (fun a b h=>yc h) |>.mp this
     rw [this] at hr';exact Cj.mp hr'
    rw [bo (ri.mpr hri)];refine⟨_,rfl,bM ?_⟩;refine⟨_,rfl,b,_,_,_,rfl,rfl,V7 (s08 b _ hb'),aJ (j:=5) rfl,v5,q.n,0,rfl,r5.bH s08,?_⟩;have fin:=k _ s08;have e1:zq (six q)↔∃ n,q.n=.int n/\0<=n:=⟨fun h=>(inv h).2.2.2.2,fun h=>⟨q,rfl,hn,hu,hf,⟨xs,e4,hxs,Cj.mpr hri⟩,h⟩⟩;rw [kW e1] at fin;exact fin
end
end K09.E
end
section
namespace K09
open PySem PyProof.Rows L2
variable {A:xf}{a p:ut}{H H' H1 H2:Hp}{K:PySem.W.Frag}{xs:LV}{h:Heap}{mg:MG}{st:Stmt}{w:ww}{loose:LS}{YP:ww->Heap->Prop}
theorem UJ{k:Nat}(hr:kZ k A):A.units+60 < cLine:=by have:=hr.units; omega
theorem mW(s:Same H H1)(o:L2.Off p H1 H2)(hp:H p=none):Same H H2:=fun b u e=>o b u (au e hp) (s b u e)
theorem SqL.keep(h:SqL K H a xs)(k:∀ o,H a=some o->H' a=some o):SqL K H' a xs:=by
 rcases h with (h | ⟨o,h⟩) | h
 ·exact .inl (.inl (k _ h))
 ·exact .inl (.inr ⟨o,k _ h⟩)
 ·exact .inr h
theorem Sw{ds fs:LS}{tb:List B.Row}(G:B.En ds fs tb)(hd:∀ x∈ds,Nm x)(hf:∀ x∈fs,Nm x)(d11:ds.length<=11)(h1:1<=tb.length):E.Iv tb:=by
 have kn:∀ x∈B.kns tb,Nm x:=fun x hx=>by
  obtain ⟨r,hr,rfl⟩:=bu.mp hx;exact G.gt.kl r hr
 refine⟨fun r hr=>?_,h1,G.gt.len,G.gt.nd,fun r hr=>(G.gt.es r hr).1⟩;obtain ⟨w1,w2,_⟩:=G.own r hr
 have hdl:=dh w1 (m:=ds) fun x hx=>by
  obtain ⟨y,hy,rfl⟩:=bu.mp hx;exact w2 y hy
 rw [aa] at hdl;exact⟨G.gt.kl r hr,fun x hx=>kn x ((G.gt.es r hr).1 x hx),(G.gt.es r hr).2,fun x hx=>kn x (G.gt.ord r hr x hx),G.gt.ol r hr,fun x hx=>hf x (G.fd r hr x hx),G.gt.fl r hr,fun d hd'=>hd _ (w2 d hd'),by omega⟩
section
variable {P:uC}{w:ww}{K:PySem.W.Frag}{mg:MG}{base:Heap}{t:Adr}
inductive Fv (K:PySem.W.Frag) (vs:LV) (H:Hp) (Q:VK) (E_:XK):Prop
 | mk (a:ut) (ns:List Int):vs=[.ref a,.int 1,.int 3,.int 6]->SqL K H a (ns.map V.int)->ns.length<=63->(∀(l:ut) (ms:List Int) H',H' l=some (.lst (ms.map V.int))->ms.length<=6->H l=none->Same H H'->Q (.ref l) H')->Fv K vs H Q E_
theorem Ju(D:Defs K mg t):cA P w K mg base CX0 2 t.je.1 t.je.2 ["_law_script","_law_first","_law_least","_law_most"] (Fv K):=by
 have Gae:=@Fj P w K mg base t D;exists 5;refine D.je.fn.ok qM ‹7› ‹1›
 ·obtain ⟨a,ns,rfl,_⟩:=h;rfl
 ·obtain ⟨a,ns,rfl,hS,hl,k⟩:=h
  refine⟨_,(aB (aM (i:=4) qM.nd rfl (uA rfl) (aH (yu rfl) (by rfl) D.PJ JL (aj (pv 2) (aj (aH (yC rfl) (by rfl) D.Qg Kw (aj (pv 3) (aj (aR nQ (aH nO (by rfl) D.cI bQ ‹36›) (pv 1)) aq))) aq))))
   (aF (aL (bI rfl (Wf ["_law_k"] [0,1] ["_law_k","_law_script","_law_first"] (aG (top 33)) ["_law_script","_law_first","_law_least","_law_most","_law_many"] rfl rfl ‹5›) ⟨fun _ _ _ _ _=>(aN (i:=0) (show List.Nodup [("_law_k" : Str),("_law_script" : Str),("_law_first" : Str)] by decide +kernel) rfl ‹24› ‹17›),fun _ _ _ _ _=>bJ,fun _ _ _ _ _=>(aD D.ji Gae ‹2› (by rfl) (aj (pv 1) (aj (aR cV (pv 2) (pv 0)) aq)))⟩ (jG rfl D.nY (aj (pv 4) aq)))))),?_⟩
  exists 18;refine⟨_,rfl,_,rfl,_,rfl,a,_,rfl,.inl hS,_,rfl,_,_,rfl,rfl,_,_,rfl,_,_,rfl,?_⟩
  have hN:∃ N:Int,(if (if ((ns.map V.int).length:Int) - 1 < 6 then ((ns.map V.int).length:Int) - 1 else 6) > 3 then (if ((ns.map V.int).length:Int) - 1 < 6 then ((ns.map V.int).length:Int) - 1 else 6) else 3)=N/\0<=N/\N<=6:=by
   refine⟨_,rfl,?_,?_⟩ <;> (split <;> split <;> omega)
  obtain ⟨N,eN,hN0,hN12⟩:=hN;rw [eN];refine⟨_,rfl,N,rfl,by omega,by omega,fun D1 hD1=>?_⟩;have s1:∀ u,Same H (upd H D1 u):=fun u=>We hD1;refine bA (n:=N.toNat) (fun i ys H2=>∃ ms:List Int,ys=ms.map V.int/\ms.length=i/\H2 D1=some (.lst ys)/\Same H H2) ⟨[],rfl,rfl,ak,s1 _⟩ ?_ ?_
  ·rintro ys H2 ⟨ms,rfl,hm,hD2,s2⟩;refine⟨ai _,?_⟩;exact k D1 ms H2 hD2 ‹26› hD1 s2
  ·rintro i ys H2 hi ⟨ms,rfl,hm,hD2,s2⟩;refine⟨hi,?_⟩;rintro x H3 ⟨rfl,rfl⟩ σo ho;obtain ⟨oo,rfl⟩:=own1 ho;refine⟨‹13›,cg ⟨_,rfl,_,rfl,_,rfl,_,_,rfl,rfl,a,ns,_,rfl,K09.SqL.keep hS fun o e=>s2 a o e,hl,by omega,by omega,fun n H4 s4=>?_⟩⟩;refine⟨by rw [aa]; omega,s4 D1 _ hD2,aW hi ⟨ms++[n],by rw [aI]; rfl,by rw [bX,hm]; rfl,ak,fun b u e=>by rw [aA (au e hD1)]; exact s4 b u (s2 b u e)⟩⟩
theorem MF(r:Int)(h0:0<=r)(h4:r < 5):∃ z:Nat,atI [V.int 1,V.int 11,V.int 3,V.int 4,V.int 5] r=some (.int (z:Nat))/\1<=z/\z<=11:=by
 have:r=0\/r=1\/r=2\/r=3\/r=4:=by omega
 rcases this with e | e | e | e | e <;> rw [e]
 ·exact⟨1,aJ (j:=0) rfl,by decide,by decide⟩
 ·exact⟨11,aJ (j:=1) rfl,by decide,by decide⟩
 ·exact⟨3,aJ (j:=2) rfl,by decide,by decide⟩
 ·exact⟨4,aJ (j:=3) rfl,by decide,by decide⟩
 ·exact⟨5,aJ (j:=4) rfl,by decide,by decide⟩
inductive Bp (K:PySem.W.Frag) (vs:LV) (H:Hp) (Q:VK) (E_:XK):Prop
 | mk (a:ut) (ns:List Int):vs=[.ref a]->SqL K H a (ns.map V.int)->ns.length<=63->(∀ H',Q (.bl true) H')->Bp K vs H Q E_
theorem QH(D:Defs K mg t)(GL:Glb mg):cA P w K mg base CX0 43 t.law.1 t.law.2 ["_law_script"] (Bp K):=by
 exists 13;have Gar:=@Mz P w K mg base t D;have Gae:=@Fj P w K mg base t D;have Gaw:=@Ju P w K mg base t D;have Gaj:=@zX P w K mg base t D;have Gbl:=@B.Mj P w K mg base t D;have Gaz:=@K09.E.Mh P w K mg base t D;have Gaf:=@K09.E.Oa P w K mg base t D 40;have Gbb:=@K09.E.QW P w K mg base t D GL;have Gas:cA P w K mg base CX0 4 t.ju.1 t.ju.2 _ E.Kd:=K09.E.Rk D (K09.E.Nz D);exists 5;refine D.law.fn.ok lX ‹7› ‹1›
 ·obtain ⟨a,ns,rfl,_⟩:=h;rfl
 ·obtain ⟨a,ns,rfl,hS,hl,k⟩:=h
  refine⟨_,(aB (aM (i:=1) lX.nd rfl (uA rfl) (aD D.gW Gar ‹2› (by rfl) (aj (aD D.ji Gae ‹2› (by rfl) (aj (pv 0) (aj aC aq))) aq)))
   (aB (aM (i:=2) lX.nd rfl (uA rfl) (aR cV aC (aD D.aV Ga ‹2› (by rfl) (aj (pv 1) (aj aC aq)))))
   (aB (aM (i:=3) lX.nd rfl (uA rfl) (aD D.fZ Gaj ‹2› (by rfl) (aj (pv 1) (aj (aP sH (cN (aj aC (aj aC (aj aC (aj aC (aj aC aq)))))) (aD D.aV Ga ‹2› (by rfl) (aj (pv 1) (aj aC aq))) ‹3›) (aj (cN aq) aq)))))
   (aB (aM (i:=4) lX.nd rfl (uA rfl) (aD D.fZ Gaj ‹2› (by rfl) (aj (pv 1) (aj (aR cV aC (aD D.aV Ga ‹2› (by rfl) (aj (pv 1) (aj aC aq)))) (aj (cN aq) aq)))))
   (aB (aM (i:=5) lX.nd rfl (uA rfl) (aD D.iY Gbl ‹2› (by rfl) (aj (pv 1) (aj (pv 2) (aj (pv 3) (aj (pv 4) aq))))))
   (aB (fP dP rfl (GZ (aD D.je Gaw ‹2› (by rfl) (aj (pv 0) (aj aC (aj aC (aj aC aq)))))) (aN (i:=6) lX.nd rfl (uA rfl))
   (aB (aM (i:=7) lX.nd rfl (uA rfl) (aD D.iW Gaz ‹2› (by rfl) (aj (aD D.gW Gar ‹2› (by rfl) (aj (pv 6) aq)) (aj (pv 5) aq))))
   (aB (aM (i:=8) lX.nd rfl (uA rfl) (aD D.dI Gaf ‹2› (by rfl) (aj (pv 7) aq)))
   (aB (aM (i:=9) lX.nd rfl (uA rfl) (aD D.lB Gbb ‹2› (by rfl) (aj (pv 8) aq)))
   (aF (bO (V5 (gK (cL (bZ (aH uy (by rfl) D.aX aQ (aj (pv 9) (aj (cF (v:=V.ty "bool") rfl D.Ea yF rfl) aq))))) (gK (aY yg (pv 9) (aD D.ju Gas ‹2› (by rfl) (aj (pv 7) aq)) (bh _)) (gk (aY (Rb (UJ hr)) (pv 8) (pv 7) (bh _))))))
   (aF (aL fO))
   aU))))))
   (aF (aL fO)))))))),?_⟩
  exists 18;refine⟨_,rfl,a,ns,0,rfl,hS,hl,by decide,by decide,fun z0 H1 s1=>⟨z0,rfl,fun p a1 b1 c1 hp=>?_⟩⟩;have hpH:H p=none:=K09.E.none_of s1 hp;have s2:Same H (upd H1 p ‹23›):=s1.trans (We hp);have p2:Pu (upd H1 p ‹23›) p:=Wg;generalize upd H1 p ‹23›=H2 at s2 p2;refine⟨_,rfl,p,8,rfl,p2,by decide,by decide,fun r a2 b2 c2 l2 u2=>⟨_,_,rfl,rfl,?_⟩⟩;have s3:=mW s2 (Wc (p:=p) (o:=.lst [.int a2,.int b2,.int c2])) hpH;have p3:Pu (upd H2 p (.lst [.int a2,.int b2,.int c2])) p:=Wg;generalize upd H2 p (.lst [.int a2,.int b2,.int c2])=H3 at s3 p3;obtain ⟨n,en,hn1,hn8⟩:∃ n:Nat,1+r=(n:Int)/\1<=n/\n<=8:=⟨(1+r).toNat,by omega,by omega,by omega⟩;refine⟨_,rfl,by show 5<=sizeLine; decide,fun m hm=>⟨_,rfl,p,5,rfl,p3.same (We hm),by decide,by decide,fun r4 a4 b4 c4 l4 u4=>?_⟩⟩;have pm:p≠m:=p3.neN hm;have s4:=mW (s3.trans (We (o:=.lst [.int 1,.int 11,.int 3,.int 4,.int 5]) hm)) (Wc (p:=p) (o:=.lst [.int a4,.int b4,.int c4])) hpH;have p4:Pu (upd (upd H3 m (.lst [.int 1,.int 11,.int 3,.int 4,.int 5])) p (.lst [.int a4,.int b4,.int c4])) p:=Wg;have hm4:(upd (upd H3 m (.lst [.int 1,.int 11,.int 3,.int 4,.int 5])) p (.lst [.int a4,.int b4,.int c4])) m=some (.lst [.int 1,.int 11,.int 3,.int 4,.int 5]):=by rw [aA pm.symm,ak]
  generalize upd (upd H3 m (.lst [.int 1,.int 11,.int 3,.int 4,.int 5])) p (.lst [.int a4,.int b4,.int c4])=H4 at s4 p4 hm4;obtain ⟨dn,edn,dn1,dn11⟩:=MF r4 l4 u4;refine⟨m,_,_,.int dn,rfl,rfl,V6 hm4,edn,dk _,fun u hu=>?_⟩;refine⟨p,u,[],dn,rfl,p4.same (We hu),ak,by omega,by show 0+_<=25; omega,fun dl ds H5 hdlN hds nds nmd hdl5 o5 p5=>?_⟩;have s5:=mW (s4.trans (We (o:=.lst []) hu)) o5 hpH;have d1:1<=ds.length:=by omega
  have d11:ds.length<=11:=by omega
  have dlp:dl≠p:=p5.ne hdl5;refine⟨_,rfl,_,rfl,p,4,rfl,p5,by decide,by decide,fun r6 a6 b6 c6 l6 u6=>⟨_,_,rfl,rfl,dk _,fun u6' hu6=>?_⟩⟩;have o6:L2.Off p H5 (upd H5 p (.lst [.int a6,.int b6,.int c6])):=Wc;have p6:Pu (upd H5 p (.lst [.int a6,.int b6,.int c6])) p:=Wg;generalize upd H5 p (.lst [.int a6,.int b6,.int c6])=H6 at o6 p6 hu6 ⊢;refine⟨p,u6',[],1+r6,rfl,p6.same (We hu6),ak,by omega,by show 0+_<=25; omega,fun fl fs H7 hflN hfs nfs nmf hfl7 o7 p7=>?_⟩;have o57:L2.Off p H5 H7:=o6.trans ((Wd hu6).trans o7);have s7:=mW s5 o57 hpH;have hdl7:=o57 dl _ dlp hdl5;refine⟨_,rfl,_,rfl,_,rfl,_,rfl,p,dl,fl,n,ds,fs,?_,p7,hn1,hn8,hdl7,d11,hfl7,by omega,fun v tb H8 dv gt tbl o8 p8=>?_⟩
  ·show [V.ref p,V.int (1+r),V.ref dl,V.ref fl]=_;rw [en]
  have s8:=mW s7 o8 hpH;have hdl8:=o8 dl _ dlp hdl7;have nmd:∀ x∈ds,Nm x:=fun x hx=>(nmd x hx).2;refine⟨_,rfl,a,ns,rfl,K09.SqL.keep hS fun o e=>s8 a o e,hl,fun l ms H9 hl9 msl hlN s9=>⟨l,rfl,⟨_,V6 hl9⟩,?_⟩⟩;have nmf:∀ x∈fs,Nm x:=fun x hx=>(nmf x hx).2;have okt:=Sw gt nmd nmf d11 ‹26›
  refine rZ (K:=K) (a:=l) (xs:=ms.map V.int) (fun i σ H4=>∃(v6 v7 v8 v9:OV),σ=[some (.ref a),some (.ref p),some (.int (1+r)),some (.ref dl),some (.ref fl),some v,v6,v7,v8,v9]/\Dp H4 (B.DK tb) v/\H4 l=some (.lst (ms.map V.int)))
   ⟨_,_,_,_,rfl,dv.mono (V9 s9),hl9⟩ (fun i σ H4 _ ⟨_,_,_,_,_,_,e⟩=>V6 e) ?_ ?_
  ·rintro i x σ H4 hi ⟨v6,v7,v8,v9,rfl,dv,hl4⟩
   have hil:i < ms.length:=by
    have:=(bv.mp hi).1
    rwa [aa] at this
   have ex:x=.int ms[i]:=by
    rw [bg,ae hil] at hi;exact(ck hi).symm
   subst ex;refine⟨_,rfl,ms[i],rfl,fun pc a1 b1 c1 hpc=>?_⟩;have t1:Same H4 (upd H4 pc ‹23›):=We hpc;have q1:Pu (upd H4 pc ‹23›) pc:=Wg;generalize upd H4 pc ‹23›=H5 at t1 q1;refine⟨_,rfl,pc,v,tb,rfl,q1,dv.mono (V9 t1),okt,fun vt d H6 rt gd oc qp=>?_⟩;have t2:Same H4 H6:=mW t1 oc hpc;refine⟨_,rfl,vt,d,rfl,rt,gd.p,gd.b,fun vh H7 rh t3=>?_⟩;have rh:=rh.bH K09.E.New.same;refine⟨_,rfl,vh,d,rfl,rh,gd.g,cS gd.w ‹6›,fun H8 t4=>?_⟩;have rt8:=(rt.bH t3).bH t4;refine⟨_,rfl,_,_,_,true,rfl,.bl _,iR K "bool",_,rfl,bT ?_⟩;refine⟨_,rfl,_,rfl,vt,d,rfl,rt8,gd.g,cS gd.w ‹6›,gd.b,fun H9 t5=>⟨rfl,_,rfl,?_⟩⟩;refine eU ‹45› ⟨_,rfl,_,rfl,d,(rh.bH t4).bH t5,rt8.bH t5,K09.E.Td 50 d (cS gd.p ‹6›) gd.b,_,rfl,bT ?_⟩;have t9:=((t2.trans t3).trans t4).trans t5;exact⟨_,_,_,_,rfl,dv.mono (V9 t9),t9 l _ hl4⟩
  ·rintro σ H4 _;exact k H4
theorem el1{α:Type}{C:List α->Prop}(h:∀ v0,C [v0]):∀ us:List α,us.length=1->C us
 | [v0],_=>h v0
theorem el2{α:Type}{C:List α->Prop}(h:∀ v0 v1,C [v0,v1]):∀ us:List α,us.length=2->C us
 | [v0,v1],_=>h v0 v1
theorem el3{α:Type}{C:List α->Prop}(h:∀ v0 v1 v2,C [v0,v1,v2]):∀ us:List α,us.length=3->C us
 | [v0,v1,v2],_=>h v0 v1 v2
theorem el4{α:Type}{C:List α->Prop}(h:∀ v0 v1 v2 v3,C [v0,v1,v2,v3]):∀ us:List α,us.length=4->C us
 | [v0,v1,v2,v3],_=>h v0 v1 v2 v3
def FQ(K:PySem.W.Frag)(mg:MG)(x:Str)(st:Stmt):Prop:=∃ f fd,Fun K x x st f fd/\mg x=some (.ref f)
theorem mkF(X:K.In h)(G:h.Ns xj mg){x:Str}{f:ut}{oc:sr}{od an:Option ut}{sl:Array (Option sr)}{kV dc pm cd ct:sr}(a:PySem.W.nsIn K xj x=some (some (.ref f)))(l:K.lookup f=some ⟨oc,od,.func (PySem.W.fnOf x x (rQ st) (pY st) (aG st) .none kV dc pm an cd ct),sl⟩)(c:PySem.W.codeIn K cd x=true)(k:PySem.W.keepIn K (.ref f)=true):FQ K mg x st:=⟨f,_,RG l c k,nE X G a⟩
theorem all_mk{l:PySem.W.OpenLaw}{fa:ut}{tkLETTERS tkMOST_LETTERS tkMOST_KINDS tkMOST_NAMES tkMOST_BODY:Tok}(X:K.In h)(G:h.Ns xj mg)(hfa:mg "law" = some (.ref fa))
  (t0:FQ K mg "is_whole" (top 4)) (t1:FQ K mg "is_tuple_of" (top 5)) (t2:FQ K mg "is_name" (top 6)) (t3:FQ K mg "is_kind" (top 7)) (t4:FQ K mg "are_kinds" (top 8)) (t5:FQ K mg "kinds_of" (top 9)) (t6:FQ K mg "is_family" (top 10)) (t7:FQ K mg "elders_first" (top 11)) (t8:FQ K mg "tell_orders" (top 13)) (t9:FQ K mg "quarrel_among" (top 14)) (t10:FQ K mg "rows_by" (top 15)) (t11:FQ K mg "merge_rows" (top 16)) (t12:FQ K mg "first_free" (top 17)) (t13:FQ K mg "ring_among" (top 18)) (t14:FQ K mg "hold_of" (top 19)) (t15:FQ K mg "is_table" (top 23)) (t16:FQ K mg "family_of" (top 24)) (t17:FQ K mg "is_order" (top 25)) (t18:FQ K mg "has_good_rest" (top 26)) (t19:FQ K mg "are_few_names" (top 27)) (t20:FQ K mg "is_body_number" (top 28)) (t21:FQ K mg "are_deeds" (top 29)) (t22:FQ K mg "is_deed" (top 30)) (t23:FQ K mg "_law_cell" (top 32)) (t24:FQ K mg "_law_cells" (top 33)) (t25:FQ K mg "_law_purse" (top 34)) (t26:FQ K mg "_law_take" (top 35)) (t27:FQ K mg "_law_word" (top 36)) (t28:FQ K mg "_law_names" (top 37)) (t29:FQ K mg "_law_some" (top 38)) (t30:FQ K mg "_law_merge" (top 39)) (t31:FQ K mg "_law_elders" (top 40)) (t32:FQ K mg "_law_own" (top 41)) (t33:FQ K mg "_law_table" (top 42)) (t34:FQ K mg "_law_odd" (top 43)) (t35:FQ K mg "_law_bend_row" (top 44)) (t36:FQ K mg "_law_bend_word" (top 45)) (t37:FQ K mg "_law_bend" (top 46)) (t38:FQ K mg "_law_orders" (top 47)) (t39:FQ K mg "_law_whole" (top 48)) (t40:FQ K mg "_law_name" (top 49)) (t41:FQ K mg "_law_unlike" (top 50)) (t42:FQ K mg "_law_copy" (top 51)) (t43:FQ K mg "_law_row" (top 52)) (t44:FQ K mg "_law_due" (top 53)) (t45:FQ K mg "_law_turned" (top 54)) (t46:FQ K mg "_law_renamed" (top 55)) (t47:FQ K mg "_law_thing" (top 56)) (t48:FQ K mg "law" (top 57))
  (z0:PySem.W.nsIn K xj "abs" = some none) (z1:PySem.W.nsIn K xj "all" = some none) (z2:PySem.W.nsIn K xj "any" = some none) (z3:PySem.W.nsIn K xj "bool" = some none) (z4:PySem.W.nsIn K xj "dict" = some none) (z5:PySem.W.nsIn K xj "enumerate" = some none) (z6:PySem.W.nsIn K xj "int" = some none) (z7:PySem.W.nsIn K xj "isinstance" = some none) (z8:PySem.W.nsIn K xj "len" = some none) (z9:PySem.W.nsIn K xj "list" = some none) (z10:PySem.W.nsIn K xj "max" = some none) (z11:PySem.W.nsIn K xj "min" = some none) (z12:PySem.W.nsIn K xj "range" = some none) (z13:PySem.W.nsIn K xj "set" = some none) (z14:PySem.W.nsIn K xj "sorted" = some none) (z15:PySem.W.nsIn K xj "str" = some none) (z16:PySem.W.nsIn K xj "tuple" = some none) (z17:PySem.W.nsIn K xj "zip" = some none)
  (yLETTERS:PySem.W.nsIn K xj "LETTERS" = some (some (.str abc tkLETTERS))) (yMOST_LETTERS:PySem.W.nsIn K xj "MOST_LETTERS" = some (some (.int 6 tkMOST_LETTERS))) (yMOST_KINDS:PySem.W.nsIn K xj "MOST_KINDS" = some (some (.int 7 tkMOST_KINDS))) (yMOST_NAMES:PySem.W.nsIn K xj "MOST_NAMES" = some (some (.int 3 tkMOST_NAMES))) (yMOST_BODY:PySem.W.nsIn K xj "MOST_BODY" = some (some (.int 99 tkMOST_BODY)))
  : ∃ fd:vz,(∀(s:ue) (v:sr),Vp s fd ⟨[v],[]⟩ [("_law_script",v)])/\∀ base:Heap,K.In base->base.Ns xj mg->cA l.prog w K mg base CX0 43 fa fd ["_law_script"] (Bp K):=by
 obtain ⟨f0,g0,F0,m0⟩:=t0;obtain ⟨f1,g1,F1,m1⟩:=t1;obtain ⟨f2,g2,F2,m2⟩:=t2;obtain ⟨f3,g3,F3,m3⟩:=t3;obtain ⟨f4,g4,F4,m4⟩:=t4;obtain ⟨f5,g5,F5,m5⟩:=t5;obtain ⟨f6,g6,F6,m6⟩:=t6;obtain ⟨f7,g7,F7,m7⟩:=t7;obtain ⟨f8,g8,F8,m8⟩:=t8;obtain ⟨f9,g9,F9,m9⟩:=t9;obtain ⟨f10,g10,F10,m10⟩:=t10;obtain ⟨f11,g11,F11,m11⟩:=t11;obtain ⟨f12,g12,F12,m12⟩:=t12;obtain ⟨f13,g13,F13,m13⟩:=t13;obtain ⟨f14,g14,F14,m14⟩:=t14;obtain ⟨f15,g15,F15,m15⟩:=t15;obtain ⟨f16,g16,F16,m16⟩:=t16;obtain ⟨f17,g17,F17,m17⟩:=t17;obtain ⟨f18,g18,F18,m18⟩:=t18;obtain ⟨f19,g19,F19,m19⟩:=t19;obtain ⟨f20,g20,F20,m20⟩:=t20;obtain ⟨f21,g21,F21,m21⟩:=t21;obtain ⟨f22,g22,F22,m22⟩:=t22;obtain ⟨f23,g23,F23,m23⟩:=t23;obtain ⟨f24,g24,F24,m24⟩:=t24;obtain ⟨f25,g25,F25,m25⟩:=t25;obtain ⟨f26,g26,F26,m26⟩:=t26;obtain ⟨f27,g27,F27,m27⟩:=t27;obtain ⟨f28,g28,F28,m28⟩:=t28;obtain ⟨f29,g29,F29,m29⟩:=t29;obtain ⟨f30,g30,F30,m30⟩:=t30;obtain ⟨f31,g31,F31,m31⟩:=t31;obtain ⟨f32,g32,F32,m32⟩:=t32;obtain ⟨f33,g33,F33,m33⟩:=t33;obtain ⟨f34,g34,F34,m34⟩:=t34;obtain ⟨f35,g35,F35,m35⟩:=t35;obtain ⟨f36,g36,F36,m36⟩:=t36;obtain ⟨f37,g37,F37,m37⟩:=t37;obtain ⟨f38,g38,F38,m38⟩:=t38;obtain ⟨f39,g39,F39,m39⟩:=t39;obtain ⟨f40,g40,F40,m40⟩:=t40;obtain ⟨f41,g41,F41,m41⟩:=t41;obtain ⟨f42,g42,F42,m42⟩:=t42;obtain ⟨f43,g43,F43,m43⟩:=t43;obtain ⟨f44,g44,F44,m44⟩:=t44;obtain ⟨f45,g45,F45,m45⟩:=t45;obtain ⟨f46,g46,F46,m46⟩:=t46;obtain ⟨f47,g47,F47,m47⟩:=t47;obtain ⟨f48,g48,F48,m48⟩:=t48;have e:=hfa.symm.trans m48;cases e
 have BL:∀(s:ue) (v:sr),Vp s g48 ⟨[v],[]⟩ [("_law_script",v)]:=by
  obtain ⟨⟨_,_,_,_,_,_,_,_,_,rfl,_⟩,_⟩:=F48;exact fun s v=>.of_eq rfl
 have T:Defs K mg ⟨(f0,g0),(f1,g1),(f2,g2),(f3,g3),(f4,g4),(f5,g5),(f6,g6),(f7,g7),(f8,g8),(f9,g9),(f10,g10),(f11,g11),(f12,g12),(f13,g13),(f14,g14),(f15,g15),(f16,g16),(f17,g17),(f18,g18),(f19,g19),(f20,g20),(f21,g21),(f22,g22),(f23,g23),(f24,g24),(f25,g25),(f26,g26),(f27,g27),(f28,g28),(f29,g29),(f30,g30),(f31,g31),(f32,g32),(f33,g33),(f34,g34),(f35,g35),(f36,g36),(f37,g37),(f38,g38),(f39,g39),(f40,g40),(f41,g41),(f42,g42),(f43,g43),(f44,g44),(f45,g45),(f46,g46),(f47,g47),(fa,g48)⟩:=⟨⟨F0,F0.binds fun _ _ _ _ _ _=>el1 fun _=>rfl,m0⟩,⟨F1,F1.binds fun _ _ _ _ _ _=>el2 fun _ _=>rfl,m1⟩,⟨F2,F2.binds fun _ _ _ _ _ _=>el1 fun _=>rfl,m2⟩,⟨F3,F3.binds fun _ _ _ _ _ _=>el2 fun _ _=>rfl,m3⟩,⟨F4,F4.binds fun _ _ _ _ _ _=>el2 fun _ _=>rfl,m4⟩,⟨F5,F5.binds fun _ _ _ _ _ _=>el1 fun _=>rfl,m5⟩,⟨F6,F6.binds fun _ _ _ _ _ _=>el1 fun _=>rfl,m6⟩,⟨F7,F7.binds fun _ _ _ _ _ _=>el1 fun _=>rfl,m7⟩,⟨F8,F8.binds fun _ _ _ _ _ _=>el1 fun _=>rfl,m8⟩,⟨F9,F9.binds fun _ _ _ _ _ _=>el2 fun _ _=>rfl,m9⟩,⟨F10,F10.binds fun _ _ _ _ _ _=>el2 fun _ _=>rfl,m10⟩,⟨F11,F11.binds fun _ _ _ _ _ _=>el2 fun _ _=>rfl,m11⟩,⟨F12,F12.binds fun _ _ _ _ _ _=>el1 fun _=>rfl,m12⟩,⟨F13,F13.binds fun _ _ _ _ _ _=>el1 fun _=>rfl,m13⟩,⟨F14,F14.binds fun _ _ _ _ _ _=>el2 fun _ _=>rfl,m14⟩,⟨F15,F15.binds fun _ _ _ _ _ _=>el1 fun _=>rfl,m15⟩,⟨F16,F16.binds fun _ _ _ _ _ _=>el1 fun _=>rfl,m16⟩,⟨F17,F17.binds fun _ _ _ _ _ _=>el2 fun _ _=>rfl,m17⟩,⟨F18,F18.binds fun _ _ _ _ _ _=>el1 fun _=>rfl,m18⟩,⟨F19,F19.binds fun _ _ _ _ _ _=>el1 fun _=>rfl,m19⟩,⟨F20,F20.binds fun _ _ _ _ _ _=>el1 fun _=>rfl,m20⟩,⟨F21,F21.binds fun _ _ _ _ _ _=>el1 fun _=>rfl,m21⟩,⟨F22,F22.binds fun _ _ _ _ _ _=>el1 fun _=>rfl,m22⟩,⟨F23,F23.binds fun _ _ _ _ _ _=>el2 fun _ _=>rfl,m23⟩,⟨F24,F24.binds fun _ _ _ _ _ _=>el4 fun _ _ _ _=>rfl,m24⟩,⟨F25,F25.binds fun _ _ _ _ _ _=>el1 fun _=>rfl,m25⟩,⟨F26,F26.binds fun _ _ _ _ _ _=>el2 fun _ _=>rfl,m26⟩,⟨F27,F27.binds fun _ _ _ _ _ _=>el2 fun _ _=>rfl,m27⟩,⟨F28,F28.binds fun _ _ _ _ _ _=>el3 fun _ _ _=>rfl,m28⟩,⟨F29,F29.binds fun _ _ _ _ _ _=>el3 fun _ _ _=>rfl,m29⟩,⟨F30,F30.binds fun _ _ _ _ _ _=>el2 fun _ _=>rfl,m30⟩,⟨F31,F31.binds fun _ _ _ _ _ _=>el4 fun _ _ _ _=>rfl,m31⟩,⟨F32,F32.binds fun _ _ _ _ _ _=>el2 fun _ _=>rfl,m32⟩,⟨F33,F33.binds fun _ _ _ _ _ _=>el4 fun _ _ _ _=>rfl,m33⟩,⟨F34,F34.binds fun _ _ _ _ _ _=>el1 fun _=>rfl,m34⟩,⟨F35,F35.binds fun _ _ _ _ _ _=>el2 fun _ _=>rfl,m35⟩,⟨F36,F36.binds fun _ _ _ _ _ _=>el2 fun _ _=>rfl,m36⟩,⟨F37,F37.binds fun _ _ _ _ _ _=>el3 fun _ _ _=>rfl,m37⟩,⟨F38,F38.binds fun _ _ _ _ _ _=>el1 fun _=>rfl,m38⟩,⟨F39,F39.binds fun _ _ _ _ _ _=>el2 fun _ _=>rfl,m39⟩,⟨F40,F40.binds fun _ _ _ _ _ _=>el1 fun _=>rfl,m40⟩,⟨F41,F41.binds fun _ _ _ _ _ _=>el2 fun _ _=>rfl,m41⟩,⟨F42,F42.binds fun _ _ _ _ _ _=>el1 fun _=>rfl,m42⟩,⟨F43,F43.binds fun _ _ _ _ _ _=>el1 fun _=>rfl,m43⟩,⟨F44,F44.binds fun _ _ _ _ _ _=>el1 fun _=>rfl,m44⟩,⟨F45,F45.binds fun _ _ _ _ _ _=>el2 fun _ _=>rfl,m45⟩,⟨F46,F46.binds fun _ _ _ _ _ _=>el3 fun _ _ _=>rfl,m46⟩,⟨F47,F47.binds fun _ _ _ _ _ _=>el2 fun _ _=>rfl,m47⟩,⟨F48,F48.binds fun _ _ _ _ _ _=>el1 fun _=>rfl,m48⟩,eJ X G z0,eJ X G z1,eJ X G z2,eJ X G z3,eJ X G z4,eJ X G z5,eJ X G z6,eJ X G z7,eJ X G z8,eJ X G z9,eJ X G z10,eJ X G z11,eJ X G z12,eJ X G z13,eJ X G z14,eJ X G z15,eJ X G z16,eJ X G z17⟩
 have GL:Glb mg:=⟨⟨_,nE X G yLETTERS⟩,⟨_,nE X G yMOST_LETTERS⟩,⟨_,nE X G yMOST_KINDS⟩,⟨_,nE X G yMOST_NAMES⟩,⟨_,nE X G yMOST_BODY⟩⟩;exact⟨g48,BL,fun base _ _=>QH T GL⟩
theorem walk{l:PySem.W.OpenLaw}{q:uC}{XP:(MG)->Heap->Prop}{d:DefRec}{K:Params->PySem.W.Frag}(hn:l.most=some 63)(hdf:d.params.defaults=[])
  (hY:∀(w:ww) (h:Heap),YP w h->(K w.params).In h)
  (F:∀(w:ww) (mg:MG) (fa:ut) (h:Heap),(K w.params).In h->h.Ns xj mg->mg d.name=some (.ref fa)->
   ∃ fd:vz,(∀(s:ue) (u:sr),Vp s fd ⟨[u],[]⟩ [("_law_script",u)])/\∀ base:Heap,(K w.params).In base->base.Ns xj mg->cA l.prog w (K w.params) mg base CX0 43 fa fd ["_law_script"] (Bp (K w.params))) :
  PySem.W.WalkO q loose XP YP l.row.toRowW d [] (fun f vs=>PySem.call f vs):=
 L2.Nu (n:=63) (k:=43) (x:= "_law_script") (CX:=fun _=>CX0) (sp:=fun w=>Bp (K w.params)) hn ‹6› hdf ⟨rfl,by decide,by decide,rfl⟩ hY F (fun _ _ a ns hl _ hS=>⟨a,ns,rfl,hS,hl,fun _=>rfl⟩) fun _ _ _ _ _ z=>z
end
end K09
theorem PySem.W.Fast.tw10219881897609445148 : True := trivial
theorem PySem.W.Fast.tw12229227230450565791 : True := trivial
theorem PySem.W.Fast.tw17252064490433004641 : True := trivial
theorem PySem.W.Fast.tw597421903047182726 : True := trivial
theorem PySem.W.Fast.tw13375188865862744241 : True := trivial
theorem PySem.W.Fast.tw4706250310128729431 : True := trivial
theorem PySem.W.Fast.tw10556532508271795545 : True := trivial
theorem PySem.W.Fast.tw5560697827519312575 : True := trivial
theorem PySem.W.Fast.tw11217816546333005384 : True := trivial
theorem PySem.W.Fast.tw17725475548838297085 : True := trivial
theorem PySem.W.Fast.tw8097388641091397981 : True := trivial
theorem PySem.W.Fast.tw13845735870468194796 : True := trivial
theorem PySem.W.Fast.tw7505406721171385903 : True := trivial
theorem PySem.W.Fast.tw881004286911424492 : True := trivial
theorem PySem.W.Fast.tw16662024735473184922 : True := trivial
theorem PySem.W.Fast.tw13865235983285860602 : True := trivial
theorem PySem.W.Fast.tw16211250066219371537 : True := trivial
theorem PySem.W.Fast.tw11437775509331902450 : True := trivial
theorem PySem.W.Fast.tw1941772532452025683 : True := trivial
theorem PySem.W.Fast.tw10355058770524297815 : True := trivial
theorem PySem.W.Fast.tw16373894541290197890 : True := trivial
theorem PySem.W.Fast.tw8597255552024191325 : True := trivial
theorem PySem.W.Fast.tw16211059567780110871 : True := trivial
theorem PySem.W.Fast.tw5418252731127072720 : True := trivial
theorem PySem.W.Fast.tw15057975727295439130 : True := trivial
theorem PySem.W.Fast.tw5898966269747004750 : True := trivial
theorem PySem.W.Fast.tw1965637311186047270 : True := trivial
theorem PySem.W.Fast.tw9292695591050254218 : True := trivial
theorem PySem.W.Fast.tw5473010635630646944 : True := trivial
theorem PySem.W.Fast.tw5224208480985408918 : True := trivial
theorem PySem.W.Fast.tw8247702870133225851 : True := trivial
theorem PySem.W.Fast.tw6333415968187638049 : True := trivial
theorem PySem.W.Fast.tw1133486383331993411 : True := trivial
theorem PySem.W.Fast.tw8195359069502802384 : True := trivial
theorem PySem.W.Fast.tw3047200989355202897 : True := trivial
theorem PySem.W.Fast.tw9005605966267013596 : True := trivial
theorem PySem.W.Fast.tw2532869096971970851 : True := trivial
theorem PySem.W.Fast.tw10692674608359761120 : True := trivial
theorem PySem.W.Fast.tw10555429360551077975 : True := trivial
theorem PySem.W.Fast.tw5653248744982418861 : True := trivial
theorem PySem.W.Fast.tw17498432514028002006 : True := trivial
theorem PySem.W.Fast.tw1930429055797859992 : True := trivial
theorem PySem.W.Fast.tw14763995733924257355 : True := trivial
theorem PySem.W.Fast.tw14077997835540801399 : True := trivial
theorem PySem.W.Fast.tw13208316779951451982 : True := trivial
theorem PySem.W.Fast.tw7115909827962134717 : True := trivial
theorem PySem.W.Fast.tw1269490647354759904 : True := trivial
theorem PySem.W.Fast.tw11550648694115896687 : True := trivial
theorem PySem.W.Fast.tw12255128195566187380 : True := trivial
theorem PySem.W.Fast.tw7760809791627749556 : True := trivial
theorem PySem.W.Fast.tw10477107903190792329 : True := trivial
theorem PySem.W.Fast.tw9342924436346980149 : True := trivial
theorem PySem.W.Fast.tw10033242437049629886 : True := trivial
theorem PySem.W.Fast.tw4072024972197615375 : True := trivial
theorem PySem.W.Fast.tw10097136410916092996 : True := trivial
theorem PySem.W.Fast.tw3601183176619585900 : True := trivial
theorem PySem.W.Fast.tw14981393557839160075 : True := trivial
theorem PySem.W.Fast.tw6740213512416957504 : True := trivial
theorem PySem.W.Fast.tw14978388957109058993 : True := trivial
theorem PySem.W.Fast.tw3617782998564401304 : True := trivial
theorem PySem.W.Fast.tw2584498427322775120 : True := trivial
theorem PySem.W.Fast.tw5953781654781310277 : True := trivial
theorem PySem.W.Fast.tw15054478496494698246 : True := trivial
theorem PySem.W.Fast.tw15167773504355264559 : True := trivial
theorem PySem.W.Fast.tw7482068050651517772 : True := trivial
theorem PySem.W.Fast.tw1633388038435241514 : True := trivial
theorem PySem.W.Fast.tw11383216313018851873 : True := trivial
theorem PySem.W.Fast.tw13505622296530424343 : True := trivial
theorem PySem.W.Fast.tw18151690231800449517 : True := trivial
theorem PySem.W.Fast.tw5926269505539710734 : True := trivial
open PySem PySem.W PyProof.Rows
set_option maxRecDepth 100000 in
set_option maxHeartbeats 0 in
theorem PySem.Challenge.cw_warmrows_k09_what_tables_are_holds : PySem.Challenge.rw_warmrows_k09_what_tables_are.Holds := by
 w_on; o_law; k_head; (case hw=>w_witness2)
 k_fill
 refine K09.walk (l:=PySem.Challenge.rw_warmrows_k09_what_tables_are) rfl rfl (fun w h Y=>PySem.W.kIn_of Y) ?F
 case F=>
  intro w mg fa h KX G hmg
  refine' K09.all_mk KX G hmg (K09.mkF KX G ?a0 ?l0 ?c0 ?k0) (K09.mkF KX G ?a1 ?l1 ?c1 ?k1) (K09.mkF KX G ?a2 ?l2 ?c2 ?k2) (K09.mkF KX G ?a3 ?l3 ?c3 ?k3) (K09.mkF KX G ?a4 ?l4 ?c4 ?k4) (K09.mkF KX G ?a5 ?l5 ?c5 ?k5) (K09.mkF KX G ?a6 ?l6 ?c6 ?k6) (K09.mkF KX G ?a7 ?l7 ?c7 ?k7) (K09.mkF KX G ?a8 ?l8 ?c8 ?k8) (K09.mkF KX G ?a9 ?l9 ?c9 ?k9) (K09.mkF KX G ?a10 ?l10 ?c10 ?k10) (K09.mkF KX G ?a11 ?l11 ?c11 ?k11) (K09.mkF KX G ?a12 ?l12 ?c12 ?k12) (K09.mkF KX G ?a13 ?l13 ?c13 ?k13) (K09.mkF KX G ?a14 ?l14 ?c14 ?k14) (K09.mkF KX G ?a15 ?l15 ?c15 ?k15) (K09.mkF KX G ?a16 ?l16 ?c16 ?k16) (K09.mkF KX G ?a17 ?l17 ?c17 ?k17) (K09.mkF KX G ?a18 ?l18 ?c18 ?k18) (K09.mkF KX G ?a19 ?l19 ?c19 ?k19) (K09.mkF KX G ?a20 ?l20 ?c20 ?k20) (K09.mkF KX G ?a21 ?l21 ?c21 ?k21) (K09.mkF KX G ?a22 ?l22 ?c22 ?k22) (K09.mkF KX G ?a23 ?l23 ?c23 ?k23) (K09.mkF KX G ?a24 ?l24 ?c24 ?k24) (K09.mkF KX G ?a25 ?l25 ?c25 ?k25) (K09.mkF KX G ?a26 ?l26 ?c26 ?k26) (K09.mkF KX G ?a27 ?l27 ?c27 ?k27) (K09.mkF KX G ?a28 ?l28 ?c28 ?k28) (K09.mkF KX G ?a29 ?l29 ?c29 ?k29) (K09.mkF KX G ?a30 ?l30 ?c30 ?k30) (K09.mkF KX G ?a31 ?l31 ?c31 ?k31) (K09.mkF KX G ?a32 ?l32 ?c32 ?k32) (K09.mkF KX G ?a33 ?l33 ?c33 ?k33) (K09.mkF KX G ?a34 ?l34 ?c34 ?k34) (K09.mkF KX G ?a35 ?l35 ?c35 ?k35) (K09.mkF KX G ?a36 ?l36 ?c36 ?k36) (K09.mkF KX G ?a37 ?l37 ?c37 ?k37) (K09.mkF KX G ?a38 ?l38 ?c38 ?k38) (K09.mkF KX G ?a39 ?l39 ?c39 ?k39) (K09.mkF KX G ?a40 ?l40 ?c40 ?k40) (K09.mkF KX G ?a41 ?l41 ?c41 ?k41) (K09.mkF KX G ?a42 ?l42 ?c42 ?k42) (K09.mkF KX G ?a43 ?l43 ?c43 ?k43) (K09.mkF KX G ?a44 ?l44 ?c44 ?k44) (K09.mkF KX G ?a45 ?l45 ?c45 ?k45) (K09.mkF KX G ?a46 ?l46 ?c46 ?k46) (K09.mkF KX G ?a47 ?l47 ?c47 ?k47) (K09.mkF KX G ?a48 ?l48 ?c48 ?k48) ?z0 ?z1 ?z2 ?z3 ?z4 ?z5 ?z6 ?z7 ?z8 ?z9 ?z10 ?z11 ?z12 ?z13 ?z14 ?z15 ?z16 ?z17   ?yLETTERS ?yMOST_LETTERS ?yMOST_KINDS ?yMOST_NAMES ?yMOST_BODY
  case a0 | l0 | c0 | k0 | a1 | l1 | c1 | k1 | a2 | l2 | c2 | k2 | a3 | l3 | c3 | k3 | a4 | l4 | c4 | k4 | a5 | l5 | c5 | k5 | a6 | l6 | c6 | k6 | a7 | l7 | c7 | k7 | a8 | l8 | c8 | k8 | a9 | l9 | c9 | k9 | a10 | l10 | c10 | k10 | a11 | l11 | c11 | k11 | a12 | l12 | c12 | k12 | a13 | l13 | c13 | k13 | a14 | l14 | c14 | k14 | a15 | l15 | c15 | k15 | a16 | l16 | c16 | k16 | a17 | l17 | c17 | k17 | a18 | l18 | c18 | k18 | a19 | l19 | c19 | k19 | a20 | l20 | c20 | k20 | a21 | l21 | c21 | k21 | a22 | l22 | c22 | k22 | a23 | l23 | c23 | k23 | a24 | l24 | c24 | k24 | a25 | l25 | c25 | k25 | a26 | l26 | c26 | k26 | a27 | l27 | c27 | k27 | a28 | l28 | c28 | k28 | a29 | l29 | c29 | k29 | a30 | l30 | c30 | k30 | a31 | l31 | c31 | k31 | a32 | l32 | c32 | k32 | a33 | l33 | c33 | k33 | a34 | l34 | c34 | k34 | a35 | l35 | c35 | k35 | a36 | l36 | c36 | k36 | a37 | l37 | c37 | k37 | a38 | l38 | c38 | k38 | a39 | l39 | c39 | k39 | a40 | l40 | c40 | k40 | a41 | l41 | c41 | k41 | a42 | l42 | c42 | k42 | a43 | l43 | c43 | k43 | a44 | l44 | c44 | k44 | a45 | l45 | c45 | k45 | a46 | l46 | c46 | k46 | a47 | l47 | c47 | k47 | a48 | l48 | c48 | k48 | z0 | z1 | z2 | z3 | z4 | z5 | z6 | z7 | z8 | z9 | z10 | z11 | z12 | z13 | z14 | z15 | z16 | z17 | yLETTERS | yMOST_LETTERS | yMOST_KINDS | yMOST_NAMES | yMOST_BODY=>k_is
end
