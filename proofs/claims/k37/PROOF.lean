import PyProof.Rows.All
import Wide.All
import OpenK.AllK
import Wide.FinOn
import Lean
import PyProof.EqAt
import PyProof.EqKinds
import PyProof.TupleCall
import KE.KTryMore
import PyProof.ExcAttrAll.ValueError
import PyProof.ExcBaseAll.ValueError
import PyProof.DictWalks
import PyProof.EnumIter
import PyProof.EnumFor
import PyProof.EnumMake
import PyProof.AttrMissHeap
import KE.KDictOf
import KE.KDictList
import PyProof.StrOps2
import KE.KSortTup
import PyProof.NeKinds
import PyProof.Rows.StrJoin2
import PySem.Challenge.RW_warmrows_k37_names_of_bodies
import PyProof.Rows.SortStr
import PyProof.TupleOfSeq
import PyProof.ZipIter
import PyProof.Rows.SetFrom
import PyProof.WalksMore
import KE.KRevIter
import PyProof.TupleOps
import KE.KLam
import PyProof.Rows.CallKwBuiltin
set_option Elab.async false
set_option linter.all false
set_option maxRecDepth 100000
set_option maxHeartbeats 4000000
open PySem renaming Value→rn,Shared→sr,wpAny→ut,Program→uv,Builtin→uA,model→uB,starEach→uC,FuncData→vy,mainGlobals→ww,World→xf,Around→xn,NameKind→xF,bootBuiltins→ye,sysModules→ym,compareOp→yo,backTo→zg,IsPair→zz,DictEntry→Do,binaryOp→Ff,IsZip→Hd,pyNext→Hn,codeAny→HH,behindInMarks→HR,assignEach→JP,keywordEach→JS,sliceBounds→Mm,attributeBase→M3,relabel→NB,field→O3,letOwnedTupleGo→PP,getItem→QQ,callWith→Q4,IsEnum→RC,wpAny_execs_cons→Th,backToKw→Tt,noFill_tuple_add→Tu,builtinsNs→Tz,holding→TF,IsPart→TQ,valueAt→TV,swapsWith→TY,BindsTo→Ua,callerA→Uc,Code→Ud
open Or renaming inl→ue,inr→My
open PySem.Builtin.SmallTypes renaming ownedTupleIsFree→vz,nextOf→xj,ownedTupleHandOut→xN
open PySem.Value renaming ref→wy,none→yf,int→yz,isStrOf→Ha,str→MT,type→Tw
open PySem.Obj renaming mapSeq→xm
open PySem.SeqAt renaming EqAt→xx
open PySem.Builtin.Tuple renaming tupleExact→zb
open Sum renaming inr→An,inl→Tv
open False renaming elim→Be
open PySem.NameKind renaming free→By,cell→Hm
open PySem.Txt renaming slice→BV
open PySem.Builtin.Slice renaming slicePlaces→De,sliceAdjust→HQ
open Pure renaming pure→Eg
open PySem.Builtin.List renaming listTooLong→Hb
open Classical renaming propDecidable→Hc
open ForInStep renaming yield→Hk
open PyProof.Rows renaming AllBare→PQ,assignInOrder_cons→QR,envOfC→Su,IsTup→TX,IntsAre→Ub
open PySem.Calls renaming spliced_cons→Q3
open PySem.Shared renaming heap→R1
open PySem.Around renaming under→TJ
open PyProof.Rows.IsTup renaming new→T9
abbrev aa:=@List.length_map
abbrev ac:=@PySem.wpAny_bind
abbrev ae:=@List.length_append
abbrev af:=@List.getElem?_eq_getElem
abbrev ai:=@PySem.Heap.get?_push_of_some
abbrev am:=@Nat.le_refl
abbrev ar:=@List.length_cons
abbrev av:=@List.append_nil
abbrev aw:=@PySem.lookup_relabel_local
abbrev ay:=@PySem.wpAny_pure
abbrev az:=@List.map_append
abbrev aE:=@List.take_of_length_le
abbrev aI:=@List.append_assoc
abbrev aS:=@PySem.Heap.get?_push_size
abbrev aT:=@List.getElem?_eq_some_iff
abbrev bb:=@List.size_toArray
abbrev bc:=@List.mem_cons
abbrev bg:=@decide_eq_true
abbrev bj:=@List.getElem?_map
abbrev bn:=@Nat.zero_le
abbrev bo:=@Bool.false_ne_true
abbrev br:=@PySem.F.plainAttrs_list
abbrev bu:=@PySem.Heap.lt_size
abbrev bz:=@List.flatten_cons
abbrev bE:=@List.mem_cons_self
abbrev bS:=@List.mem_singleton
abbrev bX:=@List.mem_append_right
abbrev cf:=@List.length_take
abbrev ci:=@PySem.sizeLine_eq
abbrev cw:=@PySem.F.slot_list_append
abbrev cy:=@PySem.F.type_list_append
abbrev cz:=@List.mem_cons_of_mem
abbrev cE:=@List.cons_append
abbrev cK:=@if_neg
abbrev cS:=@List.nil_append
abbrev de:=@List.length_nil
abbrev dm:=@List.getElem_mem
abbrev dq:=@List.flatten_nil
abbrev dC:=@if_pos
abbrev dE:=@Nat.ne_of_lt
abbrev dL:=@Option.some.inj
abbrev dP:=@List.mem_append
abbrev dQ:=@PySem.PassesOwn.never
abbrev dS:=@Nat.lt_of_lt_of_le
abbrev em:=@List.length_singleton
abbrev eA:=@List.mem_map
abbrev eB:=@List.map_cons
abbrev eI:=@Bool.false_eq_true
abbrev eJ:=@of_decide_eq_true
abbrev eL:=@List.not_mem_nil
abbrev eM:=@PySem.Paired.length
abbrev eQ:=@PySem.wpAny_field
abbrev eR:=@Nat.le_trans
abbrev eS:=@List.mem_filter
abbrev eW:=@PySem.wpAny_setField_rec
abbrev fb:=@PySem.mem_of_lookup
abbrev ff:=@decide_eq_false
abbrev fg:=@decide_eq_true_iff
abbrev fh:=@List.mem_append_left
abbrev fk:=@PySem.wpAny_callSpecial?_slot
abbrev fz:=@Nat.ne_of_gt
abbrev fE:=@List.all_eq_true
abbrev fF:=@List.length_filter_le
abbrev fR:=@PySem.W.mg_none_of
abbrev fS:=@PySem.Heap.size_push
abbrev fT:=@PySem.wpAny_mono
abbrev gh:=@List.mem_of_getElem?
abbrev gr:=@List.filter_cons
abbrev gu:=@List.take_append_drop
abbrev gv:=@PySem.wpAny_holding
abbrev gx:=@List.getElem_of_mem
abbrev gy:=@List.map_take
abbrev gE:=@Classical.byContradiction
abbrev gI:=@List.nodup_cons
abbrev gL:=@PySem.Heap.get?_update_other
abbrev gN:=@PySem.wpAny_seqItems
abbrev gT:=@PyProof.Rows.slot_tuple_getitem
abbrev gX:=@Bool.eq_iff_iff
abbrev hU:=@PySem.wpAny_call_entry
abbrev ib:=@PySem.wpAny_Call_Name_kw
abbrev ic:=@List.lookup_cons
abbrev ie:=@PySem.F.slot_list_extend
abbrev ii:=@PySem.F.type_list_extend
abbrev ij:=@List.length_replicate
abbrev ik:=@PySem.wpAny_newObj_type
abbrev ir:=@if_false
abbrev iA:=@PySem.W.kia_one
abbrev iE:=@List.getElem_map
abbrev iF:=@Array.length_toList
abbrev iL:=@List.flatten_append
abbrev iN:=@Nat.lt_irrefl
abbrev iO:=@Option.isSome_iff_exists
abbrev iP:=@or_false
abbrev iS:=@PySem.F.slot_zip_next
abbrev iX:=@List.any_eq_true
abbrev i4:=@PyProof.Rows.callWith_type1
abbrev i5:=@PySem.W.mg_of
abbrev i6:=@PySem.wpAny_truthy_bool
abbrev i7:=@List.getElem?_append_right
abbrev i8:=@List.getD_eq_getElem?_getD
abbrev i9:=@beq_eq_false_iff_ne
abbrev ja:=@List.replicate_succ
abbrev jb:=@Option.map_some
abbrev jn:=@List.getElem?_append_left
abbrev jp:=@Array.getElem?_eq_getElem
abbrev js:=@List.filter_append
abbrev jv:=@List.mem_range
abbrev jI:=@PySem.Around.under_plainId
abbrev jS:=@PySem.wpAny_rule
abbrev j0:=@List.length_drop
abbrev j3:=@Bool.and_eq_true
abbrev kg:=@List.mem_filterMap
abbrev ki:=@beq_iff_eq
abbrev km:=@PySem.F.slot_tuple_iterator_next
abbrev kq:=@Ne.symm
abbrev ku:=@if_true
abbrev ky:=@PySem.wpAny_passesOwn
abbrev kA:=@List.find?_cons
abbrev kB:=@PySem.codeAny_builtin
abbrev kC:=@PySem.wpAny_updateSeq_pair
abbrev kF:=@PySem.Heap.get?_push_ne
abbrev kG:=@PySem.wpAny_onRaise
abbrev kH:=@PySem.wpAny_attempt
abbrev kK:=@PySem.AutoSeq1.wpAny_loadPart'
abbrev kL:=@List.map_congr_left
abbrev kM:=@List.nodup_nil
abbrev kN:=@PySem.wpAny_getItem_str_slice
abbrev kP:=@List.cons_ne_nil
abbrev kQ:=@PySem.codeAny_mono
abbrev kR:=@PySem.W.cellsFrom_some
abbrev kT:=@List.forIn_cons
abbrev kU:=@PySem.F.slot_enumerate_next
abbrev kX:=@PySem.F.args_zip_next_1
abbrev li:=@Nat.lt_succ_of_lt
abbrev lj:=@List.nodup_append
abbrev lw:=@List.forIn_nil
abbrev lx:=@PySem.wpAny_letGo
abbrev ly:=@List.zipIdx_cons
abbrev lz:=@PySem.F.entry_zip_next
abbrev lI:=@Nat.le_add_right
abbrev lL:=@PySem.Heap.size_update
abbrev lP:=@PySem.F.plain_any_loop
abbrev lS:=@List.mem_flatten
abbrev lT:=@PySem.F.slot_tuple_getattribute
abbrev mf:=@Int.toNat_of_nonneg
abbrev mi:=@List.flatMap_append
abbrev mn:=@PySem.wpAny_standAt
abbrev mv:=@List.getElem?_take_of_lt
abbrev mw:=@PySem.F.args_tuple_add_2
abbrev my:=@PySem.plainId_quiet
abbrev mB:=@PyProof.Rows.listUpdate_at
abbrev mE:=@List.zipIdx_nil
abbrev mI:=@PySem.W.callWith_K
abbrev mM:=@PySem.tupleKind_room_in1
abbrev mS:=@PySem.wpAny_pyNext_tuple_item
abbrev nh:=@PySem.F.entry_tuple_add
abbrev nk:=@PySem.wpAny_pyNext_tuple_end
abbrev nr:=@PySem.F.slot_tuple_add
abbrev nw:=@PySem.Calls.callWith_builtin
abbrev ny:=@Nat.lt_trans
abbrev nz:=@PySem.wpAny_newTuple
abbrev nB:=@PySem.wpAny_pyIter_enum
abbrev nE:=@List.isEmpty_cons
abbrev nI:=@List.flatMap_cons
abbrev nL:=@Nat.le_succ_of_le
abbrev nV:=@List.map_map
abbrev nX:=@PySem.wpAny_isInstance
abbrev n0:=@PySem.wpAny_pyIter_zip
abbrev n5:=@Nat.succ_le_succ
abbrev n9:=@Nat.le_max_right
abbrev oq:=@List.any_cons
abbrev ow:=@Array.mem_toList_iff
abbrev oz:=@Nat.le_succ
abbrev oB:=@PySem.Calls.evalArgs_plain
abbrev oC:=@PySem.codeAny_call_builtin
abbrev oP:=@Array.toArray_toList
abbrev oQ:=@List.mem_of_mem_take
abbrev oS:=@PySem.wpAny_execs_nil
abbrev o0:=@PySem.post_val_or_str
abbrev pe:=@PyProof.Rows.get?_update_seq
abbrev pj:=@List.sum_append
abbrev pE:=@Nat.le_max_left
abbrev pM:=@Nat.not_lt_zero
abbrev pS:=@List.filterMap_cons
abbrev pT:=@PySem.W.plainGet_of
abbrev pV:=@Nat.le_of_lt
abbrev qh:=@PySem.Txt.slice_le
abbrev qi:=@Nat.zero_add
abbrev qq:=@PySem.call_meets
abbrev qv:=@PySem.isSubtype_stop
abbrev qA:=@Bool.not_false
abbrev qB:=@not_or
abbrev qE:=@PySem.wpAny_newList
set_option hygiene false
local macro_rules
|`(tactic|exists 1,$s:ident,$e:ident,$H,$a,$o,$n,$K:ident)=>`(tactic|(have $s:ident :=(Um $n : Same $H (upd $H $a $o));have $e:ident :=(ak : (upd $H $a $o) $a=some $o);generalize upd $H $a $o=$K at $s:ident $e:ident))
|`(‹0›)=>`(⟨rfl,rfl,rfl,by decide +kernel,rfl,by decide +kernel,by decide +kernel⟩)
|`(‹1›)=>`((hr.mono (by omega)))
|`(‹2›)=>`((fun cdv A outer s H vs Q E hr h=>?_))
|`(‹3›)=>`((by decide +kernel))
|`(‹4›)=>`((fun _ _=>rfl))
|`(‹5›)=>`((fun vs H Q E h=>?_))
|`(‹6›)=>`((uB X.prog X.w))
|`(‹7›)=>`((s.heap.objs.size+1))
|`(‹8›)=>`((fun z=>nomatch z))
|`(‹9›)=>`(⟨_,rfl,rfl,_,rfl,cG (bg rfl) ?_⟩)
|`(‹10›)=>`((aj (pv 0) (aj aC aq)))
|`(‹11›)=>`((seqObj "list" #[] 0))
|`(‹12›)=>`((cO I q (by simp)))
|`(‹13›)=>`((.cons (.str _) .nil))
|`(‹14›)=>`((fun hb=>?_))
|`(‹15›)=>`((.inr (aw rfl)))
|`(‹16›)=>`(⟨[_],rfl,rfl⟩)
|`(‹17›)=>`((ns.map V.str))
|`(‹18›)=>`((uB prog w))
|`(‹19›)=>`((Str × Addr))
|`(‹20›)=>`((aF D.aO Ga ‹1› (by rfl) ‹10›))
|`(‹21›)=>`(⟨_,rfl,rfl,_,rfl,bF (ne_str ‹3›) ?_⟩)
|`(‹22›)=>`((aV aU (pv 0) aC ‹4›))
|`(‹23›)=>`((by omega))
|`(‹24›)=>`((aV aU (pv 1) aC ‹4›))
section
namespace L2
open PySem PySem.Spec PyProof.Rows
abbrev LL:=List (List Str)
abbrev LS:=List Str
abbrev LO:=List (Addr × Obj)
abbrev ES:=rn->sr->Prop
abbrev MG:=Str->Option rn
abbrev LU:=List rn
abbrev LP:=List PyData
abbrev AV:=Array rn
abbrev LA:=List Addr
abbrev Key:=Sum Int Str
def vP:Key->rn->Bool
 | .inl k,v=>rn.isInt k v
 | .inr x,v=>Ha x v
def Td(w:xf):Key->Int
 | .inl k=>hashInt k
 | .inr x=>hashStr w x
theorem dY:∀ {k:Key} {v:rn},vP k v=true->(∃ i t,k=Tv i/\v=yz i t)\/(∃ x t,k=An x/\v=MT x t)
 | .inl i,v,h=>by
  obtain ⟨t,e⟩:=rn.isInt_shape (k:=i) (v:=v) h;exact .inl ⟨i,t,rfl,e⟩
 | .inr x,v,h=>by
  obtain ⟨t,e⟩:=rn.isStrOf_shape (x:=x) (v:=v) h;exact .inr ⟨x,t,rfl,e⟩
theorem Gy(i:Int)(t:Tok):vP (.inl i) (.int i t)=true:=by simp [vP,rn.isInt]
theorem FZ(x:Str)(t:Tok):vP (.inr x) (.str x t)=true:=by simp [vP,Ha]
theorem QF(a b:Int):decide ((Tv a:Key)=Tv b)=(a == b):=by
 by_cases e:a=b
 ·subst e; simp
 ·have h:¬ (Tv a:Key)=Tv b:=fun q=>e (Tv.inj q);rw [ff h];exact(i9.mpr e).symm
theorem O9(a b:Str):decide ((An a:Key)=An b)=decide (a=b):=by
 by_cases e:a=b
 ·subst e; simp
 ·have h:¬ (An a:Key)=An b:=fun q=>e (An.inj q);rw [ff h,ff e]
theorem QK(a:Int)(b:Str):decide ((Tv a:Key)=An b)=false:=ff (fun q=>nomatch q)
theorem Qc(a:Str)(b:Int):decide ((An a:Key)=Tv b)=false:=ff (fun q=>nomatch q)
def cC(prog:uv)(w:xf):PySem.KeyKind prog w Key where
 is:=vP
 hash:=Td w
 inj:=fun v a b ha hb=>by
  rcases dY ha with ⟨i,t,rfl,rfl⟩ | ⟨x,t,rfl,rfl⟩
  ·rcases dY hb with ⟨j,u,rfl,e⟩ | ⟨y,u,rfl,e⟩
   ·injection e with e1 _; rw [e1]
   ·exact nomatch e
  ·rcases dY hb with ⟨j,u,rfl,e⟩ | ⟨y,u,rfl,e⟩
   ·exact nomatch e
   ·injection e with e1 _; rw [e1]
 byValue:=fun k v h=>by
  rcases dY h with ⟨i,t,rfl,rfl⟩ | ⟨x,t,rfl,rfl⟩ <;> rfl
 pyHash:=fun hv h=>by
  rcases dY hv with ⟨i,t,rfl,rfl⟩ | ⟨x,t,rfl,rfl⟩
  ·exact wpAny_pyHash_int h
  ·exact wpAny_pyHash_str h
 eqBool:=fun hu hv h=>by
  rcases dY hu with ⟨i,t,rfl,rfl⟩ | ⟨x,t,rfl,rfl⟩
  ·rcases dY hv with ⟨j,u,rfl,rfl⟩ | ⟨y,u,rfl,rfl⟩
   ·rw [QF] at h; exact wpAny_eqBool_int h
   ·rw [QK] at h; exact xx.int_str i t y u _ _ _ _ h
  ·rcases dY hv with ⟨j,u,rfl,rfl⟩ | ⟨y,u,rfl,rfl⟩
   ·rw [Qc] at h; exact xx.str_int x t j u _ _ _ _ h
   ·rw [O9] at h; exact wpAny_eqBool_str h
 «strs»:=fun k x t v h=>by
  rcases dY h with ⟨i,u,rfl,e⟩ | ⟨y,u,rfl,e⟩
  ·exact nomatch e
  ·injection e with e1 _;subst e1;cases v <;> rfl
theorem CG(prog:uv)(w:xf)(k:Key)(v:rn):(cC prog w).is k v=vP k v:=rfl
theorem zZ(prog:uv)(w:xf)(i:Int)(t:Tok):(cC prog w).is (.inl i) (.int i t)=true:=Gy i t
theorem zG(prog:uv)(w:xf)(x:Str)(t:Tok):(cC prog w).is (.inr x) (.str x t)=true:=FZ x t
inductive V where
 | non | bl (b:Bool) | int (i:Int) | str (x:Str) | byt (b:Array UInt8) | flt (b:UInt64) | ref (a:Addr) | ty (n:String)
 deriving DecidableEq
abbrev LK0:=List (Key × V)
abbrev LV:=List V
abbrev OV:=Option V
def RelV:V->rn->Prop
 | .non,u=>u=yf
 | .bl b,u=>u=rn.bool b
 | .int i,u=>∃ t,u=yz i t
 | .str x,u=>∃ t,u=MT x t
 | .byt b,u=>∃ t,u=rn.bytes b t
 | .flt b,u=>∃ t,u=rn.float b t
 | .ref a,u=>u=wy a
 | .ty n,u=>u=Tw n
abbrev Vals:LV->LU->Prop:=Paired RelV
theorem Vals.length{xs:LV}{us:LU}(r:Vals xs us):xs.length=us.length:=eM r
theorem Vals.get:∀ {xs:LV} {us:LU} {i:Nat} {x:V},Vals xs us->xs[i]?=some x->∃ u,us[i]?=some u/\RelV x u
 | _,_,_,_,.nil,e=>by simp at e
 | _,_,0,_,.cons r _,e=>by simp at e; subst e; exact⟨_,rfl,r⟩
 | _,_,i+1,x,.cons _ t,e=>by
  obtain ⟨u,h1,h2⟩:=Vals.get (i:=i) (x:=x) t (by simpa using e);exact⟨u,by simpa using h1,h2⟩
theorem Vals.set{x:V}{u:rn}(r:RelV x u):∀ {xs:LV} {us:LU} (i:Nat),Vals xs us->Vals (xs.set i x) (us.set i u)
 | _,_,_,.nil=>.nil
 | _,_,0,.cons _ t=>.cons r t
 | _,_,i+1,.cons q t=>.cons q (Vals.set r i t)
theorem Vals.append:∀ {xs ys:LV} {us ws:LU},Vals xs us->Vals ys ws->Vals (xs++ys) (us++ws)
 | _,_,_,_,.nil,s=>s
 | _,_,_,_,.cons r t,s=>.cons r (Vals.append t s)
theorem Vals.take:∀ {xs:LV} {us:LU} (n:Nat),Vals xs us->Vals (xs.take n) (us.take n)
 | _,_,0,_=>.nil
 | _,_,_+1,.nil=>.nil
 | _,_,n+1,.cons r t=>.cons r (Vals.take n t)
theorem Vals.drop:∀ {xs:LV} {us:LU} (n:Nat),Vals xs us->Vals (xs.drop n) (us.drop n)
 | _,_,0,r=>r
 | _,_,_+1,.nil=>.nil
 | _,_,n+1,.cons _ t=>Vals.drop n t
def nu:OV->Option rn->Prop
 | some v,some u=>RelV v u
 | none,none=>True
 | _,_=>False
def KV{κ:Type}:List (κ × V)->List (κ × rn)->Prop:=Paired fun(p:κ × V) (q:κ × rn)=>p.1=q.1/\RelV p.2 q.2
def kV:Key->V
 | .inl i=>.int i
 | .inr x=>.str x
inductive HO where
 | lst (xs:LV)
 | tup (xs:LV)
 | dK (kvs:LK0) | dT (kvs:List (List Key × V))
 | set (S:Int->Bool) (n:Nat)
 | ins (C dx:Addr) (fs:List (Str × V))
 | own (x:Addr)
 | xd (fs:List (Str × V))
 | met (f x:Addr)
 | rng (lo hi:Int)
 | frz (o:Obj) (u:HO)
 | tbl (ps:AV)
 | ext (φ:Heap->Prop)
abbrev Hp:=Addr->Option HO
def upd(H:Hp)(a:Addr)(o:HO):Hp:=fun b=>if b=a then some o else H b
theorem ak{H:Hp}{a:Addr}{o:HO}:upd H a o a=some o:=by unfold upd; rw [dC rfl]
theorem au{H:Hp}{a b:Addr}{o:HO}(h:b≠a):upd H a o b=H b:=by unfold upd; rw [cK h]
theorem jM{H:Hp}{a:Addr}{o u:HO}:upd (upd H a o) a u=upd H a u:=by
 funext b; unfold upd; split <;> rfl
theorem bI{H:Hp}{a b:Addr}{o u:HO}(h:H a=some o)(h':H b=some u)(d:o≠u):a≠b:=by
 intro e; subst e; rw [h] at h'; exact d (dL h')
theorem aB{H:Hp}{a b:Addr}{o:HO}(h:H a=some o)(h':H b=none):a≠b:=by
 intro e; subst e; rw [h] at h'; cases h'
def NoD(h:Heap)(a:Addr):Prop:=∀ o,h.get? a=some o->o.dict=none
theorem pC(h:Heap)(its:AV):NoD (h.push { cls:=.type "tuple",data:=.seq its }) h.objs.size:=fun o e=>by
 rw [aS _ rfl] at e;cases e;rfl
section
variable (P:uv)(w:xf)
def dJ(H:Hp)(h:Heap)(a:Addr):HO->Prop
 | .lst xs=>xs.length<=sizeLine/\∃(its:LU) (n:Nat),Vals xs its/\h.get? a=some { cls:=.type "list",data:=.seq its.toArray n }
 | .tup xs=>(xs.length<=sizeLine/\NoD h a)/\∃ its:LU,Vals xs its/\TX h a its.toArray
 | .dK kvs=>kvs.length<=sizeLine/\(a == ym)=false/\∃ vs,KV kvs vs/\h.DictOf (cC P w) a vs
 | .dT kvs=>kvs.length<=sizeLine/\(a == ym)=false/\∃ xs:List (List Key × Addr × rn),
   Paired (fun(p:List Key × V) (q:List Key × Addr × rn)=>p.1=q.1/\H q.2.1=some (.tup (p.1.map kV))/\RelV p.2 q.2.2) kvs xs/\
   ∃ o es ep,h.get? a=some o/\o.ExactDict/\o.data=.dict es ep/\es.toList=xs.map (entryOfKey (tupleKind (cC P w)))/\(xs.map (·.1)).Nodup
 | .set S n=>h.SetOf (intKind P w) a S n
 | .ins C dx fs=>H dx=some (.own a)/\fs.length<=1000/\dx≠a/\h.get? a=some (PySem.W.instObj C dx)/\
   ∃ mA,h.Ns1 dx mA/\(∀ f,nu (fs.lookup f) (mA f))/\PySem.Within mA (fs.map (·.1))
 | .own _=>∃ o,h.get? a=some o
 | .xd fs=>∃ mA,h.Ns1 a mA/\∀ f,nu (fs.lookup f) (mA f)
 | .rng lo hi=>∃ t u v,h.get? a=some { cls:=.type "range",data:=.fields #[.int lo t,.int hi u,.int 1 v] }
 | .frz o u=>h.get? a=some o/\dJ H h a u
 | .tbl ps=>h.get? a=some { cls:=.none,data:=.fields ps }
 | .met f x=>h.get? a=some (PySem.W.methodObj (.ref f) (.ref x))
 | .ext φ=>φ h/\(∃ o,h.get? a=some o)/\∀ h1 h2:Heap,φ h1->(∀ o,h1.get? a=some o->h2.get? a=some o)->φ h2
def HOk(H:Hp)(h:Heap):Prop:=∀ a o,H a=some o->dJ P w H h a o
end
section
variable {P:uv}{w:xf}{H H':Hp}{h h':Heap}{a:Addr}{o:HO}
theorem dJ.lt(x:dJ P w H h a o):a < h.objs.size:=by
 cases o with
 | lst xs=>obtain ⟨_,_,_,_,e⟩:=x; exact bu e
 | tup xs=>obtain ⟨_,_,_,p⟩:=x; exact p.lt
 | dK kvs=>obtain ⟨_,_,_,_,o,_,_,e,_⟩:=x; exact bu e
 | dT kvs=>obtain ⟨_,_,_,_,o,_,_,e,_⟩:=x; exact bu e
 | set S n=>obtain ⟨o,_,_,_,e,_⟩:=x; exact bu e
 | ins C dx fs=>obtain ⟨_,_,_,e,_⟩:=x; exact bu e
 | own y=>obtain ⟨_,e⟩:=x; exact bu e
 | xd fs=>obtain ⟨_,⟨_,_,_,e,_⟩,_⟩:=x; exact bu e
 | rng lo hi=>obtain ⟨_,_,_,e⟩:=x; exact bu e
 | frz ob u=>obtain ⟨e,_⟩:=x; exact bu e
 | tbl ps=>exact bu (show h.get? a=some _ from x)
 | met f y=>exact bu (show h.get? a=some _ from x)
 | ext φ=>obtain ⟨_,⟨_,e⟩,_⟩:=x; exact bu e
theorem Paired.tM{α β:Type}{F G:α->β->Prop}:∀ {l₁:List α} {l₂:List β},Paired F l₁ l₂->(∀ a b,F a b->G a b)->Paired G l₁ l₂
 | _,_,.nil,_=>.nil
 | _,_,.cons r t,f=>.cons (f _ _ r) (Paired.tM t f)
abbrev Ue:=@Paired.tM
theorem dJ.stay(x:dJ P w H h a o)(k:∀ b u,(b=a\/H b=some (.own a))->h.get? b=some u->h'.get? b=some u)
  (ho:∀ b,H b=some (.own a)->H' b=some (.own a)) (ht:∀ b xs,H b=some (.tup xs)->H' b=some (.tup xs)):dJ P w H' h' a o:=by
 induction o with
 | lst xs=>obtain ⟨z,its,n,r,e⟩:=x; exact⟨z,its,n,r,k _ _ (.inl rfl) e⟩
 | tup xs=>
  obtain ⟨z,its,r,ob,e,c⟩:=x;have e':=k _ _ (.inl rfl) e;exact⟨⟨z.1,fun o q=>by rw [e'] at q; cases q; exact z.2 _ e⟩,its,r,ob,e',c⟩
 | dK kvs=>obtain ⟨z,y,vs,r,ob,es,ep,e,c⟩:=x; exact⟨z,y,vs,r,ob,es,ep,k _ _ (.inl rfl) e,c⟩
 | dT kvs=>
  obtain ⟨z,y,xs,r,ob,es,ep,e,c⟩:=x;exact⟨z,y,xs,Ue r fun p q z=>⟨z.1,ht _ _ z.2.1,z.2.2⟩,ob,es,ep,k _ _ (.inl rfl) e,c⟩
 | set S n=>obtain ⟨ob,es,ep,t,e,c⟩:=x; exact⟨ob,es,ep,t,k _ _ (.inl rfl) e,c⟩
 | ins C dx fs=>
  obtain ⟨d,z,ne,e,mA,⟨od,es,ep,e2,c⟩,r⟩:=x;exact⟨ho _ d,z,ne,k _ _ (.inl rfl) e,mA,⟨od,es,ep,k _ _ (.inr d) e2,c⟩,r⟩
 | own y=>obtain ⟨ob,e⟩:=x; exact⟨ob,k _ _ (.inl rfl) e⟩
 | xd fs=>obtain ⟨mA,⟨od,es,ep,e,c⟩,r⟩:=x; exact⟨mA,⟨od,es,ep,k _ _ (.inl rfl) e,c⟩,r⟩
 | rng lo hi=>obtain ⟨t,u,v,e⟩:=x; exact⟨t,u,v,k _ _ (.inl rfl) e⟩
 | frz ob u ih=>obtain ⟨e,q⟩:=x; exact⟨k _ _ (.inl rfl) e,ih q⟩
 | tbl ps=>
  have e:h.get? a=some { cls:=.none,data:=.fields ps }:=x;show h'.get? a=some { cls:=.none,data:=.fields ps };exact k a _ (.inl rfl) e
 | met f y=>
  have e:h.get? a=some (PySem.W.methodObj (.ref f) (.ref y)):=x;show h'.get? a=some (PySem.W.methodObj (.ref f) (.ref y));exact k a _ (.inl rfl) e
 | ext φ=>obtain ⟨p,⟨o,e⟩,st⟩:=x; exact⟨st _ _ p fun o q=>k _ _ (.inl rfl) q,⟨o,k _ _ (.inl rfl) e⟩,st⟩
theorem HOk.lt(x:HOk P w H h)(e:H a=some o):a < h.objs.size:=(x a o e).lt
theorem HOk.fresh(x:HOk P w H h)(e:h.objs.size<=a):H a=none:=by
 cases q:H a with
 | none=>rfl
 | some u=>exact absurd (dS (x.lt q) e) (iN _)
theorem HOk.kept(x:HOk P w H h)(k:∀ b u,h.get? b=some u->h'.get? b=some u):HOk P w H h':=fun a o e=>
 (x a o e).stay (fun b u _ q=>k b u q) (fun _ q=>q) fun _ _ q=>q
theorem HOk.laid(x:HOk P w H h)(k:∀ b u,h.get? b=some u->h'.get? b=some u)(hp:h.objs.size<=a)(new:dJ P w (upd H a o) h' a o):HOk P w (upd H a o) h':=fun b u e=>by
 have hn:=x.fresh hp
 by_cases hb:b=a
 ·subst hb; rw [ak] at e; cases e; exact new
 ·rw [au hb] at e;exact(x b u e).stay (fun c v _ q=>k c v q) (fun c q=>by rw [au (aB q hn)]; exact q) fun c xs q=>by rw [au (aB q hn)]; exact q
end
def Rd(H:Hp)(a:Addr)(u:HO):Prop:=H a=some u\/∃ o,H a=some (.frz o u)
theorem Rd.ok{P:uv}{w:xf}{H:Hp}{h:Heap}{a:Addr}{u:HO}(r:Rd H a u)(x:HOk P w H h):dJ P w H h a u:=by
 rcases r with r | ⟨o,r⟩
 ·exact x a u r
 ·obtain ⟨_,q⟩:=x a _ r;exact q
def Mut:Option HO->Prop
 | some (.lst _)=>True
 | some (.dK _)=>True
 | some (.dT _)=>True
 | some (.set _ _)=>True
 | some (.ins _ _ _)=>True
 | some (.ext _)=>True
 | _=>False
section
variable {P:uv}{w:xf}{H:Hp}{h h':Heap}{x e:Addr}{o':HO}
theorem HOk.write(ok:HOk P w H h)(mu:Mut (H x))(he:e=x\/H e=some (.own x))(k:∀ b u,b≠e->h.get? b=some u->h'.get? b=some u)(heo:∃ u,h'.get? e=some u)
  (new:dJ P w (upd H x o') h' x o'):HOk P w (upd H x o') h':=fun b u q=>by
 have nown:∀ c y,H c=some (.own y)->c≠x:=fun c y r z=>by subst z; rw [r] at mu; exact mu
 have ntup:∀ c xs,H c=some (.tup xs)->c≠x:=fun c xs r z=>by subst z; rw [r] at mu; exact mu
 by_cases hb:b=x
 ·subst hb; rw [ak] at q; cases q; exact new
 ·rw [au hb] at q
  by_cases hbe:b=e
  ·have q':H b=some (.own x):=by
    rcases he with z | z
    ·exact absurd (hbe.trans z) hb
    ·rw [hbe]; exact z
   rw [q] at q'; cases q';obtain ⟨v,hv⟩:=heo;exact⟨v,by rw [hbe]; exact hv⟩
  ·refine(ok b u q).stay (fun c v hc r=>k c v ?_ r) (fun c r=>by rw [au (nown c b r)]; exact r) fun c xs r=>by rw [au (ntup c xs r)]; exact r
   rcases hc with rfl | hc
   ·exact hbe
   ·rintro rfl;rcases he with z | z
    ·exact nown c b hc z
    ·rw [hc] at z; cases z; exact hb rfl
end
structure Un (fs ex:LA) (H H':Hp) (h h':Heap):Prop where
 keep:∀ b o,h.get? b=some o->H b=none->b ∉ fs->b ∉ ex->h'.get? b=some o
 slot:∀ b o,h.get? b=some o->H b=none->b∈fs->b ∉ ex->∃ sl,h'.get? b=some { o with slots:=sl }
 free:∀ b o,h.get? b=some o->H b=none->b ∉ ex->H' b=none
 there:∀ b o,h.get? b=some o->b ∉ ex->∃ o',h'.get? b=some o'
 tups:∀ b xs,H b=some (.tup xs)->H' b=some (.tup xs)
 xZ:∀ b o u,H b=some (.frz o u)->H' b=some (.frz o u)
 yd:∀ b ps,H b=some (.tbl ps)->∃ more,H' b=some (.tbl (ps++more))
section
variable {fs fs' ex ex':LA}{H H1 H2:Hp}{h h1 h2 h':Heap}{a x e:Addr}{o:HO}
theorem Un.any(u:Un fs ex H H1 h h1){b:Addr}{ob:Obj}(q:h.get? b=some ob)(n:H b=none)(hx:b ∉ ex):∃ sl,h1.get? b=some { ob with slots:=sl }:=by
 by_cases hb:b∈fs
 ·exact u.slot b ob q n hb hx
 ·exact⟨ob.slots,u.keep b ob q n hb hx⟩
theorem Un.kept(k:∀ b u,h.get? b=some u->h'.get? b=some u):Un fs ex H H h h':=
 ⟨fun b ob q _ _ _=>k b ob q,fun b ob q _ _ _=>⟨ob.slots,k b ob q⟩,fun _ _ _ n _=>n,fun b ob q _=>⟨ob,k b ob q⟩,fun _ _ q=>q,fun _ _ _ q=>q,fun _ ps q=>⟨#[],by rw [q]; simp⟩⟩
theorem Un.refl:Un fs ex H H h h:=Un.kept fun _ _ q=>q
theorem Un.laid(k:∀ b u,h.get? b=some u->h'.get? b=some u)(hp:h.objs.size<=a)(hn:H a=none):Un fs ex H (upd H a o) h h' where
 keep:=fun b u q _ _ _=>k b u q
 slot:=fun b u q _ _ _=>⟨u.slots,k b u q⟩
 free:=fun b u q n _=>by rw [au (dE (dS (bu q) hp))]; exact n
 there:=fun b u q _=>⟨u,k b u q⟩
 tups:=fun b xs q=>by rw [au (aB q hn)]; exact q
 xZ:=fun b u xs q=>by rw [au (aB q hn)]; exact q
 yd:=fun b ps q=>⟨#[],by rw [au (aB q hn),q]; simp⟩
theorem Un.write(mu:Mut (H x))(he:e=x\/H e=some (.own x))(k:∀ b u,b≠e->h.get? b=some u->h'.get? b=some u)(heo:∃ u,h'.get? e=some u):Un fs ex H (upd H x o) h h':=by
 have hx:∀ b,H b=none->b≠x:=fun b n z=>by subst z; rw [n] at mu; exact mu
 have hb:∀ b,H b=none->b≠e:=fun b n z=>by
  subst z;rcases he with r | r
  ·exact hx b n r
  ·rw [n] at r; cases r
 have hm:∀ b u,H b=some u->¬ Mut (some u)->b≠x:=fun b u q nm z=>by subst z; rw [q] at mu; exact nm mu
 refine⟨fun b u q n _ _=>k b u (hb b n) q,fun b u q n _ _=>⟨u.slots,k b u (hb b n) q⟩,fun b u q n _=>by rw [au (hx b n)]; exact n,fun b u q _=>?_,
  fun b xs q=>by rw [au (hm b _ q fun z=>z)]; exact q,fun b u xs q=>by rw [au (hm b _ q fun z=>z)]; exact q,fun b ps q=>⟨#[],by rw [au (hm b _ q fun z=>z),q]; simp⟩⟩
 by_cases hbe:b=e
 ·subst hbe; exact heo
 ·exact⟨u,k b u hbe q⟩
end
def trk(h:Heap)(H:Hp):LA:=(List.range h.objs.size).filter fun a=>(H a).isSome
def wz(h:Heap)(H:Hp):Heap:=PySem.W.hideAll h (trk h H)
theorem G7(h:Heap)(H:Hp):(wz h H).objs.size=h.objs.size:=PySem.W.hideAll_size _ _
theorem HN{h:Heap}{H:Hp}{b:Addr}{o:Obj}(e:h.get? b=some o)(n:H b=none):(wz h H).get? b=some o:=
 PySem.W.hideAll_get _ e fun hm=>by
  have q:(H b).isSome=true:=(eS.mp hm).2;rw [n] at q; simp at q
theorem LC{h:Heap}{H:Hp}{b:Addr}{o:Obj}(e:(wz h H).get? b=some o):h.get? b=some o/\H b=none:=by
 have e':h.get? b=some o:=PySem.W.of_hideAll (trk h H) e;refine⟨e',?_⟩;cases q:H b with
 | none=>rfl
 | some x=>
  have hm:b∈trk h H:=eS.mpr ⟨jv.mpr (bu e'),by simp [q]⟩;have z:(wz h H).get? b=none:=PySem.W.hideAll_none (trk h H) hm;rw [z] at e; cases e
def Lw(g h:Heap)(L:Addr):LO:=(List.range h.objs.size).filterMap fun a=>if a=L\/(g.get? a).isSome=true then none else (h.get? a).map fun o=>(a,o)
def rest(g h:Heap)(L d:Addr):LO:=(Lw g h L).filter fun p=>decide (p.1≠d)
structure Mod (K:PySem.W.Frag) (mg:MG) (base:Heap):Prop where
 kin:K.In base
 glob:base.Ns ww mg
 blt:∃ mb,base.Ns Tz mb/\∀ x:Str,x≠ "__name__" -> mb x=ye x
 nolimit:base.NoLimit
structure Cx where
 prog:uv
 w:xf
 K:PySem.W.Frag
 mg:MG
 base:Heap
 A:xn
 N:LS
 s₀:sr
 H₀:Hp
 env:Env
 outer:List Env
 stack:List Env
 ex:LA
 fn:Str->Bool
 calm:Bool
 pn:LO
 xe:ES
def frs(l:List Env):LA:=l.filterMap (·.frame)
abbrev Cx.fs(X:Cx):LA:=frs X.outer
def Vis(sc:Scope)(x:Str):Prop:=sc.names.lookup x=some .local\/sc.names.lookup x=some .cell\/sc.names.lookup x=some .free
def Loc(sc:Scope)(x:Str):Prop:=sc.names.lookup x=some .local\/sc.names.lookup x=some .cell
def Look(env:Env)(h:Heap)(m:MG)(x:Str)(u:rn):Prop:=
 (env.kindOf x=some .local/\m x=some u)\/((env.kindOf x=some .cell\/env.kindOf x=some .free)/\∃ c,env.cells.lookup x=some c/\h.IsCell c (some u))
structure Cx.Ok (X:Cx):Prop where
 mod:Mod X.K X.mg X.base
 kind:X.env.scope.kind=.function
 glob:X.env.globals=ww
 blt:X.env.builtins=Tz
 above:X.s₀.heap.objs.size<=X.env.locals
 inj:∀ x y c,X.env.cells.lookup x=some c->X.env.cells.lookup y=some c->x=y
 has:∀ x,(X.env.kindOf x=some .cell\/X.env.kindOf x=some .free)->∃ c,X.env.cells.lookup x=some c
 cab:∀ x c,X.fn x=true->X.env.cells.lookup x=some c->X.s₀.heap.objs.size<=c
 hd:X.calm=true->X.A.handled=none
 frames:X.A.frames=some X.stack
 stk:X.stack=X.outer\/(X.stack=X.env::X.outer/\X.env.frame=some X.env.locals)
 exf:∀ b∈X.ex,b≠X.env.locals/\∀ x c,X.env.cells.lookup x=some c->c≠b
 bs:∀ b o,X.base.get? b=some o->X.s₀.heap.get? b=some o/\X.H₀ b=none
 bsz:X.base.objs.size<=X.s₀.heap.objs.size
 Gg:∀ b o,X.base.get? b=some o->b ∉ X.ex
 Hs:∀ b∈X.ex,b ∉ X.fs
 qL:X.s₀.heap.FunFrames X.base X.outer
 frf:∀ b∈X.fs,X.H₀ b=none
structure Inv (X:Cx) (pins:LO) (σ:List OV) (H:Hp) (s:sr):Prop where
 ok:X.Ok
 os:s.os=X.s₀.os
 bare:PQ s.gens
 base:Un X.fs X.ex X.H₀ H X.s₀.heap s.heap
 loc:∃ m,s.heap.Ns X.env.locals m/\∀(i:Nat) (x:Str) (v:V),X.N[i]?=some x->σ[i]?=some (some v)->Vis X.env.scope x->∃ u,RelV v u/\Look X.env s.heap m x u
 cell:∀ x c,X.env.cells.lookup x=some c->∃ v,s.heap.IsCell c v
 free:H X.env.locals=none
 oM:∀ x c,X.env.cells.lookup x=some c->H c=none
 pin:∀ p∈X.pn++pins,s.heap.get? p.1=some p.2/\H p.1=none/\p.1≠X.env.locals/\p.1 ∉ X.fs/\∀ v,p.2.data≠.cell v
 hok:HOk X.prog X.w H s.heap
 len:σ.length=X.N.length
section
variable {X:Cx}{pins:LO}{σ:List OV}{H H':Hp}{s:sr}{h':Heap}
theorem Cx.Ok.SN(ok:X.Ok){b:Addr}{o:Obj}(e:X.base.get? b=some o):b ∉ X.fs:=fun hb=>by
 have:=(ok.qL.mem hb).1;rw [e] at this; cases this
theorem Inv.bs(I:Inv X pins σ H s):∀ b o,X.base.get? b=some o->s.heap.get? b=some o/\H b=none:=fun b o e=>
 ⟨I.base.keep b o (I.ok.bs b o e).1 (I.ok.bs b o e).2 (I.ok.SN e) (I.ok.Gg b o e),I.base.free b o (I.ok.bs b o e).1 (I.ok.bs b o e).2 (I.ok.Gg b o e)⟩
theorem Inv.bk(I:Inv X pins σ H s):∀ b o,X.base.get? b=some o->s.heap.get? b=some o:=fun b o e=>(I.bs b o e).1
theorem Inv.mod(I:Inv X pins σ H s):Mod X.K X.mg X.base:=I.ok.mod
theorem Inv.kIn(I:Inv X pins σ H s):X.K.In s.heap:=I.ok.mod.kin.keeps I.bk
theorem Inv.nolimit(I:Inv X pins σ H s):s.heap.NoLimit:=I.ok.mod.nolimit.keeps I.bk
theorem Inv.lt(I:Inv X pins σ H s):X.env.locals < s.heap.objs.size:=let ⟨_,hn,_⟩:=I.loc; hn.lt
theorem Inv.sz(I:Inv X pins σ H s):X.s₀.heap.objs.size<=s.heap.objs.size:=eR I.ok.above (pV I.lt)
theorem Inv.RL(I:Inv X pins σ H s){a:Addr}(h:s.heap.objs.size<=a):a ∉ X.fs:=fun hb=>by
 obtain ⟨_,o,ho,_⟩:=I.ok.qL.mem hb;exact absurd (dS (bu ho) (eR I.sz h)) (iN _)
theorem Inv.cne(I:Inv X pins σ H s):∀ x c,X.env.cells.lookup x=some c->c≠X.env.locals:=fun x c e z=>by
 obtain ⟨v,o,ho,hd⟩:=I.cell x c e;obtain ⟨m,⟨o',es,ep,ho',hd',_⟩,_⟩:=I.loc;rw [z,ho'] at ho; cases ho; rw [hd'] at hd; cases hd
theorem Inv.qL(I:Inv X pins σ H s):s.heap.FunFrames X.base X.outer:=by
 have all:∀(l:List Env),(∀ b∈frs l,b∈X.fs)->X.s₀.heap.FunFrames X.base l->s.heap.FunFrames X.base l:=by
  intro l
  induction l with
  | nil=>intro _ _; trivial
  | cons env r ih=>
   intro hs hl;obtain ⟨hk,⟨L,o,hf,hn,ho,hd⟩,hr⟩:=hl;have hL:L∈X.fs:=hs L (by unfold frs; rw [pS,hf]; exact bE);obtain ⟨sl,e⟩:=I.base.slot L o ho (I.ok.frf L hL) hL fun z=>I.ok.Hs L z hL;exact⟨hk,⟨L,_,hf,hn,e,hd⟩,ih (fun b hb=>hs b (by unfold frs; rw [pS,hf]; exact cz _ hb)) hr⟩
 exact all X.outer (fun _ hb=>hb) I.ok.qL
theorem Inv.stack(I:Inv X pins σ H s):s.heap.FunFrames X.base X.stack:=by
 rcases I.ok.stk with e | ⟨e,hf⟩
 ·rw [e]; exact I.qL
 ·rw [e];obtain ⟨m,hn,_⟩:=I.loc;refine .cons (by rw [I.ok.kind]; decide) hf hn ?_ I.qL;exact Heap.get?_none_of_le (eR I.ok.bsz I.ok.above)
theorem Inv.CQ(I:Inv X pins σ H s):∀ b∈frs X.stack,b∈X.env.locals::X.fs:=fun b hb=>by
 rcases I.ok.stk with e | ⟨e,hf⟩
 ·rw [e] at hb; exact cz _ hb
 ·rw [e] at hb;unfold frs at hb;rw [pS,hf] at hb;exact hb
theorem Inv.Fw(I:Inv X pins σ H s):∀ b∈frs X.stack,H b=none:=fun b hb=>by
 rcases bc.mp (I.CQ b hb) with e | hb
 ·rw [e]; exact I.free
 ·obtain ⟨_,o,ho,_⟩:=I.ok.qL.mem hb;exact I.base.free b o ho (I.ok.frf b hb) fun z=>I.ok.Hs b z hb
theorem Inv.step{g':Array GenState}{t':Nat}{d':Drawn}{ch:LA}(I:Inv X pins σ H s)
  (hch:∀ b∈ch,(b∈X.ex\/X.s₀.heap.objs.size<=b)/\b≠X.env.locals/\(∀ x c,X.env.cells.lookup x=some c->c≠b)/\∀ p∈X.pn++pins,p.1≠b)
  (keep:∀ b o,b≠X.env.locals->b ∉ X.fs->b ∉ ch->s.heap.get? b=some o->H b=none->h'.get? b=some o)
  (slot:∀ b o,b≠X.env.locals->b∈X.fs->b ∉ ch->s.heap.get? b=some o->H b=none->∃ sl,h'.get? b=some { o with slots:=sl }) (free:∀ b o,b ∉ ch->s.heap.get? b=some o->H b=none->H' b=none)
  (there:∀ b o,b ∉ ch->s.heap.get? b=some o->∃ o',h'.get? b=some o')
  (tups:∀ b xs,H b=some (.tup xs)->H' b=some (.tup xs)) (xZ:∀ b o u,H b=some (.frz o u)->H' b=some (.frz o u)) (yd:∀ b ps,H b=some (.tbl ps)->∃ more,H' b=some (.tbl (ps++more)))
  (ns:∀ m,s.heap.Ns X.env.locals m->h'.Ns X.env.locals m) (hok:HOk X.prog X.w H' h') (hg:PQ g') :
  Inv X pins σ H' { s with heap:=h',gens:=g',drawn:=d',toks:=t' }:=by
 have neL:∀ b o,X.s₀.heap.get? b=some o->b≠X.env.locals:=fun b o e=>dE (dS (bu e) I.ok.above)
 have neC:∀ b o,X.s₀.heap.get? b=some o->b ∉ X.ex->b ∉ ch:=fun b o e hx hb=>by
  rcases (hch b hb).1 with z | z
  ·exact hx z
  ·exact absurd (dS (bu e) z) (iN _)
 have cellK:∀ x c,X.env.cells.lookup x=some c->∀ v,s.heap.IsCell c v->h'.IsCell c v:=fun x c e v ⟨o,ho,hd⟩=>by
  have nch:c ∉ ch:=fun z=>(hch c z).2.2.1 x c e rfl
  by_cases hc:c∈X.fs
  ·obtain ⟨sl,q⟩:=slot c o (I.cne x c e) hc nch ho (I.oM x c e);exact⟨_,q,hd⟩
  ·exact⟨o,keep c o (I.cne x c e) hc nch ho (I.oM x c e),hd⟩
 refine⟨I.ok,I.os,hg,⟨fun b o e n hb hx=>?_,fun b o e n hb hx=>?_,fun b o e n hx=>?_,fun b o e hx=>?_,fun b xs e=>tups b xs (I.base.tups b xs e),fun b o xs e=>xZ b o xs (I.base.xZ b o xs e),fun b ps e=>?_⟩,?_,fun x c e=>?_,?_,fun x c e=>?_,fun p hp=>?_,hok,I.len⟩
 ·exact keep b o (neL b o e) hb (neC b o e hx) (I.base.keep b o e n hb hx) (I.base.free b o e n hx)
 ·obtain ⟨sl,e1⟩:=I.base.slot b o e n hb hx;obtain ⟨sl',e2⟩:=slot b _ (neL b o e) hb (neC b o e hx) e1 (I.base.free b o e n hx);exact⟨sl',e2⟩
 ·obtain ⟨o',e1⟩:=I.base.there b o e hx;exact free b o' (neC b o e hx) e1 (I.base.free b o e n hx)
 ·obtain ⟨o',e1⟩:=I.base.there b o e hx;exact there b o' (neC b o e hx) e1
 ·obtain ⟨m1,e1⟩:=I.base.yd b ps e;obtain ⟨m2,e2⟩:=yd b _ e1;exact⟨m1++m2,by rw [e2,Array.append_assoc]⟩
 ·obtain ⟨m,hn,hl⟩:=I.loc;refine⟨m,ns m hn,fun i x v e1 e2 e3=>?_⟩;obtain ⟨u,r,l⟩:=hl i x v e1 e2 e3;refine⟨u,r,?_⟩;rcases l with l | ⟨k,c,e,z⟩
  ·exact .inl l
  ·exact .inr ⟨k,c,e,cellK x c e _ z⟩
 ·obtain ⟨v,z⟩:=I.cell x c e;exact⟨v,cellK x c e v z⟩
 ·obtain ⟨m,⟨o,_,_,ho,_⟩,_⟩:=I.loc;exact free _ o (fun z=>(hch _ z).2.1 rfl) ho I.free
 ·obtain ⟨v,o,ho,hd⟩:=I.cell x c e;exact free c o (fun z=>(hch c z).2.2.1 x c e rfl) ho (I.oM x c e)
 ·obtain ⟨e,n,ne,nf,d⟩:=I.pin p hp;have nch:p.1 ∉ ch:=fun z=>(hch p.1 z).2.2.2 p hp rfl;exact⟨keep p.1 p.2 ne nf nch e n,free p.1 p.2 nch e n,ne,nf,d⟩
theorem Inv.un{t':Nat}(I:Inv X pins σ H s)(u:Un X.fs [] H H' s.heap h')(hok:HOk X.prog X.w H' h'):Inv X pins σ H' { s with heap:=h',toks:=t' }:=by
 obtain ⟨m,⟨o,es,ep,ho,r⟩,_⟩:=id I.loc;obtain ⟨sl,hL⟩:=u.any ho I.free (by simp)
 exact I.step (g':=s.gens) (d':=s.drawn) (ch:=[]) (fun _ z=>nomatch z) (fun b o _ hb _ e n=>u.keep b o e n hb (by simp)) (fun b o _ hb _ e n=>u.slot b o e n hb (by simp)) (fun b o _ e n=>u.free b o e n (by simp)) (fun b o _ e=>u.there b o e (by simp)) u.tups u.xZ u.yd (fun m' hm=>by
  obtain ⟨o',es',ep',ho',r'⟩:=hm;rw [ho] at ho'; cases ho';exact⟨_,es',ep',hL,r'⟩) hok I.bare
theorem Inv.call{g':Array GenState}{t':Nat}{d':Drawn}{ch:LA}(I:Inv X pins σ H s)(u:Un (frs X.stack) ch H H' s.heap h')(hok:HOk X.prog X.w H' h')(hg:PQ g')
  (hch:∀ b∈ch,(b∈X.ex\/X.s₀.heap.objs.size<=b)/\b≠X.env.locals/\(∀ x c,X.env.cells.lookup x=some c->c≠b)/\∀ p∈X.pn++pins,p.1≠b) :
  Inv X pins σ H' { s with heap:=h',gens:=g',drawn:=d',toks:=t' }:=by
 obtain ⟨m,⟨o,es,ep,ho,r⟩,_⟩:=id I.loc;obtain ⟨sl,hL⟩:=u.any ho I.free fun z=>(hch _ z).2.1 rfl
 exact I.step (ch:=ch) hch (fun b o hL hb hc e n=>u.keep b o e n (fun z=>(bc.mp (I.CQ b z)).elim hL hb) hc) (fun b o _ _ hc e n=>u.any e n hc) (fun b o hc e n=>u.free b o e n hc) (fun b o hc e=>u.there b o e hc) u.tups u.xZ u.yd (fun m' hm=>by
  obtain ⟨o',es',ep',ho',r'⟩:=hm;rw [ho] at ho'; cases ho';exact⟨_,es',ep',hL,r'⟩) hok hg
theorem Inv.turned{t':Nat}{it:Addr}(I:Inv X pins σ H s)(k:∀ b o,b≠it->s.heap.get? b=some o->h'.get? b=some o)(hn:H it=none)(hL:it≠X.env.locals)
  (h1:it∈X.ex\/X.s₀.heap.objs.size<=it) (h2:∀ x c,X.env.cells.lookup x=some c->c≠it) (h3:∀ p∈X.pn++pins,p.1≠it):Inv X pins σ H { s with heap:=h',toks:=t' }:=by
 have nit:∀ b u,H b=some u->b≠it:=fun b u e z=>by rw [z,hn] at e; cases e
 refine I.step (g':=s.gens) (d':=s.drawn) (ch:=[it]) (fun b hb=>?_) (fun b o _ _ hc e _=>k b o (fun z=>hc (by simp [z])) e) (fun b o _ _ hc e _=>⟨o.slots,k b o (fun z=>hc (by simp [z])) e⟩) (fun _ _ _ _ n=>n)
  (fun b o hc e=>⟨o,k b o (fun z=>hc (by simp [z])) e⟩) (fun _ _ e=>e) (fun _ _ _ e=>e) (fun b ps e=>⟨#[],by rw [e]; simp⟩) (fun m hm=>?_) (fun b u e=>?_) I.bare
 ·have e:b=it:=by simpa using hb
  subst e;exact⟨h1,hL,h2,h3⟩
 ·obtain ⟨o,es,ep,ho,r⟩:=hm;exact⟨o,es,ep,k _ o (kq hL) ho,r⟩
 ·refine(I.hok b u e).stay (fun c v hc q=>k c v ?_ q) (fun _ q=>q) fun _ _ q=>q;rcases hc with z | z
  ·rw [z]; exact nit b u e
  ·exact nit c _ z
theorem Inv.tok(I:Inv X pins σ H s)(t:Nat):Inv X pins σ H { s with toks:=t }:=I.un (h':=s.heap) (t':=t) Un.refl I.hok
theorem Inv.kept{t':Nat}(I:Inv X pins σ H s)(k:∀ b u,s.heap.get? b=some u->h'.get? b=some u):Inv X pins σ H { s with heap:=h',toks:=t' }:=I.un (Un.kept k) (I.hok.kept k)
theorem Inv.laid{a:Addr}{o:HO}{t':Nat}(I:Inv X pins σ H s)(k:∀ b u,s.heap.get? b=some u->h'.get? b=some u)(hp:s.heap.objs.size<=a)(new:dJ X.prog X.w (upd H a o) h' a o) :
  Inv X pins σ (upd H a o) { s with heap:=h',toks:=t' }:=I.un (Un.laid k hp (I.hok.fresh hp)) (I.hok.laid k hp new)
theorem Inv.write{x e:Addr}{o:HO}{t':Nat}(I:Inv X pins σ H s)(mu:Mut (H x))(he:e=x\/H e=some (.own x))(k:∀ b u,b≠e->s.heap.get? b=some u->h'.get? b=some u)(heo:∃ u,h'.get? e=some u)
  (new:dJ X.prog X.w (upd H x o) h' x o):Inv X pins σ (upd H x o) { s with heap:=h',toks:=t' }:=I.un (Un.write mu he k heo) (I.hok.write mu he k heo new)
theorem Inv.uN{pins':LO}(I:Inv X pins σ H s)(h:∀ p∈pins',s.heap.get? p.1=some p.2/\H p.1=none/\p.1≠X.env.locals/\p.1 ∉ X.fs/\∀ v,p.2.data≠.cell v):Inv X pins' σ H s:=
 ⟨I.ok,I.os,I.bare,I.base,I.loc,I.cell,I.free,I.oM,fun p hp=>(dP.mp hp).elim (fun z=>I.pin p (fh _ z)) (h p),I.hok,I.len⟩
theorem zN{N:LS}(hN:N.Nodup){i j:Nat}{x:Str}(a:N[i]?=some x)(b:N[j]?=some x):i=j:=by
 obtain ⟨h1,e1⟩:=aT.mp a;obtain ⟨h2,e2⟩:=aT.mp b;exact(List.getElem_inj hN).mp (e1.trans e2.symm)
theorem wN{M:Model}{A:xn}{E:ES}{i:Nat}{x:Str}{v:V}{u:rn}{Q:Unit->sr->Prop}(I:Inv X pins σ H s)(hN:X.N.Nodup)(hi:X.N[i]?=some x)(hx:Loc X.env.scope x)(r:RelV v u)
  (h:∀ s',Inv X pins (σ.set i (some v)) H s'->(∃ a,Heap.SameBut a s.heap s'.heap/\(a=X.env.locals\/X.env.cells.lookup x=some a))->Q () s') (hf:X.fn x=true\/X.env.scope.names.lookup x=some .local:=by first | exact .inl rfl | exact .inr rfl | assumption):ut M A (storeName X.env x u) Q E s:=by
 obtain ⟨m,hn,hl⟩:=id I.loc;have hcls:(X.env.scope.kind == .class || (X.env.scope.kind == .module && X.env.locals != X.env.globals))=false:=by rw [I.ok.kind]; rfl
 have hiσ:i < σ.length:=by rw [I.len]; exact(aT.mp hi).1
 have cne:=I.cne
 have tracked:∀ {a:Addr} {h':Heap},(∃ o,s.heap.get? a=some o/\H a=none)->Heap.SameBut a s.heap h'->HOk X.prog X.w H h':=fun {a h'} ha hs b ob e=>by
  obtain ⟨_,_,hfree⟩:=ha;refine(I.hok b ob e).stay (fun c w' hc q=>(hs.2 c ?_).trans q) (fun _ q=>q) fun _ _ q=>q;rintro rfl;rcases hc with rfl | hc
  ·rw [hfree] at e; cases e
  ·rw [hfree] at hc; cases hc
 rcases hx with hk | hk
 ·refine wpAny_storeName_local hk hn (fun h' hn' hs=>?_) hcls;obtain ⟨oL,_,_,hoL,_⟩:=id hn;refine h _ ⟨I.ok,I.os,I.bare,⟨fun b o e n hb hx=>?_,fun b o e n hb hx=>?_,I.base.free,fun b o e hx=>?_,I.base.tups,I.base.xZ,I.base.yd⟩,⟨_,hn',fun j y v' e1 e2 e3=>?_⟩,fun y c e=>?_,I.free,I.oM,fun p hp=>?_,tracked ⟨oL,hoL,I.free⟩ hs,by simpa using I.len⟩ ⟨_,hs,.inl rfl⟩
  ·exact(hs.2 b (dE (dS (bu e) I.ok.above))).trans (I.base.keep b o e n hb hx)
  ·obtain ⟨sl,e1⟩:=I.base.slot b o e n hb hx;exact⟨sl,(hs.2 b (dE (dS (bu e) I.ok.above))).trans e1⟩
  ·obtain ⟨o',e1⟩:=I.base.there b o e hx;exact⟨o',(hs.2 b (dE (dS (bu e) I.ok.above))).trans e1⟩
  ·by_cases hj:j=i
   ·subst hj;rw [hi] at e1; cases e1;rw [List.getElem?_set_self hiσ] at e2;cases e2;exact⟨u,r,.inl ⟨hk,by simp⟩⟩
   ·rw [List.getElem?_set_ne (kq hj)] at e2;obtain ⟨u',r',q⟩:=hl j y v' e1 e2 e3;refine⟨u',r',?_⟩;rcases q with ⟨k,e⟩ | ⟨k,c,e,z⟩
    ·refine .inl ⟨k,?_⟩;have:y≠x:=fun e=>hj (zN hN e1 (e ▸ hi));simp [this,e]
    ·exact .inr ⟨k,c,e,z.sameBut hs (cne y c e)⟩
  ·obtain ⟨w',z⟩:=I.cell y c e;exact⟨w',z.sameBut hs (cne y c e)⟩
  ·obtain ⟨e,n,ne,nf,d⟩:=I.pin p hp;exact⟨(hs.2 p.1 ne).trans e,n,ne,nf,d⟩
 ·have hfn:X.fn x=true:=by
   rcases hf with z | z
   ·exact z
   ·rw [z] at hk; cases hk
  obtain ⟨c,hc⟩:=I.ok.has x (.inl hk);obtain ⟨w',z⟩:=I.cell x c hc;refine wpAny_storeName_cell I.ok.kind hk hc z (fun h' hc' hs=>?_);obtain ⟨oc,hoc,hocd⟩:=id z;refine h { s with heap:=h' } ⟨I.ok,I.os,I.bare,⟨fun b o e n hb hx=>?_,fun b o e n hb hx=>?_,I.base.free,fun b o e hx=>?_,I.base.tups,I.base.xZ,I.base.yd⟩,⟨m,hn.sameBut hs (kq (cne x c hc)),fun j y v' e1 e2 e3=>?_⟩,fun y c' e=>?_,I.free,I.oM,fun p hp=>?_,tracked ⟨oc,hoc,I.oM x c hc⟩ hs,by simpa using I.len⟩ ⟨c,hs,.inr hc⟩
  ·exact(hs.2 b (dE (dS (bu e) (I.ok.cab x c hfn hc)))).trans (I.base.keep b o e n hb hx)
  ·obtain ⟨sl,e1⟩:=I.base.slot b o e n hb hx;exact⟨sl,(hs.2 b (dE (dS (bu e) (I.ok.cab x c hfn hc)))).trans e1⟩
  ·obtain ⟨o',e1⟩:=I.base.there b o e hx;exact⟨o',(hs.2 b (dE (dS (bu e) (I.ok.cab x c hfn hc)))).trans e1⟩
  ·by_cases hj:j=i
   ·subst hj;rw [hi] at e1; cases e1;rw [List.getElem?_set_self hiσ] at e2;cases e2;exact⟨u,r,.inr ⟨.inl hk,c,hc,hc'⟩⟩
   ·rw [List.getElem?_set_ne (kq hj)] at e2;obtain ⟨u',r',q⟩:=hl j y v' e1 e2 e3;refine⟨u',r',?_⟩;rcases q with q | ⟨k,c',e,z'⟩
    ·exact .inl q
    ·refine .inr ⟨k,c',e,z'.sameBut hs ?_⟩;rintro rfl;exact hj (zN hN e1 (I.ok.inj _ _ _ e hc ▸ hi))
  ·by_cases hcc:c'=c
   ·subst hcc; exact⟨_,hc'⟩
   ·obtain ⟨w2,z2⟩:=I.cell y c' e;exact⟨w2,z2.sameBut hs hcc⟩
  ·obtain ⟨e,n,ne,nf,d⟩:=I.pin p hp;refine⟨(hs.2 p.1 ?_).trans e,n,ne,nf,d⟩;intro q;rw [q,hoc] at e;have q':oc=p.2:=dL e;exact d w' (by rw [<- q']; exact hocd)
theorem rZ{M:Model}{A:xn}{E:ES}{i:Nat}{x:Str}{v:V}{u:rn}{Q:Unit->sr->Prop}(I:Inv X pins σ H s)(hN:X.N.Nodup)(hi:X.N[i]?=some x)(hx:Loc X.env.scope x)(r:RelV v u)
  (h:∀ s',Inv X pins (σ.set i (some v)) H s'->Q () s') (hf:X.fn x=true\/X.env.scope.names.lookup x=some .local:=by first | exact .inl rfl | exact .inr rfl | assumption):ut M A (storeName X.env x u) Q E s:=
 wN I hN hi hx r (fun s' I' _=>h s' I') hf
theorem Inv.call'{s':sr}{ch:LA}(I:Inv X pins σ H s)(ho:s'.os=s.os)(u:Un (frs X.stack) ch H H' s.heap s'.heap)(hok:HOk X.prog X.w H' s'.heap)(hg:PQ s'.gens)
  (hch:∀ b∈ch,(b∈X.ex\/X.s₀.heap.objs.size<=b)/\b≠X.env.locals/\(∀ x c,X.env.cells.lookup x=some c->c≠b)/\∀ p∈X.pn++pins,p.1≠b):Inv X pins σ H' s':=by
 obtain ⟨h',g',d',t',o'⟩:=s';have e:o'=s.os:=ho;subst e;exact I.call (g':=g') (t':=t') (d':=d') u hok hg hch
end
abbrev XK:=rn->Option Addr->Hp->Prop
abbrev St:=List OV
abbrev VK:=V->Hp->Prop
abbrev TE:=St->Hp->VK->Prop
abbrev TT:=St->Hp->(Bool->Hp->Prop)->Prop
abbrev TA:=St->Hp->(LV->Hp->Prop)->Prop
structure Ends where
 nx:St->Hp->Prop
 rt:VK
 bk:St->Hp->Prop:=fun _ _=>False
 ct:St->Hp->Prop:=fun _ _=>False
abbrev TS:=Ends->St->Hp->Prop
inductive EP (X:Cx) (pins:LO) (σ:St) (Q:VK) (u:rn) (s':sr):Prop
 | mk (v H':_):Inv X pins σ H' s'->RelV v u->Q v H'->EP X pins σ Q u s'
def TP(X:Cx)(pins:LO)(σ:St)(Q:Bool->Hp->Prop)(b:Bool)(s':sr):Prop:=∃ H',Inv X pins σ H' s'/\Q b H'
inductive AP (X:Cx) (pins:LO) (σ:St) (Q:LV->Hp->Prop) (us:LU) (s':sr):Prop
 | mk (vs H':_):Inv X pins σ H' s'->Vals vs us->Q vs H'->AP X pins σ Q us s'
def SP(X:Cx)(pins:LO)(D:Ends)(f:Flow)(s':sr):Prop:=
 match f with
 | .next=>∃ σ' H',Inv X pins σ' H' s'/\D.nx σ' H'
 | .brk=>∃ σ' H',Inv X pins σ' H' s'/\D.bk σ' H'
 | .cont=>∃ σ' H',Inv X pins σ' H' s'/\D.ct σ' H'
 | .ret u=>∃ v σ' H',Inv X pins σ' H' s'/\RelV v u/\D.rt v H'
def PE(X:Cx)(e:Expr)(t:TE):Prop:=
 ∀(pins:LO) (s:sr) (σ:St) (H:Hp) (Q:VK),Inv X pins σ H s->t σ H Q->ut ‹6› X.A (eval e X.env) (EP X pins σ Q) X.xe s
def PT(X:Cx)(e:Expr)(t:TT):Prop:=
 ∀(pins:LO) (s:sr) (σ:St) (H:Hp) (Q:Bool->Hp->Prop),Inv X pins σ H s->t σ H Q->ut ‹6› X.A (isTrue e X.env (eval e X.env)) (TP X pins σ Q) X.xe s
def PW(X:Cx)(e:Expr)(t:TT):Prop:=
 ∀(whole:Sem rn) (pins:LO) (s:sr) (σ:St) (H:Hp) (Q:Bool->Hp->Prop),Inv X pins σ H s->t σ H Q->ut ‹6› X.A (isTrue e X.env whole) (TP X pins σ Q) X.xe s
theorem PW.pt{X:Cx}{e:Expr}{t:TT}(h:PW X e t):PT X e t:=h _
abbrev Ug:=@PW.pt
def PA(X:Cx)(es:List Expr)(t:TA):Prop:=
 ∀(pos:Pos) (pins:LO) (s:sr) (σ:St) (H:Hp) (Q:LV->Hp->Prop),Inv X pins σ H s->t σ H Q->ut ‹6› X.A (spliced (zg pos (uC es X.env))) (AP X pins σ Q) X.xe s
def PS(X:Cx)(st:Stmt)(t:TS):Prop:=
 ∀(pins:LO) (s:sr) (σ:St) (H:Hp) (D:Ends),Inv X pins σ H s->t D σ H->ut ‹6› X.A (exec st X.env) (SP X pins D) X.xe s
def PSs(X:Cx)(st:List Stmt)(t:TS):Prop:=
 ∀(pins:LO) (s:sr) (σ:St) (H:Hp) (D:Ends),Inv X pins σ H s->t D σ H->ut ‹6› X.A (execs st X.env) (SP X pins D) X.xe s
theorem thn{α:Type}{t:Sem α}{Q Q':α->sr->Prop}{M:Model}{A:xn}{E:ES}{s:sr}(h:ut M A t Q E s)(hQ:∀ a s,Q a s->Q' a s):ut M A t Q' E s:=fT h hQ fun _ _ x=>x
section
variable {X:Cx}
theorem bin{a b:Expr}{ta tb:TE}(ha:PE X a ta)(hb:PE X b tb){pins:LO}{s:sr}{σ:St}{H:Hp}{R:V->V->Hp->Prop}(I:Inv X pins σ H s)(h:ta σ H fun x H1=>tb σ H1 fun y H2=>R x y H2)
  {α:Type} {Q:α->sr->Prop} {f:rn->rn->Sem α}
  (hf:∀ v u s2 x y H2,Inv X pins σ H2 s2->RelV x v->RelV y u->R x y H2->ut ‹6› X.A (f v u) Q X.xe s2) :
  ut ‹6› X.A (eval a X.env) (fun v s₁=>ut ‹6› X.A (eval b X.env) (fun u s₂=>ut ‹6› X.A (f v u) Q X.xe s₂) X.xe s₁) X.xe s:=by
 refine thn (ha pins s σ H _ I h) fun v s1 ⟨x,H1,I1,r1,q1⟩=>?_;refine thn (hb pins s1 σ H1 _ I1 q1) fun u s2 ⟨y,H2,I2,r2,q2⟩=>?_;exact hf v u s2 x y H2 I2 r1 r2 q2
inductive Oj (i:Nat) (σ:St) (H:Hp) (Q:VK):Prop
 | mk (v:_):σ[i]?=some (some v)->Q v H->Oj i σ H Q
def tC(v:V):TE:=fun _ H Q=>Q v H
theorem OD{i:Nat}{x:Str}{pos:Pos}(hN:X.N[i]?=some x)(hv:Vis X.env.scope x)(hd:(x == ("__debug__" : Str))=false:=by decide)(hcd:(x == ("__classdict__" : Str))=false:=by decide):PE X (.Name x pos) (Oj i):=by
 intro pins s σ H Q I h;obtain ⟨v,e,h⟩:=h;obtain ⟨m,hn,hl⟩:=I.loc;obtain ⟨u,r,l⟩:=hl i x v hN e hv;have fin:EP X pins σ Q u s:=⟨v,H,I,r,h⟩;rcases l with ⟨hk,hm⟩ | ⟨hk,c,hc,hcell⟩
 ·exact wpAny_Name (wpAny_loadName_local I.ok.kind hk hn hm fin) hd
 ·rcases hk with hk | hk
  ·exact wpAny_Name (wpAny_loadName_cell I.ok.kind hk hc hcell fin) hd
  ·exact wpAny_Name (wpAny_loadName_free I.ok.kind hk hc hcell fin hcd) hd
theorem aC{i j pos}:PE X (.Constant (.int i) j pos) (tC (.int i)):=fun _ _ _ H _ I h=>wpAny_Constant_int ⟨.int i,H,I.tok _,⟨_,rfl⟩,h⟩
theorem qm{b j pos}:PE X (.Constant (.bool b) j pos) (tC (.bl b)):=fun _ _ _ H _ I h=>Constant_bool ⟨.bl b,H,I,rfl,h⟩
theorem mq{j pos}:PE X (.Constant .none j pos) (tC .non):=fun _ _ _ H _ I h=>Constant_none ⟨.non,H,I,rfl,h⟩
theorem aM{x j pos}:PE X (.Constant (.str x) j pos) (tC (.str x)):=fun _ _ _ H _ I h=>Calls.Constant_str ⟨.str x,H,I.tok _,⟨_,rfl⟩,h⟩
def Gl(X:Cx)(x:Str):Prop:=X.env.kindOf x=some .globalImplicit
theorem yD{E:ES}{pins:LO}{s:sr}{σ:St}{H:Hp}{x:Str}{u:rn}{pos:Pos}{Q:ES}(I:Inv X pins σ H s)(hg:Gl X x)(hm:X.mg x=some u)(h:Q u s)
  (hd:(x == ("__debug__" : Str))=false:=by decide):ut ‹6› X.A (eval (.Name x pos) X.env) Q E s:=
 Calls.Name_function_global I.ok.kind hg (Calls.loadGlobal_global (by rw [I.ok.glob]; exact I.mod.glob.keeps I.bk) hm h) hd
theorem oA{E:ES}{pins:LO}{s:sr}{σ:St}{H:Hp}{x:Str}{u:rn}{pos:Pos}{Q:ES}(I:Inv X pins σ H s)(hg:Gl X x)(hm:X.mg x=none)(hv:ye x=some u)(h:Q u s)
  (hn:x≠ "__name__" := by decide) (hd:(x == ("__debug__" : Str))=false:=by decide):ut ‹6› X.A (eval (.Name x pos) X.env) Q E s:=by
 obtain ⟨mb,h1,h2⟩:=I.mod.blt;exact Calls.Name_function_global I.ok.kind hg (Calls.loadGlobal_builtin (by rw [I.ok.glob]; exact I.mod.glob.keeps I.bk) hm (by rw [I.ok.blt]; exact h1.keeps I.bk) ((h2 x hn).trans hv) h) hd
theorem lZ{x:Str}{v:V}{u:rn}{pos:Pos}(hg:Gl X x)(hm:X.mg x=some u)(r:RelV v u)(hd:(x == ("__debug__" : Str))=false:=by decide):PE X (.Name x pos) (tC v):=
 fun _ _ _ H _ I h=>yD I hg hm ⟨v,H,I,r,h⟩ hd
theorem pR{x:Str}{v:V}{u:rn}{pos:Pos}(hg:Gl X x)(hm:X.mg x=none)(hv:ye x=some u)(r:RelV v u)(hn:x≠ "__name__" := by decide)(hd:(x == ("__debug__" : Str))=false:=by decide):PE X (.Name x pos) (tC v):=
 fun _ _ _ H _ I h=>oA I hg hm hv ⟨v,H,I,r,h⟩ hn hd
variable {a b:Expr}{ta tb:TE}{pos:Pos}
def PC(X:Cx)(op:CmpOp)(a b:Expr)(t:TE):Prop:=
 ∀(pins:LO) (s:sr) (σ:St) (H:Hp) (Q:VK),Inv X pins σ H s->t σ H Q->
  ut ‹6› X.A (eval a X.env) (fun v s₁=>ut ‹6› X.A (eval b X.env) (fun u s₂=>ut ‹6› X.A (yo op v u) (EP X pins σ Q) X.xe s₂) X.xe s₁) X.xe s
inductive tBI (Q:Bool->Hp->Prop) (x:V) (H1:Hp):Prop
 | mk (c:_):x=.bl c->Q c H1->tBI Q x H1
def tB(t:TE):TT:=fun σ H Q=>t σ H fun x H1=>tBI Q x H1
theorem O4{op:CmpOp}{t:TE}(h:PC X op a b t)(h1:HR op b=false:=by first | exact nobehind _ (by decide) (by decide) | rfl):PE X (.Compare a [op] [b] pos) t:=fun pins s σ H Q I hw=>wpAny_Compare1 (h pins s σ H Q I hw) h1
theorem vq{op:CmpOp}{t:TE}(h:PC X op a b t)(h1:HR op b=false:=by first | exact nobehind _ (by decide) (by decide) | rfl):PT X (.Compare a [op] [b] pos) (tB t):=by
 intro pins s σ H Q I hw;refine wpAny_isTrue_Compare1 (thn (h pins s σ H _ I hw) fun v s1 h1=>thn h1 fun u s2 h2=>thn h2 fun c s3 ⟨x,H1,I1,r1,q1⟩=>?_) h1;obtain ⟨d,rfl,q⟩:=q1;cases r1;exact i6 ⟨H1,I1,q⟩
theorem lA{e:Expr}{t:TE}(h:PE X e t)(he:∀ whole,isTrue e X.env whole=(do let v <- whole; standAt e.pos; TF [v] (truthy v)):=by intro _; rfl):PT X e (tB t):=by
 intro pins s σ H Q I hw;refine isTrue_plain (thn (h pins s σ H _ I hw) fun v s1 ⟨x,H1,I1,r1,q1⟩=>?_) (he _);obtain ⟨d,rfl,q⟩:=q1;cases r1;exact i6 ⟨H1,I1,q⟩
variable {tA tB':TT}{rest:List Expr}
def S8(t u:TT):TT:=fun σ H Q=>t σ H fun c H1=>if c=true then u σ H1 Q else Q false H1
def tOr(t u:TT):TT:=fun σ H Q=>t σ H fun c H1=>if c=true then Q true H1 else u σ H1 Q
def Tc(t:TT):TT:=fun σ H Q=>t σ H fun c H1=>Q (!c) H1
theorem pO(ha:PT X a tA):PW X (.BoolOp .And [a] pos) tA:=by
 intro wh pins s σ H Q I h;refine isTrue_and (thn (ha pins s σ H Q I h) fun c s1 e=>?_);cases c with
 | true=>exact isTrue_and_nil e
 | false=>exact e
theorem pB(ha:PT X a tA):PW X (.BoolOp .Or [a] pos) tA:=by
 intro wh pins s σ H Q I h;refine isTrue_or (thn (ha pins s σ H Q I h) fun c s1 e=>?_);cases c with
 | false=>exact isTrue_or_nil e
 | true=>exact e
theorem sZ(ha:PT X a tA)(hb:PW X (.BoolOp .And (b::rest) pos) tB'):PW X (.BoolOp .And (a::b::rest) pos) (S8 tA tB'):=by
 intro wh pins s σ H Q I h;refine isTrue_and (thn (ha pins s σ H _ I h) fun c s1 ⟨H1,I1,q1⟩=>?_);cases c with
 | true=>exact hb wh pins s1 σ H1 Q I1 q1
 | false=>exact⟨H1,I1,q1⟩
theorem ug(ha:PT X a tA)(hb:PW X (.BoolOp .Or (b::rest) pos) tB'):PW X (.BoolOp .Or (a::b::rest) pos) (tOr tA tB'):=by
 intro wh pins s σ H Q I h;refine isTrue_or (thn (ha pins s σ H _ I h) fun c s1 ⟨H1,I1,q1⟩=>?_);cases c with
 | true=>exact⟨H1,I1,q1⟩
 | false=>exact hb wh pins s1 σ H1 Q I1 q1
theorem sS(ha:PT X a tA):PT X (.UnaryOp .Not a pos) (Tc tA):=by
 intro pins s σ H Q I h;exact isTrue_not (ha pins s σ H (fun c H1=>Q (!c) H1) I h)
def tIf(t:TT)(ta tb:TE):TE:=fun σ H Q=>t σ H fun c H1=>if c=true then ta σ H1 Q else tb σ H1 Q
theorem Ig{c:Expr}(hc:PT X c tA)(ha:PE X a ta)(hb:PE X b tb):PE X (.IfExp c a b pos) (tIf tA ta tb):=by
 intro pins s σ H Q I h;refine wpAny_IfExp (thn (hc pins s σ H _ I h) fun d s1 ⟨H1,I1,q1⟩=>?_);cases d with
 | true=>exact ha pins s1 σ H1 Q I1 q1
 | false=>exact hb pins s1 σ H1 Q I1 q1
end
def SqL(K:PySem.W.Frag)(H:Hp)(a:Addr)(xs:LV):Prop:=
 Rd H a (.lst xs)\/
  ∃(o:Obj) (its:AV) (n:Nat),K.lookup a=some o/\o.cls=.type "list" /\ o.dict=none/\o.data=.seq its n/\its.size<=sizeLine/\Vals xs its.toList
def SqT(K:PySem.W.Frag)(H:Hp)(a:Addr)(xs:LV):Prop:=
 Rd H a (.tup xs)\/
  ∃(o:Obj) (its:AV) (n:Nat),K.lookup a=some o/\o.cls=.type "tuple" /\ o.data=.seq its n/\its.size<=sizeLine/\Vals xs its.toList
def S9:rn->OV
 | .none=>some .non
 | .bool b=>some (.bl b)
 | .int i _=>some (.int i)
 | .str x _=>some (.str x)
 | .bytes b _=>some (.byt b)
 | .float b _=>some (.flt b)
 | .ref a=>some (.ref a)
 | .type n=>some (.ty n)
 | _=>none
theorem RelV.abs{x:V}{u:rn}(r:RelV x u):S9 u=some x:=by
 cases x with
 | non=>cases r; rfl
 | bl _=>cases r; rfl
 | int _=>obtain ⟨t,rfl⟩:=r; rfl
 | str _=>obtain ⟨t,rfl⟩:=r; rfl
 | byt _=>obtain ⟨t,rfl⟩:=r; rfl
 | flt _=>obtain ⟨t,rfl⟩:=r; rfl
 | ref _=>cases r; rfl
 | ty _=>cases r; rfl
theorem RelV.inj{x y:V}{u:rn}(r:RelV x u)(q:RelV y u):x=y:=dL (r.abs.symm.trans q.abs)
theorem Vals.inj:∀ {xs ys:LV} {us:LU},Vals xs us->Vals ys us->xs=ys
 | _,_,_,.nil,.nil=>rfl
 | _,_,_,.cons r t,.cons r' t'=>by rw [r.inj r',Vals.inj t t']
section
variable {X:Cx}{pins:LO}{σ:St}{H:Hp}{s:sr}{a:Addr}{xs ys:LV}
theorem SqL.of{K:PySem.W.Frag}(h:H a=some (.lst xs)):SqL K H a xs:=.inl (.inl h)
abbrev Uh:=@SqL.of
theorem SqT.of{K:PySem.W.Frag}(h:H a=some (.tup xs)):SqT K H a xs:=.inl (.inl h)
abbrev Ui:=@SqT.of
theorem Inv.list(I:Inv X pins σ H s)(h:SqL X.K H a xs):∃ its:LU,Vals xs its/\PlainL s.heap a its.toArray/\xs.length<=sizeLine:=by
 rcases h with h | ⟨o,its,n,hk,hc,hd,hs,hz,r⟩
 ·obtain ⟨z,its,n,r,e⟩:=h.ok I.hok;exact⟨its,r,⟨_,n,e,rfl,rfl,rfl⟩,z⟩
 ·refine⟨its.toList,r,⟨o,n,I.kIn a o hk,hc,hd,by simpa using hs⟩,?_⟩;have e:=r.length;simp only [iF] at e;omega
theorem Inv.tuple(I:Inv X pins σ H s)(h:SqT X.K H a xs):∃ its:LU,Vals xs its/\TX s.heap a its.toArray/\xs.length<=sizeLine:=by
 rcases h with h | ⟨o,its,n,hk,hc,hs,hz,r⟩
 ·obtain ⟨z,its,r,p⟩:=h.ok I.hok;exact⟨its,r,p,z.1⟩
 ·refine⟨its.toList,r,⟨o,I.kIn a o hk,hc,n,by simpa using hs⟩,?_⟩;have e:=r.length;simp only [iF] at e;omega
theorem Inv.vM(I:Inv X pins σ H s)(h:SqL X.K H a xs)(h':SqL X.K H a ys):xs=ys:=by
 obtain ⟨its,r,⟨o,n,e,_,_,d⟩,_⟩:=I.list h;obtain ⟨its',r',⟨o',n',e',_,_,d'⟩,_⟩:=I.list h';rw [e] at e'; cases e';rw [d] at d';injection d' with d1 _;have:its=its':=by simpa using congrArg Array.toList d1
 subst this;exact r.inj r'
theorem Inv.mV(I:Inv X pins σ H s)(h:SqT X.K H a xs)(h':SqT X.K H a ys):xs=ys:=by
 obtain ⟨its,r,⟨o,e,_,n,d⟩,_⟩:=I.tuple h;obtain ⟨its',r',⟨o',e',_,n',d'⟩,_⟩:=I.tuple h';rw [e] at e'; cases e';rw [d] at d';injection d' with d1 _;have:its=its':=by simpa using congrArg Array.toList d1
 subst this;exact r.inj r'
end
abbrev Cx.wish(X:Cx)(E:ES):Cx:={ X with xe:=E }
abbrev Cx.nox(X:Cx):Cx:=X.wish fun _ _=>False
theorem Cx.Ok.wish{X:Cx}(ok:X.Ok)(E:ES):(X.wish E).Ok:=
 ⟨ok.mod,ok.kind,ok.glob,ok.blt,ok.above,ok.inj,ok.has,ok.cab,ok.hd,ok.frames,ok.stk,ok.exf,ok.bs,ok.bsz,ok.Gg,ok.Hs,ok.qL,ok.frf⟩
theorem Cx.Ok.oX{X:Cx}{E:ES}(ok:(X.wish E).Ok):X.Ok:=
 ⟨ok.mod,ok.kind,ok.glob,ok.blt,ok.above,ok.inj,ok.has,ok.cab,ok.hd,ok.frames,ok.stk,ok.exf,ok.bs,ok.bsz,ok.Gg,ok.Hs,ok.qL,ok.frf⟩
section
variable {X:Cx}{pins:LO}{σ:St}{H:Hp}{s:sr}{E:ES}
theorem Inv.wish(I:Inv X pins σ H s)(E:ES):Inv (X.wish E) pins σ H s:=⟨I.ok.wish E,I.os,I.bare,I.base,I.loc,I.cell,I.free,I.oM,I.pin,I.hok,I.len⟩
theorem Inv.oX(I:Inv (X.wish E) pins σ H s):Inv X pins σ H s:=⟨I.ok.oX,I.os,I.bare,I.base,I.loc,I.cell,I.free,I.oM,I.pin,I.hok,I.len⟩
theorem SP.oX{D:Ends}{f:Flow}{s':sr}(h:SP (X.wish E) pins D f s'):SP X pins D f s':=by
 cases f with
 | next=>obtain ⟨σ',H',I,q⟩:=h; exact⟨σ',H',I.oX,q⟩
 | brk=>obtain ⟨σ',H',I,q⟩:=h; exact⟨σ',H',I.oX,q⟩
 | cont=>obtain ⟨σ',H',I,q⟩:=h; exact⟨σ',H',I.oX,q⟩
 | ret u=>obtain ⟨v,σ',H',I,r,q⟩:=h; exact⟨v,σ',H',I.oX,r,q⟩
theorem PSs.nox{st:List Stmt}{t:TS}(h:PSs X.nox st t):PSs X st t:=fun pins s σ H D I hw=>
 fT (h pins s σ H D (I.wish _) hw) (fun _ _ q=>q.oX) fun _ _ z=>Be z
end
section
variable {X:Cx}{st:Stmt}{rest:List Stmt}{t u:TS}{e:Expr}{te:TE}{pos:Pos}
def RQ:TS:=fun D σ H=>D.nx σ H
def Sg(t u:TS):TS:=fun D σ H=>t { D with nx:=u D } σ H
theorem aX:PSs X [] RQ:=fun _ _ σ H _ I h=>oS ⟨σ,H,I,h⟩
theorem aA(h1:PS X st t)(h2:PSs X rest u):PSs X (st::rest) (Sg t u):=by
 intro pins s σ H D I h;refine Th (thn (h1 pins s σ H { D with nx:=u D } I h) fun f s1 q=>?_);cases f with
 | next=>
  obtain ⟨σ',H',I',q⟩:=q;exact h2 pins s1 σ' H' D I' q
 | ret v=>exact q
 | brk=>exact q
 | cont=>exact q
theorem aD(h1:PS X st t):PSs X [st] t:=by
 intro pins s σ H D I h;refine Th (thn (h1 pins s σ H D I h) fun f s1 q=>?_);cases f with
 | next=>exact oS q
 | ret v=>exact q
 | brk=>exact q
 | cont=>exact q
theorem Inv.quiet{pins:LO}{σ:St}{H:Hp}{s:sr}(I:Inv X pins σ H s):interactive X.env=false:=by simp [interactive,I.ok.kind]
def Rn(te:TE):TS:=fun D σ H=>te σ H fun _ H1=>D.nx σ H1
theorem aP(he:PE X e te)(hs:TY e none pos.line X.env=Eg false:=by rfl):PS X (.Expr e pos) (Rn te):=by
 intro pins s σ H D I h;exact wpAny_Expr_any (thn (he pins s σ H _ I h) fun v s1 ⟨x,H1,I1,r1,q1⟩=>⟨σ,H1,I1,q1⟩) I.quiet hs
def SJ(te:TE):TS:=fun D σ H=>te σ H D.rt
theorem aR(he:PE X e te):PS X (.Return (some e) pos) (SJ te):=by
 intro pins s σ H D I h;exact wpAny_Return_some (thn (he pins s σ H _ I h) fun v s1 ⟨x,H1,I1,r1,q1⟩=>⟨x,σ,H1,I1,r1,q1⟩)
def Rv:TS:=fun D _ H=>D.rt .non H
theorem Ew:PS X (.Return none pos) Rv:=fun _ _ σ H _ I h=>wpAny_Return_none ⟨.non,σ,H,I,rfl,h⟩
def S6(c:TT)(t u:TS):TS:=fun D σ H=>c σ H fun b H1=>if b=true then t D σ H1 else u D σ H1
theorem bD{c:Expr}{a b:List Stmt}{tc:TT}(hc:PT X c tc)(ha:PSs X a t)(hb:PSs X b u):PS X (.If c a b pos) (S6 tc t u):=by
 intro pins s σ H D I h;refine wpAny_If (thn (hc pins s σ H _ I h) fun d s1 ⟨H1,I1,q1⟩=>?_);cases d with
 | true=>exact ha pins s1 σ H1 D I1 q1
 | false=>exact hb pins s1 σ H1 D I1 q1
end
abbrev TG:=V->St->Hp->(St->Hp->Prop)->Prop
abbrev TGs:=LV->St->Hp->(St->Hp->Prop)->Prop
def PG(X:Cx)(target:Expr)(t:TG):Prop:=
 ∀(pins:LO) (s:sr) (σ:St) (H:Hp) (v:V) (u:rn) (Q:St->Hp->Prop),Inv X pins σ H s->RelV v u->t v σ H Q->
  ut ‹6› X.A (assign target X.env u) (fun _ s'=>∃ σ' H',Inv X pins σ' H' s'/\Q σ' H') X.xe s
def PGs(X:Cx)(ts:List Expr)(t:TGs):Prop:=
 ∀(pins:LO) (s:sr) (σ:St) (H:Hp) (vs:LV) (us:LU) (Q:St->Hp->Prop),Inv X pins σ H s->Vals vs us->t vs σ H Q->
  ut ‹6› X.A (assignInOrder ((JP ts X.env).map (·.2)) us) (fun _ s'=>∃ σ' H',Inv X pins σ' H' s'/\Q σ' H') X.xe s
abbrev Qf:=V->V->V->Hp->(Hp->Prop)->Prop
def R3(X:Cx)(t:Qf):Prop:=
 ∀(pins:LO) (s:sr) (σ:St) (H:Hp) (o i v:V) (ov iv u:rn) (Q:Hp->Prop),Inv X pins σ H s->RelV o ov->RelV i iv->RelV v u->t o i v H Q->
  ut ‹6› X.A (setItem ov iv u) (fun _ s'=>∃ H',Inv X pins σ H' s'/\Q H') X.xe s
section
variable {X:Cx}{pos:Pos}
def Fg(i:Nat):TG:=fun v σ H Q=>Q (σ.set i (some v)) H
theorem aJ{i:Nat}{x:Str}(hN:X.N.Nodup)(hi:X.N[i]?=some x)(hx:Loc X.env.scope x)(hf:X.fn x=true\/X.env.scope.names.lookup x=some .local:=by first | exact .inl rfl | exact .inr rfl | assumption):PG X (.Name x pos) (Fg i):=by
 intro pins s σ H v u Q I r h;exact wpAny_assign_Name (rZ I hN hi hx r (fun s' I'=>⟨_,H,I',h⟩) hf)
def R8:TGs:=fun vs σ H Q=>vs=[]/\Q σ H
inductive Od (t:TG) (u:TGs) (vs:LV) (σ:St) (H:Hp) (Q:St->Hp->Prop):Prop
 | mk (v r:_):vs=v::r->(t v σ H fun σ' H'=>u r σ' H' Q)->Od t u vs σ H Q
theorem eV:PGs X [] R8:=by
 intro pins s σ H vs us Q I r h;obtain ⟨e,h⟩:=h;subst e;cases r;exact assignInOrder_nil ⟨σ,H,I,h⟩
theorem aY{e:Expr}{es:List Expr}{t:TG}{u:TGs}(h1:PG X e t)(h2:PGs X es u)
  (hs:(JP (e::es) X.env).map (·.2)=assign e X.env::(JP es X.env).map (·.2):=by rfl):PGs X (e::es) (Od t u):=by
 intro pins s σ H vs us Q I r h;obtain ⟨v,vr,e1,h⟩:=h;subst e1;cases r with
 | cons r rr=>
  rw [hs];refine QR (thn (h1 pins s σ H _ _ _ I r h) fun _ s1 ⟨σ1,H1,I1,q1⟩=>?_);exact h2 pins s1 σ1 H1 _ _ Q I1 rr q1
inductive QH (K:PySem.W.Frag) (n:Nat) (t:TGs) (v:V) (σ:St) (H:Hp) (Q:St->Hp->Prop):Prop
 | mk (a xs:_):v=.ref a->SqT K H a xs->xs.length=n->t xs σ H Q->QH K n t v σ H Q
theorem K8{es:List Expr}{k:Nat}{t:TGs}{n:Nat}(hc:X.calm=true)(h:PGs X es t)
  (hn:(JP es X.env).length=n:=by rfl) (hst:(JP es X.env).findIdx? (·.1)=none:=by rfl):PG X (.Tuple es k pos) (QH X.K n t):=by
 intro pins s σ H v u Q I r hw;obtain ⟨a,xs,e1,hq,hl,hw⟩:=hw;subst e1;cases r;obtain ⟨its,rv,ht,hz⟩:=I.tuple hq;refine assign_Tuple_tuple (I.ok.hd hc) ht (by simp [hn,<- hl,rv.length]) hst fun h' hx=>?_;have I1:Inv X pins σ H { s with heap:=h' }:=I.kept (t':=s.toks) fun b o e=>hx b o (dE (bu e)) e;exact h pins _ σ H xs _ Q I1 (by simpa using rv) hw
def Sh(to ti:TE)(t:Qf):TG:=fun v σ H Q=>to σ H fun o H1=>ti σ H1 fun i H2=>t o i v H2 fun H3=>Q σ H3
theorem sY{o i:Expr}{to ti:TE}{t:Qf}(ho:PE X o to)(hi:PE X i ti)(hs:R3 X t)
  (ha:∀ v,assign (.Subscript o i pos) X.env v=(do
   let ov <- TF [v] (eval o X.env)
   let iv <- TF [v,ov] (eval i X.env)
   standAt pos
   TF [v,ov,iv] (setItem ov iv v)
   release [v,ov,iv] []):=by intro _; rfl):PG X (.Subscript o i pos) (Sh to ti t):=by
 intro pins s σ H v u Q I r h;rw [ha];refine ac (gv (thn (ho pins s σ H _ I h) fun ov s1 ⟨x,H1,I1,r1,q1⟩=>?_));refine ac (gv (thn (hi pins s1 σ H1 _ I1 q1) fun iv s2 ⟨y,H2,I2,r2,q2⟩=>?_));refine ac (mn (ac (gv (thn (hs pins s2 σ H2 x y v ov iv u _ I2 r1 r2 r q2) fun _ s3 ⟨H3,I3,q3⟩=>?_))));exact wpAny_release ⟨σ,H3,I3,q3⟩
def PK(te:TE)(g:TG):TS:=fun D σ H=>te σ H fun x H1=>g x σ H1 D.nx
theorem jx{tg e:Expr}{te:TE}{g:TG}(he:PE X e te)(hg:PG X tg g)(hs:swapsWithSole [tg] e pos.line X.env=Eg false:=by rfl)(hw:swappedStores [tg] e X.env=Eg none:=by rfl)
  (h1:(JP [tg] X.env).map (·.2)=[assign tg X.env]:=by rfl):PS X (.Assign [tg] e pos) (PK te g):=by
 intro pins s σ H D I h;refine wpAny_Assign_stores (thn (he pins s σ H _ I h) fun v s1 ⟨x,H1,I1,r1,q1⟩=>?_) hs hw;rw [h1];exact thn (hg pins s1 σ H1 x v _ I1 r1 q1) fun _ s2 q=>q
theorem aK{i:Nat}{x:Str}{e:Expr}{te:TE}{pos':Pos}(hN:X.N.Nodup)(hi:X.N[i]?=some x)(hx:Loc X.env.scope x)(he:PE X e te)(hs:TY e (some (.Name x pos')) pos.line X.env=Eg false:=by rfl)(hf:X.fn x=true\/X.env.scope.names.lookup x=some .local:=by first | exact .inl rfl | exact .inr rfl | assumption) :
  PS X (.Assign [.Name x pos'] e pos) (PK te (Fg i)):=by
 intro pins s σ H D I h;refine wpAny_Assign_Name (thn (he pins s σ H _ I h) fun v s1 ⟨y,H1,I1,r1,q1⟩=>?_) hs;exact rZ I1 hN hi hx r1 (fun s2 I2=>⟨_,H1,I2,q1⟩) hf
inductive Og (i:Nat) (j:Nat) (D:Ends) (σ:St) (vs:LV) (H1:Hp):Prop
 | mk (v w:_):vs=[v,w]->D.nx ((σ.set i (some v)).set j (some w)) H1->Og i j D σ vs H1
def Sw(i j:Nat)(ta:TA):TS:=fun D σ H=>ta σ H fun vs H1=>Og i j D σ vs H1
theorem QG{i j:Nat}{x y:Str}{a b:Expr}{ta:TA}{px py pt:Pos}{kt k2 pt2}(hc:X.calm=true)(hN:X.N.Nodup)(hi:X.N[i]?=some x)(hj:X.N[j]?=some y)(hij:i≠j)
  (hx:X.env.scope.names.lookup x=some .local) (hy:X.env.scope.names.lookup y=some .local) (ha:PA X [a,b] ta)
  (hw:swappedStores [.Tuple [.Name x px,.Name y py] kt pt] (.Tuple [a,b] k2 pt2) X.env=Eg (some [x,y]))
  (hs:swapsWithSole [.Tuple [.Name x px,.Name y py] kt pt] (.Tuple [a,b] k2 pt2) pos.line X.env=Eg false:=by rfl) :
  PS X (.Assign [.Tuple [.Name x px,.Name y py] kt pt] (.Tuple [a,b] k2 pt2) pos) (Sw i j ta):=by
 intro pins s σ H D I h;rw [exec_Assign_arm];refine ac (mn ?_);rw [hs];refine ac (ay ?_);rw [cK (by decide)];refine ac (Tuple_ (thn (ha _ pins s σ H _ I h) fun us s1 ⟨vs,H1,I1,r1,q1⟩=>?_));obtain ⟨v,w,e1,q1⟩:=q1;subst e1
 obtain ⟨u1,u2,rfl,rv,rw'⟩:∃ u1 u2,us=[u1,u2]/\RelV v u1/\RelV w u2:=by
  cases r1 with
  | cons p q=>
   cases q with
   | cons p' q'=>
    cases q';exact⟨_,_,rfl,p,p'⟩
 refine ik ?_ (by show 2<=sizeLine; decide);have I2:Inv X pins σ H1 { s1 with heap:=s1.heap.push { cls:=.type "tuple",data:=.seq [u1,u2].toArray } }:=I1.kept (t':=s1.toks) fun b o e=>ai _ e;rw [hw];refine ac (ay ?_);show ut ‹6› X.A (do rule "assign.swapped-stores"; let items <- unpackItems (.ref s1.heap.objs.size) 2 none; assignInOrder [fun v=>bindName X.env y v,fun v=>bindName X.env x v] items.reverse; Eg Flow.next) _ _ _;refine ac (jS (ac (unpackItems_tuple (items:=#[u1,u2]) (I.ok.hd hc) (T9 s1.heap _) fun h' hx'=>?_)));have I3:=I2.kept (h':=h') (t':=s1.toks) fun b o e=>hx' b o (dE (bu e)) e;show ut _ _ (assignInOrder [fun v=>bindName X.env y v,fun v=>bindName X.env x v] [u2,u1] >>= fun _=>Eg Flow.next) _ _ _;refine ac (QR (wpAny_bindName (rZ I3 hN hj (.inl hy) rw' (fun s2 I4=>?_) (.inr hy))));refine QR (wpAny_bindName (rZ I4 hN hi (.inl hx) rv (fun s3 I5=>assignInOrder_nil (ay ?_)) (.inr hx)));rw [List.set_comm _ _ (kq hij)] at I5;exact⟨_,H1,I5,q1⟩
end
section
variable {X:Cx}{pos:Pos}
inductive JM (c:TT) (tb:TS) (D:Ends) (σ:St) (H:Hp):Prop
 | mk (W:Nat->St->Hp->Prop):(∃ m,W m σ H)->(∀ m σ H,W m σ H->c σ H fun b H1=>if b=true then ∃ N:St->Hp->Prop,(∀ σ' H',N σ' H'->∃ m',m' < m/\W m' σ' H')/\tb { D with nx:=N,ct:=N,bk:=D.nx } σ H1 else D.nx σ H1)->JM c tb D σ H
theorem vI{c:Expr}{body:List Stmt}{tc:TT}{tb:TS}(hp:PassesOwn ‹6› X.A X.env X.xe)(hc:PT X c tc)(hb:PSs X body tb):PS X (.While c body [] pos) (JM tc tb):=by
 intro pins s σ H D I h;obtain ⟨W,⟨m0,w0⟩,turn⟩:=h;refine wpAny_While (codeAny_whileLoop (fun n s'=>∃ σ' H',Inv X pins σ' H' s'/\W n σ' H') ?_ m0 ⟨σ,H,I,w0⟩);rintro n s1 ⟨σ1,H1,I1,w1⟩;refine ky hp (thn (hc pins s1 σ1 H1 _ I1 (turn n σ1 H1 w1)) fun b s2 ⟨H2,I2,q2⟩=>?_);cases b with
 | true=>
  obtain ⟨N,hN,q2⟩:=q2;rw [dC rfl];refine ky hp (thn (hb pins s2 σ1 H2 _ I2 q2) fun f s3 q3=>?_);cases f with
  | next=>
   obtain ⟨σ3,H3,I3,n3⟩:=q3;obtain ⟨m',hm,w3⟩:=hN σ3 H3 n3;exact⟨m',hm,σ3,H3,I3,w3⟩
  | cont=>
   obtain ⟨σ3,H3,I3,n3⟩:=q3;obtain ⟨m',hm,w3⟩:=hN σ3 H3 n3;exact⟨m',hm,σ3,H3,I3,w3⟩
  | brk=>exact q3
  | ret v=>exact q3
 | false=>
  rw [cK bo];exact oS ⟨σ1,H2,I2,q2⟩
end
structure It where
 go:Nat->Hp->Prop
 yld:Nat->Hp->V->Hp->Prop
 stop:Nat->Hp->Prop
def qg(X:Cx)(pins:LO)(H:Hp)(b:Addr):Prop:=
 H b=none/\b≠X.env.locals/\b ∉ X.fs/\(b∈X.ex\/X.s₀.heap.objs.size<=b)/\(∀ x c,X.env.cells.lookup x=some c->c≠b)/\∀ p∈X.pn++pins,p.1≠b
theorem Inv.nZ{X:Cx}{pins:LO}{σ:St}{H H':Hp}{s:sr}{b:Addr}(I:Inv X pins σ H s)(hb:s.heap.objs.size<=b)(hn:H' b=none):qg X pins H' b:=by
 refine⟨hn,fz (dS I.lt hb),I.RL hb,.inr (eR I.sz hb),fun x c e z=>?_,fun p hp z=>?_⟩
 ·obtain ⟨v,q⟩:=I.cell x c e;exact absurd (dS q.lt (by rw [z]; exact hb)) (iN _)
 ·exact absurd (dS (bu (I.pin p hp).1) (by rw [z]; exact hb)) (iN _)
structure Turn (P:uv) (w:xf) (K:PySem.W.Frag) (tg:Expr) (J:It) (fp:LA) (it:Addr) (tn:Nat->Heap->Prop):Prop where
 mem:it∈fp
 obj:∀ i h,tn i h->∀ b∈fp,∃ o,h.get? b=some o/\∀ v,o.data≠.cell v
 keep:∀ i h h',tn i h->(∀ b∈fp,∀ o,h.get? b=some o->h'.get? b=some o)->tn i h'
 item:∀(X:Cx),X.prog=P->X.w=w->X.K=K->X.calm=true->∀(i:Nat) (pins:LO) (s:sr) (σ:St) (H:Hp) (E:ES),Inv X pins σ H s->(∀ b∈fp,qg X pins H b)->tn i s.heap->J.go i H->
  ut (uB P w) X.A (Hn (.ref it)) (fun r s1=>∃ u,r=some u/\
   ut (uB P w) X.A (PP tg (.ref it) u) (fun _ s2=>∃ x H',Inv X pins σ H' s2/\RelV x u/\J.yld i H x H'/\tn (i+1) s2.heap/\∀ b∈fp,H' b=none) E s1) E s
 done:∀(X:Cx),X.prog=P->X.w=w->X.K=K->X.calm=true->∀(i:Nat) (pins:LO) (s:sr) (σ:St) (H:Hp) (E:ES),Inv X pins σ H s->(∀ b∈fp,qg X pins H b)->tn i s.heap->J.stop i H->
  ut (uB P w) X.A (Hn (.ref it)) (fun r s1=>r=none/\Inv X pins σ H s1) E s
 self:∀(A:xn) (i:Nat) (s:sr) (Q:ES) (E:ES),tn i s.heap->Q (.ref it) s->ut (uB P w) A (pyIter (.ref it)) Q E s
abbrev TI:=St->Hp->(It->Hp->Prop)->Prop
def PIE(X:Cx)(pins:LO)(σ:St)(tg:Expr)(R:It->Hp->Prop)(itv:rn)(s2:sr):Prop:=
 ∃(it:Addr) (fp:LA) (tn:Nat->Heap->Prop) (J:It) (H':Hp),itv=.ref it/\Inv X pins σ H' s2/\Turn X.prog X.w X.K tg J fp it tn/\tn 0 s2.heap/\(∀ b∈fp,qg X pins H' b)/\R J H'
def PI(X:Cx)(tg iter:Expr)(wi:TI):Prop:=
 ∀(pins:LO) (s:sr) (σ:St) (H:Hp) (R:It->Hp->Prop),Inv X pins σ H s->wi σ H R->
  ut ‹6› X.A (eval iter X.env) (fun v s1=>ut ‹6› X.A (pyIter v) (PIE X pins σ tg R) X.xe s1) X.xe s
theorem DK{M:Model}{A:xn}{E:ES}{s:sr}{tg:Expr}{it:Addr}{u:rn}{o:Obj}{n:String}{vs:AV}{Q:Unit->sr->Prop}(ho:s.heap.get? it=some o)(hc:o.cls=.type n)(hd:o.data=.fields vs)
    (hn:["enumerate","zip","dict_itemiterator","dict_reverseitemiterator","odict_iterator","itertools.zip_longest","itertools.pairwise"].contains n=false) (hQ:Q () s):ut M A (PP tg (.ref it) u) Q E s:=by
  unfold PP
  cases tg <;> first
    | exact ay hQ
    | (cases u <;> first
        | exact ay hQ
        | (refine ac (wpAny_load ho ?_)
           rw [hc,hd];show ut M A (if (["enumerate","zip","dict_itemiterator","dict_reverseitemiterator","odict_iterator","itertools.zip_longest","itertools.pairwise"].contains n && vs[0]? == some (rawInt _))=true then _ else _) Q E s;rw [cK (by intro h; rw [hn,Bool.false_and] at h; cases h)];exact ay hQ))
def Itl(K:PySem.W.Frag)(a:Addr):It:=
 ⟨fun i H=>∃ xs x,SqL K H a xs/\xs[i]?=some x,fun i H x H'=>H'=H/\∀ xs,SqL K H a xs->xs[i]?=some x,fun i H=>∃ xs,SqL K H a xs/\xs.length<=i⟩
def Itt(K:PySem.W.Frag)(a:Addr):It:=
 ⟨fun i H=>∃ xs x,SqT K H a xs/\xs[i]?=some x,fun i H x H'=>H'=H/\∀ xs,SqT K H a xs->xs[i]?=some x,fun i H=>∃ xs,SqT K H a xs/\xs.length<=i⟩
def Itr(lo:Int)(n:Nat):It:=⟨fun i _=>i < n,fun i H x H'=>H'=H/\x=.int (lo+i),fun i _=>n<=i⟩
theorem sU{P:uv}{w:xf}{K:PySem.W.Frag}{tg:Expr}(a it:Addr):Turn P w K tg (Itl K a) [it] it (fun i h=>h.IsListIter it a i) where
 mem:=by simp
 obj:=fun i h st b hb=>by
  have e:b=it:=by simpa using hb
  subst e;obtain ⟨o,e,c,d⟩:=st;exact⟨o,e,fun v z=>by rw [d] at z; cases z⟩
 keep:=fun i h h' st k=>st.at fun o e=>k it (by simp) o e
 item:=by
  intro X hP hw hK hc i pins s σ H E I hf st hg;subst hP hw hK;obtain ⟨xs,x,hq,hx⟩:=hg;obtain ⟨its,rv,p,hz⟩:=I.list hq;obtain ⟨u,hu,ru⟩:=rv.get hx;obtain ⟨f0,f1,f2,f3,f4,f5⟩:=hf it (by simp);refine wpAny_pyNext_list_item st p.isList (x:=u) (by simpa using hu) fun h' st' sb=>?_;have I1:Inv X pins σ H { s with heap:=h' }:=I.turned (t':=s.toks) (fun b o hb e=>(sb.2 b hb).trans e) f0 f1 f3 f4 f5;obtain ⟨o,e,c,d⟩:=id st';exact⟨u,rfl,DK (s:={ s with heap:=h' }) e c d (by decide) ⟨x,H,I1,ru,⟨rfl,fun ys hy=>by rw [I.vM hy hq]; exact hx⟩,st',fun b hb=>(hf b hb).1⟩⟩
 done:=by
  intro X hP hw hK hc i pins s σ H E I hf st hg;subst hP hw hK;obtain ⟨xs,hq,hx⟩:=hg;obtain ⟨its,rv,p,hz⟩:=I.list hq;obtain ⟨f0,f1,f2,f3,f4,f5⟩:=hf it (by simp);have hl:=rv.length;exact wpAny_pyNext_list_end (I.ok.hd hc) st p.isList (by simp; omega) fun h' eb=>⟨rfl,I.turned (t':=s.toks) (fun b o hb e=>eb b o hb e) f0 f1 f3 f4 f5⟩
 self:=fun _ _ _ _ _ st h=>wpAny_pyIter_listiter st h
theorem uW{P:uv}{w:xf}{K:PySem.W.Frag}{tg:Expr}(a it:Addr):Turn P w K tg (Itt K a) [it] it (fun i h=>h.IsTupleIter it a i) where
 mem:=by simp
 obj:=fun i h st b hb=>by
  have e:b=it:=by simpa using hb
  subst e;obtain ⟨o,e,c,d⟩:=st;exact⟨o,e,fun v z=>by rw [d] at z; cases z⟩
 keep:=fun i h h' st k=>st.at fun o e=>k it (by simp) o e
 item:=by
  intro X hP hw hK hc i pins s σ H E I hf st hg;subst hP hw hK;obtain ⟨xs,x,hq,hx⟩:=hg;obtain ⟨its,rv,p,hz⟩:=I.tuple hq;obtain ⟨u,hu,ru⟩:=rv.get hx;obtain ⟨f0,f1,f2,f3,f4,f5⟩:=hf it (by simp);refine mS st (show s.heap.IsTuple a its.toArray from p) (x:=u) (by simpa using hu) fun h' st' sb=>?_;have I1:Inv X pins σ H { s with heap:=h' }:=I.turned (t':=s.toks) (fun b o hb e=>(sb.2 b hb).trans e) f0 f1 f3 f4 f5;obtain ⟨o,e,c,d⟩:=id st';exact⟨u,rfl,DK (s:={ s with heap:=h' }) e c d (by decide) ⟨x,H,I1,ru,⟨rfl,fun ys hy=>by rw [I.mV hy hq]; exact hx⟩,st',fun b hb=>(hf b hb).1⟩⟩
 done:=by
  intro X hP hw hK hc i pins s σ H E I hf st hg;subst hP hw hK;obtain ⟨xs,hq,hx⟩:=hg;obtain ⟨its,rv,p,hz⟩:=I.tuple hq;obtain ⟨f0,f1,f2,f3,f4,f5⟩:=hf it (by simp);have hl:=rv.length;exact nk (I.ok.hd hc) st (show s.heap.IsTuple a its.toArray from p) (by simp; omega) fun h' eb=>⟨rfl,I.turned (t':=s.toks) (fun b o hb e=>eb b o hb e) f0 f1 f3 f4 f5⟩
 self:=fun _ _ _ _ _ st h=>wpAny_pyIter_tupleiter st h
theorem Bt{P:uv}{w:xf}{K:PySem.W.Frag}{tg:Expr}(it:Addr)(lo:Int)(n:Nat):Turn P w K tg (Itr lo n) [it] it (fun i h=>IsRangeIter h it (lo+(i:Nat) * 1) ((n:Int) - (i:Nat)) 1) where
 mem:=by simp
 obj:=fun i h st b hb=>by
  have e:b=it:=by simpa using hb
  subst e
  exact⟨_,st,fun v z=>by
   have z':Data.fields _=Data.cell v:=z;cases z'⟩
 keep:=fun i h h' st k=>k it (by simp) _ st
 item:=by
  intro X hP hw hK hc i pins s σ H E I hf st hg;subst hP hw hK;obtain ⟨f0,f1,f2,f3,f4,f5⟩:=hf it (by simp);have W:=Walks.range (prog:=X.prog) (w:=X.w) (I.ok.hd hc) it lo 1 n;refine W.item i s _ _ hg st fun v h' tk hv st' kk=>?_;obtain ⟨t,rfl⟩:=hv;have I1:Inv X pins σ H { s with heap:=h',toks:=tk }:=I.turned (fun b o hb e=>kk b o (by simpa using hb) e) f0 f1 f3 f4 f5;refine⟨_,rfl,DK (s:={ s with heap:=h',toks:=tk }) (n:= "range_iterator") st' rfl rfl (by decide) ⟨.int (lo+i),H,I1,⟨t,?_⟩,⟨rfl,rfl⟩,st',fun b hb=>(hf b hb).1⟩⟩;rw [Int.mul_one]
 done:=by
  intro X hP hw hK hc i pins s σ H E I hf st hg;subst hP hw hK;obtain ⟨f0,f1,f2,f3,f4,f5⟩:=hf it (by simp);exact wpAny_pyNext_range_end (I.ok.hd hc) st (by have:n<=i:=hg; omega) fun h' eb=>⟨rfl,I.turned (t':=s.toks) (fun b o hb e=>eb b o hb e) f0 f1 f3 f4 f5⟩
 self:=fun _ _ _ _ _ st h=>wpAny_pyIter_rangeiter st h
section
variable {X:Cx}{tg:Expr}
inductive JB (K:PySem.W.Frag) (R:It->Hp->Prop) (x:V) (H1:Hp):Prop
 | mk (a:_):x=.ref a->(∃ xs,SqL K H1 a xs)->R (Itl K a) H1->JB K R x H1
def Nq(K:PySem.W.Frag)(tl:TE):TI:=fun σ H R=>tl σ H fun x H1=>JB K R x H1
inductive NZ (K:PySem.W.Frag) (R:It->Hp->Prop) (x:V) (H1:Hp):Prop
 | mk (a:_):x=.ref a->(∃ xs,SqT K H1 a xs)->R (Itt K a) H1->NZ K R x H1
def R4(K:PySem.W.Frag)(tl:TE):TI:=fun σ H R=>tl σ H fun x H1=>NZ K R x H1
theorem Ec{l:Expr}{tl:TE}(hl:PE X l tl):PI X tg l (Nq X.K tl):=by
 intro pins s σ H R I h;refine thn (hl pins s σ H _ I h) fun v s1 ⟨x,H1,I1,r1,q1⟩=>?_;obtain ⟨a,e,⟨xs,hq⟩,q⟩:=q1;subst e;cases r1;obtain ⟨its,rv,p,hz⟩:=I1.list hq;refine wpAny_pyIter_list p.isList ?_;refine⟨s1.heap.objs.size,[s1.heap.objs.size],_,_,H1,rfl,I1.kept (t':=s1.toks) fun b o e=>ai _ e,sU a _,⟨_,aS _ rfl,rfl,rfl⟩,fun b hb=>?_,q⟩;have e:b=s1.heap.objs.size:=by simpa using hb
 subst e;exact I1.nZ (am _) (I1.hok.fresh (am _))
theorem La{pins:LO}{σ:St}{H:Hp}{s:sr}{R:It->Hp->Prop}{E:ES}{lo hi:Int}{t u v:Tok}{tk:Nat}(I:Inv X pins σ H s)(h1:-(2 ^ 62)<=lo)(h2:lo < 2 ^ 62)(h3:-(2 ^ 62)<=hi)(h4:hi < 2 ^ 62)
  (q:R (Itr lo (hi - lo).toNat) H):ut ‹6› X.A (pyIter (.ref s.heap.objs.size)) (PIE X pins σ tg R) E { s with heap:=s.heap.push { cls:=.type "range",data:=.fields #[.int lo t,.int hi u,.int 1 v] },toks:=tk }:=by
 refine wpAny_pyIter_range (IsRange.new ..) (small_one h1 h2 h3 h4) ?_;have I1:Inv X pins σ H { s with heap:=s.heap.push { cls:=.type "range",data:=.fields #[.int lo t,.int hi u,.int 1 v] },toks:=tk }:=I.kept fun b o e=>ai _ e
 refine⟨(s.heap.push { cls:=.type "range",data:=.fields #[.int lo t,.int hi u,.int 1 v] }).objs.size,[(s.heap.push { cls:=.type "range",data:=.fields #[.int lo t,.int hi u,.int 1 v] }).objs.size],_,_,H,rfl,
  I1.kept (t':=tk) fun b o e=>ai _ e,Bt _ lo (hi - lo).toNat,?_,fun b hb=>?_,q⟩
 ·have e1:lo+((0:Nat):Int) * 1=lo:=by simp
  have e2:(((hi - lo).toNat:Nat):Int) - ((0:Nat):Int)=uA.Range.rangeSize lo hi 1:=by rw [rangeSize_one]; split <;> omega
  show IsRangeIter _ _ (lo+((0:Nat):Int) * 1) ((((hi - lo).toNat:Nat):Int) - ((0:Nat):Int)) 1;rw [e1,e2];exact aS _ rfl
 ·have e:b=(s.heap.push { cls:=.type "range",data:=.fields #[.int lo t,.int hi u,.int 1 v] }).objs.size:=by simpa using hb
  subst e;exact I1.nZ (am _) (I1.hok.fresh (am _))
inductive JF (R:It->Hp->Prop) (vs:LV) (H1:Hp):Prop
 | mk (j:Int):vs=[.int j]->-(2 ^ 62)<=j->j < 2 ^ 62->R (Itr 0 j.toNat) H1->JF R vs H1
def Rt(ta:TA):TI:=fun σ H R=>ta σ H fun vs H1=>JF R vs H1
theorem mQ{a:Expr}{ta:TA}{p pos:Pos}(hg:Gl X "range")(hm:X.mg "range" = none)(ha:PA X [a] ta)(hs:uC [a] X.env=[(false,eval a X.env)]:=by rfl):PI X tg (.Call (.Name "range" p) [a] [] pos) (Rt ta):=by
 intro pins s σ H R I h;refine Call_ (oA I hg hm boot_range (i4 (thn (ha pos pins s σ H _ I h) fun us s1 ⟨vs,H1,I1,r1,q1⟩=>?_) hs rfl));obtain ⟨j,e,q1,q2,q⟩:=q1;subst e;cases r1 with
 | cons r rr=>
  cases rr;obtain ⟨t,rfl⟩:=r;exact call_range_1 (La I1 ‹23› ‹23› q1 q2 (by simpa using q))
def R9(wi:TI)(g:TG)(tb:TS):TS:=fun D σ H=>wi σ H fun J H1=>∃ W:Nat->Nat->St->Hp->Prop,(∃ m,W 0 m σ H1)/\∀ i m σ H,W i m σ H->
 (J.stop i H/\D.nx σ H)\/(J.go i H/\∃ N:St->Hp->Prop,(∀ σ' H',N σ' H'->∃ m',m' < m/\W (i+1) m' σ' H')/\∀ x H',J.yld i H x H'->g x σ H' fun σ2 H2=>tb { D with nx:=N,ct:=N,bk:=D.nx } σ2 H2)
def vN(fp:LA)(h:Heap):LO:=fp.filterMap fun b=>(h.get? b).map fun o=>(b,o)
theorem oK{fp:LA}{h:Heap}{b:Addr}{o:Obj}(hb:b∈fp)(e:h.get? b=some o):(b,o)∈vN fp h:=kg.mpr ⟨b,hb,by rw [e]; rfl⟩
theorem Gs{fp:LA}{h:Heap}{p:Addr × Obj}(hp:p∈vN fp h):p.1∈fp/\h.get? p.1=some p.2:=by
 obtain ⟨b,hb,e⟩:=kg.mp hp;cases q:h.get? b with
 | none=>rw [q] at e; cases e
 | some o=>
  rw [q] at e;have e':(b,o)=p:=dL e;subst e';exact⟨hb,q⟩
theorem Inv.pinned{pins:LO}{σ:St}{H:Hp}{s:sr}{fp:LA}(I:Inv X pins σ H s)(hf:∀ b∈fp,qg X pins H b)(ho:∀ b∈fp,∃ o,s.heap.get? b=some o/\∀ v,o.data≠.cell v):Inv X (pins++vN fp s.heap) σ H s:=
 I.uN fun p hp=>(dP.mp hp).elim (fun z=>I.pin p (bX _ z)) fun z=>by
  obtain ⟨hb,e⟩:=Gs z;obtain ⟨f0,f1,f2,_⟩:=hf p.1 hb;obtain ⟨o,e',d⟩:=ho p.1 hb;rw [e] at e'; cases e';exact⟨e,f0,f1,f2,d⟩
theorem Inv.rG{pins pl:LO}{σ:St}{H:Hp}{s:sr}(I:Inv X (pins++pl) σ H s):Inv X pins σ H s:=I.uN fun p hp=>I.pin p (bX _ (fh _ hp))
theorem dB{iter:Expr}{body:List Stmt}{wi:TI}{g:TG}{tb:TS}{pos:Pos}(hp:PassesOwn ‹6› X.A X.env X.xe)(hc:X.calm=true)(hi:PI X tg iter wi)(hg:PG X tg g)(hb:PSs X body tb)
  (hs:∀ x,foldedSetIterable iter X.env x=Eg x:=by intro _; rfl):PS X (.For tg iter body [] pos) (R9 wi g tb):=by
 intro pins s σ H D I h;refine wpAny_For (thn (hi pins s σ H _ I h) fun v s1 h1=>thn h1 fun itv s2 h2=>?_) hs;obtain ⟨it,fp,tn,J,H2,e,I2,T,st2,f2,W,⟨m0,w0⟩,turn⟩:=h2;subst e;have stat:∀ {H':Hp},(∀ b∈fp,H' b=none)->∀ b∈fp,qg X pins H' b:=fun hn b hb=>⟨hn b hb,(f2 b hb).2⟩;refine codeAny_forLoop_any (fun n s'=>∃ i σ' H',Inv X pins σ' H' s'/\tn i s'.heap/\(∀ b∈fp,H' b=none)/\W i n σ' H') ?_ m0 ⟨0,σ,H2,I2,st2,fun b hb=>(f2 b hb).1,w0⟩;rintro n s3 ⟨i,σ3,H3,I3,st3,fr3,w3⟩;rcases turn i n σ3 H3 w3 with ⟨stop,qn⟩ | ⟨go,N,hN,step⟩
 ·refine ky hp (thn (T.done X rfl rfl rfl hc i pins s3 σ3 H3 X.xe I3 (stat fr3) st3 stop) fun r s4 ⟨hr,I4⟩=>?_);subst hr;exact oS ⟨σ3,H3,I4,qn⟩
 ·refine ky hp (thn (T.item X rfl rfl rfl hc i pins s3 σ3 H3 X.xe I3 (stat fr3) st3 go) fun r s4 ⟨u,hr,h4⟩=>?_);subst hr;refine ky hp (thn h4 fun _ s5 ⟨x,H5,I5,r5,y5,st5,fr5⟩=>?_);have I5':=I5.pinned (stat fr5) (T.obj _ _ st5);refine ky hp (thn (hg _ s5 σ3 H5 x u _ I5' r5 (step x H5 y5)) fun _ s6 ⟨σ6,H6,I6,q6⟩=>?_);refine ky hp (thn (hb _ s6 σ6 H6 _ I6 q6) fun f s7 q7=>?_)
  have again:∀ {σ7:St} {H7:Hp},Inv X (pins++vN fp s5.heap) σ7 H7 s7->N σ7 H7->∃ m,m < n/\∃ i σ' H',Inv X pins σ' H' s7/\tn i s7.heap/\(∀ b∈fp,H' b=none)/\W i m σ' H':=fun {σ7 H7} I7 n7=>by
   obtain ⟨m',hm,w7⟩:=hN σ7 H7 n7;refine⟨m',hm,i+1,σ7,H7,I7.rG,T.keep _ _ _ st5 fun b hb o e=>(I7.pin (b,o) (bX _ (bX _ (oK hb e)))).1,fun b hb=>?_,w7⟩;obtain ⟨o,e,d⟩:=T.obj _ _ st5 b hb;exact(I7.pin (b,o) (bX _ (bX _ (oK hb e)))).2.1
  cases f with
  | next=>obtain ⟨σ7,H7,I7,n7⟩:=q7; exact again I7 n7
  | cont=>obtain ⟨σ7,H7,I7,n7⟩:=q7; exact again I7 n7
  | brk=>obtain ⟨σ7,H7,I7,q7⟩:=q7; exact⟨σ7,H7,I7.rG,q7⟩
  | ret v=>obtain ⟨x7,σ7,H7,I7,r7,q7⟩:=q7; exact⟨x7,σ7,H7,I7.rG,r7,q7⟩
end
theorem lC{K:PySem.W.Frag}{a:Addr}{xs:LV}{g:TG}{tb:TS}{D:Ends}{σ:St}{H:Hp}(Pv:Nat->St->Hp->Prop)(h0:Pv 0 σ H)(hl:∀ i σ H,i<=xs.length->Pv i σ H->SqL K H a xs)
  (hs:∀ i x σ H,xs[i]?=some x->Pv i σ H->g x σ H fun σ2 H2=>tb { D with nx:=Pv (i+1),ct:=Pv (i+1),bk:=D.nx } σ2 H2) (hd:∀ σ H,Pv xs.length σ H->D.nx σ H) :
  ∃ W:Nat->Nat->St->Hp->Prop,(∃ m,W 0 m σ H)/\∀ i m σ H,W i m σ H->
   ((Itl K a).stop i H/\D.nx σ H)\/((Itl K a).go i H/\∃ N:St->Hp->Prop,(∀ σ' H',N σ' H'->∃ m',m' < m/\W (i+1) m' σ' H')/\∀ x H',(Itl K a).yld i H x H'->g x σ H' fun σ2 H2=>tb { D with nx:=N,ct:=N,bk:=D.nx } σ2 H2):=by
 refine⟨fun i m σ H=>m=xs.length - i/\i<=xs.length/\Pv i σ H,⟨xs.length,by simp,bn _,h0⟩,?_⟩;rintro i m σ H ⟨rfl,hi,p⟩;have q:=hl i σ H hi p
 by_cases hlt:i < xs.length
 ·refine .inr ⟨⟨xs,xs[i],q,by simp [hlt]⟩,Pv (i+1),fun σ' H' p'=>⟨xs.length - (i+1),by omega,rfl,hlt,p'⟩,fun x H' y=>?_⟩;obtain ⟨e,y⟩:=y;subst e;exact hs i x σ _ (y xs q) p
 ·have e:i=xs.length:=by omega
  subst e;exact .inl ⟨⟨xs,q,am _⟩,hd σ H p⟩
theorem kj{K:PySem.W.Frag}{a:Addr}{xs:LV}{g:TG}{tb:TS}{D:Ends}{σ:St}{H:Hp}(Pv:Nat->St->Hp->Prop)(h0:Pv 0 σ H)(hl:∀ i σ H,i<=xs.length->Pv i σ H->SqT K H a xs)
  (hs:∀ i x σ H,xs[i]?=some x->Pv i σ H->g x σ H fun σ2 H2=>tb { D with nx:=Pv (i+1),ct:=Pv (i+1),bk:=D.nx } σ2 H2) (hd:∀ σ H,Pv xs.length σ H->D.nx σ H) :
  ∃ W:Nat->Nat->St->Hp->Prop,(∃ m,W 0 m σ H)/\∀ i m σ H,W i m σ H->
   ((Itt K a).stop i H/\D.nx σ H)\/((Itt K a).go i H/\∃ N:St->Hp->Prop,(∀ σ' H',N σ' H'->∃ m',m' < m/\W (i+1) m' σ' H')/\∀ x H',(Itt K a).yld i H x H'->g x σ H' fun σ2 H2=>tb { D with nx:=N,ct:=N,bk:=D.nx } σ2 H2):=by
 refine⟨fun i m σ H=>m=xs.length - i/\i<=xs.length/\Pv i σ H,⟨xs.length,by simp,bn _,h0⟩,?_⟩;rintro i m σ H ⟨rfl,hi,p⟩;have q:=hl i σ H hi p
 by_cases hlt:i < xs.length
 ·refine .inr ⟨⟨xs,xs[i],q,by simp [hlt]⟩,Pv (i+1),fun σ' H' p'=>⟨xs.length - (i+1),by omega,rfl,hlt,p'⟩,fun x H' y=>?_⟩;obtain ⟨e,y⟩:=y;subst e;exact hs i x σ _ (y xs q) p
 ·have e:i=xs.length:=by omega
  subst e;exact .inl ⟨⟨xs,q,am _⟩,hd σ H p⟩
theorem ni{lo:Int}{n:Nat}{g:TG}{tb:TS}{D:Ends}{σ:St}{H:Hp}(Pv:Nat->St->Hp->Prop)(h0:Pv 0 σ H)
  (hs:∀ i σ H,i < n->Pv i σ H->g (.int (lo+i)) σ H fun σ2 H2=>tb { D with nx:=Pv (i+1),ct:=Pv (i+1),bk:=D.nx } σ2 H2) (hd:∀ σ H,Pv n σ H->D.nx σ H) :
  ∃ W:Nat->Nat->St->Hp->Prop,(∃ m,W 0 m σ H)/\∀ i m σ H,W i m σ H->
   ((Itr lo n).stop i H/\D.nx σ H)\/((Itr lo n).go i H/\∃ N:St->Hp->Prop,(∀ σ' H',N σ' H'->∃ m',m' < m/\W (i+1) m' σ' H')/\∀ x H',(Itr lo n).yld i H x H'->g x σ H' fun σ2 H2=>tb { D with nx:=N,ct:=N,bk:=D.nx } σ2 H2):=by
 refine⟨fun i m σ H=>m=n - i/\i<=n/\Pv i σ H,⟨n,by simp,bn _,h0⟩,?_⟩;rintro i m σ H ⟨rfl,hi,p⟩
 by_cases hlt:i < n
 ·refine .inr ⟨hlt,Pv (i+1),fun σ' H' p'=>⟨n - (i+1),by omega,rfl,hlt,p'⟩,fun x H' y=>?_⟩;obtain ⟨e,y⟩:=y;subst e y;exact hs i σ _ hlt p
 ·have e:i=n:=by omega
  subst e;exact .inl ⟨am _,hd σ H p⟩
abbrev R2:=V->V->Hp->VK->Prop
def OpR(X:Cx)(f:rn->rn->Sem rn)(r:R2):Prop:=
 ∀(pins:LO) (s:sr) (σ:St) (H:Hp) (x y:V) (v u:rn) (Q:VK),Inv X pins σ H s->RelV x v->RelV y u->r x y H Q->
  ut ‹6› X.A (f v u) (EP X pins σ Q) X.xe s
def UnR(X:Cx)(f:rn->Sem rn)(r:V->Hp->VK->Prop):Prop:=
 ∀(pins:LO) (s:sr) (σ:St) (H:Hp) (x:V) (v:rn) (Q:VK),Inv X pins σ H s->RelV x v->r x H Q->
  ut ‹6› X.A (f v) (EP X pins σ Q) X.xe s
def iz(X:Cx)(f:rn)(r:LV->Hp->VK->Prop):Prop:=
 ∀(pins:LO) (s:sr) (σ:St) (H:Hp) (xs:LV) (us:LU) (Q:VK),Inv X pins σ H s->Vals xs us->r xs H Q->
  ut ‹6› X.A (call f us) (EP X pins σ Q) X.xe s
def Tn(X:Cx)(r:V->Hp->(Bool->Hp->Prop)->Prop):Prop:=
 ∀(pins:LO) (s:sr) (σ:St) (H:Hp) (x:V) (v:rn) (Q:Bool->Hp->Prop),Inv X pins σ H s->RelV x v->r x H Q->
  ut ‹6› X.A (truthy v) (TP X pins σ Q) X.xe s
def tOp(r:R2)(ta tb:TE):TE:=fun σ H Q=>ta σ H fun x H1=>tb σ H1 fun y H2=>r x y H2 Q
def tUn(r:V->Hp->VK->Prop)(ta:TE):TE:=fun σ H Q=>ta σ H fun x H1=>r x H1 Q
inductive rI (C:Int->Int->Prop) (g:Int->Int->V) (x:V) (y:V) (H:Hp) (Q:VK):Prop
 | mk (i j:_):x=.int i->y=.int j->C i j->Q (g i j) H->rI C g x y H Q
inductive rI0 (g:Int->Int->V) (x:V) (y:V) (H:Hp) (Q:VK):Prop
 | mk (i j:_):x=.int i->y=.int j->Q (g i j) H->rI0 g x y H Q
inductive rU (g:Int->V) (x:V) (H:Hp) (Q:VK):Prop
 | mk (i:_):x=.int i->Q (g i) H->rU g x H Q
section
variable {X:Cx}{a b c:Expr}{ta tb tc:TE}{pos:Pos}
theorem Oq(ha:PE X a ta)(hb:PE X b tb){pins:LO}{s:sr}{σ:St}{H:Hp}{R:V->V->Hp->Prop}(I:Inv X pins σ H s)
  (h:ta σ H fun x H1=>tb σ H1 fun y H2=>R x y H2) {Q:ES} {f:rn->rn->Sem rn}
  (hf:∀ v u s2 x y H2,Inv X pins σ H2 s2->RelV x v->RelV y u->R x y H2->ut ‹6› X.A (f v u) Q X.xe s2) :
  ut ‹6› X.A (eval a X.env) (fun v s₁=>ut ‹6› X.A (eval b X.env) (fun u s₂=>ut ‹6› X.A (f v u) Q X.xe s₂) X.xe s₁) X.xe s:=by
 refine thn (ha pins s σ H _ I h) fun v s1 ⟨x,H1,I1,r1,q1⟩=>?_;refine thn (hb pins s1 σ H1 _ I1 q1) fun u s2 ⟨y,H2,I2,r2,q2⟩=>?_;exact hf v u s2 x y H2 I2 r1 r2 q2
theorem bH{op:Operator}{r:R2}(ho:OpR X (Ff op) r)(ha:PE X a ta)(hb:PE X b tb):PE X (.BinOp a op b pos) (tOp r ta tb):=by
 intro pins s σ H Q I h;exact wpAny_BinOp (Oq ha hb I h fun v u s2 x y H2 I2 rx ry q=>ho pins s2 σ H2 x y v u Q I2 rx ry q)
theorem Ri{op:UnaryOp}{r:V->Hp->VK->Prop}(ho:UnR X (unaryOp op) r)(ha:PE X a ta):PE X (.UnaryOp op a pos) (tUn r ta):=by
 intro pins s σ H Q I h;exact UnaryOp_ (thn (ha pins s σ H _ I h) fun v s1 ⟨x,H1,I1,r1,q1⟩=>ho pins s1 σ H1 x v Q I1 r1 q1)
theorem opI{f:rn->rn->Sem rn}{C:Int->Int->Prop}{g:Int->Int->Int}
  (rule:∀(i j:Int) (t u:Tok) (s:sr) (Q:ES) (E:ES),C i j->Q (.int (g i j) s.toks) { s with toks:=s.toks+1 }->ut ‹6› X.A (f (.int i t) (.int j u)) Q E s) :
  OpR X f (rI C fun i j=>.int (g i j)):=by
 intro pins s σ H x y v u Q I rx ry h;obtain ⟨i,j,rfl,rfl,hc,q⟩:=h;obtain ⟨t,rfl⟩:=rx;obtain ⟨t',rfl⟩:=ry;exact rule i j t t' s _ _ hc ⟨.int (g i j),H,I.tok _,⟨_,rfl⟩,q⟩
theorem Ra{f:rn->rn->Sem rn}{g:Int->Int->Int}
  (rule:∀(i j:Int) (t u:Tok) (s:sr) (Q:ES) (E:ES),Q (.int (g i j) s.toks) { s with toks:=s.toks+1 }->ut ‹6› X.A (f (.int i t) (.int j u)) Q E s) :
  OpR X f (rI0 fun i j=>.int (g i j)):=by
 intro pins s σ H x y v u Q I rx ry h;obtain ⟨i,j,rfl,rfl,q⟩:=h;obtain ⟨t,rfl⟩:=rx;obtain ⟨t',rfl⟩:=ry;exact rule i j t t' s _ _ ⟨.int (g i j),H,I.tok _,⟨_,rfl⟩,q⟩
theorem Nh{f:rn->rn->Sem rn}{g:Int->Int->Bool}
  (rule:∀(i j:Int) (t u:Tok) (s:sr) (Q:ES) (E:ES),Q (.bool (g i j)) s->ut ‹6› X.A (f (.int i t) (.int j u)) Q E s) :
  OpR X f (rI0 fun i j=>.bl (g i j)):=by
 intro pins s σ H x y v u Q I rx ry h;obtain ⟨i,j,rfl,rfl,q⟩:=h;obtain ⟨t,rfl⟩:=rx;obtain ⟨t',rfl⟩:=ry;exact rule i j t t' s _ _ ⟨.bl (g i j),H,I,rfl,q⟩
def Sx(i j:Int):Prop:=0 < j/\j < 1073741824
def Ti(i j:Int):Prop:=0<=j/\j<=1000000/\i.natAbs < 2 ^ 64
def Qx(i j:Int):Prop:=(-(2 ^ 64) < i/\i < 2 ^ 64)\/(-(2 ^ 64) < j/\j < 2 ^ 64)
theorem Qx.ok{i j:Int}(h:Qx i j):IntMulOk i j:=by
 rcases h with ⟨h1,h2⟩ | ⟨h1,h2⟩
 ·exact .of_left (intBits_le_64 h1 h2)
 ·exact .of_right (intBits_le_64 h1 h2)
theorem jz:OpR X (Ff .Add) (rI0 fun i j=>.int (i+j)):=Ra fun _ _ _ _ _ _ _ q=>add_int q
theorem iW:OpR X (Ff .Sub) (rI0 fun i j=>.int (i - j)):=Ra fun _ _ _ _ _ _ _ q=>sub_int q
theorem uR:OpR X (Ff .Mult) (rI Qx fun i j=>.int (i * j)):=opI fun _ _ _ _ _ _ _ hc q=>mul_int q hc.ok
theorem Mw:OpR X (Ff .FloorDiv) (rI Sx fun i j=>.int (i / j)):=opI fun i j _ _ _ _ _ hc q=>by
 have h1:(0:Int) < j:=hc.1;have h2:j < 1073741824:=hc.2;exact floordiv_int ‹23› (by rw [Int.fdiv_eq_ediv_of_nonneg i ‹23›]; exact q) (.inl (PyProof.noPylong_small ‹23›))
theorem qW:OpR X (Ff .Mod) (rI (fun _ j=>0 < j) fun i j=>.int (i % j)):=opI fun i j _ _ _ _ _ hc q=>by
 have h1:(0:Int) < j:=hc;exact mod_int' ‹23› (by rw [Int.fmod_eq_emod_of_nonneg i ‹23›]; exact q)
theorem O5:OpR X (Ff .Pow) (rI Ti fun i j=>.int (i ^ j.toNat)):=opI fun _ _ _ _ _ _ _ hc q=>pow_int_small hc.1 hc.2.1 hc.2.2 q
theorem unI{f:rn->Sem rn}{g:Int->Int}
  (rule:∀(i:Int) (t:Tok) (s:sr) (Q:ES) (E:ES),Q (.int (g i) s.toks) { s with toks:=s.toks+1 }->ut ‹6› X.A (f (.int i t)) Q E s) :
  UnR X f (rU fun i=>.int (g i)):=by
 intro pins s σ H x v Q I rx h;obtain ⟨i,rfl,q⟩:=h;obtain ⟨t,rfl⟩:=rx;exact rule i t s _ _ ⟨.int (g i),H,I.tok _,⟨_,rfl⟩,q⟩
theorem Qi:UnR X (unaryOp .USub) (rU fun i=>.int (-i)):=unI fun _ _ _ _ _ q=>neg_int q
end
def Q8:V->V->Bool
 | .non,.non=>true | .non,.int _=>true | .int _,.non=>true | .non,.bl _=>true | .bl _,.non=>true | .non,.str _=>true | .str _,.non=>true
 | .int _,.int _=>true | .bl _,.bl _=>true | .str _,.str _=>true | .byt _,.byt _=>true
 | .int _,.str _=>true | .str _,.int _=>true | .bl _,.str _=>true | .str _,.bl _=>true
 | _,_=>false
def rEq:R2:=fun x y H Q=>Q8 x y=true/\Q (.bl (decide (x=y))) H
def rNe:R2:=fun x y H Q=>Q8 x y=true/\Q (.bl (!decide (x=y))) H
theorem DN{i j:Int}:decide (V.int i=V.int j)=(i == j):=by
 rw [gX];simp
theorem Lg{i j:Bool}:decide (V.bl i=V.bl j)=(i == j):=by
 rw [gX];simp
theorem Fd{i j:Str}:decide (V.str i=V.str j)=(i == j):=by
 rw [gX];simp
theorem FJ{i j:Array UInt8}:decide (V.byt i=V.byt j)=(i.toList == j.toList):=by
 rw [gX];cases i;cases j;simp
section
variable {X:Cx}{a b c:Expr}{ta tb tc:TE}{pos:Pos}
theorem cO{pins:LO}{σ:St}{H:Hp}{s:sr}{Q:VK}{k k':Bool}(I:Inv X pins σ H s)(q:Q (.bl k) H)(e:k=k'):EP X pins σ Q (.bool k') s:=by
 subst e;exact⟨.bl k,H,I,rfl,q⟩
theorem dH:OpR X (yo .Eq) rEq:=by
 intro pins s σ H x y v u Q I rx ry h;obtain ⟨hs,q⟩:=h;cases x with
 | non=>
  cases rx;cases y with
  | non=>cases ry; exact PySem.EqNone.eq_none_none ‹12›
  | bl j=>cases ry; exact PySem.EqNone.eq_none_bool ‹12›
  | int j=>obtain ⟨t',rfl⟩:=ry; exact PySem.EqNone.eq_none_int ‹12›
  | str j=>obtain ⟨t',rfl⟩:=ry; exact PySem.EqNone.eq_none_str ‹12›
  | _=>exact absurd (show false=true from hs) bo
 | bl i=>
  cases rx;cases y with
  | non=>cases ry; exact PySem.EqNone.eq_bool_none ‹12›
  | bl j=>cases ry; exact eq_bool (cO I q Lg)
  | str j=>obtain ⟨t',rfl⟩:=ry; exact PySem.EqMixed.eq_bool_str ‹12›
  | _=>exact absurd (show false=true from hs) bo
 | int i=>
  obtain ⟨t,rfl⟩:=rx;cases y with
  | non=>cases ry; exact PySem.EqNone.eq_int_none ‹12›
  | int j=>obtain ⟨t',rfl⟩:=ry; exact eq_int (cO I q DN)
  | str j=>obtain ⟨t',rfl⟩:=ry; exact PySem.EqMixed.eq_int_str ‹12›
  | _=>exact absurd (show false=true from hs) bo
 | str i=>
  obtain ⟨t,rfl⟩:=rx;cases y with
  | non=>cases ry; exact PySem.EqNone.eq_str_none ‹12›
  | bl j=>cases ry; exact PySem.EqMixed.eq_str_bool ‹12›
  | int j=>obtain ⟨t',rfl⟩:=ry; exact PySem.EqMixed.eq_str_int ‹12›
  | str j=>obtain ⟨t',rfl⟩:=ry; exact eq_str (cO I q Fd)
  | _=>exact absurd (show false=true from hs) bo
 | byt i=>
  obtain ⟨t,rfl⟩:=rx;cases y with
  | byt j=>obtain ⟨t',rfl⟩:=ry; exact PySem.W.eq_bytes (cO I q FJ)
  | _=>exact absurd (show false=true from hs) bo
 | _=>cases y <;> exact absurd (show false=true from hs) bo
theorem vV:OpR X (yo .NotEq) rNe:=by
 intro pins s σ H x y v u Q I rx ry h;obtain ⟨hs,q⟩:=h;cases x with
 | non=>
  cases rx;cases y with
  | non=>cases ry; exact PySem.EqNone.ne_none_none ‹12›
  | bl j=>cases ry; exact PySem.EqNone.ne_none_bool ‹12›
  | int j=>obtain ⟨t',rfl⟩:=ry; exact PySem.EqNone.ne_none_int ‹12›
  | str j=>obtain ⟨t',rfl⟩:=ry; exact PySem.EqNone.ne_none_str ‹12›
  | _=>exact absurd (show false=true from hs) bo
 | bl i=>
  cases rx;cases y with
  | non=>cases ry; exact PySem.EqNone.ne_bool_none ‹12›
  | bl j=>cases ry; exact ne_bool (cO I q (congrArg not Lg))
  | str j=>obtain ⟨t',rfl⟩:=ry; exact PySem.EqMixed.ne_bool_str ‹12›
  | _=>exact absurd (show false=true from hs) bo
 | int i=>
  obtain ⟨t,rfl⟩:=rx;cases y with
  | non=>cases ry; exact PySem.EqNone.ne_int_none ‹12›
  | int j=>obtain ⟨t',rfl⟩:=ry; exact ne_int (cO I q (congrArg not DN))
  | str j=>obtain ⟨t',rfl⟩:=ry; exact PySem.EqMixed.ne_int_str ‹12›
  | _=>exact absurd (show false=true from hs) bo
 | str i=>
  obtain ⟨t,rfl⟩:=rx;cases y with
  | non=>cases ry; exact PySem.EqNone.ne_str_none ‹12›
  | bl j=>cases ry; exact PySem.EqMixed.ne_str_bool ‹12›
  | int j=>obtain ⟨t',rfl⟩:=ry; exact PySem.EqMixed.ne_str_int ‹12›
  | str j=>obtain ⟨t',rfl⟩:=ry; exact ne_str (cO I q (congrArg not Fd))
  | _=>exact absurd (show false=true from hs) bo
 | byt i=>
  obtain ⟨t,rfl⟩:=rx;cases y with
  | byt j=>obtain ⟨t',rfl⟩:=ry; exact PySem.W.ne_bytes (cO I q (congrArg not FJ))
  | _=>exact absurd (show false=true from hs) bo
 | _=>cases y <;> exact absurd (show false=true from hs) bo
theorem ju:OpR X (yo .Lt) (rI0 fun i j=>.bl (decide (i < j))):=Nh fun _ _ _ _ _ _ _ q=>lt_int q
theorem Nu:OpR X (yo .LtE) (rI0 fun i j=>.bl (decide (i<=j))):=Nh fun _ _ _ _ _ _ _ q=>le_int q
theorem uX:OpR X (yo .Gt) (rI0 fun i j=>.bl (decide (j < i))):=Nh fun _ _ _ _ _ _ _ q=>gt_int q
theorem Nt:OpR X (yo .GtE) (rI0 fun i j=>.bl (decide (j<=i))):=Nh fun _ _ _ _ _ _ _ q=>ge_int q
theorem yJ:OpR X (yo .Is) (fun x y H Q=>y=.non/\Q (.bl (decide (x=.non))) H):=by
 intro pins s σ H x y v u Q I rx ry h;obtain ⟨rfl,q⟩:=h;cases ry;refine is_none_gen (cO I q ?_)
 cases x <;> first
  | (cases rx; rfl)
  | (obtain ⟨t,rfl⟩:=rx; rfl)
theorem OpR.or{f:rn->rn->Sem rn}{r r':R2}(h:OpR X f r)(h':OpR X f r'):OpR X f (fun x y H Q=>r x y H Q\/r' x y H Q):=by
 intro pins s σ H x y v u Q I rx ry q;rcases q with q | q
 ·exact h pins s σ H x y v u Q I rx ry q
 ·exact h' pins s σ H x y v u Q I rx ry q
theorem aQ(b:Expr){op:CmpOp}(h:op≠.In:=by decide)(h2:op≠.NotIn:=by decide):HR op b=false:=by
 have e1:(op == CmpOp.In)=false:=by cases op <;> first | rfl | exact absurd rfl h
 have e2:(op == CmpOp.NotIn)=false:=by cases op <;> first | rfl | exact absurd rfl h2
 cases b <;> simp [HR,e1,e2]
theorem su{op:CmpOp}{r:R2}(ho:OpR X (yo op) r)(ha:PE X a ta)(hb:PE X b tb)(hm:HR op b=false):PE X (.Compare a [op] [b] pos) (tOp r ta tb):=by
 intro pins s σ H Q I h;exact wpAny_Compare1 (Oq ha hb I h fun v u s2 x y H2 I2 rx ry q=>ho pins s2 σ H2 x y v u Q I2 rx ry q) hm
inductive K9 (Q:Bool->Hp->Prop) (x:V) (H':Hp):Prop
 | mk (k:_):x=.bl k->Q k H'->K9 Q x H'
def Nm(t:TE):TT:=fun σ H Q=>t σ H fun x H'=>K9 Q x H'
theorem aL{op:CmpOp}{r:R2}(ho:OpR X (yo op) r)(ha:PE X a ta)(hb:PE X b tb)(hm:HR op b=false):PT X (.Compare a [op] [b] pos) (Nm (tOp r ta tb)):=by
 intro pins s σ H Q I h
 refine wpAny_isTrue_Compare1 (thn (ha pins s σ H _ I h) fun v s1 ⟨x,H1,I1,r1,q1⟩=>thn (hb pins s1 σ H1 _ I1 q1) fun u s2 ⟨y,H2,I2,r2,q2⟩=>
  thn (ho pins s2 σ H2 x y v u _ I2 r1 r2 q2) fun c s3 ⟨z,H3,I3,r3,k,e,q3⟩=>?_) hm
 subst e;cases r3;exact i6 ⟨H3,I3,q3⟩
inductive Ei (r':R2) (tc:TE) (σ:St) (Q:VK) (y:V) (z:V) (H3:Hp):Prop
 | mk (k:_):z=.bl k->(if k=true then tc σ H3 fun w' H4=>r' y w' H4 Q else Q (.bl false) H3)->Ei r' tc σ Q y z H3
def Pb(r r':R2)(ta tb tc:TE):TE:=fun σ H Q=>ta σ H fun x H1=>tb σ H1 fun y H2=>r x y H2 fun z H3=>Ei r' tc σ Q y z H3
theorem K4{op op':CmpOp}{r r':R2}(ho:OpR X (yo op) r)(ho':OpR X (yo op') r')(ha:PE X a ta)(hb:PE X b tb)(hc:PE X c tc)
  (hm:lastMarks [op,op'] [b,c]=false:=by with_unfolding_all rfl):PT X (.Compare a [op,op'] [b,c] pos) (Nm (Pb r r' ta tb tc)):=by
 intro pins s σ H Q I h
 refine isTrue_chain (thn (ha pins s σ H _ I h) fun v s1 ⟨x,H1,I1,r1,q1⟩=>test_link (thn (hb pins s1 σ H1 _ I1 q1) fun u s2 ⟨y,H2,I2,r2,q2⟩=>
  thn (ho pins s2 σ H2 x y v u _ I2 r1 r2 q2) fun d s3 ⟨z,H3,I3,r3,k,e,q3⟩=>?_)) hm
 subst e;cases r3;refine i6 ?_;cases k with
 | false=>
  obtain ⟨k',e',q'⟩:=q3;cases e';exact ite_ff ⟨H3,I3,q'⟩
 | true=>
  refine ite_tt (test_last (thn (hc pins s3 σ H3 _ I3 q3) fun w' s4 ⟨z',H4,I4,r4,q4⟩=>thn (ho' pins s4 σ H4 y z' u w' _ I4 r2 r4 q4) fun d' s5 ⟨z2,H5,I5,r5,k2,e2,q5⟩=>?_));subst e2;cases r5;exact i6 ⟨H5,I5,q5⟩
def Qz(K:PySem.W.Frag)(x:V)(H:Hp)(k:Bool):Prop:=
 match x with
 | .non=>k=false
 | .bl b=>k=b
 | .int i=>k=(i != 0)
 | .str y=>y.length<=sizeLine/\k=((y.length:Int) != 0)
 | .byt y=>y.size<=sizeLine/\k=((y.size:Int) != 0)
 | .ref p=>(∃ xs,SqL K H p xs/\k=!xs.isEmpty)\/(∃ xs,SqT K H p xs/\k=!xs.isEmpty)\/∃ kvs,H p=some (.dK kvs)/\k=!kvs.isEmpty
 | _=>False
theorem Dc{κ:Type}{kvs:List (κ × V)}{vs:List (κ × rn)}(r:KV kvs vs):(!vs.isEmpty)=!kvs.isEmpty:=by
 cases r <;> rfl
theorem oH{xs:LV}{its:LU}(r:Vals xs its):(!its.toArray.isEmpty)=!xs.isEmpty:=by
 cases r <;> simp
theorem qQ:(sizeLine:Nat) < 2 ^ 63:=by rw [ci]; decide
theorem Qd:Tn X (fun x H Q=>∃ k,Qz X.K x H k/\Q k H):=by
 intro pins s σ H x v Q I rx h;obtain ⟨k,e,q⟩:=h;have hl:=qQ;have hs:sizeLine=16777216:=ci;cases x with
 | non=>
  cases rx;have e':k=false:=e;subst e';exact truthy_none ⟨H,I,q⟩
 | bl b=>
  cases rx;have e':k=b:=e;subst e';exact i6 ⟨H,I,q⟩
 | int i=>
  obtain ⟨t,rfl⟩:=rx;have e':k=(i != 0):=e;subst e';exact PySem.P.truthy_int ⟨H,I,q⟩
 | str y=>
  obtain ⟨t,rfl⟩:=rx;obtain ⟨hy,e'⟩:y.length<=sizeLine/\k=((y.length:Int) != 0):=e;subst e';exact PySem.P.truthy_str ‹23› ⟨H,I.tok _,q⟩
 | byt y=>
  obtain ⟨t,rfl⟩:=rx;obtain ⟨hy,e'⟩:y.size<=sizeLine/\k=((y.size:Int) != 0):=e;subst e';exact PySem.W.truthy_bytes ‹23› ⟨H,I.tok _,q⟩
 | ref p=>
  cases rx;have e':(∃ xs,SqL X.K H p xs/\k=!xs.isEmpty)\/(∃ xs,SqT X.K H p xs/\k=!xs.isEmpty)\/∃ kvs,H p=some (.dK kvs)/\k=!kvs.isEmpty:=e;rcases e' with ⟨xs,hx,e'⟩ | ⟨xs,hx,e'⟩ | ⟨kvs,hx,e'⟩
  ·subst e';obtain ⟨its,r,pl,hz⟩:=I.list hx;have hlen:=r.length;exact wpAny_truthy_list pl.isList (by simp only [bb]; omega) ⟨H,I.tok _,by rw [oH r]; exact q⟩
  ·subst e';obtain ⟨its,r,pl,hz⟩:=I.tuple hx;have hlen:=r.length;exact truthy_tuple pl (by simp only [bb]; omega) ⟨H,I.tok _,by rw [oH r]; exact q⟩
  ·subst e';obtain ⟨hz,hS,vs,r,m⟩:kvs.length<=sizeLine/\(p == ym)=false/\∃ vs,KV kvs vs/\s.heap.DictOf (cC X.prog X.w) p vs:=I.hok p _ hx;have hlen:kvs.length=vs.length:=eM r;exact wpAny_truthy_dict hS m ‹23› ⟨H,I.tok _,by rw [Dc r]; exact q⟩
 | _=>exact(show False from e).elim
theorem vL(ha:PE X a ta)(he:∀ whole,isTrue a X.env whole=(do let v <- whole; standAt a.pos; TF [v] (truthy v))) :
  PT X a (fun σ H Q=>ta σ H fun x H'=>∃ k,Qz X.K x H' k/\Q k H'):=by
 intro pins s σ H Q I h;exact isTrue_plain (thn (ha pins s σ H _ I h) fun v s1 ⟨x,H1,I1,r1,q1⟩=>Qd pins s1 σ H1 x v Q I1 r1 q1) (he _)
inductive rF (x:V) (y:V) (H:Hp) (Q:VK):Prop
 | mk (i j:_):x=.str i->y=.str j->i.length+j.length<=sizeLine->Q (.str (i++j)) H->rF x y H Q
theorem qK:OpR X (Ff .Add) rF:=by
 intro pins s σ H x y v u Q I rx ry h;obtain ⟨i,j,rfl,rfl,hz,q⟩:=h;obtain ⟨t,rfl⟩:=rx;obtain ⟨t',rfl⟩:=ry;exact add_str (fun t' tk=>⟨.str (i++j),H,I.tok _,⟨_,rfl⟩,q⟩) hz
theorem vals1{x:V}{us:LU}(r:Vals [x] us):∃ u,us=[u]/\RelV x u:=by
 cases r with
 | cons r1 r2=>cases r2; exact⟨_,rfl,r1⟩
theorem vals2{x y:V}{us:LU}(r:Vals [x,y] us):∃ u w',us=[u,w']/\RelV x u/\RelV y w':=by
 cases r with
 | cons r1 r2=>
  cases r2 with
  | cons r3 r4=>cases r4; exact⟨_,_,rfl,r1,r3⟩
inductive vG (xs:LV) (H:Hp) (Q:VK):Prop
 | mk (i:_):xs=[.int i]->Q (.int (if i < 0 then -i else i)) H->vG xs H Q
theorem Kg:iz X (.builtin "abs") vG:=by
 intro pins s σ H xs us Q I r h;obtain ⟨i,rfl,q⟩:=h;obtain ⟨u,rfl,t,rfl⟩:=vals1 r;exact call_abs_int fun u tk=>⟨.int (if i < 0 then -i else i),H,I.tok _,⟨_,rfl⟩,q⟩
theorem tH:iz X (.type "int") (fun xs H Q=>(∃ i,xs=[.int i]/\Q (.int i) H)\/∃ k,xs=[.bl k]/\Q (.int (if k then 1 else 0)) H):=by
 intro pins s σ H xs us Q I r h;rcases h with ⟨i,rfl,q⟩ | ⟨k,rfl,q⟩
 ·obtain ⟨u,rfl,t,rfl⟩:=vals1 r;exact call_int_int ⟨.int i,H,I,⟨_,rfl⟩,q⟩
 ·obtain ⟨u,rfl,r1⟩:=vals1 r;cases r1;exact call_int_bool ⟨.int (if k then 1 else 0),H,I.tok _,⟨_,rfl⟩,q⟩
end
structure Ci (h:Heap) (x dx C:Addr) (mA:MG):Prop where
 obj:h.get? x=some (PySem.W.instObj C dx)
 ns:h.Ns1 dx mA
 ne:dx≠x
theorem Gr{h:Heap}{dx:Addr}{mA:MG}(n:h.Ns1 dx mA):∃ od,h.get? dx=some od/\∀ name,PySem.W.lookIn name od=some (mA name):=by
 obtain ⟨o,es,ep,ho,hd,hk,_,hm⟩:=n;refine⟨o,ho,fun name=>?_⟩;have e:=hm name;unfold nsFind findBy at e;rw [<- Array.find?_toList] at e;unfold PySem.W.lookIn;rw [hd];dsimp only;split
 ·rename_i y q
  rw [q] at e;exact congrArg some e
 ·rename_i q
  rw [q] at e
  have a:es.toList.any (·.refKey)=false:=by
   rw [List.any_eq_false];intro y hy;obtain ⟨z,t,hkey⟩:=hk y (ow.mp hy);simp [Do.refKey,hkey]
  have a':¬ es.toList.any (·.refKey)=true:=by rw [a]; exact bo
  rw [cK a'];exact congrArg some e
theorem Ci.look{h:Heap}{x dx C:Addr}{mA:MG}(I:Ci h x dx C mA):∃ od,PySem.W.InstAt h x (PySem.W.instObj C dx) C (some od)/\∀ name,PySem.W.lookIn name od=some (mA name):=
 let ⟨od,ho,hl⟩:=Gr I.ns
 ⟨od,⟨I.obj,rfl,rfl,ho⟩,hl⟩
section
variable {prog:uv}{w:xf}{A:xn}{E:ES}{s:sr}{K:PySem.W.Frag}{x dx C f:Addr}{mA:MG}{name:Str}{v:rn}
theorem get_map{expr:Bool}{Q:ES}(X:K.In s.heap)(I:Ci s.heap x dx C mA)(hg:PySem.W.plainGet K C name=true)(hh:PySem.W.hasDictIn K C=true)
  (ha:PySem.W.findIn K (.ref C) name=some none) (hv:mA name=some v) (hv':PySem.W.handedIn v=true) (h:Q v { s with toks:=s.toks+1 }) :
  ut ‹18› A (getAttr (.ref x) name expr) Q E s:=by
 obtain ⟨od,J,hl⟩:=I.look;exact PySem.W.get_value X J (pT hg).1 (PySem.W.findObj_own hh ha rfl (by rw [hl,hv])) hv' h
theorem Ib{pl:Sem Bool}{Q:rn × LU->sr->Prop}(X:K.In s.heap)(I:Ci s.heap x dx C mA)(hg:PySem.W.plainGet K C name=true)
  (hf:PySem.W.findIn K (.ref C) name=some (some (.ref f))) (ht:PySem.W.isFn K (.ref f)=true) (hv:mA name=none) (h:Q (.ref f,[.ref x]) s) :
  ut ‹18› A (getMethod (.ref x) name pl) Q E s:=by
 obtain ⟨od,J,hl⟩:=I.look;exact PySem.W.method_fn X J (pT hg).1 (pT hg).2 hf (ki.mp ht) (by show (PySem.W.lookIn name od).map (·.isSome)=some false; rw [hl,hv]; rfl) h
theorem M7{ns:LS}{Q:Unit->sr->Prop}(X:K.In s.heap)(I:Ci s.heap x dx C mA)
  (hs:PySem.W.findIn K (.ref C) "__setattr__" = some (some (.builtin "object.__setattr__"))) (hp:PySem.W.plainOver K C=true) (ht:PySem.W.takerIn K C name=some none) (hh:PySem.W.hasDictIn K C=true)
  (hw:PySem.Within mA ns) (hsz:ns.length<=sizeLine)
  (h:∀ h',Ci h' x dx C (fun y=>if y=name then some v else mA y)->Heap.SameBut dx s.heap h'->Q () { s with heap:=h',toks:=s.toks+2 }) :
  ut ‹18› A (setAttr (.ref x) name v) Q E s:=by
 obtain ⟨od,J,hl⟩:=I.look;refine PySem.W.set_plain X J hs (PySem.W.osa_open (s:={ s with toks:=s.toks+1 }) (r:=none) X J hp ht fun b=>?_);obtain ⟨cd,hc,hd'⟩:=PySem.W.any_some hh;have hx:s.heap.get? x=some ⟨.ref C,some dx,.plain,#[]⟩:=I.obj;refine ac (ay (ac (ac (wpAny_loadPart hx (ac (PySem.W.Looks.here (s:={ s with toks:=s.toks+1 }) (PySem.W.looks_clsIn X hc) ?_))))));rw [hd'];refine ay (a:=some dx) (ac (ay (ac ?_)));refine wpAny_nsSet1 (s:={ s with toks:=s.toks+1 }) I.ns fun h' hn2 hs2=>?_;obtain ⟨oD,esD,epD,hoD,hdD,hcD⟩:=hn2.count (PySem.Within.cons name v hw);refine ac (wpAny_lookBehind hoD (by rw [hdD]; exact pastItsLine_dict (eR hcD (by rw [ar]; omega))) ?_);exact ay (h _ ⟨(hs2.2 _ (kq I.ne)).trans I.obj,hn2,I.ne⟩ hs2)
theorem Ka{R:Result->sr->Prop}{vs:LU}{kw:List (Str × rn)}(X:K.In s.heap)(hm:PySem.W.makesIn K C=true)
  (hi:PySem.W.findIn K (.ref C) "__init__" = some (some (.ref f))) (hf:PySem.W.typeIn K (.ref f)=some (.type "function"))
  (h:HH ‹18› (A.under (.builtin "type.__call__" ⟨.ref C::vs,kw⟩)) (.call (.ref f) ⟨.ref (s.heap.objs.size+1)::vs,kw⟩) (PySem.W.InitBack ‹7› R)
   { s with heap:=(s.heap.push PySem.W.emptyDict).push (PySem.W.instObj C s.heap.objs.size) }) :
  HH ‹18› A (.call (.ref C) ⟨vs,kw⟩) R s:=by
 obtain ⟨hh,g,d,t,os⟩:=s;exact PySem.W.make_core (PySem.W.makes_of X hm) (PySem.W.looks_findIn X hi) (fun self=>PySem.W.bind_fn X self hf) (.inl rfl) h
end
def nA(f:Str)(v:V):List (Str × V)->List (Str × V)
 | []=>[(f,v)]
 | (g,x)::r=>if g=f then (g,v)::r else (g,x)::nA f v r
theorem uq(f g:Str)(v:V):∀ fs:List (Str × V),(nA f v fs).lookup g=if g=f then some v else fs.lookup g
 | []=>by
  show List.lookup g [(f,v)]=_
  by_cases h:g=f
  ·have hb:(g == f)=true:=ki.mpr h;simp only [List.lookup,hb,dC h]
  ·have hb:(g == f)=false:=i9.mpr h;simp only [List.lookup,hb,cK h]
 | (k,x)::r=>by
  have ih:=uq f g v r;rw [show nA f v ((k,x)::r)=(if k=f then (k,v)::r else (k,x)::nA f v r) from rfl]
  by_cases hk:k=f
  ·rw [dC hk]
   by_cases h:g=k
   ·have hb:(g == k)=true:=ki.mpr h;simp only [List.lookup,hb,dC (h.trans hk)]
   ·have hb:(g == k)=false:=i9.mpr h;simp only [List.lookup,hb,cK (fun e:g=f=>h (e.trans hk.symm))]
  ·rw [cK hk]
   by_cases h:g=k
   ·have hb:(g == k)=true:=ki.mpr h;simp only [List.lookup,hb,cK (fun e:g=f=>hk (h.symm.trans e))]
   ·have hb:(g == k)=false:=i9.mpr h;simp only [List.lookup,hb];exact ih
theorem sW(f:Str)(v:V):∀ fs:List (Str × V),f∈(nA f v fs).map (·.1)/\∀ g,g∈fs.map (·.1)->g∈(nA f v fs).map (·.1)
 | []=>⟨by simp [nA],fun g h=>by simp at h⟩
 | (k,x)::r=>by
  obtain ⟨i1,i2⟩:=sW f v r;rw [show nA f v ((k,x)::r)=(if k=f then (k,v)::r else (k,x)::nA f v r) from rfl]
  by_cases hk:k=f
  ·rw [dC hk];subst hk;exact⟨by simp,fun g h=>by simpa using h⟩
  ·rw [cK hk];refine⟨?_,fun g h=>?_⟩
   ·rw [eB];exact cz _ i1
   ·rw [eB] at h ⊢;rcases bc.mp h with e | e
    ·exact bc.mpr (.inl e)
    ·exact cz _ (i2 g e)
theorem um(f:Str)(v:V):∀ fs:List (Str × V),(nA f v fs).length<=fs.length+1
 | []=>by simp [nA]
 | (k,x)::r=>by
  have ih:=um f v r;rw [show nA f v ((k,x)::r)=(if k=f then (k,v)::r else (k,x)::nA f v r) from rfl]
  by_cases hk:k=f
  ·rw [dC hk,ar,ar]; omega
  ·rw [cK hk,ar,ar]; omega
theorem nu.some_of{v:V}{o:Option rn}(r:nu (some v) o):∃ u,o=some u/\RelV v u:=by
 cases o with
 | none=>exact(show False from r).elim
 | some u=>exact⟨u,rfl,r⟩
theorem nu.none_of{o:Option rn}(r:nu none o):o=none:=by
 cases o with
 | none=>rfl
 | some u=>exact(show False from r).elim
theorem Gz{v:V}{u:rn}(r:RelV v u):PySem.W.handedIn u=true:=by
 cases v with
 | non=>cases (show u=yf from r); rfl
 | bl b=>cases (show u=rn.bool b from r); rfl
 | int i=>obtain ⟨t,e⟩:=(show ∃ t,u=yz i t from r); cases e; rfl
 | str x=>obtain ⟨t,e⟩:=(show ∃ t,u=MT x t from r); cases e; rfl
 | byt b=>obtain ⟨t,e⟩:=(show ∃ t,u=rn.bytes b t from r); cases e; rfl
 | flt b=>obtain ⟨t,e⟩:=(show ∃ t,u=rn.float b t from r); cases e; rfl
 | ref a=>cases (show u=wy a from r); rfl
 | ty n=>cases (show u=Tw n from r); rfl
section
variable {P:uv}{w:xf}{H H':Hp}{h h':Heap}{a C dx:Addr}{fs fs':List (Str × V)}
theorem uF(hok:HOk P w H h)(e:H a=some (.ins C dx fs)):∃ mA,Ci h a dx C mA/\(∀ f,nu (fs.lookup f) (mA f))/\PySem.Within mA (fs.map (·.1))/\fs.length<=1000/\H dx=some (.own a):=by
 obtain ⟨d,z,ne,ob,mA,n,r,q⟩:=(show dJ P w H h a (.ins C dx fs) from hok a _ e);exact⟨mA,⟨ob,n,ne⟩,r,q,z,d⟩
end
structure Cls (K:PySem.W.Frag) (C:Addr):Prop where
 pg:PySem.W.plainGet K C Str.empty=true
 hd:PySem.W.hasDictIn K C=true
 po:PySem.W.plainOver K C=true
 sa:PySem.W.findIn K (.ref C) "__setattr__" = some (some (.builtin "object.__setattr__"))
theorem Cls.get{K:PySem.W.Frag}{C:Addr}(c:Cls K C)(f:Str):PySem.W.plainGet K C f=true:=c.pg
def jV(K:PySem.W.Frag)(C:Addr)(f:Str):Prop:=PySem.W.findIn K (.ref C) f=some none
theorem jV.taker{K:PySem.W.Frag}{C:Addr}{f:Str}(n:jV K C f):PySem.W.takerIn K C f=some none:=by
 unfold PySem.W.takerIn;rw [show PySem.W.findIn K (.ref C) f=some none from n];rfl
structure Meth (K:PySem.W.Frag) (C:Addr) (m:Str) (f:Addr):Prop where
 at_:PySem.W.findIn K (.ref C) m=some (some (.ref f))
 fn:PySem.W.isFn K (.ref f)=true
 kp:PySem.W.keepIn K (.ref f)=true
section
variable {X:Cx}{pins:LO}{σ:St}{H:Hp}{s:sr}{a C dx:Addr}{fs:List (Str × V)}{f:Str}{v:V}{A:xn}{E:ES}
theorem vJ{b:Bool}{Q:ES}(I:Inv X pins σ H s)(e:H a=some (.ins C dx fs))(c:Cls X.K C)(n:jV X.K C f)(l:fs.lookup f=some v)
  (h:∀ u s',Inv X pins σ H s'->RelV v u->Q u s'):ut ‹6› A (getAttr (.ref a) f b) Q E s:=by
 obtain ⟨mA,O,r,_,_,_⟩:=uF I.hok e;obtain ⟨u,hu,ru⟩:=nu.some_of (v:=v) (o:=mA f) (by rw [<- l]; exact r f);exact get_map I.kIn O (c.get f) c.hd n hu (Gz ru) (h u _ (I.tok _) ru)
theorem vo{m:Str}{g:Addr}{pl:Sem Bool}{Q:rn × LU->sr->Prop}(I:Inv X pins σ H s)(e:H a=some (.ins C dx fs))(c:Cls X.K C)(k:Meth X.K C m g)(l:fs.lookup m=none)
  (h:Q (.ref g,[.ref a]) s):ut ‹6› A (getMethod (.ref a) m pl) Q E s:=by
 obtain ⟨mA,O,r,_,_,_⟩:=uF I.hok e;have hn:mA m=none:=nu.none_of (by rw [<- l]; exact r m);exact Ib I.kIn O (c.get m) k.at_ k.fn hn h
theorem vQ{y:V}{u:rn}{Q:Unit->sr->Prop}(I:Inv X pins σ H s)(e:H a=some (.ins C dx fs))(c:Cls X.K C)(n:jV X.K C f)(hl:fs.length < 1000)(ry:RelV y u)
  (h:∀ s',Inv X pins σ (upd H a (.ins C dx (nA f y fs))) s'->Q () s'):ut ‹6› A (setAttr (.ref a) f u) Q E s:=by
 obtain ⟨mA,O,r,wi,_,ho⟩:=uF I.hok e;have hz:(fs.map (·.1)).length<=sizeLine:=by rw [aa,ci]; omega
 refine M7 I.kIn O c.sa c.po n.taker c.hd wi hz fun h' O' sb=>h _ ?_;have hd:∃ o,h'.get? dx=some o:=let ⟨o,_,_,e',_⟩:=O'.ns; ⟨o,e'⟩;refine I.write (x:=a) (e:=dx) (by rw [e]; exact True.intro) (.inr ho) (fun b q hb z=>(sb.2 b hb).trans z) hd ?_;refine⟨by rw [au O.ne]; exact ho,?_,O.ne,O'.obj,_,O'.ns,fun g=>?_,fun g hg=>?_⟩
 ·have:=um f y fs; omega
 ·show nu ((nA f y fs).lookup g) (if g=f then some u else mA g);rw [uq]
  by_cases q:g=f
  ·rw [dC q,dC q]; exact ry
  ·rw [cK q,cK q]; exact r g
 ·by_cases q:g=f
  ·rw [q]; exact(sW f y fs).1
  ·refine(sW f y fs).2 g (wi g fun z=>hg ?_);show (if g=f then some u else mA g)=none;rw [cK q]; exact z
theorem Inv.made(I:Inv X pins σ H s):Inv X pins σ (upd (upd H s.heap.objs.size (.own ‹7›)) ‹7› (.ins C s.heap.objs.size []))
  { s with heap:=(s.heap.push PySem.W.emptyDict).push (PySem.W.instObj C s.heap.objs.size) }:=by
 have e1:(s.heap.push PySem.W.emptyDict).get? s.heap.objs.size=some PySem.W.emptyDict:=aS s.heap rfl
 have e2:((s.heap.push PySem.W.emptyDict).push (PySem.W.instObj C s.heap.objs.size)).get? ‹7›=some (PySem.W.instObj C s.heap.objs.size):=by
  have:=aS (s.heap.push PySem.W.emptyDict) (o:=PySem.W.instObj C s.heap.objs.size) rfl
  rwa [fS] at this
 have e3:(s.heap.push PySem.W.emptyDict).Ns s.heap.objs.size (fun _=>none):=⟨PySem.W.emptyDict,#[],_,e1,rfl,(fun e he=>absurd he (by simp)),fun _=>rfl⟩;have I1:=I.laid (a:=s.heap.objs.size) (o:=.own ‹7›) (h':=s.heap.push PySem.W.emptyDict) (t':=s.toks) (fun b u q=>ai _ q) (am _) ⟨_,e1⟩;refine I1.laid (a:=s.heap.objs.size+1) (o:=.ins C s.heap.objs.size []) (t':=s.toks) (fun b u q=>ai _ q) (Nat.le_of_eq (fS _ _)) ?_;have ne:s.heap.objs.size≠s.heap.objs.size+1:=dE (Nat.lt_succ_self _);refine⟨by rw [au ne,ak],bn _,ne,e2,fun _=>none,(Heap.Ns1.of_empty e3).at fun o q=>ai _ q,fun _=>True.intro,fun y hy=>absurd rfl hy⟩
theorem Li{prog:uv}{w:xf}{env:Env}{e:Expr}{f:Str}{pos:Pos}{s:sr}{Q:ES}(hb:M3 e f env (eval e env)=eval e env)
  (h:ut ‹18› A (eval e env) (fun o s₁=>ut ‹18› A (getAttr o f true) Q E s₁) E s):ut ‹18› A (eval (.Attribute e f pos) env) Q E s:=
 Attribute_any_ h (by rw [arm_eval_Attribute,hb])
end
inductive NP (K:PySem.W.Frag) (f:Str) (Q:VK) (x:V) (H1:Hp):Prop
 | mk (a C dx fs v:_):x=.ref a->H1 a=some (.ins C dx fs)->Cls K C->jV K C f->fs.lookup f=some v->Q v H1->NP K f Q x H1
def Sd(K:PySem.W.Frag)(ta:TE)(f:Str):TE:=fun σ H Q=>ta σ H fun x H1=>NP K f Q x H1
inductive Nv (K:PySem.W.Frag) (f:Str) (D:Ends) (σ:St) (y:V) (x:V) (H2:Hp):Prop
 | mk (a C dx fs:_):x=.ref a->H2 a=some (.ins C dx fs)->Cls K C->jV K C f->fs.length < 1000->D.nx σ (upd H2 a (.ins C dx (nA f y fs)))->Nv K f D σ y x H2
def SM(K:PySem.W.Frag)(ta tv:TE)(f:Str):TS:=fun D σ H=>tv σ H fun y H1=>ta σ H1 fun x H2=>Nv K f D σ y x H2
def Pa(X:Cx)(op:Operator)(rd:V->V->Hp->VK->Prop):Prop:=
 ∀(pins:LO) (s:sr) (σ:St) (H:Hp) (x y:V) (u v:rn) (Q:VK),Inv X pins σ H s->RelV x u->RelV y v->rd x y H Q->ut ‹6› X.A (inplaceOp op u v) (EP X pins σ Q) X.xe s
inductive Am (K:PySem.W.Frag) (tv:TE) (rd:V->V->Hp->VK->Prop) (f:Str) (D:Ends) (σ:St) (x:V) (H1:Hp):Prop
 | mk (a C dx fs v:_):x=.ref a->H1 a=some (.ins C dx fs)->Cls K C->jV K C f->fs.lookup f=some v->(tv σ H1 fun y H2=>rd v y H2 fun z H3=>∃ dx' fs',H3 a=some (.ins C dx' fs')/\fs'.length < 1000/\D.nx σ (upd H3 a (.ins C dx' (nA f z fs'))))->Am K tv rd f D σ x H1
def Ly(K:PySem.W.Frag)(ta tv:TE)(rd:V->V->Hp->VK->Prop)(f:Str):TS:=fun D σ H=>ta σ H fun x H1=>Am K tv rd f D σ x H1
section
variable {X:Cx}{o e value:Expr}{f:Str}{pos pos' tpos:Pos}{ta tv:TE}
theorem fX(he:PE X e ta)(hb:M3 e f X.env (eval e X.env)=eval e X.env):PE X (.Attribute e f pos) (Sd X.K ta f):=by
 intro pins s σ H Q I h;refine Li hb (thn (he pins s σ H _ I h) fun u s1 ⟨x,H1,I1,rx,a,C,dx,fs,v,ex,ea,c,n,l,q⟩=>?_);subst ex;obtain rfl:u=wy a:=rx;exact vJ I1 ea c n l fun u' s2 I2 ru=>⟨v,H1,I2,ru,q⟩
theorem uY(ha:PE X o ta)(hv:PE X value tv)(hs:TY value (some (.Attribute o f pos')) pos.line X.env=Eg false):PS X (.Assign [.Attribute o f pos'] value pos) (SM X.K ta tv f):=by
 intro pins s σ H D I h;refine plainObj_wpAny_Assign_Attribute (thn (hv pins s σ H _ I h) fun u s1 ⟨y,H1,I1,ry,q⟩=>thn (ha pins s1 σ H1 _ I1 q) fun ov s2 ⟨x,H2,I2,rx,a,C,dx,fs,ex,ea,c,n,l,q2⟩=>?_) hs;subst ex;obtain rfl:ov=wy a:=rx;exact vQ I2 ea c n l ry fun s3 I3=>⟨σ,_,I3,q2⟩
theorem sV{op:Operator}{rd:V->V->Hp->VK->Prop}(ha:PE X o ta)(hv:PE X value tv)(hop:Pa X op rd):PS X (.AugAssign (.Attribute o f tpos) op value pos) (Ly X.K ta tv rd f):=by
 intro pins s σ H D I h;refine wpAny_AugAssign_AttributeAny (thn (ha pins s σ H _ I h) fun ov s1 ⟨x,H1,I1,rx,a,C,dx,fs,v,ex,ea,c,n,l,q⟩=>?_);subst ex;obtain rfl:ov=wy a:=rx;refine vJ I1 ea c n l fun u s2 I2 ru=>thn (hv pins s2 σ H1 _ I2 q) fun w3 s3 ⟨y,H2,I3,ry,q3⟩=>thn (hop pins s3 σ H2 v y u w3 _ I3 ru ry q3) fun w4 s4 ⟨z,H3,I4,rz,dx',fs',ea',l',q4⟩=>?_;exact vQ I4 ea' c n l' rz fun s5 I5=>⟨σ,_,I5,q4⟩
inductive Rf (x:V) (y:V) (H:Hp) (Q:VK):Prop
 | mk (i j:_):x=.int i->y=.int j->Q (.int (i+j)) H->Rf x y H Q
inductive Rr (x:V) (y:V) (H:Hp) (Q:VK):Prop
 | mk (i j:_):x=.int i->y=.int j->Q (.int (i - j)) H->Rr x y H Q
theorem Iv:Pa X .Add Rf:=by
 rintro pins s σ H x y u v Q I rx ry ⟨i,j,rfl,rfl,q⟩;obtain ⟨t,rfl⟩:=(show ∃ t,u=yz i t from rx);obtain ⟨t',rfl⟩:=(show ∃ t',v=yz j t' from ry);exact PyProof.Rows.iadd_int ⟨.int (i+j),H,I.tok _,⟨_,rfl⟩,q⟩
theorem O8:Pa X .Sub Rr:=by
 rintro pins s σ H x y u v Q I rx ry ⟨i,j,rfl,rfl,q⟩;obtain ⟨t,rfl⟩:=(show ∃ t,u=yz i t from rx);obtain ⟨t',rfl⟩:=(show ∃ t',v=yz j t' from ry);exact PyProof.Rows.isub_int ⟨.int (i - j),H,I.tok _,⟨_,rfl⟩,q⟩
end
section
variable {X:Cx}{pins:LO}{σ:St}{H:Hp}{s:sr}{A:xn}{E:ES}{Q:ES}{c:rn}{b:Bool}
inductive rC (K:PySem.W.Frag) (H:Hp):V->rn->Prop where
 | non:rC K H .non (.type "NoneType")
 | bl (x:Bool):rC K H (.bl x) (.type "bool")
 | int (i:Int):rC K H (.int i) (.type "int")
 | str (x:Str):rC K H (.str x) (.type "str")
 | flt (x:UInt64):rC K H (.flt x) (.type "float")
 | lst {a:Addr} {xs:LV} (e:H a=some (.lst xs)):rC K H (.ref a) (.type "list")
 | frz {a:Addr} {o:Obj} {xs:LV} (e:H a=some (.frz o (.lst xs))):rC K H (.ref a) (.type "list")
 | tup {a:Addr} {xs:LV} (e:H a=some (.tup xs)):rC K H (.ref a) (.type "tuple")
 | dK {a:Addr} {kvs:LK0} (e:H a=some (.dK kvs)):rC K H (.ref a) (.type "dict")
 | dT {a:Addr} {kvs:List (List Key × V)} (e:H a=some (.dT kvs)):rC K H (.ref a) (.type "dict")
 | ins {a C dx:Addr} {fs:List (Str × V)} (e:H a=some (.ins C dx fs)) (cl:Cls K C) (ha:PySem.W.findIn K (.ref C) "__class__" = some (some (.builtin "object.__class__")))
   (hn:PySem.W.specialIn K (.builtin "object.__class__") "__get__" = some (some (.builtin "getset_descriptor.__get__"))) (htk:PySem.W.takesIn K (.builtin "object.__class__")=some true)
   (hm:PySem.W.mroIn K C (.type "object")=some true):rC K H (.ref a) (.ref C)
theorem G3{x:V}{u t:rn}(I:Inv X pins σ H s)(rx:RelV x u)(ty:rC X.K H x t)(e:PySem.W.kitOne X.K t c=some b)(h:∀ tk,Q (.bool b) { s with toks:=tk }) :
  ut ‹6› A (call (.builtin "isinstance") [u,c]) Q E s:=by
 cases ty with
 | non=>cases (show u=yf from rx); exact iA PySem.W.kitx_none I.kIn True.intro e ‹8› h
 | bl y=>cases (show u=rn.bool y from rx); exact iA PySem.W.kitx_bool I.kIn True.intro e ‹8› h
 | int i=>obtain ⟨t,q⟩:=(show ∃ t,u=yz i t from rx); cases q; exact iA PySem.W.kitx_int I.kIn True.intro e ‹8› h
 | str y=>obtain ⟨t,q⟩:=(show ∃ t,u=MT y t from rx); cases q; exact iA PySem.W.kitx_str I.kIn True.intro e ‹8› h
 | flt y=>obtain ⟨t,q⟩:=(show ∃ t,u=rn.float y t from rx); cases q; exact iA PySem.W.kitx_float I.kIn True.intro e ‹8› h
 | @lst a xs ea=>
  cases (show u=wy a from rx);obtain ⟨_,_,n,_,h1⟩:=(show dJ X.prog X.w H s.heap a (.lst xs) from I.hok a _ ea);exact iA PySem.W.kitx_list I.kIn ⟨_,h1,rfl⟩ e ‹8› h
 | @frz a ob xs ea=>
  cases (show u=wy a from rx);obtain ⟨_,_,_,n,_,h1⟩:=(show dJ X.prog X.w H s.heap a (.frz ob (.lst xs)) from I.hok a _ ea);exact iA PySem.W.kitx_list I.kIn ⟨_,h1,rfl⟩ e ‹8› h
 | @tup a xs ea=>
  cases (show u=wy a from rx);obtain ⟨_,_,_,p⟩:=(show dJ X.prog X.w H s.heap a (.tup xs) from I.hok a _ ea);obtain ⟨o,h1,h2,_⟩:=p;exact iA PySem.W.kitx_tuple I.kIn ⟨o,h1,h2⟩ e ‹8› h
 | @dK a kvs ea=>
  cases (show u=wy a from rx);obtain ⟨_,_,vs,_,p⟩:=(show dJ X.prog X.w H s.heap a (.dK kvs) from I.hok a _ ea);obtain ⟨o,es,ep,h1,h2,_⟩:=p;exact iA PySem.W.kitx_dict I.kIn ⟨o,h1,h2.1⟩ e ‹8› h
 | @dT a kvs ea=>
  cases (show u=wy a from rx);obtain ⟨_,_,xs,_,o,es,ep,h1,h2,_⟩:=(show dJ X.prog X.w H s.heap a (.dT kvs) from I.hok a _ ea);exact iA PySem.W.kitx_dict I.kIn ⟨o,h1,h2.1⟩ e ‹8› h
 | @ins a C dx fs ea cl ha hn htk hm=>
  cases (show u=wy a from rx);obtain ⟨mA,O,_⟩:=uF I.hok ea;obtain ⟨od,J,_⟩:=O.look;exact iA (PySem.W.kitx_own (cl.get _) cl.hd ha hn htk hm) I.kIn J e ‹8› h
end
structure iD (k:Nat) (A:xn):Prop where
 hd:A.handled=none
 dp:A.depth+3 * k+5 < recursionLimit
 un:A.units+16 * k+200 < cLine
 gd:A.guards=some []
theorem iD.mono{j k:Nat}{A:xn}(r:iD k A)(h:j<=k):iD j A:=⟨r.hd,by have:=r.dp; omega,by have:=r.un; omega,r.gd⟩
theorem iD.deeper{k:Nat}{A:xn}(r:iD (k+1) A)(env:Env):iD k (A.deeper env):=
 ⟨r.hd,by have:=r.dp; show A.depth+1+3 * k+5 < _; omega,by have:=r.un; show A.units+3+16 * k+200 < _; omega,by have:=r.gd; first | exact this | simp [xn.deeper,this,pushGuards]⟩
theorem BX{A:xn}{C:Addr}{us:LU}{kw:List (Str × rn)}:(A.under (.builtin "type.__call__" ⟨.ref C::us,kw⟩)).depth=A.depth+1:=by
 first | rfl | simp [TJ,Ud.weight,Ud.isCreation,Ud.isGuard,Ud.isCaller,Ud.frames,Ud.isFrame,guardIds]
theorem Cq{A:xn}{C:Addr}{us:LU}{kw:List (Str × rn)}:(A.under (.builtin "type.__call__" ⟨.ref C::us,kw⟩)).units=A.units+1:=by
 first | rfl | simp [TJ,Ud.cUnits,Ud.frames,Ud.isFrame]
theorem iD.make{k:Nat}{A:xn}(r:iD (k+1) A)(C:Addr)(us:LU)(kw:List (Str × rn)):iD k (A.under (.builtin "type.__call__" ⟨.ref C::us,kw⟩)):=
 ⟨r.hd,by have:=r.dp; rw [BX]; omega,by have:=r.un; rw [Cq]; omega,by have:=r.gd; first | exact this | (show pushGuards _ A.guards=_; rw [this]; rfl) | simp [TJ,this,pushGuards,Ud.guards,Ud.isGuard,guardIds]⟩
theorem iD.depth{k:Nat}{A:xn}(r:iD k A):A.depth < recursionLimit:=by have:=r.dp; omega
theorem iD.units{k:Nat}{A:xn}(r:iD k A):A.units+64 < cLine:=by have:=r.un; omega
theorem iD.yg{k:Nat}{A:xn}(r:iD k A):A.units < cLine:=by have:=r.un; omega
def RM:TA:=fun _ H Q=>Q [] H
def Rq(ta:TE)(tr:TA):TA:=fun σ H Q=>ta σ H fun x H1=>tr σ H1 fun xs H2=>Q (x::xs) H2
section
variable {X:Cx}{e:Expr}{es:List Expr}{te:TE}{t:TA}{pos:Pos}
theorem aq:PA X [] RM:=fun _ _ _ _ H Q I h=>Calls.spliced_nil ⟨[],H,I,.nil,h⟩
theorem aj(ha:PE X e te)(hr:PA X es t)(hs:uC (e::es) X.env=(false,eval e X.env)::uC es X.env:=by rfl):PA X (e::es) (Rq te t):=by
 intro pos pins s σ H Q I h;rw [hs];show ut _ _ (spliced ((false,eval e X.env)::zg pos (uC es X.env))) _ _ s;refine Q3 (thn (ha pins s σ H _ I h) fun u s1 ⟨x,H1,I1,r1,q1⟩=>?_);exact thn (hr pos pins s1 σ H1 _ I1 q1) fun us s2 ⟨xs,H2,I2,r2,q2⟩=>⟨x::xs,H2,I2,.cons r1 r2,q2⟩
def Tf(t:TA):TE:=fun σ H Q=>t σ H fun xs H1=>xs.length<=sizeLine/\∀ p,H1 p=none->Q (.ref p) (upd H1 p (.tup xs))
def SX(t:TA):TE:=fun σ H Q=>t σ H fun xs H1=>xs.length<=sizeLine/\∀ p,H1 p=none->Q (.ref p) (upd H1 p (.lst xs))
theorem bh{x1}(h:PA X es t):PE X (.Tuple es x1 pos) (Tf t):=by
 intro pins s σ H Q I hq;refine wpAny_Tuple_spliced (thn (h pos pins s σ H _ I hq) fun us s1 ⟨xs,H1,I1,r,z,q⟩=>⟨by rw [<- r.length]; exact z,?_⟩);have hf:H1 s1.heap.objs.size=none:=I1.hok.fresh (am _);refine⟨.ref s1.heap.objs.size,upd H1 s1.heap.objs.size (.tup xs),I1.laid (t':=s1.toks) (fun b u e=>ai _ e) (am _) ?_,rfl,q _ hf⟩;exact⟨⟨z,pC _ _⟩,us,r,⟨_,aS _ rfl,rfl,_,rfl⟩⟩
theorem bB(h:PA X es t):PE X (.List es pos) (SX t):=by
 intro pins s σ H Q I hq;refine wpAny_List_spliced (thn (h pos pins s σ H _ I hq) fun us s1 ⟨xs,H1,I1,r,z,q⟩=>⟨by rw [<- r.length]; exact z,?_⟩);have hf:H1 s1.heap.objs.size=none:=I1.hok.fresh (am _);refine⟨.ref s1.heap.objs.size,upd H1 s1.heap.objs.size (.lst xs),I1.laid (t':=s1.toks) (fun b u e=>ai _ e) (am _) ?_,rfl,q _ hf⟩;exact⟨z,us,0,r,aS _ rfl⟩
end
abbrev Sp:=LV->Hp->VK->XK->Prop
abbrev CXT:=List Env->Hp->sr->XK->ES
structure wj (P:uv) (w:xf) (K:PySem.W.Frag) (mg:MG) (base:Heap) (A:xn) (outer:List Env) (s:sr) (H:Hp):Prop where
 frames:A.frames=some outer
 mod:Mod K mg base
 bs:∀ b o,base.get? b=some o->s.heap.get? b=some o/\H b=none
 bsz:base.objs.size<=s.heap.objs.size
 qL:s.heap.FunFrames base outer
 frf:∀ b∈frs outer,H b=none
 hok:HOk P w H s.heap
 bare:PQ s.gens
def CE(outer:List Env)(P:uv)(w:xf)(H:Hp)(s:sr)(Q:VK)(u:rn)(s':sr):Prop:=
 ∃ v H',s'.os=s.os/\PQ s'.gens/\Un (frs outer) [] H H' s.heap s'.heap/\HOk P w H' s'.heap/\RelV v u/\Q v H'
def CR(CX:CXT)(outer:List Env)(P:uv)(w:xf)(H:Hp)(s:sr)(Q:VK)(E:XK)(r:Result)(s':sr):Prop:=
 match r with
 | .ok (.ret u)=>CE outer P w H s Q u s'
 | .ok _=>False
 | .error e=>CX outer H s E e s'
structure bw (P:uv) (w:xf) (K:PySem.W.Frag) (mg:MG) (base:Heap) (CX:CXT) (k:Nat) (f:Addr) (fd:vy) (ps:LS) (sp:Sp):Prop where
 len:∀ vs H Q E,sp vs H Q E->vs.length=ps.length
 run:∀(A:xn) (outer:List Env) (s:sr) (H:Hp) (args:Args) (us:LU) (vs:LV) (Q:VK) (E:XK),iD k A->wj P w K mg base A outer s H->Ua s fd args (ps.zip us)->Vals vs us->sp vs H Q E->
  HH (uB P w) A (.call (.ref f) args) (CR CX outer P w H s Q E) s
theorem bw.mono{P:uv}{w:xf}{K:PySem.W.Frag}{mg:MG}{base:Heap}{CX:CXT}{j k:Nat}{f:Addr}{fd:vy}{ps:LS}{sp:Sp}(F:bw P w K mg base CX j f fd ps sp)(h:j<=k) :
  bw P w K mg base CX k f fd ps sp:=⟨F.len,fun A outer s H args us vs Q E hr=>F.run A outer s H args us vs Q E (hr.mono h)⟩
theorem bw.imp{P:uv}{w:xf}{K:PySem.W.Frag}{mg:MG}{base:Heap}{CX:CXT}{k:Nat}{f:Addr}{fd:vy}{ps:LS}{sp sp':Sp}(F:bw P w K mg base CX k f fd ps sp)
  (h:∀ vs H Q E,sp' vs H Q E->sp vs H Q E):bw P w K mg base CX k f fd ps sp':=
 ⟨fun vs H Q E q=>F.len vs H Q E (h _ _ _ _ q),fun A outer s H args us vs Q E hr he hb hv hs=>F.run A outer s H args us vs Q E hr he hb hv (h _ _ _ _ hs)⟩
theorem wj.make{P:uv}{w:xf}{K:PySem.W.Frag}{mg:MG}{base:Heap}{A:xn}{outer:List Env}{s:sr}{H:Hp}(e:wj P w K mg base A outer s H)(C:Addr)(us:LU)(kw:List (Str × rn)) :
  wj P w K mg base (A.under (.builtin "type.__call__" ⟨.ref C::us,kw⟩)) outer s H:=⟨by first | exact e.frames | (simpa [TJ,Ud.envs,Ud.isFrame,pushEnvs] using e.frames),e.mod,e.bs,e.bsz,e.qL,e.frf,e.hok,e.bare⟩
theorem wj.in1{P:uv}{w:xf}{K:PySem.W.Frag}{mg:MG}{base:Heap}{A:xn}{outer:List Env}{s:sr}{H:Hp}(e:wj P w K mg base A outer s H) :
  wj P w K mg base A.in1 outer s H:=⟨e.frames,e.mod,e.bs,e.bsz,e.qL,e.frf,e.hok,e.bare⟩
section
variable {X:Cx}{pins:LO}{σ:St}{H:Hp}{s s':sr}
theorem Inv.env0(I:Inv X pins σ H s):wj X.prog X.w X.K X.mg X.base X.A X.stack s H:=
 ⟨I.ok.frames,I.ok.mod,I.bs,eR I.ok.bsz I.sz,I.stack,I.Fw,I.hok,I.bare⟩
theorem Inv.after{Q:VK}{u:rn}(I:Inv X pins σ H s)(h:CE X.stack X.prog X.w H s Q u s'):EP X pins σ Q u s':=by
 obtain ⟨v,H',os,bare,un,hok,r,q⟩:=h;obtain ⟨hh,g,d,t,os'⟩:=s';obtain rfl:os'=s.os:=os;exact⟨v,H',I.call (h':=hh) (g':=g) (d':=d) (t':=t) (ch:=[]) un hok bare (fun b z=>absurd z (by simp)),r,q⟩
end
def NQ(sp:Sp)(dvs:LV)(E:XK)(t:TA):TE:=fun σ H Q=>t σ H fun vs H1=>sp (vs++dvs) H1 Q E
inductive HF (C:Addr) (m:Str) (sp:Sp) (dvs:LV) (E:XK) (t:TA) (σ:St) (Q:VK) (x:V) (H1:Hp):Prop
 | mk (a dx fs:_):x=.ref a->H1 a=some (.ins C dx fs)->fs.lookup m=none->(t σ H1 fun vs H2=>sp (x::(vs++dvs)) H2 Q E)->HF C m sp dvs E t σ Q x H1
def Ny(C:Addr)(m:Str)(sp:Sp)(dvs:LV)(E:XK)(ta:TE)(t:TA):TE:=fun σ H Q=>ta σ H fun x H1=>HF C m sp dvs E t σ Q x H1
def Rj(C:Addr)(sp:Sp)(dvs:LV)(E:XK)(t:TA):TE:=fun σ H Q=>t σ H fun vs H1=>∀ x dx,H1 x=none->H1 dx=none->dx≠x->
 sp (.ref x::(vs++dvs)) (upd (upd H1 dx (.own x)) x (.ins C dx [])) (fun v H2=>v=.non/\Q (.ref x) H2) E
def Binds(K:PySem.W.Frag)(fd:vy)(ps:LS)(ds:LU):Prop:=
 ∀(s:sr) (us:LU),K.In s.heap->(us++ds).length=ps.length->Ua s fd ⟨us,[]⟩ (ps.zip (us++ds))
theorem Binds.all{K:PySem.W.Frag}{fd:vy}{ps:LS}(h:∀ us:LU,us.length=ps.length->bindArgs fd ⟨us,[]⟩=Eg (ps.zip us)):Binds K fd ps []:=fun s us _ hl=>by
 rw [av] at hl ⊢;exact .of_eq (h us hl)
def Passes(CX:CXT)(X:Cx)(E:XK):Prop:=∀(pins:LO) (σ:St) (H:Hp) (s:sr) (e:rn) (s':sr),Inv X pins σ H s->CX X.stack H s E e s'->X.xe e s'
section
variable {X:Cx}{CX:CXT}{k:Nat}{f C:Addr}{fd:vy}{ps:LS}{sp:Sp}{dvs:LV}{ds:LU}{E:XK}{x m:Str}{p pos apos:Pos}{e o:Expr}{es:List Expr}{ta:TE}{t:TA}
theorem yV{pins:LO}{σ:St}{H:Hp}{s:sr}{Q:VK}{us:LU}{vs:LV}(F:bw X.prog X.w X.K X.mg X.base CX k f fd ps sp)(hr:iD k X.A)(hb:Binds X.K fd ps ds)(hd:Vals dvs ds)(hx:Passes CX X E)
  (I:Inv X pins σ H s) (r:Vals vs us) (h:sp (vs++dvs) H Q E):ut ‹6› X.A (call (.ref f) us) (EP X pins σ Q) X.xe s:=by
 have r2:Vals (vs++dvs) (us++ds):=r.append hd;have hl:(us++ds).length=ps.length:=by rw [<- r2.length]; exact F.len _ _ _ _ h
 refine wpAny_call (kQ (F.run X.A X.stack s H ⟨us,[]⟩ (us++ds) (vs++dvs) Q E hr I.env0 (hb s us I.kIn hl) r2 h) fun r s' hq=>?_);cases r with
 | error e=>exact hx pins σ H s e s' I hq
 | ok fl=>
  cases fl with
  | ret u=>exact I.after hq
  | next=>exact Be hq
  | brk=>exact Be hq
  | cont=>exact Be hq
theorem M5(F:bw X.prog X.w X.K X.mg X.base CX k f fd ps sp)(hr:iD k X.A)(hg:Gl X x)(hm:X.mg x=some (.ref f))(hk:PySem.W.keepIn X.K (.ref f)=true)(hb:Binds X.K fd ps ds)(hd:Vals dvs ds)(hx:Passes CX X E)
  (ha:PA X (e::es) t) (hdb:(x == ("__debug__" : Str))=false:=by decide) (he:uC (e::es) X.env=(false,eval e X.env)::uC es X.env:=by rfl) (hpl:(zg pos (uC es X.env)).any (·.1)=false:=by rfl) :
  PE X (.Call (.Name x p) (e::es) [] pos) (NQ sp dvs E t):=by
 intro pins s σ H Q I h;refine ib (yD I hg hm ?_ hdb);refine mI (h₀:=X.base) I.ok.mod.kin hk (thn (ha pos pins s σ H _ I h) fun us s1 ⟨vs,H1,I1,r,q⟩=>⟨I1.kIn,?_⟩) he hpl;exact yV F hr hb hd hx I1 r q
theorem dX{pl:Sem Bool}(he:PE X o ta)(c:Cls X.K C)(hm:Meth X.K C m f)(F:bw X.prog X.w X.K X.mg X.base CX k f fd ps sp)(hr:iD k X.A)(hb:Binds X.K fd ps ds)(hd:Vals dvs ds)(hx:Passes CX X E)(ha:PA X (e::es) t)
  (hst:uC (e::es) X.env=(false,eval e X.env)::uC es X.env:=by rfl) (hpl:(zg pos (uC es X.env)).any (·.1)=false:=by rfl)
  (ht:eval (.Call (.Attribute o m apos) (e::es) [] pos) X.env=(do
   let ov <- eval o X.env
   standAt apos.atName
   let (f,first) <- TF [ov] (getMethod ov m pl)
   Q4 pos f first (zg pos (uC (e::es) X.env)) (Tt pos (JS [] X.env))):=by rfl) :
  PE X (.Call (.Attribute o m apos) (e::es) [] pos) (Ny C m sp dvs E ta t):=by
 intro pins s σ H Q I h;refine PySem.W.methodCall_KW (pl:=pl) (thn (he pins s σ H _ I h) fun u s1 ⟨x,H1,I1,rx,a,dx,fs,ex,ea,l,q⟩=>?_) ht;subst ex;obtain rfl:u=wy a:=rx;refine vo I1 ea c hm l ?_;refine mI (first:=[.ref a]) (h₀:=X.base) I.ok.mod.kin hm.kp (thn (ha pos pins s1 σ H1 _ I1 q) fun us s2 ⟨vs,H2,I2,r,q2⟩=>⟨I2.kIn,?_⟩) hst hpl;exact yV (us:=.ref a::us) (vs:=.ref a::vs) F hr hb hd hx I2 (.cons rfl r) q2
theorem lB{pl:Sem Bool}(he:PE X o ta)(c:Cls X.K C)(hm:Meth X.K C m f)(F:bw X.prog X.w X.K X.mg X.base CX k f fd ps sp)(hr:iD k X.A)(hb:Binds X.K fd ps ds)(hd:Vals dvs ds)(hx:Passes CX X E)
  (ht:eval (.Call (.Attribute o m apos) [] [] pos) X.env=(do
   let ov <- eval o X.env
   standAt apos.atName
   let (f,first) <- TF [ov] (getMethod ov m pl)
   Q4 pos f first (zg pos (uC [] X.env)) (Tt pos (JS [] X.env))):=by rfl) :
  PE X (.Call (.Attribute o m apos) [] [] pos) (Ny C m sp dvs E ta RM):=by
 intro pins s σ H Q I h;refine PySem.W.methodCall_KW (pl:=pl) (thn (he pins s σ H _ I h) fun u s1 ⟨x,H1,I1,rx,a,dx,fs,ex,ea,l,q⟩=>?_) ht;subst ex;obtain rfl:u=wy a:=rx;refine vo I1 ea c hm l ?_;exact PySem.W.callWith_K0 (first:=[.ref a]) I1.kIn hm.kp (yV (us:=[.ref a]) (vs:=[.ref a]) F hr hb hd hx I1 (.cons rfl .nil) q)
structure Mk (K:PySem.W.Frag) (C f:Addr):Prop where
 makes:PySem.W.makesIn K C=true
 init:PySem.W.findIn K (.ref C) "__init__" = some (some (.ref f))
 fn:PySem.W.isFn K (.ref f)=true
 kp:PySem.W.keepIn K (.ref C)=true
theorem Iw{pins:LO}{σ:St}{H:Hp}{s:sr}{Q:VK}{us:LU}{vs:LV}(M:Mk X.K C f)(F:bw X.prog X.w X.K X.mg X.base CX k f fd ps sp)(hr:iD (k+1) X.A)(hb:Binds X.K fd ps ds)(hd:Vals dvs ds)
  (hx:Passes CX X E) (I:Inv X pins σ H s) (r:Vals vs us)
  (h:∀ x dx,H x=none->H dx=none->dx≠x->sp (.ref x::(vs++dvs)) (upd (upd H dx (.own x)) x (.ins C dx [])) (fun v H2=>v=.non/\Q (.ref x) H2) E) :
  ut ‹6› X.A (call (.ref C) us) (EP X pins σ Q) X.xe s:=by
 have hq:=h ‹7› s.heap.objs.size (I.hok.fresh (oz _)) (I.hok.fresh (am _)) (dE (Nat.lt_succ_self _));have I2:=Inv.made (C:=C) I;have r2:Vals (V.ref (s.heap.objs.size+1)::(vs++dvs)) (wy (s.heap.objs.size+1)::(us++ds)):=.cons rfl (r.append hd)
 have hl:(wy (s.heap.objs.size+1)::us++ds).length=ps.length:=by
  have e:=r2.length;rw [F.len _ _ _ _ hq] at e;exact e.symm
 refine wpAny_call (Ka (f:=f) I.kIn M.makes M.init (ki.mp M.fn) (kQ (F.run _ X.stack _ _ ⟨wy (s.heap.objs.size+1)::us,[]⟩ (wy (s.heap.objs.size+1)::(us++ds)) _ _ E (hr.make C us [])
  (I2.env0.make C us []) (hb _ (wy (s.heap.objs.size+1)::us) I2.kIn hl) r2 hq) fun r s' hq'=>?_))
 cases r with
 | error e=>exact hx pins σ _ _ e s' I2 hq'
 | ok fl=>
  cases fl with
  | ret u=>
   obtain ⟨v,H',I3,rv,ev,q3⟩:=I2.after hq';subst ev;exact⟨rv,⟨V.ref ‹7›,H',I3,rfl,q3⟩⟩
  | next=>exact Be hq'
  | brk=>exact Be hq'
  | cont=>exact Be hq'
theorem Nj(M:Mk X.K C f)(F:bw X.prog X.w X.K X.mg X.base CX k f fd ps sp)(hr:iD (k+1) X.A)(hg:Gl X x)(hm:X.mg x=some (.ref C))(hb:Binds X.K fd ps ds)(hd:Vals dvs ds)(hx:Passes CX X E)
  (ha:PA X (e::es) t) (hdb:(x == ("__debug__" : Str))=false:=by decide) (he:uC (e::es) X.env=(false,eval e X.env)::uC es X.env:=by rfl) (hpl:(zg pos (uC es X.env)).any (·.1)=false:=by rfl) :
  PE X (.Call (.Name x p) (e::es) [] pos) (Rj C sp dvs E t):=by
 intro pins s σ H Q I h;refine ib (yD I hg hm ?_ hdb);refine mI (h₀:=X.base) I.ok.mod.kin M.kp (thn (ha pos pins s σ H _ I h) fun us s1 ⟨vs,H1,I1,r,q⟩=>⟨I1.kIn,?_⟩) he hpl;exact Iw M F hr hb hd hx I1 r q
end
structure bf (N P:LS) (sc:Scope):Prop where
 kind:sc.kind=.function
 co:sc.isCoroutine=false
 gen:sc.isGenerator=false
 nd:N.Nodup
 pre:N.take P.length=P
 par:∀ x∈P,sc.names.lookup x=some .local\/sc.names.lookup x=some .cell
 Qm:∀ y∈sc.names,y.2≠.free
theorem wX{kindOf:Str->Option xF}{x:Str}:∀ {binds:List (Str × rn)} {m:MG},(∀ v,(x,v) ∉ binds)->bindL kindOf binds m x=m x
 | [],_,_=>rfl
 | (n,v)::r,m,h=>by
  unfold bindL;rw [wX fun w hw=>h w (cz _ hw)];split
  ·have:x≠n:=by rintro rfl; exact h v bE
   simp [this]
  ·rfl
theorem xK{kindOf:Str->Option xF}{x:Str}:∀ {binds:List (Str × rn)} {m:MG},(∀ v,(x,v) ∉ binds)->bindC kindOf binds m x=m x
 | [],_,_=>rfl
 | (n,v)::r,m,h=>by
  unfold bindC;rw [xK fun w hw=>h w (cz _ hw)];split
  ·rfl
  ·have:x≠n:=by rintro rfl; exact h v bE
   simp [this]
theorem xT{kindOf:Str->Option xF}{x:Str}{v:rn}:∀ {P:LS} {vs:LU} {i:Nat} {m:MG},P.Nodup->P[i]?=some x->vs[i]?=some v->kindOf x=some .local->
  bindL kindOf (P.zip vs) m x=some v
 | [],_,_,_,_,h,_,_=>by simp at h
 | _::_,[],_,_,_,_,h,_=>by simp at h
 | p::P,w::vs,0,m,nd,h1,h2,hk=>by
  simp at h1 h2; subst h1; subst h2;show bindL kindOf ((p,w)::P.zip vs) m p=_;unfold bindL;rw [wX fun v hv=>(gI.mp nd).1 (List.of_mem_zip hv).1,dC hk];simp
 | p::P,w::vs,i+1,m,nd,h1,h2,hk=>by
  show bindL kindOf ((p,w)::P.zip vs) m x=_;unfold bindL;exact xT (i:=i) (gI.mp nd).2 (by simpa using h1) (by simpa using h2) hk
theorem wZ{kindOf:Str->Option xF}{x:Str}{v:rn}:∀ {P:LS} {vs:LU} {i:Nat} {m:MG},P.Nodup->P[i]?=some x->vs[i]?=some v->kindOf x≠some .local->
  bindC kindOf (P.zip vs) m x=some v
 | [],_,_,_,_,h,_,_=>by simp at h
 | _::_,[],_,_,_,_,h,_=>by simp at h
 | p::P,w::vs,0,m,nd,h1,h2,hk=>by
  simp at h1 h2; subst h1; subst h2;show bindC kindOf ((p,w)::P.zip vs) m p=_;unfold bindC;rw [xK fun v hv=>(gI.mp nd).1 (List.of_mem_zip hv).1,cK hk];simp
 | p::P,w::vs,i+1,m,nd,h1,h2,hk=>by
  show bindC kindOf ((p,w)::P.zip vs) m x=_;unfold bindC;exact wZ (i:=i) (gI.mp nd).2 (by simpa using h1) (by simpa using h2) hk
def start(N:LS)(vs:LV):St:=vs.map some++List.replicate (N.length - vs.length) none
def Aq(CX:CXT)(P:uv)(w:xf)(K:PySem.W.Frag)(mg:MG)(base:Heap)(N:LS)(qual:Str)(scope:Scope)(f:Addr)(cd:rn)(A:xn)(outer:List Env)(s:sr)(H:Hp)(E:XK):Cx where
 prog:=P
 w:=w
 K:=K
 mg:=mg
 base:=base
 A:=A.deeper (Su qual scope s.heap.objs.size f cd)
 N:=N
 s₀:=s
 H₀:=H
 env:=Su qual scope s.heap.objs.size f cd
 outer:=outer
 stack:=Su qual scope s.heap.objs.size f cd::outer
 ex:=[]
 calm:=true
 fn:=fun _=>true
 pn:=[]
 xe:=fun e s'=>ut (uB P w) (A.deeper (Su qual scope s.heap.objs.size f cd)) (leaving (Su qual scope s.heap.objs.size f cd) e) (fun _ s''=>CX outer H s E e s'') (fun e' s''=>CX outer H s E e' s'') s'
theorem Bg{sc:Scope}{n:Nat}{x:Str}(h:sc.names.lookup x=some .cell):∃ c,(cellsFrom n sc.names []).lookup x=some c:=by
 have q:=kR sc.names n [] (.inl h);exact iO.mp q
theorem Gq{CX:CXT}{P:uv}{w:xf}{K:PySem.W.Frag}{mg:MG}{base:Heap}{N ps:LS}{qual:Str}{scope:Scope}{f:Addr}{cd:rn}{A:xn}{outer:List Env}{s s1:sr}{H:Hp}{E:XK}{us:LU}{vs:LV}
  (S:bf N ps scope) (hd:A.handled=none) (e0:wj P w K mg base A outer s H) (hl:vs.length=ps.length) (r:Vals vs us)
  (x:InCallC s s.heap.objs.size (bindL (Su qual scope s.heap.objs.size f cd).kindOf (ps.zip us) fun _=>none) (cellsFrom ‹7› scope.names []) (bindC (Su qual scope s.heap.objs.size f cd).kindOf (ps.zip us) fun _=>none) s1) :
  Inv (Aq CX P w K mg base N qual scope f cd A outer s H E) [] (start N vs) H s1:=by
 have hpl:ps.length<=N.length:=by have:=congrArg List.length S.pre; rw [cf] at this; omega
 obtain ⟨h1,tk,rfl,hk⟩:=x.done;have noA:∀ b:Addr,b ∉ (Aq CX P w K mg base N qual scope f cd A outer s H E).ex:=fun b z=>absurd (show b∈([]:LA) from z) (by simp)
 refine⟨⟨e0.mod,S.kind,rfl,rfl,am _,fun y z c h1 h2=>?_,fun y hy=>?_,fun y c _ h=>?_,fun _=>hd,xn.frames_deeper e0.frames,.inr ⟨rfl,rfl⟩,fun b z=>absurd z (noA b),e0.bs,e0.bsz,fun b _ _=>noA b,fun b z=>absurd z (noA b),e0.qL,e0.frf⟩,
  rfl,e0.bare,Un.kept hk,⟨_,x.toInCall.ns,fun i y v h1 h2 h3=>?_⟩,fun y c h=>⟨_,x.cell y c h⟩,e0.hok.fresh (am _),fun y c h=>?_,fun p hp=>absurd (show p∈([]:LO) from hp) (by simp),e0.hok.kept hk,?_⟩
 ·exact name_of_addr x.apart (fb h1) (fb h2)
 ·have hy:scope.names.lookup y=some .cell\/scope.names.lookup y=some .free:=hy;rcases hy with hy | hy
  ·exact Bg hy
  ·exact absurd rfl (S.Qm _ (fb hy))
 ·exact pV (x.above y c (fb h))
 ·have hi:i < vs.length:=by
   unfold start at h2
   by_cases hi:i < vs.length
   ·exact hi
   ·rw [i7 (by simpa using hi)] at h2;rw [List.getElem?_replicate] at h2;split at h2 <;> cases h2
  have ha:vs[i]?=some v:=by
   unfold start at h2;rw [jn (by simpa using hi),bj] at h2;cases e:vs[i]? with
   | none=>rw [e] at h2; cases h2
   | some a=>rw [e] at h2; cases h2; rfl
  obtain ⟨u,hu,rv⟩:=r.get ha
  have hp:ps[i]?=some y:=by
   rw [<- S.pre,mv ‹23›]; exact h1
  have ndP:ps.Nodup:=by rw [<- S.pre]; exact S.nd.sublist (List.take_sublist _ _)
  refine⟨u,rv,?_⟩;rcases S.par y (gh hp) with k | k
  ·exact .inl ⟨k,xT ndP hp hu k⟩
  ·obtain ⟨c,e⟩:=Bg (n:=s.heap.objs.size+1) k;refine .inr ⟨.inl k,c,e,?_⟩;have q:=x.cell y c e;rw [wZ ndP hp hu (by show scope.names.lookup y≠_; rw [k]; decide)] at q;exact q
 ·exact e0.hok.fresh (pV (x.above y c (fb h)))
 ·unfold start;show _=N.length;rw [ae,aa,ij];omega
theorem Oa{CX:CXT}{P:uv}{w:xf}{K:PySem.W.Frag}{mg:MG}{base:Heap}{k:Nat}{f:Addr}{name qual:Str}{params:Arguments}{body:List Stmt}{scope:Scope}{dV kV doc pm cdv ct oc:rn}{an od:Option Addr}
  {osl:Array (Option rn)} {N ps:LS} {sp:Sp} (lk:K.lookup f=some ⟨oc,od,.func (PySem.W.fnOf name qual params body scope dV kV doc pm an cdv ct),osl⟩) (hcd:PySem.W.codeIn K cdv qual=true) (S:bf N ps scope)
  (len:∀ vs H Q E,sp vs H Q E->vs.length=ps.length)
  (hbody:∀(A:xn) (outer:List Env) (s:sr) (H:Hp) (vs:LV) (Q:VK) (E:XK),iD k (A.deeper (Su qual scope s.heap.objs.size f cdv))->sp vs H Q E->
   ∃ t,PSs (Aq CX P w K mg base N qual scope f cdv A outer s H E) body t/\t { nx:=fun _ H'=>Q .non H',rt:=Q } (start N vs) H) :
  bw P w K mg base CX (k+1) f (PySem.W.fnOf name qual params body scope dV kV doc pm an cdv ct) ps sp:=by
 refine⟨len,fun A outer s H args us vs Q E hr e0 hb r hsp=>?_⟩;have hl:=len _ _ _ _ hsp;have KX:K.In s.heap:=e0.mod.kin.keeps fun b o e=>(e0.bs b o e).1;have lim:s.heap.NoLimit:=e0.mod.nolimit.keeps fun b o e=>(e0.bs b o e).1
 have hkind:∀ y∈ps.zip us,scope.names.lookup y.1=some .local\/(scope.names.lookup y.1=some .cell/\((cellsFrom ‹7› scope.names []).lookup y.1).isSome=true):=fun⟨n,v⟩ hy=>by
  rcases S.par n (List.of_mem_zip hy).1 with q | q
  ·exact .inl q
  ·exact .inr ⟨q,kR _ _ _ (.inl q)⟩
 refine codeAny_call_function hr.depth (KX _ _ lk) rfl S.co S.gen rfl (PySem.W.codeRec_of KX hcd) (hb _ _ _ _ ?_);refine wpAny_newFunctionEnv_cells S.kind hkind fun env he s1 x=>?_;subst he;refine⟨lim.keeps x.toInCall.keep,codeAny_func ?_⟩;obtain ⟨t,ht,hq⟩:=hbody A outer s H vs Q E (hr.deeper _) hsp;have I:Inv (Aq CX P w K mg base N qual scope f cdv A outer s H E) [] (start N vs) H s1:=Gq S hr.hd e0 hl r x;refine fT (ht [] s1 (start N vs) H _ I hq) (fun fl s' hs=>?_) fun e s' hs=>hs
 have fin:∀ {σ':St} {H':Hp} {v:V} {u:rn},Inv (Aq CX P w K mg base N qual scope f cdv A outer s H E) [] σ' H' s'->RelV v u->Q v H'->CE outer P w H s Q u s':=
  fun {σ' H' v u} J rv q=>⟨v,H',J.os,J.bare,J.base,J.hok,rv,q⟩
 cases fl with
 | ret u=>
  obtain ⟨v,σ',H',J,rv,q⟩:=hs;exact fin J rv q
 | next=>
  obtain ⟨σ',H',J,q⟩:=hs;exact fin (v:=V.non) (u:=yf) J rfl q
 | brk=>
  obtain ⟨_,_,_,q⟩:=hs;exact Be q
 | cont=>
  obtain ⟨_,_,_,q⟩:=hs;exact Be q
section
variable {X:Cx}{x:Str}{p pos:Pos}{e:Expr}{es:List Expr}{t:TA}{id T:String}{r:LV->Hp->VK->Prop}
def tCB(r:LV->Hp->VK->Prop)(t:TA):TE:=fun σ H Q=>t σ H fun vs H1=>r vs H1 Q
theorem aW(hc:iz X (.builtin id) r)(hg:Gl X x)(hm:X.mg x=none)(hv:ye x=some (.builtin id))(ha:PA X (e::es) t)(hn:x≠ "__name__" := by decide)(hdb:(x == ("__debug__" : Str))=false:=by decide)
  (he:uC (e::es) X.env=(false,eval e X.env)::uC es X.env:=by rfl) (hpl:(zg pos (uC es X.env)).any (·.1)=false:=by rfl):PE X (.Call (.Name x p) (e::es) [] pos) (tCB r t):=by
 intro pins s σ H Q I h;refine ib (oA I hg hm hv ?_ hn hdb);exact PyProof.Rows.callWith_builtin1 (thn (ha pos pins s σ H _ I h) fun us s1 ⟨vs,H1,I1,r1,q1⟩=>hc pins s1 σ H1 vs us Q I1 r1 q1) he hpl
theorem bK(hc:iz X (.type T) r)(hg:Gl X x)(hm:X.mg x=none)(hv:ye x=some (.type T))(ha:PA X (e::es) t)(hn:x≠ "__name__" := by decide)(hdb:(x == ("__debug__" : Str))=false:=by decide)
  (he:uC (e::es) X.env=(false,eval e X.env)::uC es X.env:=by rfl) (hpl:(zg pos (uC es X.env)).any (·.1)=false:=by rfl):PE X (.Call (.Name x p) (e::es) [] pos) (tCB r t):=by
 intro pins s σ H Q I h;refine ib (oA I hg hm hv ?_ hn hdb);exact i4 (thn (ha pos pins s σ H _ I h) fun us s1 ⟨vs,H1,I1,r1,q1⟩=>hc pins s1 σ H1 vs us Q I1 r1 q1) he hpl
end
end L2
end
section
namespace HT
open PySem PyProof.Rows
variable {b sl:Addr}{Q:rn->sr->Prop}{vl vu:rn}{hi lo:Option Int}{n:Nat}{items:Array rn}
section
variable {prog:uv}{w:xf}{A:xn}{E:rn->sr->Prop}{s:sr}
theorem M8{t:Addr}{vs ws:List rn}(ht:TX s.heap t vs.toArray)(hb:TX s.heap b ws.toArray)(hv:vs≠[])
  (h1:ws=[]->Q (.ref t) s) (h2:ws≠[]->Q (.ref s.heap.objs.size) { s with heap:=s.heap.push { cls:=.type "tuple",data:=.seq (vs++ws).toArray } })
  (hsz:vs.length+ws.length<=sizeLine):ut ‹18› A (Ff .Add (.ref t) (.ref b)) Q E s:=by
 obtain ⟨⟨cls,dd,data,sl⟩,ho,hc,n,hd⟩:=id ht;obtain ⟨⟨cls2,dd2,data2,sl2⟩,ho2,hc2,n2,hd2⟩:=id hb;simp only at hc hd hc2 hd2;subst hc hd hc2 hd2;have e:vs.toArray++ws.toArray=(vs++ws).toArray:=by simp
 by_cases hw:ws=[]
 ·exact concat_meets ⟨_,ho,rfl⟩ ⟨_,ho2,rfl⟩ Tu seq_tuple_add nr nh (mw _ _)
   (tuple_addW1 t b vs.toArray ws.toArray n n2 dd dd2 sl sl2 (by simpa using hv) (by simp [hw])) ⟨ho,ho2,h1 hw⟩
 ·refine concat_meets ⟨_,ho,rfl⟩ ⟨_,ho2,rfl⟩ Tu seq_tuple_add nr nh (mw _ _)
   (tuple_addW2 t b vs.toArray ws.toArray n n2 dd dd2 sl sl2 (by simpa using hv) (by simpa using hw) (by rw [bb,bb]; exact hsz)) ⟨ho,ho2,?_⟩
  rw [e];exact h2 hw
def sIx(n d:Nat):Option Int->Nat
 | none=>d
 | some v=>if v < 0 then (v+(n:Int)).toNat else min v.toNat n
theorem uO(n d k:Nat):sIx n d (some (k:Int))=min k n:=by
 show (if (k:Int) < 0 then ((k:Int)+(n:Int)).toNat else min (k:Int).toNat n)=min k n;rw [cK ‹23›,Int.toNat_natCast]
theorem Qh(n d:Nat)(hd:d<=n)(o:Option Int):sIx n d o<=n:=by
 cases o with
 | none=>exact hd
 | some v=>
  show (if v < 0 then (v+(n:Int)).toNat else min v.toNat n)<=n
  by_cases hv:v < 0
  ·rw [dC hv]; omega
  ·rw [cK hv]; exact Nat.min_le_right _ _
theorem Ek(v:Int)(n d:Nat):(if v < 0 then max (v+(n:Int)) 0 else min v (n:Int))=((sIx n d (some v):Nat):Int):=by
 show (if v < 0 then max (v+(n:Int)) 0 else min v (n:Int))=(((if v < 0 then (v+(n:Int)).toNat else min v.toNat n):Nat):Int)
 by_cases hv:v < 0
 ·simp only [dC hv]; omega
 ·simp only [cK hv]; omega
theorem Df(lo hi:Option Int)(n:Nat):HQ lo hi 1 (n:Int)=(((sIx n 0 lo:Nat):Int),((sIx n n hi:Nat):Int)):=by
 have h1:¬ ((1:Int) < 0):=by omega
 unfold HQ;simp only [h1,ir];refine Prod.ext ?_ ?_
 ·cases lo with
  | none=>rfl
  | some v=>exact Ek v n 0
 ·cases hi with
  | none=>rfl
  | some v=>exact Ek v n n
theorem Dk(i j:Nat):De (i:Int) (j:Int) 1=j - i:=by
 unfold De;have h1:(1:Int) > 0:=by omega
 simp only [h1,ku,Int.ediv_one];split <;> omega
theorem vD{v:rn}{o:Option Int}{Q:Option Int->sr->Prop}(p:TQ v o)(h:Q o s):ut ‹18› A (uA.Slice.slicePartIndex v) Q E s:=by
 cases p with
 | none=>exact slicePart_none h
 | int i t=>exact slicePart_int h
theorem mH{Q:Int × Int × Nat->sr->Prop}(hs:s.heap.IsSliceOf sl vl vu .none)(pl:TQ vl lo)(pu:TQ vu hi)
  (h:Q (((sIx n 0 lo:Nat):Int),1,sIx n n hi - sIx n 0 lo) s):ut ‹18› A (uA.Slice.sliceApplied (.ref sl) (Eg (n:Int))) Q E s:=by
 obtain ⟨os,hos,hcs,hds⟩:=id hs;unfold uA.Slice.sliceApplied uA.Slice.sliceFields;refine ac (ac (eQ hos hds (x:=vl) rfl (ac (eQ hos hds (x:=vu) rfl (ac (eQ hos hds (x:=.none) rfl (ay ?_)))))));refine ac (slicePart_none ?_);show ut _ _ (if ((1:Int) == 0)=true then _ else _) _ _ s;rw [cK (by decide)];refine ac (vD pl (ac (vD pu (ac (ay ?_)))));show ut _ _ (match HQ lo hi 1 (n:Int) with | (lo,hi)=>Eg (lo,(1:Int),De lo hi 1)) _ _ s;rw [Df lo hi n];show ut _ _ (Eg (((sIx n 0 lo:Nat):Int),(1:Int),De ((sIx n 0 lo:Nat):Int) ((sIx n n hi:Nat):Int) 1)) _ _ s;rw [Dk];exact ay h
theorem Kp(xs:Array rn)(i k:Nat):((List.range k).filterMap fun(m:Nat)=>xs[((i:Int)+(m:Int) * 1).toNat]?).toArray=((xs.toList.drop i).take k).toArray:=by
 have e:(fun(m:Nat)=>xs[((i:Int)+(m:Int) * 1).toNat]?)=fun m=>xs[i+m]?:=by
  funext m;have:((i:Int)+(m:Int) * 1).toNat=i+m:=by omega
  rw [this]
 rw [e];have:=pick_run xs i k;rw [List.filterMap_map] at this;have e2:((fun x=>xs[x]?) ∘ fun x=>i+x)=fun m=>xs[i+m]?:=rfl;rw [e2] at this;rw [this]
theorem sG{t:Addr}(ht:TX s.heap t items)(hs:s.heap.IsSliceOf sl vl vu .none)(pl:TQ vl lo)(pu:TQ vu hi)
  (hw:¬ (sIx items.size 0 lo=0/\sIx items.size items.size hi=items.size))
  (h:Q (.ref s.heap.objs.size) { s with heap:=s.heap.push { cls:=.type "tuple",data:=.seq ((items.toList.drop (sIx items.size 0 lo)).take (sIx items.size items.size hi - sIx items.size 0 lo)).toArray } })
  (hsz:items.size<=sizeLine):ut ‹18› A (QQ (.ref t) (.ref sl)) Q E s:=by
 have htake:sizeOk (.seq ((items.toList.drop (sIx items.size 0 lo)).take (sIx items.size items.size hi - sIx items.size 0 lo)).toArray):=by
  show ((items.toList.drop (sIx items.size 0 lo)).take (sIx items.size items.size hi - sIx items.size 0 lo)).toArray.size<=sizeLine;rw [bb,cf,j0,iF];omega
 have hj:sIx items.size items.size hi<=items.size:=Qh _ _ (am _) hi;obtain ⟨os,hos,hcs,hds⟩:=id hs;have hTs:s.TypeIs (.ref sl) "slice" := ⟨os,hos,hcs⟩;unfold QQ
 try with_reducible refine gv ?_
 first | refine ac (ay ?_) | skip
 refine ac (wpAny_sequenceKey ht.typeIs (by decide) ?_)
 refine ac (fk (name:=Str.ofString "__getitem__") ht.typeIs gT
  (hU gT ht.typeIs entry_tuple_getitem ?_ (args_tuple_getitem _ _)))
 show ut _ _ (uA.Tuple.tupleItemsOf (.ref t) >>= _) _ _ s;refine ac (tupleItemsOf_ ht ?_);refine ac (wpAny_typeOf hTs ?_);rw [dC (by decide)];refine ac (mH hs pl pu ?_)
 have hno:¬ ((((sIx items.size 0 lo:Nat):Int) == 0 && (1:Int) == 1 && (sIx items.size items.size hi - sIx items.size 0 lo) == items.size)=true):=by
  intro q;rw [j3,j3] at q;have q1:((sIx items.size 0 lo:Nat):Int)=0:=eq_of_beq q.1.1;have q2:sIx items.size items.size hi - sIx items.size 0 lo=items.size:=eq_of_beq q.2;exact hw ⟨by omega,by omega⟩
 show ut _ _ (if (((sIx items.size 0 lo:Nat):Int) == 0 && (1:Int) == 1 && (sIx items.size items.size hi - sIx items.size 0 lo) == items.size)=true then _ else _) _ _ s;rw [cK hno,Kp]
 first
  | exact ac (m:=zb _) (ik (ay ⟨_,rfl,ay h⟩) htake)
  | exact ac (m:=zb _) (ik (ac (ay (ay ⟨_,rfl,ay h⟩))) htake)
  | exact ac (ac (m:=zb _) (ik (ay (ay ⟨_,rfl,ay h⟩)) htake))
  | exact ac (ac (m:=zb _) (ik (ay ⟨_,rfl,ay h⟩) htake))
end
end HT
namespace L2
open PySem PySem.Spec PyProof.Rows
variable {xs ys:LV}{j n t':Nat}{α:Type}{pins:LO}{σ:St}{H H':Hp}{s:sr}{a b p:Addr}{its:LU}{A:xn}{y:V}{u:rn}{P prog:uv}{w:xf}{kvs:LK0}{E Q:ES}{h':Heap}{env:Env}{pos:Pos}{id:String}{X:Cx}
abbrev TO:=St->Hp->(Option Int->Hp->Prop)->Prop
def PO(X:Cx)(e:Option Expr)(t:TO):Prop:=
 ∀(pins:LO) (s:sr) (σ:St) (H:Hp) (Q:Option Int->Hp->Prop),Inv X pins σ H s->t σ H Q->
  ut ‹6› X.A (evalPart e X.env) (fun u s'=>∃ o H',Inv X pins σ H' s'/\TQ u o/\Q o H') X.xe s
def MN:TO:=fun _ H Q=>Q none H
inductive Ky (Q:Option Int->Hp->Prop) (x:V) (H1:Hp):Prop
 | mk (i:_):x=.int i->Q (some i) H1->Ky Q x H1
def QV(t:TE):TO:=fun σ H Q=>t σ H fun x H1=>Ky Q x H1
section
variable {X:Cx}{e:Expr}{te:TE}{lo hi:Option Expr}{tl th:TO}{pos p2:Pos}
theorem fW:PO X none MN:=by
 intro pins s σ H Q I h;rw [evalPart_none];exact ay ⟨none,H,I,.none,h⟩
theorem cW(h:PE X e te):PO X (some e) (QV te):=by
 intro pins s σ H Q I hw;rw [evalPart_some];refine thn (h pins s σ H _ I hw) fun u s1 ⟨x,H1,I1,r1,q1⟩=>?_;obtain ⟨i,rfl,q⟩:=q1;obtain ⟨t,rfl⟩:=r1;exact⟨some i,H1,I1,.int i t,q⟩
def SlR(X:Cx)(r:V->Option Int->Option Int->Hp->VK->Prop):Prop:=
 ∀(pins:LO) (s:sr) (σ:St) (H:Hp) (x:V) (v vl vu:rn) (lo hi:Option Int) (sl:Addr) (Q:VK),Inv X pins σ H s->RelV x v->s.heap.IsSliceOf sl vl vu .none->TQ vl lo->TQ vu hi->r x lo hi H Q->
  ∃ T id,typeLookup (.type T) "__getitem__" = Eg (some (.builtin id))/\s.TypeIs v T/\ut ‹6› X.A (QQ v (.ref sl)) (EP X pins σ Q) X.xe s
theorem SlR.or{r r':V->Option Int->Option Int->Hp->VK->Prop}(h:SlR X r)(h':SlR X r'):SlR X (fun x lo hi H Q=>r x lo hi H Q\/r' x lo hi H Q):=by
 intro pins s σ H x v vl vu lo hi sl Q I rx hs pl pu q;rcases q with q | q
 ·exact h pins s σ H x v vl vu lo hi sl Q I rx hs pl pu q
 ·exact h' pins s σ H x v vl vu lo hi sl Q I rx hs pl pu q
def tSl(r:V->Option Int->Option Int->Hp->VK->Prop)(te:TE)(tl th:TO):TE:=fun σ H Q=>te σ H fun x H1=>tl σ H1 fun l H2=>th σ H2 fun u H3=>r x l u H3 Q
theorem cX{r:V->Option Int->Option Int->Hp->VK->Prop}(hr:SlR X r)(he:PE X e te)(hl:PO X lo tl)(hu:PO X hi th):PE X (.Subscript e (.Slice lo hi none p2) pos) (tSl r te tl th):=by
 intro pins s σ H Q I h;refine Subscript_ (thn (he pins s σ H _ I h) fun v s1 ⟨x,H1,I1,r1,q1⟩=>?_);refine wpAny_Slice (thn (hl pins s1 σ H1 _ I1 q1) fun vl s2 ⟨l,H2,I2,pl,q2⟩=>thn (hu pins s2 σ H2 _ I2 q2) fun vu s3 ⟨u,H3,I3,pu,q3⟩=>?_);rw [evalPart_none];refine ay ?_;have I4:Inv X pins σ H3 { s3 with heap:=s3.heap.push { cls:=.type "slice",data:=.fields #[vl,vu,.none] } }:=I3.kept (t':=s3.toks) fun b ob q=>ai _ q;obtain ⟨T,id,hT,ht,hg⟩:=hr pins { s3 with heap:=s3.heap.push { cls:=.type "slice",data:=.fields #[vl,vu,.none] } } σ H3 x v vl vu l u s3.heap.objs.size Q I4 r1 (Heap.IsSliceOf.new ..) pl pu q3;show ut ‹6› X.A (subscriptTail e (.Slice lo hi none p2) v (.ref s3.heap.objs.size)) (EP X pins σ Q) X.xe { s3 with heap:=s3.heap.push { cls:=.type "slice",data:=.fields #[vl,vu,.none] } };exact tail_any (ops:=[.ref s3.heap.objs.size,v]) ht hT hg (by with_unfolding_all rfl)
def gW(xs:LV)(lo hi:Option Int):LV:=(xs.drop (HT.sIx xs.length 0 lo)).take (HT.sIx xs.length xs.length hi - HT.sIx xs.length 0 lo)
theorem tZ(xs:LV)(lo hi:Option Int):(gW xs lo hi).length<=xs.length:=by
 unfold gW;rw [cf,j0];omega
inductive Mi (K:PySem.W.Frag) (x:V) (lo:Option Int) (hi:Option Int) (H:Hp) (Q:VK):Prop
 | mk (a xs:_):x=.ref a->SqT K H a xs->¬ (HT.sIx xs.length 0 lo=0/\HT.sIx xs.length xs.length hi=xs.length)->(∀ p,H p=none->Q (.ref p) (upd H p (.tup (gW xs lo hi))))->Mi K x lo hi H Q
theorem K1:SlR X (Mi X.K):=by
 intro pins s σ H x v vl vu lo hi sl Q I rx hs pl pu h;obtain ⟨a,xs,rfl,hx,hw,q⟩:=h;cases rx;obtain ⟨its,r,ht,hz⟩:=I.tuple hx;have hlen:its.toArray.size=xs.length:=by rw [bb]; exact r.length.symm
 refine⟨"tuple",_,gT.lookup,ht.typeIs,?_⟩;refine HT.sG ht hs pl pu (by rw [hlen]; exact hw) ?_ (by rw [hlen]; exact hz);rw [hlen];refine⟨.ref s.heap.objs.size,_,I.laid (t':=s.toks) (o:=.tup (gW xs lo hi)) (fun b ob q=>ai _ q) (am _) ?_,rfl,q _ (I.hok.fresh (am _))⟩;exact⟨⟨eR (tZ xs lo hi) hz,pC _ _⟩,_,(r.drop (HT.sIx xs.length 0 lo)).take (HT.sIx xs.length xs.length hi - HT.sIx xs.length 0 lo),T9 _ _⟩
inductive Jl (K:PySem.W.Frag) (x:V) (y:V) (H:Hp) (Q:VK):Prop
 | mk (a b xs ys:_):x=.ref a->y=.ref b->SqT K H a xs->SqT K H b ys->xs≠[]->xs.length+ys.length<=sizeLine->(ys=[]->Q (.ref a) H)->(ys≠[]->∀ p,H p=none->Q (.ref p) (upd H p (.tup (xs++ys))))->Jl K x y H Q
theorem Vals.lX{us:LU}(r:Vals xs us):us=[]↔xs=[]:=by
 cases r with
 | nil=>simp
 | cons _ _=>simp
theorem sJ:OpR X (Ff .Add) (Jl X.K):=by
 intro pins s σ H x y v u Q I rx ry h;obtain ⟨a,b,xs,ys,rfl,rfl,ha,hb,hx,hz,q1,q2⟩:=h;cases rx;cases ry;obtain ⟨its,r1,p1,_⟩:=I.tuple ha;obtain ⟨its2,r2,p2,_⟩:=I.tuple hb;refine HT.M8 p1 p2 (fun z=>hx (r1.lX.mp z)) (fun z=>⟨.ref a,H,I,rfl,q1 (r2.lX.mp z)⟩) (fun z=>?_) (by rw [<- r1.length,<- r2.length]; exact hz);refine⟨.ref s.heap.objs.size,_,I.laid (t':=s.toks) (o:=.tup (xs++ys)) (fun b ob q=>ai _ q) (am _) ?_,rfl,q2 (fun w=>z (r2.lX.mpr w)) _ (I.hok.fresh (am _))⟩;exact⟨⟨by rw [ae]; exact hz,pC _ _⟩,_,r1.append r2,T9 _ _⟩
end
def ixN(n:Nat)(i:Int):Option Nat:=if 0<=i then (if i < n then some i.toNat else none) else if -(n:Int)<=i then some (i+n).toNat else none
def atI{α:Type}(xs:List α)(i:Int):Option α:=(ixN xs.length i).bind fun j=>xs[j]?
theorem Fl{i:Int}(h:ixN n i=some j):seqIndex? i n=some j/\j < n/\-(n:Int)<=i/\i < n:=by
 unfold ixN at h
 by_cases h0:0<=i
 ·rw [dC h0] at h
  by_cases h1:i < n
  ·rw [dC h1] at h;have e:i.toNat=j:=dL h;exact⟨by rw [seqIndex_of h0 h1,e],by omega,by omega,h1⟩
  ·rw [cK h1] at h; cases h
 ·rw [cK h0] at h
  by_cases h1:-(n:Int)<=i
  ·rw [dC h1] at h;have e:(i+n).toNat=j:=dL h;exact⟨by rw [seqIndex_neg ‹23› h1,e],by omega,h1,by omega⟩
  ·rw [cK h1] at h; cases h
theorem yp{α:Type}{xs:List α}{i:Int}{v:α}(h:atI xs i=some v):∃ j,seqIndex? i xs.length=some j/\xs[j]?=some v/\j < xs.length/\-(xs.length:Int)<=i/\i < xs.length:=by
 unfold atI at h;cases e:ixN xs.length i with
 | none=>rw [e] at h; cases h
 | some j=>
  rw [e] at h;obtain ⟨h1,h2,h3,h4⟩:=Fl e;exact⟨j,h1,h,h2,h3,h4⟩
theorem aH{α:Type}{xs:List α}{v:α}(h:xs[j]?=some v):atI xs (j:Int)=some v:=by
 have hj:j < xs.length:=(aT.mp h).1
 have e:ixN xs.length (j:Int)=some j:=by
  unfold ixN;rw [dC ‹23›,dC ‹23›]; simp
 unfold atI; rw [e]; exact h
theorem Ip(xs:List α)(v:α):atI (xs++[v]) (-1)=some v:=by
 have hl:(xs++[v]).length=xs.length+1:=by simp
 have e:ixN (xs++[v]).length (-1)=some xs.length:=by
  unfold ixN;rw [hl,cK (by decide),dC ‹23›];congr 1;omega
 unfold atI;rw [e];show (xs++[v])[xs.length]?=some v;simp
def Ng(b:Expr):Prop:=∀ o i,subscripted b false o i=operate [o,i] (QQ o i)
def IxR(X:Cx)(r:R2):Prop:=
 ∀(value slice:Expr) (pins:LO) (s:sr) (σ:St) (H:Hp) (x y:V) (v u:rn) (Q:VK),Inv X pins σ H s->RelV x v->RelV y u->r x y H Q->
  subscripted slice false v u=operate [v,u] (QQ v u)->ut ‹6› X.A (subscriptTail value slice v u) (EP X pins σ Q) X.xe s
def MtR(X:Cx)(id:String)(r:V->LV->Hp->VK->Prop):Prop:=
 ∀(pins:LO) (s:sr) (σ:St) (H:Hp) (x:V) (xs:LV) (v:rn) (us:LU) (Q:VK),Inv X pins σ H s->RelV x v->Vals xs us->r x xs H Q->
  ut ‹6› X.A (call (.builtin id) (v::us)) (EP X pins σ Q) X.xe s
section
variable {X:Cx}{a b:Expr}{ta tb:TE}{pos:Pos}
theorem IxR.or{r r':R2}(h:IxR X r)(h':IxR X r'):IxR X (fun x y H Q=>r x y H Q\/r' x y H Q):=by
 intro value slice pins s σ H x y v u Q I rx ry q hs;rcases q with q | q
 ·exact h value slice pins s σ H x y v u Q I rx ry q hs
 ·exact h' value slice pins s σ H x y v u Q I rx ry q hs
theorem aV{r:R2}(hr:IxR X r)(ha:PE X a ta)(hb:PE X b tb)(hs:Ng b):PE X (.Subscript a b pos) (tOp r ta tb):=by
 intro pins s σ H Q I h;exact Subscript_ (Oq ha hb I h fun v u s2 x y H2 I2 rx ry q=>hr a b pins s2 σ H2 x y v u Q I2 rx ry q (hs _ _))
inductive Ht (K:PySem.W.Frag) (x:V) (y:V) (H:Hp) (Q:VK):Prop
 | mk (p xs i v:_):x=.ref p->y=.int i->SqL K H p xs->atI xs i=some v->Q v H->Ht K x y H Q
inductive Gx (K:PySem.W.Frag) (x:V) (y:V) (H:Hp) (Q:VK):Prop
 | mk (p xs i v:_):x=.ref p->y=.int i->SqT K H p xs->atI xs i=some v->Q v H->Gx K x y H Q
inductive RV (x:V) (y:V) (H:Hp) (Q:VK):Prop
 | mk (z i c:_):x=.str z->y=.int i->z.length<=sizeLine->atI z.cps.toList i=some c->Q (.str ⟨#[c]⟩) H->RV x y H Q
theorem yt:IxR X (Ht X.K):=by
 intro value slice pins s σ H x y v u Q I rx ry h hs;obtain ⟨p,xs,i,z,rfl,rfl,hq,he,q⟩:=h;cases rx;obtain ⟨t,rfl⟩:=ry;obtain ⟨its,r,pl,hz⟩:=I.list hq;obtain ⟨j,h1,h2,h3,h4,h5⟩:=yp he;obtain ⟨w,ew,rw'⟩:=r.get h2;have hl:=r.length;have hn:=qQ;have fin:EP X pins σ Q w s:=⟨z,H,I,rw',q⟩
 by_cases h0:0<=i
 ·have hj:i.toNat=j:=by
   rw [seqIndex_of h0 h5] at h1;exact dL h1
  exact item_listR pl.isList h0 ‹23› (by rw [hj]; simpa using ew) fin hs
 ·have hj:(i+(its.toArray.size:Int)).toNat=j:=by
   rw [seqIndex_neg ‹23› h4] at h1;rw [bb,<- hl];exact dL h1
  exact subscriptTail_builtinR (x:=w) pl.isList.typeIs slot_list_getitem.lookup
   (wpAny_getItem_list_neg (Q:=fun r s'=>r=w/\EP X pins σ Q r s') pl.isList ‹23› (by rw [bb] <;> omega) ‹23› (by rw [hj]; simpa using ew) ⟨rfl,fin⟩) hs
theorem nH:IxR X (Gx X.K):=by
 intro value slice pins s σ H x y v u Q I rx ry h hs;obtain ⟨p,xs,i,z,rfl,rfl,hq,he,q⟩:=h;cases rx;obtain ⟨t,rfl⟩:=ry;obtain ⟨its,r,pl,hz⟩:=I.tuple hq;obtain ⟨j,h1,h2,h3,h4,h5⟩:=yp he;obtain ⟨w,ew,rw'⟩:=r.get h2;have hl:=r.length;have hn:=qQ;have fin:EP X pins σ Q w s:=⟨z,H,I,rw',q⟩
 exact subscriptTail_builtinR (x:=w) pl.typeIs slot_tuple_getitem.lookup
  (getItem_tuple (j:=j) (Q:=fun r s'=>r=w/\EP X pins σ Q r s') pl ‹23› ‹23› (by rw [bb,<- hl]; exact h1) (by simpa using ew) ⟨rfl,fin⟩) hs
theorem O6:IxR X RV:=by
 intro value slice pins s σ H x y v u Q I rx ry h hs;obtain ⟨z,i,c,rfl,rfl,hz,he,q⟩:=h;obtain ⟨t,rfl⟩:=rx;obtain ⟨t',rfl⟩:=ry;obtain ⟨j,h1,h2,h3,h4,h5⟩:=yp he;have hl:z.cps.toList.length=z.length:=by simp [Str.length]
 rw [hl] at h1 h4 h5;have hn:=qQ
 exact tail_any (typeIs_str s z t) slot_str_getitem.lookup (getItem_str (c:=c) (by
  have e1:decide (i < -(2 ^ 63:Int))=false:=ff ‹23›;have e2:decide (i ≥ 2 ^ 63)=false:=ff ‹23›;rw [e1,e2,Bool.or_false]) (by rw [h1]; simpa using h2) ⟨.str ⟨#[c]⟩,H,I.tok _,⟨_,rfl⟩,q⟩) hs
theorem Ck(its:LU)(n j:Nat)(u:rn):xm (·.setIfInBounds j u) { cls:=.type "list",data:=.seq its.toArray n }={ cls:=.type "list",data:=.seq (its.set j u).toArray n }:=by
 simp [xm]
theorem Inv.lst{pins:LO}{σ:St}{H:Hp}{s:sr}{p:Addr}{xs:LV}(I:Inv X pins σ H s)(h:H p=some (.lst xs)) :
  ∃(its:LU) (n:Nat),Vals xs its/\s.heap.get? p=some { cls:=.type "list",data:=.seq its.toArray n }/\xs.length<=sizeLine:=by
 obtain ⟨z,its,n,r,e⟩:=I.hok p _ h;exact⟨its,n,r,e,z⟩
theorem Inv.Ot{its':LU}{n':Nat}{f:Obj->Obj}(I:Inv X pins σ H s)(h:H p=some (.lst xs))
  (ho:s.heap.get? p=some { cls:=.type "list",data:=.seq its.toArray n }) (hf:f { cls:=.type "list",data:=.seq its.toArray n }={ cls:=.type "list",data:=.seq its'.toArray n' }) (r:Vals ys its') (hz:ys.length<=sizeLine) (t:Nat) :
  Inv X pins σ (upd H p (.lst ys)) { s with heap:=s.heap.update p f,toks:=t }:=by
 have e:(s.heap.update p f).get? p=some { cls:=.type "list",data:=.seq its'.toArray n' }:=by
  rw [Heap.get?_update_self f ho (by rw [hf] <;> rfl),hf]
 refine I.write (x:=p) (e:=p) (by rw [h]; trivial) (.inl rfl) (fun b u hb q=>(gL _ _ (kq hb)).trans q) ⟨_,e⟩ ?_;exact⟨hz,its',n',r,e⟩
inductive Oh (o:V) (i:V) (v:V) (H:Hp) (Q:Hp->Prop):Prop
 | mk (p xs k j:_):o=.ref p->i=.int k->H p=some (.lst xs)->ixN xs.length k=some j->Q (upd H p (.lst (xs.set j v)))->Oh o i v H Q
theorem set_list:R3 X Oh:=by
 intro pins s σ H o i v ov iv u Q I ro ri rv h;obtain ⟨p,xs,k,j,rfl,rfl,hp,hj,q⟩:=h;cases ro;obtain ⟨t,rfl⟩:=ri;obtain ⟨its,n,r,ho,hz⟩:=I.lst hp;obtain ⟨h1,h2,h3,h4⟩:=Fl hj;have hl:=r.length;have hn:=qQ
 have I':Inv X pins σ (upd H p (.lst (xs.set j v))) { s with heap:=s.heap.update p (xm (·.setIfInBounds j u)) }:=
  I.Ot hp ho (Ck its n j u) (r.set rv j) (by rw [List.length_set]; exact hz) s.toks
 by_cases h0:0<=k
 ·have hk:k.toNat=j:=by
   rw [seqIndex_of h0 h4] at h1;exact dL h1
  exact PySem.W.ki_setAt ho h0 ‹23› (by rw [bb,<- hl]; exact h4) (by rw [hk]; exact⟨_,I',q⟩)
 ·have hk:(k+(its.toArray.size:Int)).toNat=j:=by
   rw [seqIndex_neg ‹23› h3] at h1;rw [bb,<- hl];exact dL h1
  exact PySem.W.ki_setBack ho ‹23› (by rw [bb,<- hl]; exact h3) ‹23› (by rw [hk]; exact⟨_,I',q⟩)
theorem yh(lo hi:Option Int)(n:Nat):(Mm lo hi none n).1=((HT.sIx n 0 lo:Nat):Int)/\(Mm lo hi none n).2.1=((HT.sIx n n hi:Nat):Int)/\(Mm lo hi none n).2.2=1:=by
 refine⟨?_,?_,rfl⟩
 ·cases lo with
  | none=>simp [Mm,HT.sIx]
  | some i=>
   simp only [Mm,HT.sIx,Option.getD_none,show (1:Int) > 0 by decide,ku]
   by_cases h:i < 0
   ·simp only [h,ku] <;> omega
   ·simp only [h,ir] <;> omega
 ·cases hi with
  | none=>simp [Mm,HT.sIx]
  | some i=>
   simp only [Mm,HT.sIx,Option.getD_none,show (1:Int) > 0 by decide,ku]
   by_cases h:i < 0
   ·simp only [h,ku] <;> omega
   ·simp only [h,ir] <;> omega
theorem wu(its:LU)(lo hi:Option Int):slicePick its.toArray lo hi none=((its.drop (HT.sIx its.length 0 lo)).take (HT.sIx its.length its.length hi - HT.sIx its.length 0 lo)).toArray:=by
 obtain ⟨h1,h2,h3⟩:=yh lo hi its.toArray.size;unfold slicePick;rw [h1,h2,h3];simp only [sliceRange_one,pick_run,bb] <;> rfl
inductive HS (K:PySem.W.Frag) (x:V) (lo:Option Int) (hi:Option Int) (H:Hp) (Q:VK):Prop
 | mk (a xs:_):x=.ref a->SqL K H a xs->(∀ p,H p=none->Q (.ref p) (upd H p (.lst (gW xs lo hi))))->HS K x lo hi H Q
theorem uJ:SlR X (HS X.K):=by
 intro pins s σ H x v vl vu lo hi sl Q I rx hs pl pu h;obtain ⟨a,xs,rfl,hx,q⟩:=h;cases rx;obtain ⟨its,r,ht,hz⟩:=I.list hx;have hlen:=r.length;refine⟨"list",_,slot_list_getitem.lookup,ht.isList.typeIs,?_⟩;refine wpAny_getItem_list_slice ht.isList hs pl pu .none (by simp) ?_ (by rw [bb] <;> omega);rw [wu,<- hlen];refine⟨.ref s.heap.objs.size,_,I.laid (t':=s.toks) (o:=.lst (gW xs lo hi)) (fun b ob q=>ai _ q) (am _) ?_,rfl,q _ (I.hok.fresh (am _))⟩;exact⟨eR (tZ xs lo hi) hz,_,0,(r.drop (HT.sIx xs.length 0 lo)).take (HT.sIx xs.length xs.length hi - HT.sIx xs.length 0 lo),aS _ rfl⟩
def kO:V->Bool
 | .non=>true
 | .bl _=>true
 | .int _=>true
 | .str _=>true
 | _=>false
def eqV:V->V->Bool
 | .non,.non=>true
 | .bl a,.bl b=>a == b
 | .bl a,.int b=>(if a then 1 else 0) == b
 | .int a,.bl b=>a == (if b then 1 else 0)
 | .int a,.int b=>a == b
 | .str a,.str b=>a == b
 | _,_=>false
theorem Ce{x:V}{v:rn}(ry:RelV y u)(rx:RelV x v)(fy:kO y=true)(fx:kO x=true):xx A s u v (eqV y x):=by
 cases y with
 | non=>
  cases ry;cases x with
  | non=>cases rx; exact xx.same _
  | bl b=>cases rx; exact xx.none_bool b
  | int b=>obtain ⟨t,rfl⟩:=rx; exact xx.none_int b t
  | str b=>obtain ⟨t,rfl⟩:=rx; exact xx.none_str b t
  | _=>exact absurd (show false=true from fx) bo
 | bl a=>
  cases ry;cases x with
  | non=>cases rx; exact xx.bool_none a
  | bl b=>cases rx; exact xx.bool_bool a b
  | int b=>obtain ⟨t,rfl⟩:=rx; exact xx.bool_int a b t
  | str b=>obtain ⟨t,rfl⟩:=rx; exact xx.bool_str a b t
  | _=>exact absurd (show false=true from fx) bo
 | int a=>
  obtain ⟨t',rfl⟩:=ry;cases x with
  | non=>cases rx; exact xx.int_none a t'
  | bl b=>cases rx; exact xx.int_bool a t' b
  | int b=>obtain ⟨t,rfl⟩:=rx; exact xx.int_int a t' b t
  | str b=>obtain ⟨t,rfl⟩:=rx; exact xx.int_str a t' b t
  | _=>exact absurd (show false=true from fx) bo
 | str a=>
  obtain ⟨t',rfl⟩:=ry;cases x with
  | non=>cases rx; exact xx.str_none a t'
  | bl b=>cases rx; exact xx.str_bool a t' b
  | int b=>obtain ⟨t,rfl⟩:=rx; exact xx.str_int a t' b t
  | str b=>obtain ⟨t,rfl⟩:=rx; exact xx.str_str a t' b t
  | _=>exact absurd (show false=true from fx) bo
 | _=>exact absurd (show false=true from fy) bo
def eqU(x:V)(u:rn):Bool:=match u with
 | .none=>eqV .non x
 | .bool b=>eqV (.bl b) x
 | .int i _=>eqV (.int i) x
 | .str z _=>eqV (.str z) x
 | _=>false
theorem Ke{x:V}(r:RelV y u)(f:kO y=true):eqU x u=eqV y x:=by
 cases y with
 | non=>cases r; rfl
 | bl b=>cases r; rfl
 | int i=>obtain ⟨t,rfl⟩:=r; rfl
 | str z=>obtain ⟨t,rfl⟩:=r; rfl
 | _=>exact absurd (show false=true from f) bo
theorem rN{x:V}:∀ {xs:LV} {us:LU},Vals xs us->xs.all kO=true->us.any (eqU x)=xs.any fun y=>eqV y x
 | _,_,.nil,_=>rfl
 | y::xs,u::us,.cons r t,f=>by
  rw [List.all_cons,j3] at f;rw [oq,oq,Ke r f.1,rN t f.2]
theorem oZ{A:xn}{s:sr}{x:V}{v:rn}(rx:RelV x v)(fx:kO x=true):∀ {xs:LV} {us:LU},Vals xs us->xs.all kO=true->∀ u∈us,xx A s u v (eqU x u)
 | _,_,.nil,_=>fun u hu=>by cases hu
 | y::xs,u::us,.cons r t,f=>fun u' hu=>by
  rw [List.all_cons,j3] at f;rcases bc.mp hu with rfl | hu
  ·rw [Ke r f.1]; exact Ce r rx f.1 fx
  ·exact oZ rx fx t f.2 u' hu
def inV(x:V)(xs:LV):Bool:=xs.any fun y=>eqV y x
inductive rIn (K:PySem.W.Frag) (neg:Bool) (x:V) (y:V) (H:Hp) (Q:VK):Prop
 | mk (p xs:_):y=.ref p->(SqL K H p xs\/SqT K H p xs)->kO x=true->xs.all kO=true->Q (.bl (if neg then !inV x xs else inV x xs)) H->rIn K neg x y H Q
theorem GJ:OpR X (yo .In) (rIn X.K false):=by
 intro pins s σ H x y v u Q I rx ry h;obtain ⟨p,xs,rfl,hq,fx,fs,q⟩:=h;cases ry;rcases hq with hq | hq
 ·obtain ⟨its,r,pl,hz⟩:=I.list hq;refine SeqAt.in_listAt (eqU x) pl.isList (fun w hw=>oZ rx fx r fs w (by simpa using hw)) ⟨.bl _,H,I,rfl,?_⟩;rw [show its.toArray.any (eqU x)=its.any (eqU x) by simp,rN r fs];exact q
 ·obtain ⟨its,r,pl,hz⟩:=I.tuple hq;refine SeqAt.in_tupleAt (eqU x) pl (fun w hw=>oZ rx fx r fs w (by simpa using hw)) ⟨.bl _,H,I,rfl,?_⟩;rw [show its.toArray.any (eqU x)=its.any (eqU x) by simp,rN r fs];exact q
theorem yO:OpR X (yo .NotIn) (rIn X.K true):=by
 intro pins s σ H x y v u Q I rx ry h;obtain ⟨p,xs,rfl,hq,fx,fs,q⟩:=h;cases ry;rcases hq with hq | hq
 ·obtain ⟨its,r,pl,hz⟩:=I.list hq;refine SeqAt.notIn_listAt (eqU x) pl.isList (fun w hw=>oZ rx fx r fs w (by simpa using hw)) ⟨.bl _,H,I,rfl,?_⟩;rw [show its.toArray.any (eqU x)=its.any (eqU x) by simp,rN r fs];exact q
 ·obtain ⟨its,r,pl,hz⟩:=I.tuple hq;refine SeqAt.notIn_tupleAt (eqU x) pl (fun w hw=>oZ rx fx r fs w (by simpa using hw)) ⟨.bl _,H,I,rfl,?_⟩;rw [show its.toArray.any (eqU x)=its.any (eqU x) by simp,rN r fs];exact q
inductive lN (K:PySem.W.Frag) (xs:LV) (H:Hp) (Q:VK):Prop
 | mk (p ys:_):xs=[.ref p]->(SqL K H p ys\/SqT K H p ys)->Q (.int ys.length) H->lN K xs H Q
theorem kh:iz X (.builtin "len") (lN X.K):=by
 intro pins s σ H xs us Q I r h;obtain ⟨p,ys,rfl,hq,q⟩:=h;obtain ⟨u,rfl,rx⟩:=vals1 r;cases rx;have hn:=qQ;rcases hq with hq | hq
 ·obtain ⟨its,r',pl,hz⟩:=I.list hq;have hlen:=r'.length;exact Calls.call_len_list pl.isList (by simp only [bb] <;> omega) ⟨.int ys.length,H,I.tok _,⟨s.toks+1,by rw [bb,hlen]⟩,q⟩
 ·obtain ⟨its,r',pl,hz⟩:=I.tuple hq;have hlen:=r'.length;exact len_tuple pl (by simp only [bb] <;> omega) ⟨.int ys.length,H,I.tok _,⟨s.toks+1,by rw [bb,hlen]⟩,q⟩
inductive lF (K:PySem.W.Frag) (xs:LV) (H:Hp) (Q:VK):Prop
 | mk (p ys:_):xs=[.ref p]->(SqL K H p ys\/SqT K H p ys)->(∀ l,H l=none->Q (.ref l) (upd H l (.lst ys)))->lF K xs H Q
theorem za:iz X (.type "list") (lF X.K):=by
 intro pins s σ H xs us Q I r h;obtain ⟨p,ys,rfl,hq,q⟩:=h;obtain ⟨u,rfl,rx⟩:=vals1 r;cases rx
 have fin:∀(its:LU),Vals ys its->ys.length<=sizeLine->∀ (h':Heap) (c':Nat),(∀ b o',s.heap.get? b=some o'->h'.get? b=some o')->
   h'.get? s.heap.objs.size=some { cls:=.type "list",dict:=none,data:=.seq its.toArray c',slots:=#[] }->EP X pins σ Q (.ref s.heap.objs.size) { s with heap:=h' }:=fun its r' hz h' c' kp e=>
  ⟨.ref s.heap.objs.size,_,I.laid (t':=s.toks) kp (am _) (show dJ X.prog X.w _ h' _ (.lst ys) from ⟨hz,its,c',r',e⟩),rfl,q _ (I.hok.fresh (am _))⟩
 rcases hq with hq | hq
 ·obtain ⟨its,r',pl,hz⟩:=I.list hq;have hlen:=r'.length;obtain ⟨o,ho,hc,n,hd⟩:=pl.isList;exact call_list_seq p (.inl rfl) ho hc hd (fun h' c' kp e=>fin its r' hz h' c' kp e) (by simp only [bb] <;> omega)
 ·obtain ⟨its,r',pl,hz⟩:=I.tuple hq;have hlen:=r'.length;obtain ⟨o,ho,hc,n,hd⟩:=pl;exact call_list_seq p (.inr rfl) ho hc hd (fun h' c' kp e=>fin its r' hz h' c' kp e) (by simp only [bb] <;> omega)
inductive jY (K:PySem.W.Frag) (xs:LV) (H:Hp) (Q:VK):Prop
 | mk (p ys:_):xs=[.ref p]->((SqL K H p ys/\∀ l,H l=none->Q (.ref l) (upd H l (.tup ys)))\/(SqT K H p ys/\Q (.ref p) H))->jY K xs H Q
theorem wk:iz X (.type "tuple") (jY X.K):=by
 intro pins s σ H xs us Q I r h;obtain ⟨p,ys,rfl,h⟩:=h;obtain ⟨u,rfl,rx⟩:=vals1 r;cases rx;rcases h with ⟨hq,q⟩ | ⟨hq,q⟩
 ·obtain ⟨its,r',pl,hz⟩:=I.list hq;have hlen:=r'.length;refine call_tuple_list pl.isList (fun h' kp=>?_) (by simp only [bb] <;> omega);have I1:Inv X pins σ H { s with heap:=h' }:=I.kept (t':=s.toks) kp
  have I2:Inv X pins σ (upd H h'.objs.size (.tup ys)) { s with heap:=h'.push { cls:=.type "tuple",data:=.seq its.toArray } }:=
   I1.laid (t':=s.toks) (fun b o e=>ai _ e) (am _) (show dJ X.prog X.w _ _ _ (.tup ys) from ⟨⟨hz,pC _ _⟩,its,r',T9 _ _⟩)
  exact⟨.ref h'.objs.size,_,I2,rfl,q _ (I1.hok.fresh (am _))⟩
 ·obtain ⟨its,r',pl,hz⟩:=I.tuple hq;exact call_tuple_same pl ⟨.ref p,H,I,rfl,q⟩
def tyV(K:PySem.W.Frag)(T:String)(x:V)(H:Hp):Prop:=match x with
 | .str _=>T = "str"
 | .int _=>T = "int"
 | .ref p=>(T = "list" /\ ∃ xs,SqL K H p xs)\/(T = "tuple" /\ ∃ o,K.lookup p=some o/\o.cls=.type "tuple" /\ o.dict=none)\/
   (T = "dict" /\ ((∃ kvs,H p=some (.dK kvs))\/∃ kvs,H p=some (.dT kvs)))\/(T = "set" /\ ∃ S n,H p=some (.set S n))
 | _=>False
theorem Qq{T:String}{x:V}{v:rn}(I:Inv X pins σ H s)(r:RelV x v)(ty:tyV X.K T x H) :
  s.TypeIs v T/\∀ a,v=.ref a->∃ ob,s.heap.get? a=some ob/\ob.dict=none:=by
 cases x with
 | str z=>
  obtain ⟨t,rfl⟩:=r;cases (show T = "str" from ty);exact⟨typeIs_str s z t,fun _ e=>nomatch e⟩
 | int i=>
  obtain ⟨t,rfl⟩:=r;cases (show T = "int" from ty);exact⟨typeIs_int s i t,fun _ e=>nomatch e⟩
 | ref p=>
  cases r;rcases ty with ⟨rfl,xs,hq⟩ | ⟨rfl,o,hk,hc,hd⟩ | ⟨rfl,hk⟩ | ⟨rfl,S,n,hk⟩
  ·obtain ⟨its,_,pl,_⟩:=I.list hq;refine⟨pl.isList.typeIs,fun a e=>?_⟩;cases e;obtain ⟨o,n,e,c,hd,_⟩:=pl;exact⟨o,e,hd⟩
  ·refine⟨⟨o,I.kIn p o hk,hc⟩,fun a e=>?_⟩;cases e;exact⟨o,I.kIn _ o hk,hd⟩
  ·have z:∃ o,s.heap.get? p=some o/\o.ExactDict:=by
    rcases hk with ⟨kvs,hk⟩ | ⟨kvs,hk⟩
    ·obtain ⟨_,_,_,_,o,_,_,e,ex,_⟩:=I.hok p _ hk;exact⟨o,e,ex⟩
    ·obtain ⟨_,_,_,_,o,_,_,e,ex,_⟩:=I.hok p _ hk;exact⟨o,e,ex⟩
   obtain ⟨o,e,ex⟩:=z;refine⟨⟨o,e,ex.1⟩,fun a e2=>?_⟩;cases e2;exact⟨o,e,ex.2.1⟩
  ·obtain ⟨o,_,_,_,e,ex,_⟩:=I.hok p _ hk;refine⟨⟨o,e,ex.1⟩,fun a e2=>?_⟩;cases e2;exact⟨o,e,ex.2.1⟩
 | _=>exact Be ty
def tBM(K:PySem.W.Frag)(T:String)(r:V->LV->Hp->VK->Prop)(to:TE)(t:TA):TE:=fun σ H Q=>to σ H fun x H1=>tyV K T x H1/\t σ H1 fun xs H2=>r x xs H2 Q
variable {o e:Expr}{es:List Expr}{to:TE}{t:TA}{name:Str}{apos cpos:Pos}{T id:String}{r:V->LV->Hp->VK->Prop}
theorem eO(pa:PlainAttrs T)(slot:Slot T name id)(hty:typeOf (.builtin id)=Eg (.type "method_descriptor"))(hm:MtR X id r)(ho:PE X o to)(ha:PA X (e::es) t)
  (hbase:M3 o name X.env (eval o X.env)=eval o X.env:=by rfl)
  (hfew:((zg cpos (uC (e::es) X.env)).all (fun x=>!x.1) && (Tt cpos (JS [] X.env)).all (fun x=>x.1.isSome)
   && decide ((e::es).length+([]:List Keyword).length+(if ([]:List Keyword).isEmpty then 0 else 1) < 30))=true:=by rfl)
  (hline:(apos.endLine == cpos.line)=true:=by rfl) (hs:uC (e::es) X.env=(false,eval e X.env)::uC es X.env:=by rfl) (hplain:(zg cpos (uC es X.env)).any (·.1)=false:=by rfl) :
  PE X (.Call (.Attribute o name apos) (e::es) [] cpos) (tBM X.K T r to t):=by
 intro pins s σ H Q I h;refine wpAny_Call_method_late hbase hfew hline rfl (thn (ho pins s σ H _ I h) fun v s1 ⟨x,H1,I1,r1,ty,q1⟩=>?_);obtain ⟨h1,h2⟩:=Qq I1 r1 ty;refine⟨T,id,pa,slot,hty,h1,h2,?_⟩;have hA:=ha cpos pins s1 σ H1 _ I1 q1;rw [hs] at hA ⊢;refine nw (by show (false || (zg cpos (uC es X.env)).any (·.1))=false; rw [hplain] <;> rfl) (oB ?_);exact thn hA fun us s2 ⟨vs,H2,I2,r2,q2⟩=>hm pins s2 σ H2 x vs v us Q I2 r1 r2 q2
end
def MtM(X:Cx)(id:String)(r:V->LV->Hp->VK->Prop):Prop:=
 ∀(pins:LO) (s:sr) (σ:St) (H:Hp) (x:V) (xs:LV) (v:rn) (us:LU) (Q:VK),Inv X pins σ H s->RelV x v->Vals xs us->r x xs H Q->
  ut ‹6› X.A (call (.builtin id) (v::us)) (EP X pins σ Q) X.xe s
theorem Vals.one:∀ {x:V} {us:LU},Vals [x] us->∃ u,us=[u]/\RelV x u
 | _,_,.cons r .nil=>⟨_,rfl,r⟩
theorem Vals.two:∀ {x y:V} {us:LU},Vals [x,y] us->∃ u v,us=[u,v]/\RelV x u/\RelV y v
 | _,_,_,.cons r (.cons q .nil)=>⟨_,_,rfl,r,q⟩
theorem Vals.rep{xs:LV}{us:LU}(h:Vals xs us):∀ k:Nat,Vals (List.replicate k xs).flatten (List.replicate k us).flatten
 | 0=>.nil
 | k+1=>by
  rw [ja,ja,bz,bz];exact Vals.append h (Vals.rep h k)
theorem foldl_rep(its:LU):∀(k:Nat) (acc:LU),
  List.foldl (fun x1 x2=>x1++x2) acc.toArray (List.replicate k its.toArray)=(acc++(List.replicate k its).flatten).toArray
 | 0,acc=>by simp
 | k+1,acc=>by
  have e:acc.toArray++its.toArray=(acc++its).toArray:=by simp
  have e2:(acc++its)++(List.replicate k its).flatten=acc++(List.replicate (k+1) its).flatten:=by
   rw [ja,bz,aI]
  rw [<- e2,<- foldl_rep its k (acc++its),<- e,ja,List.foldl_cons]
section
variable {X:Cx}{pins:LO}{σ:St}{H:Hp}{s:sr}{l b:Addr}{xs ys zs:LV}
theorem Inv.RJ{its':LU}{f:AV->AV}(I:Inv X pins σ H s)(hH:H l=some (.lst xs))
  (e:s.heap.get? l=some { cls:=.type "list",data:=.seq its.toArray n }) (hf:f its.toArray=its'.toArray) (hv:Vals ys its') (hz:ys.length<=sizeLine) :
  Inv X pins σ (upd H l (.lst ys)) { s with heap:=s.heap.update l (xm f),toks:=t' }:=by
 have q:=PySem.IsL.update e f;rw [hf] at q;refine I.write (x:=l) (e:=l) (by rw [hH]; exact trivial) (.inl rfl) (fun b' u hb hu=>(gL s.heap (xm f) (kq hb)).trans hu) ⟨_,q⟩ ?_;exact⟨hz,its',_,hv,q⟩
theorem Inv.QL(I:Inv X pins σ H s)(hv:Vals ys its)(hz:ys.length<=sizeLine) :
  Inv X pins σ (upd H s.heap.objs.size (.lst ys)) { s with heap:=s.heap.push { cls:=.type "list",data:=.seq its.toArray },toks:=t' }:=
 I.laid (fun _ _ q=>ai _ q) (am _) ⟨hz,its,0,hv,aS _ rfl⟩
theorem Inv.fresh(I:Inv X pins σ H s):H s.heap.objs.size=none:=I.hok.fresh (am _)
theorem Inv.Gm(I:Inv X pins σ H s)(hH:H l=some (.lst xs)):xs.length<=sizeLine/\∃(its:LU) (n:Nat),Vals xs its/\xs.length=its.length/\s.heap.get? l=some { cls:=.type "list",data:=.seq its.toArray n }:=by
 obtain ⟨z,its,n,r,e⟩:=I.hok l _ hH;exact⟨z,its,n,r,r.length,e⟩
theorem zQ(h:n<=sizeLine):Hb n=false:=by
 unfold Hb;exact ff ‹23›
end
section
variable {X:Cx}
inductive Fp (x:V) (vs:LV) (H:Hp) (Q:VK):Prop
 | mk (l xs y:_):x=.ref l->vs=[y]->H l=some (.lst xs)->xs.length < sizeLine->Q .non (upd H l (.lst (xs++[y])))->Fp x vs H Q
theorem bT:MtM X "list.append" Fp:=by
 intro pins s σ H x vs v us Q I rx rv h;obtain ⟨l,xs,y,rfl,rfl,hH,hz,q⟩:=h;cases rx;obtain ⟨u,rfl,ru⟩:=rv.one;obtain ⟨z,its,n,r,hl,e⟩:=I.Gm hH;refine qq F.slot_list_append ⟨_,e,rfl⟩ F.entry_list_append (F.args_list_append_2 _ _) (PySem.list_append l its.toArray n u (by rw [bb]; omega)) ⟨e,?_⟩;refine⟨.non,_,I.RJ (its':=its++[u]) hH e (by simp) (r.append (.cons ru .nil)) ?_,rfl,q⟩;rw [ae,em];omega
inductive DW (x:V) (vs:LV) (H:Hp) (Q:VK):Prop
 | mk (l b xs zs:_):x=.ref l->vs=[.ref b]->H l=some (.lst xs)->H b=some (.lst zs)->xs.length+zs.length<=sizeLine->Q .non (upd H l (.lst (xs++zs)))->DW x vs H Q
theorem jw:MtM X "list.extend" DW:=by
 intro pins s σ H x vs v us Q I rx rv h;obtain ⟨l,b,xs,zs,rfl,rfl,hH,hB,hz,q⟩:=h;cases rx;obtain ⟨u,rfl,ru⟩:=rv.one;cases ru;obtain ⟨z,its,n,r,hl,e⟩:=I.Gm hH;obtain ⟨z2,its2,n2,r2,hl2,e2⟩:=I.Gm hB;have hsz:its.toArray.size+its2.toArray.size<=sizeLine:=by rw [bb,bb]; omega
 have hlong:¬ (!its.toArray.isEmpty && Hb (its.toArray.size+its2.toArray.size))=true:=by
  rw [zQ hsz,Bool.and_false];exact bo
 refine qq F.slot_list_extend ⟨_,e,rfl⟩ F.entry_list_extend (F.args_list_extend_2 _ _)
  (AutoSeq1.list_extend_list_list_0 l its.toArray n b its2.toArray n2 hlong (by rw [bb]; omega) ‹23›) ⟨e,e2,?_⟩
 refine⟨.non,_,I.RJ (its':=its++its2) hH e (by simp) (r.append r2) ?_,rfl,q⟩;rw [ae];omega
inductive RK (x:V) (y:V) (H:Hp) (Q:VK):Prop
 | mk (l b xs zs:_):x=.ref l->y=.ref b->H l=some (.lst xs)->H b=some (.lst zs)->xs.length+zs.length<=sizeLine->(∀ p,H p=none->Q (.ref p) (upd H p (.lst (xs++zs))))->RK x y H Q
theorem iC:OpR X (Ff .Add) RK:=by
 intro pins s σ H x y v u Q I rx ry h;obtain ⟨l,b,xs,zs,rfl,rfl,hH,hB,hz,q⟩:=h;cases rx;cases ry;obtain ⟨z,its,n,r,hl,e⟩:=I.Gm hH;obtain ⟨z2,its2,n2,r2,hl2,e2⟩:=I.Gm hB;refine PySem.P.add_list e e2 ?_ (by rw [bb,bb]; omega);have ea:its.toArray++its2.toArray=(its++its2).toArray:=by simp
 rw [ea];exact⟨.ref _,_,I.QL (t':=s.toks) (r.append r2) (by rw [ae]; omega),rfl,q _ I.fresh⟩
inductive Rc (x:V) (y:V) (H:Hp) (Q:VK):Prop
 | mk (l k xs:_):x=.ref l->y=.int k->H l=some (.lst xs)->-(2 ^ 63)<=k->k < 2 ^ 63->xs.length * k.toNat<=sizeLine->(∀ p,H p=none->Q (.ref p) (upd H p (.lst (List.replicate k.toNat xs).flatten)))->Rc x y H Q
theorem len_rep(xs:List α)(k:Nat):(List.replicate k xs).flatten.length=k * xs.length:=by
 induction k with
 | zero=>simp
 | succ k ih=>rw [ja,bz,ae,ih,Nat.succ_mul,Nat.add_comm]
theorem yF:OpR X (Ff .Mult) Rc:=by
 intro pins s σ H x y v u Q I rx ry h;obtain ⟨l,k,xs,rfl,rfl,hH,h1,h2,hz,q⟩:=h;cases rx;obtain ⟨t,rfl⟩:=ry;obtain ⟨z,its,n,r,hl,e⟩:=I.Gm hH;have hlen:its.toArray.size * k.toNat<=sizeLine:=by rw [bb,<- hl]; exact hz
 have hcap:¬ its.toArray.size * k.toNat > (2 ^ 63 - 1) / 8:=by
  have:(sizeLine:Nat)<=(2 ^ 63 - 1) / 8:=by decide
  omega
 have hfit:¬ (!uA.List.listFitsIndex k)=true:=by
  rw [fitsIndex_both h1 h2];exact bo
 have hlong:¬ Hb (its.toArray.size * k.toNat)=true:=by
  rw [zQ hlen];exact bo
 have hnew:List.foldl (fun x1 x2=>x1++x2) #[] (List.replicate (if its.toArray.isEmpty=true then 0 else k.toNat) its.toArray)=(List.replicate k.toNat its).flatten.toArray:=by
  have f0:∀ m:Nat,List.foldl (fun x1 x2=>x1++x2) #[] (List.replicate m its.toArray)=(List.replicate m its).flatten.toArray:=fun m=>by
   have:=foldl_rep its m [];rw [cS] at this;exact this
  rw [f0];cases its with
  | nil=>simp
  | cons a r'=>rw [cK (by simp)]
 refine wpAny_binaryOp_repeat_ref (T:= "list") (U:= "int") (by decide) ⟨_,e,rfl⟩ (fun s'=>typeIs_int s' k t) noFill_list_mul F.fills_int_mul F.slot_int_rmul repeat_list F.slot_int_index.lookup
  (qq F.slot_int_rmul (typeIs_int s k t) F.entry_int_rmul (F.args_int_rmul_2 _ _) (int___rmul___int_list k t l its.toArray n)
   ⟨e,rfl,⟨_,e,rfl⟩,qq F.slot_list_mul ⟨_,e,rfl⟩ F.entry_list_mul (F.args_list_mul_2 _ _) (AutoListH.list___mul___list_int_3 l its.toArray n k t hfit hcap hlong) ⟨e,?_⟩⟩)
 rw [hnew];exact⟨.ref _,_,I.QL (t':=s.toks) (r.rep k.toNat) (by rw [len_rep,Nat.mul_comm]; exact hz),rfl,q _ I.fresh⟩
end
section
variable {κ:Type}[DecidableEq κ]
def cZ(kvs:List (κ × V))(k:κ):OV:=(kvs.find? fun kv=>decide (kv.1=k)).map (·.2)
def putK(kvs:List (κ × V))(k:κ)(v:V):List (κ × V):=
 if (kvs.any fun kv=>decide (kv.1=k))=true then kvs.map (fun kv=>if kv.1=k then (kv.1,v) else kv) else kvs++[(k,v)]
theorem dF{p:κ × V}{r:List (κ × V)}{k:κ}(e:p.1=k):cZ (p::r) k=some p.2:=by simp [cZ,kA,e]
theorem bZ{p:κ × V}{r:List (κ × V)}{k:κ}(e:¬ p.1=k):cZ (p::r) k=cZ r k:=by simp [cZ,kA,e]
theorem mZ(k:κ):∀ kvs:List (κ × V),(kvs.any fun kv=>decide (kv.1=k))=(cZ kvs k).isSome
 | []=>rfl
 | p::r=>by
  rw [oq]
  by_cases e:p.1=k
  ·simp only [dF e,bg e,Bool.true_or,Option.isSome_some]
  ·rw [bZ e,ff e,Bool.false_or]; exact mZ k r
theorem zJ(k j:κ)(y:V):∀ kvs:List (κ × V),cZ (kvs.map fun kv=>if kv.1=k then (kv.1,y) else kv) j=(cZ kvs j).map fun x=>if j=k then y else x
 | []=>rfl
 | p::r=>by
  have ih:=zJ k j y r;rw [eB]
  by_cases h:p.1=k
  ·rw [dC h]
   by_cases e:p.1=j
   ·rw [dF (p:=(p.1,y)) e,dF e,jb,dC (e.symm.trans h)]
   ·rw [bZ (p:=(p.1,y)) e,bZ e,ih]
  ·rw [cK h]
   by_cases e:p.1=j
   ·rw [dF (p:=p) e,dF e,jb,cK (fun z=>h (e.trans z))]
   ·rw [bZ (p:=p) e,bZ e,ih]
theorem xg(k j:κ)(y:V):∀ kvs:List (κ × V),cZ kvs k=none->cZ (kvs++[(k,y)]) j=if j=k then some y else cZ kvs j
 | [],_=>by
  by_cases e:k=j
  ·rw [dC e.symm]; exact dF (p:=(k,y)) e
  ·rw [cK (fun z=>e z.symm)]; exact bZ (p:=(k,y)) e
 | p::r,hn=>by
  rw [cE];have hk:¬ p.1=k:=fun z=>by rw [dF z] at hn; cases hn
  rw [bZ hk] at hn;have ih:=xg k j y r hn
  by_cases e:p.1=j
  ·rw [dF e,dF e,cK (fun z=>hk (e.trans z))]
  ·rw [bZ e,bZ e,ih]
theorem zX(kvs:List (κ × V))(k j:κ)(y:V):cZ (putK kvs k y) j=if j=k then some y else cZ kvs j:=by
 unfold putK
 by_cases a:(kvs.any fun kv=>decide (kv.1=k))=true
 ·rw [dC a,zJ];rw [mZ] at a
  by_cases e:j=k
  ·obtain ⟨x,hx⟩:=iO.mp a;rw [dC e,e,hx,jb,dC rfl]
  ·rw [cK e];cases cZ kvs j with
   | none=>rfl
   | some x=>rw [jb,cK e]
 ·rw [cK a];refine xg k j y kvs ?_;rw [mZ] at a;cases q:cZ kvs k with
  | none=>rfl
  | some x=>rw [q] at a; exact(a rfl).elim
theorem jg(kvs:List (κ × V))(k:κ)(v:V):(putK kvs k v).length<=kvs.length+1:=by
 unfold putK;split
 ·rw [aa]; omega
 ·rw [ae,ar,de]; omega
theorem rE{kvs:List (κ × V)}{k:κ}(v:V)(h:cZ kvs k=none):putK kvs k v=kvs++[(k,v)]:=by
 unfold putK;rw [mZ,h];exact cK (by decide)
theorem nu.kI{o:OV}{u:Option rn}(r:nu o u):o.isSome=u.isSome:=by
 cases o with
 | none=>cases u with
  | none=>rfl
  | some _=>exact(show False from r).elim
 | some _=>cases u with
  | none=>exact(show False from r).elim
  | some _=>rfl
theorem nu.getD{o:OV}{u:Option rn}{d:V}{d':rn}(r:nu o u)(rd:RelV d d'):RelV (o.getD d) (u.getD d'):=by
 cases o with
 | none=>cases u with
  | none=>exact rd
  | some _=>exact(show False from r).elim
 | some _=>cases u with
  | none=>exact(show False from r).elim
  | some _=>exact r
theorem KV.val{kvs:List (κ × V)}{vs:List (κ × rn)}(r:KV kvs vs)(k:κ):nu (cZ kvs k) (TV vs k):=by
 unfold KV at r
 induction r with
 | nil=>exact True.intro
 | @cons p q ps qs h t ih=>
  obtain ⟨h1,h2⟩:=h
  by_cases e:p.1=k
  ·have e':q.1=k:=h1.symm.trans e;have b:TV (q::qs) k=some q.2:=by simp [TV,kA,e']
   rw [dF e,b]; exact h2
  ·have e':¬ q.1=k:=fun z=>e (h1.trans z);have b:TV (q::qs) k=TV qs k:=by simp [TV,kA,e']
   rw [bZ e,b]; exact ih
theorem KV.any{kvs:List (κ × V)}{vs:List (κ × rn)}(r:KV kvs vs)(k:κ):(kvs.any fun kv=>decide (kv.1=k))=vs.any fun kv=>decide (kv.1=k):=by
 unfold KV at r
 induction r with
 | nil=>rfl
 | cons h t ih=>rw [oq,oq,ih,h.1]
theorem KV.repl{kvs:List (κ × V)}{vs:List (κ × rn)}(r:KV kvs vs)(k:κ)(ry:RelV y u) :
  KV (kvs.map fun kv=>if kv.1=k then (kv.1,y) else kv) (vs.map fun kv=>if kv.1=k then (kv.1,u) else kv):=by
 unfold KV at r ⊢
 induction r with
 | nil=>exact .nil
 | @cons p q ps qs h t ih=>
  rw [eB,eB];refine .cons ?_ ih;obtain ⟨h1,h2⟩:=h
  by_cases e:p.1=k
  ·rw [dC e,dC (h1.symm.trans e)]; exact⟨h1,ry⟩
  ·rw [cK e,cK (fun z=>e (h1.trans z))]; exact⟨h1,h2⟩
theorem KV.put{kvs:List (κ × V)}{vs:List (κ × rn)}(r:KV kvs vs)(k:κ)(ry:RelV y u):KV (putK kvs k y) (stored vs k u):=by
 unfold putK stored;rw [r.any k]
 by_cases e:(vs.any fun kv=>decide (kv.1=k))=true
 ·rw [dC e,dC e]; exact r.repl k ry
 ·rw [cK e,cK e]; exact Paired.snoc r ⟨rfl,ry⟩
theorem KV.length{kvs:List (κ × V)}{vs:List (κ × rn)}(r:KV kvs vs):kvs.length=vs.length:=eM r
end
theorem rY{k:Key}(r:RelV (kV k) u):(cC P w).is k u=true:=by
 cases k with
 | inl i=>obtain ⟨t,e⟩:=(show ∃ t,u=yz i t from r); subst e; exact zZ P w i t
 | inr x=>obtain ⟨t,e⟩:=(show ∃ t,u=MT x t from r); subst e; exact zG P w x t
theorem xU{P:uv}{w:xf}:∀ {ks:List Key} {us:LU},Vals (ks.map kV) us->ItemsAre (cC P w) ks us
 | [],_,r=>by rw [List.map_nil] at r; cases r; exact .nil
 | k::ks,_,r=>by
  rw [eB] at r;cases r with
  | cons h t=>exact .cons (rY h) (xU t)
abbrev KT(H:Hp):List (List Key × V)->List (List Key × Addr × rn)->Prop:=Paired fun p q=>p.1=q.1/\H q.2.1=some (.tup (p.1.map kV))/\RelV p.2 q.2.2
theorem KT.val{kvs:List (List Key × V)}{xs:List (List Key × Addr × rn)}(r:KT H kvs xs)(k:List Key):nu (cZ kvs k) ((atKey xs k).map (·.2)):=by
 induction r with
 | nil=>exact True.intro
 | @cons p q ps qs h t ih=>
  obtain ⟨h1,_,h2⟩:=h
  by_cases e:p.1=k
  ·have e':q.1=k:=h1.symm.trans e;have b:atKey (q::qs) k=some q.2:=by simp [atKey,kA,e']
   rw [dF e,b]; exact h2
  ·have e':¬ q.1=k:=fun z=>e (h1.trans z);have b:atKey (q::qs) k=atKey qs k:=by simp [atKey,kA,e']
   rw [bZ e,b]; exact ih
theorem KT.repl{kvs:List (List Key × V)}{xs:List (List Key × Addr × rn)}(r:KT H kvs xs)(k:List Key)(ry:RelV y u) :
  KT H (kvs.map fun kv=>if kv.1=k then (kv.1,y) else kv) (xs.map (putAt k u)):=by
 induction r with
 | nil=>exact .nil
 | @cons p q ps qs h t ih=>
  rw [eB,eB];refine .cons ?_ ih;obtain ⟨h1,h2,h3⟩:=h;unfold putAt
  by_cases e:p.1=k
  ·rw [dC e,dC (h1.symm.trans e)]; exact⟨h1,h2,ry⟩
  ·rw [cK e,cK (fun z=>e (h1.trans z))]; exact⟨h1,h2,h3⟩
theorem KT.put{kvs:List (List Key × V)}{xs:List (List Key × Addr × rn)}(r:KT H kvs xs)(k:List Key)(hb:H b=some (.tup (k.map kV)))(ry:RelV y u) :
  KT H (putK kvs k y) (storedH xs k b u):=by
 have e:(kvs.any fun kv=>decide (kv.1=k))=(atKey xs k).isSome:=by
  rw [mZ,(r.val k).kI,Option.isSome_map]
 unfold putK storedH;rw [e]
 by_cases q:(atKey xs k).isSome=true
 ·rw [dC q,dC q]; exact r.repl k ry
 ·rw [cK q,cK q]; exact Paired.snoc r ⟨rfl,hb,ry⟩
theorem KT.keeps{kvs:List (List Key × V)}{xs:List (List Key × Addr × rn)}(r:KT H kvs xs)(ht:∀ b ys,H b=some (.tup ys)->H' b=some (.tup ys)):KT H' kvs xs:=
 Ue r fun _ _ z=>⟨z.1,ht _ _ z.2.1,z.2.2⟩
section
variable {P:uv}{w:xf}{H:Hp}{h:Heap}{a:Addr}
theorem NK{u:HO}(ok:HOk P w H h)(e:Rd H a u):dJ P w H h a u:=e.ok ok
theorem wM(ok:HOk P w H h)(e:Rd H a (.dK kvs)):kvs.length<=sizeLine/\(a == ym)=false/\∃ vs,KV kvs vs/\h.DictOf (cC P w) a vs:=
 show dJ P w H h a (.dK kvs) from NK ok e
theorem Ob(ok:HOk P w H h)(e:H a=some (.dK kvs)):kvs.length<=sizeLine/\(a == ym)=false/\∃ vs,KV kvs vs/\h.DictOf (cC P w) a vs:=wM ok (.inl e)
theorem vR{ks:List Key}(ok:HOk P w H h)(e:H a=some (.tup (ks.map kV))):(tupleKind (cC P w)).is h ks a:=by
 obtain ⟨_,its,r,o,h1,h2,n,h3⟩:=(show dJ P w H h a (.tup (ks.map kV)) from ok a _ e);exact⟨o,its.toArray,n,h1,h2,h3,by simpa using xU r⟩
theorem Bf{kvs:List (List Key × V)}(ok:HOk P w H h)(e:Rd H a (.dT kvs)):kvs.length<=sizeLine/\(a == ym)=false/\
  ∃ xs,KT H kvs xs/\h.DictOfH (tupleKind (cC P w)) a xs:=by
 obtain ⟨z,y,xs,r,o,es,ep,h1,h2,h3,h4,h5⟩:=(show dJ P w H h a (.dT kvs) from NK ok e);refine⟨z,y,xs,r,o,es,ep,h1,h2,h3,h4,fun x hx=>?_,h5⟩
 have all:∀ {l:List (List Key × V)} {m:List (List Key × Addr × rn)},KT H l m->∀ x∈m,(tupleKind (cC P w)).is h x.1 x.2.1:=by
  intro l m q
  induction q with
  | nil=>intro x hx; exact nomatch hx
  | @cons p q ps qs hq t ih=>
   intro x hx;rcases bc.mp hx with e | hx
   ·subst e;exact vR ok (by rw [<- hq.1]; exact hq.2.1)
   ·exact ih x hx
 exact all r x hx
theorem QT{kvs:List (List Key × V)}(ok:HOk P w H h)(e:H a=some (.dT kvs)):kvs.length<=sizeLine/\(a == ym)=false/\
  ∃ xs,KT H kvs xs/\h.DictOfH (tupleKind (cC P w)) a xs:=Bf ok (.inl e)
end
def lR(H:Hp)(a:Addr)(y:V)(r:OV):Prop:=
 (∃ kvs k,Rd H a (.dK kvs)/\y=kV k/\r=cZ kvs k)\/∃ kvs k b,Rd H a (.dT kvs)/\y=.ref b/\H b=some (.tup (k.map kV))/\r=cZ kvs k
def zY(H:Hp)(a:Addr)(y v:V)(H':Hp):Prop:=
 (∃ kvs k,H a=some (.dK kvs)/\y=kV k/\kvs.length < sizeLine/\H'=upd H a (.dK (putK kvs k v)))\/
 ∃ kvs k b,H a=some (.dT kvs)/\y=.ref b/\H b=some (.tup (k.map kV))/\kvs.length < sizeLine/\H'=upd H a (.dT (putK kvs k v))
theorem lR.k{H:Hp}{a:Addr}{kvs:LK0}{k:Key}(e:H a=some (.dK kvs)):lR H a (kV k) (cZ kvs k):=.inl ⟨kvs,k,.inl e,rfl,rfl⟩
theorem lR.t{kvs:List (List Key × V)}{k:List Key}(e:H a=some (.dT kvs))(eb:H b=some (.tup (k.map kV))):lR H a (.ref b) (cZ kvs k):=.inr ⟨kvs,k,b,.inl e,rfl,eb,rfl⟩
theorem zY.k{H:Hp}{a:Addr}{kvs:LK0}{k:Key}{v:V}(e:H a=some (.dK kvs))(hl:kvs.length < sizeLine):zY H a (kV k) v (upd H a (.dK (putK kvs k v))):=.inl ⟨kvs,k,e,rfl,hl,rfl⟩
section
variable {X:Cx}{pins:LO}{σ:St}{H:Hp}{s:sr}{a:Addr}{y v:V}{u r:rn}{o:OV}{A:xn}{E:ES}
theorem Inv.big(I:Inv X pins σ H s):ym < s.heap.objs.size:=by
 have h:ww < s.heap.objs.size:=(I.mod.glob.keeps I.bk).lt;exact ny (by decide) h
theorem FT(hu:A.units+1 < cLine)(I:Inv X pins σ H s)(g:lR H a y (some v))(ry:RelV y u)(h:∀ w' s',Inv X pins σ H s'->RelV v w'->Q w' s') :
  ut ‹6› A (QQ (.ref a) u) Q E s:=by
 rcases g with ⟨kvs,k,e,ey,l⟩ | ⟨kvs,k,b,e,ey,eb,l⟩
 ·subst ey;obtain ⟨z,hd,vs,rel,dd⟩:=wM I.hok e;obtain ⟨w',hw,rw'⟩:=nu.some_of (v:=v) (o:=TV vs k) (by rw [l]; exact rel.val k);exact wpAny_getItem_of (rY ry) dd.mapOf hw (h w' _ (I.tok _) rw')
 ·subst ey;cases (show u=wy b from ry);obtain ⟨z,hd,xs,rel,dd⟩:=Bf I.hok e;obtain ⟨w',hw,rw'⟩:=nu.some_of (v:=v) (o:=(atKey xs k).map (·.2)) (by rw [l]; exact rel.val k);obtain ⟨p,hp,hp2⟩:=Option.map_eq_some_iff.mp hw;refine wpAny_getItem_heap (mM hu) (vR I.hok eb) dd hp ?_;rw [hp2];exact h w' _ (I.tok _) rw'
theorem Tj(hu:A.units+1 < cLine)(I:Inv X pins σ H s)(g:lR H a y o)(ry:RelV y u)(h:∀ s',Inv X pins σ H s'->Q (.bool o.isSome) s') :
  ut ‹6› A (yo .In u (.ref a)) Q E s:=by
 rcases g with ⟨kvs,k,e,ey,l⟩ | ⟨kvs,k,b,e,ey,eb,l⟩
 ·subst ey;obtain ⟨z,hd,vs,rel,dd⟩:=wM I.hok e;refine wpAny_in_of (rY ry) hd dd.mapOf ?_;rw [<- (rel.val k).kI,<- l];exact h _ (I.tok _)
 ·subst ey;cases (show u=wy b from ry);obtain ⟨z,hd,xs,rel,dd⟩:=Bf I.hok e;refine wpAny_in_heap (mM hu) (vR I.hok eb) hd dd ?_;have q:=(rel.val k).kI;rw [Option.isSome_map] at q;rw [<- q,<- l];exact h _ (I.tok _)
theorem LK(hu:A.units+1 < cLine)(I:Inv X pins σ H s)(g:lR H a y o)(ry:RelV y u)(h:∀ s',Inv X pins σ H s'->Q (.bool (!o.isSome)) s') :
  ut ‹6› A (yo .NotIn u (.ref a)) Q E s:=by
 rcases g with ⟨kvs,k,e,ey,l⟩ | ⟨kvs,k,b,e,ey,eb,l⟩
 ·subst ey;obtain ⟨z,hd,vs,rel,dd⟩:=wM I.hok e;refine wpAny_notIn_of (rY ry) hd dd.mapOf ?_;rw [<- (rel.val k).kI,<- l];exact h _ (I.tok _)
 ·subst ey;cases (show u=wy b from ry);obtain ⟨z,hd,xs,rel,dd⟩:=Bf I.hok e;refine wpAny_notIn_heap (mM hu) (vR I.hok eb) hd dd ?_;have q:=(rel.val k).kI;rw [Option.isSome_map] at q;rw [<- q,<- l];exact h _ (I.tok _)
theorem zf{ob:HO}(I:Inv X pins σ H s)(mu:Mut (H a))(hs:Heap.SameBut a s.heap h')(he:∃ q,h'.get? a=some q)(new:dJ X.prog X.w (upd H a ob) h' a ob) :
  Inv X pins σ (upd H a ob) { s with heap:=h',toks:=t' }:=
 I.write (x:=a) (e:=a) mu (.inl rfl) (fun b q hb z=>(hs.2 b hb).trans z) he new
theorem Lb{vs:List (Key × rn)}(z:kvs.length<=sizeLine)(hd:(a == ym)=false)(rel:KV kvs vs)(dd:h'.DictOf (cC P w) a vs) :
  dJ P w H' h' a (.dK kvs):=⟨z,hd,vs,rel,dd⟩
theorem G8{Q:Unit->sr->Prop}(hu:A.units+1 < cLine)(I:Inv X pins σ H s)(g:zY H a y v H')(ry:RelV y u)(rv:RelV v r)(h:∀ s',Inv X pins σ H' s'->Q () s') :
  ut ‹6› A (setItem (.ref a) u r) Q E s:=by
 rcases g with ⟨kvs,k,e,ey,l,eH⟩ | ⟨kvs,k,b,e,ey,eb,l,eH⟩
 ·subst ey eH;obtain ⟨z,hd,vs,rel,dd⟩:=Ob I.hok e;have hz:vs.length<=sizeLine:=by rw [<- rel.length]; exact z
  have hl:(putK kvs k v).length<=sizeLine:=by have:=jg kvs k v; omega
  refine wpAny_setItem_pairs (hsz:=hz) (rY ry) dd fun h' dd' hs=>h _ ?_;have he:∃ q,h'.get? a=some q:=let ⟨q,_,_,hq,_⟩:=dd'; ⟨q,hq⟩;exact zf I (by rw [e]; exact True.intro) hs he (Lb hl hd (rel.put k rv) dd')
 ·subst ey eH;cases (show u=wy b from ry);obtain ⟨z,hd,xs,rel,dd⟩:=QT I.hok e;have hz:xs.length<=sizeLine:=by rw [<- eM rel]; exact z
  have hl:(putK kvs k v).length<=sizeLine:=by have:=jg kvs k v; omega
  refine wpAny_setItem_heap (hsz:=hz) (mM hu) (vR I.hok eb) dd fun h' dd' hs=>h _ ?_;obtain ⟨q,es,ep,hq,h2,h3,h4,_,h5⟩:=dd';refine zf I (by rw [e]; exact True.intro) hs ⟨q,hq⟩ ⟨hl,hd,_,(rel.put k eb rv).keeps fun c ys ec=>?_,q,es,ep,hq,h2,h3,h4,h5⟩;rw [au (bI ec e ‹8›)];exact ec
end
section
variable {X:Cx}{pins:LO}{σ:St}{H:Hp}{s:sr}{a:Addr}{kvs:LK0}{k:Key}{u:rn}{A:xn}{E:ES}
theorem Ro(I:Inv X pins σ H s)(e:Rd H a (.dK kvs))(h:∀ t s',Inv X pins σ H s'->Q (.int kvs.length t) s'):ut ‹6› A (call (.builtin "len") [.ref a]) Q E s:=by
 obtain ⟨z,hd,vs,rel,dd⟩:=wM I.hok e;refine call_len_dict hd dd (by rw [<- rel.length]; rw [ci] at z; omega) ?_;rw [<- rel.length];exact h _ _ (I.tok _)
end
def Oo(i:Expr):Prop:=∀ ov iv,subscripted i false ov iv=operate [ov,iv] (QQ ov iv)
theorem Ez{value slice:Expr}{T:String}
  (hl:typeLookup (.type T) "__getitem__" = Eg (some (.builtin id))) (hs:Oo slice)
  (h:ut ‹18› A (eval value env) (fun o s₁=>ut ‹18› A (eval slice env) (fun i s₂=>s₂.TypeIs o T/\ut ‹18› A (QQ o i) Q E s₂) E s₁) E s) :
  ut ‹18› A (eval (.Subscript value slice pos) env) Q E s:=by
 refine Subscript_ (fT h (fun o s₁ h₁=>fT h₁ (fun i s₂ h₂=>?_) fun _ _ x=>x) fun _ _ x=>x);obtain ⟨hT,h₂⟩:=h₂;unfold subscriptTail;refine ac ?_;rw [getitemInPython_of_ne hT.not_modules];refine ac (wpAny_specialOf hT hl ?_)
 have fin:ut ‹18› A (subscripted slice false o i) (fun r s₃=>ut ‹18› A (letTemporaryGo value o r >>= fun _=>Eg r) Q E s₃) E s₂:=by
  rw [hs o i];exact wpAny_operating (fT h₂ (fun r s₃ h₃=>ac (wpAny_letTemporaryGo (ay h₃))) fun _ _ x=>x)
 first
  | exact ay (ac fin)
  | exact ac (ay (ac fin))
  | exact ac fin
theorem zO{o:OV}(I:Inv X pins σ H s)(g:lR H a y o):s.TypeIs (.ref a) "dict" := by
 rcases g with ⟨kvs,k,e,_,_⟩ | ⟨kvs,k,b,e,_,_,_⟩
 ·obtain ⟨_,_,vs,_,dd⟩:=wM I.hok e;exact dd.typeIs
 ·obtain ⟨_,_,xs,_,dd⟩:=Bf I.hok e;exact dd.typeIs
inductive Iz (Q:VK) (x:V) (y:V) (H2:Hp):Prop
 | mk (a v:_):x=.ref a->lR H2 a y (some v)->Q v H2->Iz Q x y H2
def RX(td ty:TE):TE:=fun σ H Q=>td σ H fun x H1=>ty σ H1 fun y H2=>Iz Q x y H2
inductive Oe (Q:VK) (y:V) (x:V) (H2:Hp):Prop
 | mk (a o:_):x=.ref a->lR H2 a y o->Q (.bl o.isSome) H2->Oe Q y x H2
def R5(ty td:TE):TE:=fun σ H Q=>ty σ H fun y H1=>td σ H1 fun x H2=>Oe Q y x H2
inductive Ad (Q:VK) (y:V) (x:V) (H2:Hp):Prop
 | mk (a o:_):x=.ref a->lR H2 a y o->Q (.bl (!o.isSome)) H2->Ad Q y x H2
def Mt(ty td:TE):TE:=fun σ H Q=>ty σ H fun y H1=>td σ H1 fun x H2=>Ad Q y x H2
inductive Ja (D:Ends) (σ:St) (v:V) (x:V) (y:V) (H3:Hp):Prop
 | mk (a H4:_):x=.ref a->zY H3 a y v H4->D.nx σ H4->Ja D σ v x y H3
def Q0(td ty tv:TE):TS:=fun D σ H=>tv σ H fun v H1=>td σ H1 fun x H2=>ty σ H2 fun y H3=>Ja D σ v x y H3
section
variable {X:Cx}{o i e value:Expr}{pos pos' tpos:Pos}{td ty tv:TE}
theorem iR(hu:X.A.units+1 < cLine)(ho:PE X o td)(hi:PE X i ty)(hs:Oo i):PE X (.Subscript o i pos) (RX td ty):=by
 intro pins s σ H Q I h;refine Ez PySem.F.slot_dict_getitem.lookup hs (thn (ho pins s σ H _ I h) fun u s1 ⟨x,H1,I1,rx,q1⟩=>thn (hi pins s1 σ H1 _ I1 q1) fun iv s2 ⟨y,H2,I2,ry,a,v,ex,g,q2⟩=>?_);subst ex;obtain rfl:u=wy a:=rx;exact⟨zO I2 g,FT hu I2 g ry fun w' s3 I3 rw'=>⟨v,H2,I3,rw',q2⟩⟩
theorem QB(hu:X.A.units+1 < cLine)(hi:PE X i ty)(ho:PE X o td):PC X .In i o (R5 ty td):=by
 intro pins s σ H Q I h;refine thn (hi pins s σ H _ I h) fun iv s1 ⟨y,H1,I1,ry,q1⟩=>thn (ho pins s1 σ H1 _ I1 q1) fun u s2 ⟨x,H2,I2,rx,a,ov,ex,g,q2⟩=>?_;subst ex;obtain rfl:u=wy a:=rx;exact Tj hu I2 g ry fun s3 I3=>⟨.bl ov.isSome,H2,I3,rfl,q2⟩
theorem pU(hu:X.A.units+1 < cLine)(hi:PE X i ty)(ho:PE X o td):PC X .NotIn i o (Mt ty td):=by
 intro pins s σ H Q I h;refine thn (hi pins s σ H _ I h) fun iv s1 ⟨y,H1,I1,ry,q1⟩=>thn (ho pins s1 σ H1 _ I1 q1) fun u s2 ⟨x,H2,I2,rx,a,ov,ex,g,q2⟩=>?_;subst ex;obtain rfl:u=wy a:=rx;exact LK hu I2 g ry fun s3 I3=>⟨.bl (!ov.isSome),H2,I3,rfl,q2⟩
theorem nU(hu:X.A.units+1 < cLine)(ho:PE X o td)(hi:PE X i ty)(hv:PE X value tv)(hs:TY value (some (.Subscript o i pos')) pos.line X.env=Eg false) :
  PS X (.Assign [.Subscript o i pos'] value pos) (Q0 td ty tv):=by
 intro pins s σ H D I h;refine wpAny_Assign_Subscript (thn (hv pins s σ H _ I h) fun r s1 ⟨v,H1,I1,rv,q1⟩=>thn (ho pins s1 σ H1 _ I1 q1) fun u s2 ⟨x,H2,I2,rx,q2⟩=>thn (hi pins s2 σ H2 _ I2 q2) fun iv s3 ⟨y,H3,I3,ry,a,H4,ex,g,q3⟩=>?_) hs;subst ex;obtain rfl:u=wy a:=rx;exact G8 hu I3 g ry rv fun s4 I4=>⟨σ,H4,I4,q3⟩
end
theorem zm(h:Heap)(hb:ym < h.objs.size):dJ P w H (h.push { cls:=.type "dict",data:=.dict #[] }) h.objs.size (.dK []):=
 ⟨bn _,i9.mpr (kq (dE hb)),[],.nil,Heap.DictOf.new h⟩
theorem J9(h:Heap)(hb:ym < h.objs.size):dJ P w H (h.push { cls:=.type "dict",data:=.dict #[] }) h.objs.size (.dT []):=
 ⟨bn _,i9.mpr (kq (dE hb)),[],.nil,_,#[],0,aS _ rfl,⟨rfl,rfl,rfl⟩,rfl,rfl,kM⟩
def Qy:TE:=fun _ H Q=>∀ p,H p=none->Q (.ref p) (upd H p (.dK []))
def Oz:TE:=fun _ H Q=>∀ p,H p=none->Q (.ref p) (upd H p (.dT []))
section
variable {X:Cx}{pos:Pos}
theorem pG:PE X (.Dict [] [] pos) Qy:=fun pins s σ H Q I h=>
 wpAny_Dict_empty ⟨.ref s.heap.objs.size,_,I.laid (a:=s.heap.objs.size) (o:=.dK []) (t':=s.toks) (fun _ _ q=>ai _ q) (am _) (zm s.heap I.big),rfl,h _ (I.hok.fresh (am _))⟩
theorem K5:PE X (.Dict [] [] pos) Oz:=fun pins s σ H Q I h=>
 wpAny_Dict_empty ⟨.ref s.heap.objs.size,_,I.laid (a:=s.heap.objs.size) (o:=.dT []) (t':=s.toks) (fun _ _ q=>ai _ q) (am _) (J9 s.heap I.big),rfl,h _ (I.hok.fresh (am _))⟩
end
def iB(kvs more:LK0):LK0:=more.foldl (fun acc kv=>putK acc kv.1 kv.2) kvs
theorem qp:∀(more kvs:LK0),(iB kvs more).length<=kvs.length+more.length
 | [],kvs=>by show kvs.length<=kvs.length+0; omega
 | p::r,kvs=>by
  have h1:=qp r (putK kvs p.1 p.2);have h2:=jg kvs p.1 p.2;show (iB (putK kvs p.1 p.2) r).length<=_;rw [ar]; omega
structure M2 (X:Cx) (o:Expr) (m:Str) (apos:Pos) (e f:Expr) (cpos:Pos):Prop where
 base:M3 o m X.env (eval o X.env)=eval o X.env
 few:((zg cpos (uC [e,f] X.env)).all (fun x=>!x.1) && (Tt cpos (JS [] X.env)).all (fun x=>x.1.isSome)
  && decide (([e,f]:List Expr).length+([]:List Keyword).length+(if ([]:List Keyword).isEmpty then 0 else 1) < 30))=true
 line:(apos.endLine == cpos.line)=true
 trees:zg cpos (uC [e,f] X.env)=[(false,eval e X.env),(false,eval f X.env)]
end L2
end
section
namespace Att
open PySem PySem.W PySem.Calls PyProof.Rows
variable {h:Heap}{n:Nat}{loose:List Str}{YP:xf->Heap->Prop}
theorem uE{P:Params}:∀(ns:List Int) (vs:List rn),WellAll P h vs (ns.map WData.int)->Ub vs ns:=by
 intro ns
 induction ns with
 | nil=>
  intro vs w;rw [List.map_nil] at w;cases w;exact .nil
 | cons n ns ih=>
  intro vs w;rw [eB] at w;cases w with
  | cons a b=>
   cases a;exact .cons _ _ (ih _ b)
theorem Hq{l:OpenLaw}(hn:l.most=some n){P:Params}{args:List WData}{vals:List rn}
  (hpre:l.row.toRowW.claim.pre args=true) (hwl:WellAll P h vals args) :
  ∃ a vs ns,vals=[wy a]/\args=[WData.list (ns.map WData.int)]/\h.get? a=some { cls:=.type "list",data:=.seq vs.toArray }/\Ub vs ns/\ns.length<=n:=by
 have hsh:WShape.hasAll [] args [.list .int]=true:=(pre_splitW hpre).1;have hc:l.pre.holds [] { args:=args }=true:=(pre_splitW hpre).2;obtain ⟨d,r,rfl,h1,h2⟩:=hasAllW_cons hsh;obtain rfl:=hasAllW_nil h2;obtain ⟨xs,rfl,h3⟩:=hasW_list h1;obtain ⟨ns,rfl⟩:=items_int h3
 have hlen:ns.length<=n:=by
  unfold OpenLaw.pre at hc
  have h4:(WTm.not (.lt (.lit (.int (n:Int))) (.len (.arg 0)))).holds [] { args:=[.list (ns.map .int)] }=true:=by
   have h4:=(holds_andW hc).1;rw [hn] at h4;exact h4
  have h5:=condW_of h4 (w_not (w_lt w_lit (w_len_list (w_arg rfl))));rw [aa] at h5;refine Nat.le_of_not_lt fun q=>?_;have q':(n:Int) < ((ns.length:Nat):Int):=by omega
  first
   | (rw [bg q'] at h5; exact absurd h5 (by decide))
   | (simp at h5; omega)
 cases hwl with
 | cons w1 w2=>
  cases w2;cases w1 with
  | list ho hall=>exact⟨_,_,ns,rfl,rfl,ho,uE ns _ hall,hlen⟩
theorem Gk(l:OpenLaw)(args:List WData):l.row.toRowW.claim.post args (.bool true) args=true:=
 postW_of (r:=l.row.toRowW) (X:=(true == true))
  (show WShape.has [] (.bool true) .bool=true by first | rfl | decide | simp [WShape.has,WShape.arms,WShape.armsAll])
  (show (WTm.eq .res (.lit (.bool true))).value [] { args:=args,res:=some (.bool true),after:=args }=some (.bool (true == true)) from w_eq_bool (w_res rfl) w_lit) rfl
theorem Bb{l:OpenLaw}{q:uv}{XP:(Str->Option rn)->Heap->Prop}{d:DefRec}
  (hn:l.most=some n) (hdf:d.params.defaults=[])
  (call:∀(w:xf) (s₀ s₁:sr) (mg mb:Str->Option rn) (fa:Addr) (o:Obj) (pm cd doc:rn) (a:Addr) (vs:List rn) (ns:List Int),
   Ground q loose [] XP w s₀ mg mb s₁.heap->YP w s₁.heap->
   s₁.heap.get? fa=some o->o.data=.func (docDef d.name d.params d.body d.scope pm cd doc)->s₁.heap.CodeRec cd d.name->mg d.name=some (.ref fa)->
   s₁.heap.get? a=some { cls:=.type "list",data:=.seq vs.toArray }->Ub vs ns->ns.length<=n->s₁.gens=#[]->
   HH (uB l.prog w) Uc (.call (.ref fa) ⟨[.ref a],[]⟩) (fun r s'=>r=.ok (.ret (.bool true))/\OldK s₁.heap s'.heap/\s'.os=s₁.os/\PQ s'.gens) s₁) :
  WalkO q loose XP YP l.row.toRowW d [] (fun f vs=>PySem.call f vs):=by
 intro w s₀ s₁ mg mb G Y fa o pm cd doc dV kV ho hd hcd hD hmg hg args vals as hpre hlay hrd hwl hlo;obtain rfl:dV=.none:=Dflts.none hD hdf;obtain rfl:kV=.none:=Dflts.noKw hD;obtain ⟨a,vs,ns,rfl,rfl,hobj,hints,hlen⟩:=Hq hn hpre hwl;refine enter_call (kQ (call w s₀ s₁ mg mb fa o pm cd doc a vs ns G Y ho (fd_plain hd) hcd hmg hobj hints hlen hg) fun r s' hq=>?_);obtain ⟨rfl,h2,h3,h4⟩:=hq;exact⟨.inl ⟨.bool true,.bool true,[],rfl,fun _=>rfl,.bool true,Gk l _,fun _=>⟨List.Pairwise.nil,fun _ hm=>(nomatch hm)⟩⟩,h2,h3,h4⟩
end Att
namespace L2
open PySem PySem.Spec PyProof.Rows
variable {X:Cx}{qual:Str}{st:Stmt}{fd:vy}{N ns ps:LS}{sp:Sp}{oc pm u:rn}{an od:Option Addr}{A:xn}{pos tpos:Pos}{H H' H1 H2:Hp}{env:Env}{scope:Scope}{C a c e i1 i2 p q t1 t2 z:Addr}{M:Model}{E Q:ES}{s:sr}{P prog:uv}{w:xf}{R:Result->sr->Prop}{fp:LA}{pins:LO}{σ:St}{J:It}{i n t' x1:Nat}{xs:LV}{v:V}{items:AV}{h':Heap}{o:HO}{K:PySem.W.Frag}{elts:List Expr}{tg:Expr}{te:TE}{id:String}{ta:TA}{kvs:LK0}
theorem wU:∀ {vs:LU} {ns:List Int},Ub vs ns->Vals (ns.map V.int) vs
 | _,_,.nil=>.nil
 | _,_,.cons n t h=>.cons ⟨t,rfl⟩ (wU h)
def inClass(s:Stmt)(j:Nat):Stmt:=match s with
 | .ClassDef _ _ _ body _ _ _ _ _ _ _=>body.getD j (.Pass ⟨0,0,0,0⟩)
 | _=>.Pass ⟨0,0,0,0⟩
def nJ(s:Stmt):Arguments:=match s with
 | .FunctionDef _ a _ _ _ _ _ _ _ _=>a
 | _=>{ posonlyargs:=[],args:=[],vararg:=none,kwonlyargs:=[],kw_defaults:=[],kwarg:=none,defaults:=[] }
def j9(s:Stmt):List Stmt:=match s with
 | .FunctionDef _ _ b _ _ _ _ _ _ _=>b
 | _=>[]
def aG(s:Stmt):Scope:=match s with
 | .FunctionDef _ _ _ _ _ _ sc _ _ _=>sc
 | _=>{ kind:=.function,names:=[],isGenerator:=false,isCoroutine:=false }
abbrev CX0:CXT:=fun _ _ _ _ _ _=>False
abbrev E0:XK:=fun _ _ _=>False
theorem eZ:Passes CX0 X E0:=fun _ _ _ _ _ _ _ h=>h.elim
structure Fun (K:PySem.W.Frag) (x qual:Str) (st:Stmt) (f:Addr) (fd:vy):Prop where
 ex:∃(oc:rn) (od:Option Addr) (kV doc pm:rn) (an:Option Addr) (cdv ct:rn) (osl:Array (Option rn)),
  fd=PySem.W.fnOf x qual (nJ st) (j9 st) (aG st) .none kV doc pm an cdv ct/\K.lookup f=some ⟨oc,od,.func fd,osl⟩/\PySem.W.codeIn K cdv qual=true
 kp:PySem.W.keepIn K (.ref f)=true
section
variable {P:uv}{w:xf}{K:PySem.W.Frag}{mg:MG}{base:Heap}
theorem Fun.ok{x:Str}{f:Addr}{k:Nat}(F:Fun K x qual st f fd)(S:bf N ps (aG st))(len:∀ vs H Q E,sp vs H Q E->vs.length=ps.length)
  (hbody:∀(cdv:rn) (A:xn) (outer:List Env) (s:sr) (H:Hp) (vs:LV) (Q:VK) (E:XK),iD k (A.deeper (Su qual (aG st) s.heap.objs.size f cdv))->sp vs H Q E->
   ∃ t,PSs (Aq CX0 P w K mg base N qual (aG st) f cdv A outer s H E).nox (j9 st) t/\t { nx:=fun _ H'=>Q .non H',rt:=Q } (start N vs) H):bw P w K mg base CX0 (k+1) f fd ps sp:=by
 obtain ⟨oc,od,kV,doc,pm,an,cdv,ct,osl,rfl,lk,hcd⟩:=F.ex;refine Oa lk hcd S len fun A outer s H vs Q E hr hsp=>?_;obtain ⟨t,h,q⟩:=hbody cdv A outer s H vs Q E hr hsp;exact⟨t,h.nox,q⟩
theorem Fun.binds{x:Str}{f:Addr}(F:Fun K x qual st f fd)
  (h:∀(kV doc pm:rn) (an:Option Addr) (cdv ct:rn) (us:LU),us.length=ps.length->bindArgs (PySem.W.fnOf x qual (nJ st) (j9 st) (aG st) .none kV doc pm an cdv ct) ⟨us,[]⟩=Eg (ps.zip us)):Binds K fd ps []:=by
 obtain ⟨oc,od,kV,doc,pm,an,cdv,ct,osl,rfl,lk,hcd⟩:=F.ex;exact .all (h kV doc pm an cdv ct)
theorem CV{x:Str}{f:Addr}{osl:Array (Option rn)}{kV doc cdv ct:rn}(l:K.lookup f=some ⟨oc,od,.func (PySem.W.fnOf x qual (nJ st) (j9 st) (aG st) .none kV doc pm an cdv ct),osl⟩)
  (c:PySem.W.codeIn K cdv qual=true) (k:PySem.W.keepIn K (.ref f)=true):Fun K x qual st f (PySem.W.fnOf x qual (nJ st) (j9 st) (aG st) .none kV doc pm an cdv ct):=⟨⟨oc,od,kV,doc,pm,an,cdv,ct,osl,rfl,l,c⟩,k⟩
end
theorem gD{k:Nat}(hr:iD k A):A.units+1 < cLine:=Nat.lt_of_le_of_lt (Nat.add_le_add_left (by decide:1<=64) _) hr.units
section
variable {X:Cx}
theorem pv(i:Nat){x:Str}(hN:X.N[i]?=some x:=by rfl)(hv:Vis X.env.scope x:=by first | exact ue rfl | exact My (ue rfl) | exact My (My rfl))(hd:(x == ("__debug__" : Str))=false:=by decide)
  (hcd:(x == ("__classdict__" : Str))=false:=by decide):PE X (.Name x pos) (Oj i):=OD hN hv hd hcd
inductive uh (xs:LV) (H:Hp) (Q:VK):Prop
 | mk (a kvs:_):xs=[V.ref a]->H a=some (.dK kvs)->Q (.int kvs.length) H->uh xs H Q
theorem xq:iz X (.builtin "len") uh:=by
 intro pins s σ H xs us Q I r h;obtain ⟨a,kvs,rfl,ha,q⟩:=h;obtain ⟨u,rfl,ru⟩:=vals1 r;cases ru;exact Ro I (.inl ha) fun t s' I'=>⟨.int kvs.length,H,I',⟨t,rfl⟩,q⟩
end
theorem iG{A B:Prop}(h:B):if false=true then A else B:=by
 rw [cK bo];exact h
theorem jQ{A B:Prop}(h:A):if true=true then A else B:=by
 rw [dC rfl];exact h
theorem fO{c A B:Prop}[Decidable c](h1:c->A)(h2:¬ c->B):if c then A else B:=by
 by_cases h:c
 ·rw [dC h];exact h1 h
 ·rw [cK h];exact h2 h
def Same(H H':Hp):Prop:=∀ b o,H b=some o->H' b=some o
theorem Same.refl(H:Hp):Same H H:=fun _ _ h=>h
theorem Same.trans(a:Same H H1)(b:Same H1 H2):Same H H2:=fun c o h=>b c o (a c o h)
set_option autoImplicit false
def clo(cells:List ‹19›):List (Str × xF)->List ‹19›->List ‹19›
 | [],acc=>acc
 | (n,k)::r,acc=>if k == .free then clo cells r ((n,(cells.lookup n).getD 0)::acc) else clo cells r acc
theorem xX{cells:List ‹19›}:∀ {names:List (Str × xF)} {acc:List ‹19›} {x:Str} {c:Addr},(∀ y∈names,y.2=.free->∃ c,cells.lookup y.1=some c)->
  (clo cells names acc).lookup x=some c->cells.lookup x=some c\/acc.lookup x=some c
 | [],acc,x,c,_,h=>.inr h
 | (n,k)::r,acc,x,c,ha,h=>by
  have har:∀ y∈r,y.2=.free->∃ c,cells.lookup y.1=some c:=fun y hy=>ha y (cz _ hy);unfold clo at h
  by_cases hk:k=.free
  ·subst hk;rw [dC (by rfl)] at h;rcases xX har h with q | q
   ·exact .inl q
   ·obtain ⟨c',e⟩:=ha (n,.free) bE rfl;rw [ic] at q;cases hx:x == n with
    | true=>
     rw [hx] at q;have hx':x=n:=by simpa using hx
     have e':cells.lookup n=some c':=e;rw [e'] at q;rw [hx',e'];exact .inl q
    | false=>
     rw [hx] at q;exact .inr q
  ·rw [cK (by simpa using hk)] at h;exact xX har h
theorem yq{cells:List ‹19›}:∀ {names:List (Str × xF)} {acc:List ‹19›} {x:Str},(∃ c,acc.lookup x=some c)->∃ c,(clo cells names acc).lookup x=some c
 | [],_,_,h=>h
 | (n,k)::r,acc,x,h=>by
  unfold clo;split
  ·refine yq ?_;rw [ic];cases hx:x == n with
   | true=>exact⟨_,rfl⟩
   | false=>exact h
  ·exact yq h
theorem pY{cells:List ‹19›}:∀ {names:List (Str × xF)} {acc:List ‹19›} {x:Str},(x,By)∈names->∃ c,(clo cells names acc).lookup x=some c
 | [],_,_,h=>by simp at h
 | (n,k)::r,acc,x,h=>by
  unfold clo;rcases bc.mp h with e | e
  ·cases e;rw [dC (by rfl)];exact yq ⟨(cells.lookup n).getD 0,by simp [ic]⟩
  ·split
   ·exact pY e
   ·exact pY e
theorem qM
  (ha:∀ y∈scope.names,y.2=.free->∃ c,env.cells.lookup y.1=some c):closureFor scope env=Eg (clo env.cells scope.names []):=by
 have go:∀(names:List (Str × xF)) (acc:List ‹19›),(∀ y∈names,y.2=.free->∃ c,env.cells.lookup y.1=some c)->
   (forIn names acc fun(x:Str × xF) (cs:List ‹19›)=>(do
    if x.2 == .free then
     let c <- cellOf env x.1
     Eg (Hk ((x.1,c)::cs))
    else Eg (Hk cs):Sem (ForInStep (List ‹19›))))=Eg (clo env.cells names acc):=by
  intro names
  induction names with
  | nil=>intro acc _; rfl
  | cons y r ih=>
   intro acc h;obtain ⟨n,k⟩:=y;have hr:∀ y∈r,y.2=.free->∃ c,env.cells.lookup y.1=some c:=fun y hy=>h y (cz _ hy);rw [kT];unfold clo
   by_cases hk:k=.free
   ·subst hk;obtain ⟨c,e⟩:=h (n,.free) bE rfl;have e':env.cells.lookup n=some c:=e
    have hc:cellOf env n=Eg c:=by
     unfold cellOf;rw [e']
    simp only [beq_self_eq_true,ku,hc,pure_bind,e',Option.getD_some];exact ih _ hr
   ·have hb:(k == By)=false:=by simpa using hk
    simp only [hb,eI,ir,pure_bind];exact ih _ hr
 have q:=go scope.names [] ha;unfold closureFor;simp only [bind_pure];exact q
theorem gP{scope:Scope}{env:Env}{x:Str}:∀ {names:List (Str × xF)},
  (names.map fun(n,k)=>if (k == By && env.scope.kind == .function && env.kindOf n == some .cell) then (n,Hm) else (n,k)).lookup x =
   (names.lookup x).map fun k=>if (k == By && env.scope.kind == .function && env.kindOf x == some .cell) then Hm else k
 | []=>rfl
 | (n,k)::r=>by
  have ih:=@gP scope env x r;show List.lookup x ((if (k == By && env.scope.kind == .function && env.kindOf n == some .cell)=true then (n,Hm) else (n,k))::_)=_;cases hx:x == n with
  | true=>
   have hx':x=n:=by simpa using hx
   subst hx'
   by_cases hc:(k == By && env.scope.kind == .function && env.kindOf x == some .cell)=true
   ·rw [dC hc];simp only [ic,hx,jb,hc,ku]
   ·rw [cK hc];simp only [ic,hx,jb,cK hc]
  | false=>
   by_cases hc:(k == By && env.scope.kind == .function && env.kindOf n == some .cell)=true
   ·rw [dC hc];simp only [ic,hx];exact ih
   ·rw [cK hc];simp only [ic,hx];exact ih
theorem jy:∀(names:List (Str × xF)) (n:Nat) (acc:List ‹19›),cellsFrom n names acc=cellsFrom n names []++acc
 | [],_,_=>rfl
 | (x,k)::r,n,acc=>by
  unfold cellsFrom;split
  ·rw [jy r (n+1) ((x,n)::acc),jy r (n+1) [(x,n)],aI];rfl
  ·exact jy r n acc
theorem mK:∀ {names:List (Str × xF)} {n:Nat} {x:Str} {c:Addr},(x,c)∈cellsFrom n names []->(x,Hm)∈names/\n<=c
 | [],_,_,_,h=>by cases h
 | (y,k)::r,n,x,c,h=>by
  unfold cellsFrom at h;split at h
  ·rename_i hk
   rw [jy] at h;rcases dP.mp h with q | q
   ·obtain ⟨h1,h2⟩:=mK q;exact⟨cz _ h1,by omega⟩
   ·cases bS.mp q;have e:k=.cell:=by simpa using hk
    rw [e];exact⟨bE,am _⟩
  ·obtain ⟨h1,h2⟩:=mK h;exact⟨cz _ h1,h2⟩
theorem sI{α:Type}{x:Str}:∀(l m:List (Str × α)),(l++m).lookup x=(l.lookup x).or (m.lookup x)
 | [],m=>by simp
 | (k,v)::r,m=>by
  rw [cE,ic,ic];cases x == k with
  | true=>rfl
  | false=>exact sI r m
theorem Ef:∀ {names:List (Str × xF)} {x:Str} {k k':xF},(names.map (·.1)).Nodup->names.lookup x=some k->(x,k')∈names->k'=k
 | [],_,_,_,_,h,_=>by cases h
 | (y,j)::r,x,k,k',hn,h,hm=>by
  rw [eB] at hn;obtain ⟨n1,n2⟩:=gI.mp hn;rw [ic] at h;rcases bc.mp hm with e | e
  ·cases e;rw [show (y == y)=true by simp] at h;exact dL h
  ·cases hx:x == y with
   | true=>
    have hx':x=y:=by simpa using hx
    subst hx';exact absurd (eA.mpr ⟨_,e,rfl⟩) n1
   | false=>
    rw [hx] at h;exact Ef n2 h e
abbrev pZ(C:Addr)(cells:List ‹19›)(names:List (Str × xF)):List (Str × Addr):=cellsFrom (C+1) names (clo cells names [])
theorem jK{cells:List ‹19›}{names:List (Str × xF)}{x:Str}(h:(pZ C cells names).lookup x=some c) :
  ((x,c)∈cellsFrom (C+1) names []/\(x,Hm)∈names/\C+1<=c)\/(clo cells names []).lookup x=some c:=by
 unfold pZ at h;rw [jy,sI] at h;cases q:(cellsFrom (C+1) names []).lookup x with
 | none=>
  rw [q] at h;exact .inr h
 | some d=>
  rw [q] at h;cases h;have m:=fb q;exact .inl ⟨m,mK m⟩
theorem wV{cells:List ‹19›}{names:List (Str × xF)}{x:Str}(hn:(names.map (·.1)).Nodup)(h:names.lookup x=some .free):(pZ C cells names).lookup x=(clo cells names []).lookup x:=by
 unfold pZ;rw [jy,sI];cases q:(cellsFrom (C+1) names []).lookup x with
 | none=>rfl
 | some d=>
  have m:=(mK (fb q)).1;cases Ef hn h m
theorem zq{cl:List ‹19›}{Q:Env->sr->Prop}
  (hQ:∀ h',h'.Ns s.heap.objs.size (fun _=>none)->(∀ b o,s.heap.get? b=some o->h'.get? b=some o)->CellsOk h' ‹7› (cellsFrom ‹7› scope.names [])->
   Q { scope:=scope,locals:=s.heap.objs.size,globals:=env.globals,cells:=cellsFrom ‹7› scope.names cl,qual:=env.qual,func:=none,code:=env.code,frame:=env.frame,builtins:=env.builtins } { s with heap:=h' }) :
  ut M A (newFunctionEnv scope env.globals cl [] env.qual none .none (some env)) Q E s:=by
 simp only [newFunctionEnv,Option.isSome_some,ku];refine ac (wpAny_alloc ?_);refine ac (wpAny_layCells _ (fun name kind cells=>by cases hkc:kind == Hm <;> simp [hkc]) _ _ _ _ ?_);have ok:=cellsFrom_ok scope.names (s.heap.push { cls:=.type "dict",data:=.dict #[] }) ‹7› [] ⟨fun _ _ hm=>(nomatch hm),List.Pairwise.nil⟩ (by rw [fS]; exact am _);rw [fS] at ok;rw [show ({ s with heap:=s.heap.push { cls:=.type "dict",data:=.dict #[] } }:sr).heap.objs.size=s.heap.objs.size+1 from fS ..];refine ac ?_;rw [lw];exact ay (ay (hQ _ ((Heap.Ns.new s.heap (.type "dict")).keeps (pushCells_keeps _ _)) (fun b o e=>pushCells_keeps _ _ b o (ai _ e)) ok))
def lG(X:Cx)(scope:Scope)(cl:List ‹19›)(N:LS)(C:Addr)(s₃:sr)(H₃:Hp)(fp:LA):Cx where
 prog:=X.prog
 w:=X.w
 K:=X.K
 mg:=X.mg
 base:=X.base
 A:=X.A
 N:=N
 s₀:=s₃
 H₀:=H₃
 env:=compEnvC scope cl C X.env
 outer:=X.stack
 stack:=X.stack
 ex:=fp
 calm:=X.calm
 fn:=fun x=>scope.names.lookup x == some .cell
 pn:=[]
 xe:=fun _ _=>False
structure aZ (X:Cx) (scope:Scope) (own:LS) (fr:List Nat) (N:LS):Prop where
 kind:scope.kind=.function
 nodup:(scope.names.map (·.1)).Nodup
 names:∀ y∈scope.names,y.2=.local->scope.names.lookup y.1=some .local
 free:∀ y∈scope.names,y.2=.free->X.env.kindOf y.1=some .cell\/X.env.kindOf y.1=some .free
 len:N.length=own.length+fr.length
 Hx:∀(j i:Nat),fr[j]?=some i->∃ x,N[own.length+j]?=some x/\X.N[i]?=some x/\scope.names.lookup x=some .free
 frs:∀(j:Nat) (x:Str),N[j]?=some x->j < own.length->own[j]?=some x
def frv(σ:St)(fr:List Nat):St:=fr.map fun i=>(σ[i]?).join
def PTs(X:Cx)(ifs:List Expr)(t:TT):Prop:=
 ∀(pins:LO) (s:sr) (σ:St) (H:Hp) (Q:Bool->Hp->Prop),Inv X pins σ H s->t σ H Q->
  ut ‹6› X.A (forIn ifs true fun c r=>if r=true then do let ok <- isTrue c X.env (eval c X.env); Eg (Hk ok) else Eg (Hk r)) (TP X pins σ Q) X.xe s
def Rg:TT:=fun _ H Q=>Q true H
theorem iU:PTs X [] Rg:=fun _ _ _ H _ I h=>wpAny_tests_nil ⟨H,I,h⟩
theorem jL{c:Expr}{t:TT}(h:PT X c t):PTs X [c] t:=fun pins s σ H Q I hq=>wpAny_tests_one (h pins s σ H Q I hq)
theorem yK{elt target iter:Expr}{ifs:List Expr}{it acc:rn}(I:Nat->sr->Prop)
  (turn:∀ n s,I n s->ut ‹18› A (Hn it) (fun r s₁=>match r with
   | none=>R (.ok .next) s₁
   | some v=>ut ‹18› A (PP target it v) (fun _ s₁'=>ut ‹18› A (assign target env v) (fun _ s₂=>
     ut ‹18› A (forIn ifs true fun c r=>if r=true then do let ok <- isTrue c env (eval c env); Eg (Hk ok) else Eg (Hk r)) (fun ok s₃=>
      if ok=true then ut ‹18› A (eval elt env) (fun x s₄=>
       ut ‹18› A (call (.builtin "list.append") [acc,x]) (fun _ s₅=>∃ m,m < n/\I m s₅) (fun _ _=>False) s₄) (fun _ _=>False) s₃
      else ∃ m,m < n/\I m s₃) (fun _ _=>False) s₂) (fun _ _=>False) s₁') (fun _ _=>False) s₁) (fun _ _=>False) s)
  (n:Nat) (h:I n s) :
  HH ‹18› A (.compLoop (.ListComp elt [⟨target,iter,ifs,0⟩] scope pos) 0 it acc env) R s:=by
 refine codeAny_loop rfl I (fun n s hI=>?_) n h;show ut _ A ((compTurn (.ListComp elt [⟨target,iter,ifs,0⟩] scope pos) 0 it acc env).onRaise (fun x=>do noteFrame x env; theTreesLotGoes x)) _ _ s;refine wpAny_noted ?_;rw [compTurn_list];refine ac (mn (ac (fT (turn n s hI) (fun r s₁ h₁=>?_) fun _ _ h'=>h'.elim)));cases r with
 | none=>exact ay h₁
 | some v=>
  refine ac (fT h₁ (fun _ s₁' h₁'=>?_) fun _ _ h'=>h'.elim);refine ac (fT h₁' (fun _ s₂ h₂=>ac (fT h₂ (fun ok s₃ h₃=>?_) fun _ _ h'=>h'.elim)) fun _ _ h'=>h'.elim);cases ok with
  | false=>exact ay ⟨rfl,h₃⟩
  | true=>
   exact ac (ac (fT h₃ (fun x s₄ h₄=>ac (fT h₄ (fun _ s₅ h₅=>ay (ay ⟨rfl,h₅⟩)) fun _ _ h'=>h'.elim)) fun _ _ h'=>h'.elim))
section
variable {X:Cx}{scope:Scope}{own N:LS}{fr:List Nat}{pins:LO}{σ:St}{H2 H3:Hp}{s2 s3:sr}
theorem aZ.clo(S:aZ X scope own fr N)(ok:X.Ok):∀ y∈scope.names,y.2=.free->∃ c,X.env.cells.lookup y.1=some c:=fun y hy e=>ok.has y.1 (S.free y hy e)
theorem aZ.sub(S:aZ X scope own fr N)(ok:X.Ok){x:Str}(h:(L2.clo X.env.cells scope.names []).lookup x=some c):X.env.cells.lookup x=some c:=by
 rcases xX (S.clo ok) h with q | q
 ·exact q
 ·simp at q
theorem aZ.look(S:aZ X scope own fr N)(ok:X.Ok){x:Str}(h:scope.names.lookup x=some .free){cl:List ‹19›} :
  (compEnvC scope cl C X.env).kindOf x=some .cell\/(compEnvC scope cl C X.env).kindOf x=some .free:=by
 show ((NB scope X.env).names.lookup x)=_\/((NB scope X.env).names.lookup x)=_;unfold NB;show List.lookup x (List.map _ _)=_\/List.lookup x (List.map _ _)=_;rw [gP (scope:=scope),h];simp only [jb];split
 ·exact .inl rfl
 ·exact .inr rfl
theorem EY(S:aZ X scope own fr N)(I:Inv X pins σ H3 s3)(hf:∀ b∈fp,qg X pins H3 b)(hlt:∀ b∈fp,b < s3.heap.objs.size) :
  (lG X scope (pZ s3.heap.objs.size X.env.cells scope.names) N s3.heap.objs.size s3 H3 fp).Ok where
 mod:=I.ok.mod
 kind:=S.kind
 glob:=I.ok.glob
 blt:=I.ok.blt
 above:=am _
 inj:=fun x y c h1 h2=>by
  have old:∀ {z:Str},(L2.clo X.env.cells scope.names []).lookup z=some c->c < s3.heap.objs.size:=fun {z} h=>by
   obtain ⟨v,q⟩:=I.cell z c (S.sub I.ok h);exact q.lt
  have ap:=(cellsFrom_ok scope.names (s3.heap.push { cls:=.type "dict",data:=.dict #[] }) (s3.heap.objs.size+1) [] ⟨fun _ _ hm=>(nomatch hm),List.Pairwise.nil⟩ (by rw [fS]; exact am _)).apart;rw [fS] at ap;rcases jK h1 with ⟨m1,_,l1⟩ | q1
  ·rcases jK h2 with ⟨m2,_,_⟩ | q2
   ·exact name_of_addr ap m1 m2
   ·exact absurd (ny l1 (old q2)) (iN _)
  ·rcases jK h2 with ⟨m2,_,l2⟩ | q2
   ·exact absurd (ny l2 (old q1)) (iN _)
   ·exact I.ok.inj x y c (S.sub I.ok q1) (S.sub I.ok q2)
 has:=fun x hx=>by
  have hx:(NB scope X.env).names.lookup x=some .cell\/(NB scope X.env).names.lookup x=some .free:=hx;unfold NB at hx;have hx:List.lookup x (scope.names.map _)=some Hm\/List.lookup x (scope.names.map _)=some By:=hx;rw [gP (scope:=scope)] at hx;cases e:scope.names.lookup x with
  | none=>rw [e] at hx; simp at hx
  | some k=>
   have hm:=fb e;rw [e] at hx;simp only [jb] at hx
   have hk:k=.free\/k=.cell:=by
    by_cases hk:k=.free
    ·exact .inl hk
    ·have hb:(k == By)=false:=by simpa using hk
     simp only [hb,Bool.false_and,eI,ir] at hx;rcases hx with z | z
     ·exact .inr (dL z)
     ·exact .inl (dL z)
   rcases hk with hk | hk
   ·subst hk;obtain ⟨c,q⟩:=pY (cells:=X.env.cells) (acc:=[]) hm;exact⟨c,(wV S.nodup e).trans q⟩
   ·subst hk;exact iO.mp (kR scope.names _ _ (.inl e))
 cab:=fun x c h q=>by
  have e:scope.names.lookup x=some .cell:=ki.mp h;show s3.heap.objs.size<=c;have q':(pZ s3.heap.objs.size X.env.cells scope.names).lookup x=some c:=q;unfold pZ at q';rw [jy,sI] at q';obtain ⟨d,z⟩:=iO.mp (kR scope.names (s3.heap.objs.size+1) [] (.inl e));rw [z] at q';cases q';have:=(mK (fb z)).2;omega
 hd:=I.ok.hd
 frames:=I.ok.frames
 stk:=.inl rfl
 exf:=fun b hb=>⟨dE (hlt b hb),fun x c e=>by
  rcases jK e with ⟨_,_,l⟩ | q
  ·exact fz (ny (hlt b hb) l)
  ·exact(hf b hb).2.2.2.2.1 x c (S.sub I.ok q)⟩
 bs:=I.bs
 bsz:=eR I.ok.bsz I.sz
 Gg:=fun b o e hb=>by
  rcases (hf b hb).2.2.2.1 with z | z
  ·exact I.ok.Gg b o e z
  ·exact absurd (dS (dS (bu e) I.ok.bsz) z) (iN _)
 Hs:=fun b hb hm=>by
  rcases bc.mp (I.CQ b hm) with z | z
  ·exact(hf b hb).2.1 z
  ·exact(hf b hb).2.2.1 z
 qL:=I.stack
 frf:=I.Fw
theorem JD(S:aZ X scope own fr N)(I:Inv X pins σ H3 s3)(hf:∀ b∈fp,qg X pins H3 b)(hlt:∀ b∈fp,b < s3.heap.objs.size){h1:Heap}{t:Nat}{m:MG}
  (hn:h1.Ns s3.heap.objs.size m) (hk:∀ b o,s3.heap.get? b=some o->h1.get? b=some o) (hco:CellsOk h1 (s3.heap.objs.size+1) (cellsFrom (s3.heap.objs.size+1) scope.names [])) :
  Inv (lG X scope (pZ s3.heap.objs.size X.env.cells scope.names) N s3.heap.objs.size s3 H3 fp) [] (List.replicate own.length none++frv σ fr) H3 { s3 with heap:=h1,toks:=t } where
 ok:=EY S I hf hlt
 os:=rfl
 bare:=I.bare
 base:=Un.kept hk
 loc:=by
  refine⟨m,hn,fun j x v e1 e2 e3=>?_⟩;have e1:N[j]?=some x:=e1
  by_cases hj:j < own.length
  ·rw [jn (by simpa using hj),List.getElem?_replicate] at e2;split at e2 <;> cases e2
  ·rw [i7 (by simpa using hj),ij] at e2;unfold frv at e2;rw [bj] at e2;cases ef:fr[j - own.length]? with
   | none=>rw [ef] at e2; cases e2
   | some i=>
    rw [ef] at e2;obtain ⟨x',n1,n2,n3⟩:=S.Hx _ _ ef;rw [show own.length+(j - own.length)=j by omega,e1] at n1;cases n1;have e4:(σ[i]?).join=some v:=by simpa using e2
    have e5:σ[i]?=some (some v):=by
     cases q:σ[i]? with
     | none=>rw [q] at e4; cases e4
     | some z=>rw [q] at e4; have e4:z=some v:=e4; rw [e4]
    have hfree:=S.free _ (fb n3) rfl;obtain ⟨mX,hnX,hl⟩:=I.loc
    have hv:Vis X.env.scope x:=by
     rcases hfree with z | z
     ·exact .inr (.inl z)
     ·exact .inr (.inr z)
    obtain ⟨u,r,l⟩:=hl i x v n2 e5 hv;refine⟨u,r,.inr ⟨S.look I.ok n3,?_⟩⟩;rcases l with ⟨z,_⟩ | ⟨_,c,ec,hc⟩
    ·rcases hfree with y | y
     ·rw [z] at y; cases y
     ·rw [z] at y; cases y
    ·obtain ⟨c',e'⟩:=pY (cells:=X.env.cells) (acc:=[]) (fb n3);have:=S.sub I.ok e';rw [ec] at this;cases this;exact⟨c,(wV S.nodup n3).trans e',hc.keeps hk⟩
 cell:=fun x c e=>by
  rcases jK e with ⟨mm,_,_⟩ | q
  ·exact⟨none,(hco.empty x c mm).1⟩
  ·obtain ⟨v,z⟩:=I.cell x c (S.sub I.ok q);exact⟨v,z.keeps hk⟩
 free:=I.hok.fresh (am _)
 oM:=fun x c e=>by
  rcases jK e with ⟨_,_,l⟩ | q
  ·exact I.hok.fresh (pV l)
  ·exact I.oM x c (S.sub I.ok q)
 pin:=fun p hp=>by
  have hp:p∈([]:LO):=hp;simp at hp
 hok:=I.hok.kept hk
 len:=by
  show _=N.length;rw [S.len,ae,ij];unfold frv;rw [aa]
end
inductive wL (own:Nat) (fr:List Nat) (g:TG) (tc:TT) (te:TE) (σ:St) (Q:VK) (J:It) (D:Addr) (H0:Hp):Prop
 | mk (W:Nat->Nat->LV->Hp->Prop):(∃ m,W 0 m [] H0)->(∀ i m ys H,W i m ys H->(J.stop i H/\Q (.ref D) H)\/(J.go i H/\∀ x H',J.yld i H x H'->∀ σo:St,σo.length=own->g x (σo++frv σ fr) H' fun σ2 H2=>(∃ σo':St,σo'.length=own/\σ2=σo'++frv σ fr)/\tc σ2 H2 fun b H3=>if b=true then te σ2 H3 fun y H4=>ys.length < sizeLine/\H4 D=some (.lst ys)/\∃ m',m' < m/\W (i+1) m' (ys++[y]) (upd H4 D (.lst (ys++[y]))) else ∃ m',m' < m/\W (i+1) m' ys H3))->wL own fr g tc te σ Q J D H0
def Np(own:Nat)(fr:List Nat)(wi:TI)(g:TG)(tc:TT)(te:TE):TE:=fun σ H Q=>wi σ H fun J H1=>∀ D,H1 D=none->wL own fr g tc te σ Q J D (upd H1 D (.lst []))
structure tQ (X:Cx) (scope:Scope) (N:LS) (tg elt:Expr) (ifs:List Expr) (g:TG) (tc:TT) (te:TE):Prop where
 tg:∀(cl:List ‹19›) (C:Addr) (s₃:sr) (H₃:Hp) (fp:LA),PG (lG X scope cl N C s₃ H₃ fp) tg g
 ifs:∀(cl:List ‹19›) (C:Addr) (s₃:sr) (H₃:Hp) (fp:LA),PTs (lG X scope cl N C s₃ H₃ fp) ifs tc
 elt:∀(cl:List ‹19›) (C:Addr) (s₃:sr) (H₃:Hp) (fp:LA),PE (lG X scope cl N C s₃ H₃ fp) elt te
section
variable {X:Cx}{scope:Scope}{own N:LS}{fr:List Nat}{tg elt iter:Expr}{ifs:List Expr}{g:TG}{tc:TT}{te:TE}{wi:TI}{pos:Pos}
theorem zU(hc:X.calm=true)(S:aZ X scope own fr N)(CP:tQ X scope N tg elt ifs g tc te){s2:sr}(I2:Inv X pins σ H2 s2){it:Addr}{tn:Nat->Heap->Prop}
  (T:Turn X.prog X.w X.K tg J fp it tn) (st2:tn 0 s2.heap) (f2:∀ b∈fp,qg X pins H2 b) {Q:VK}  {RR:rn->Addr->Result->sr->Prop}
  (hw:∀ D,H2 D=none->wL own.length fr g tc te σ Q J D (upd H2 D (.lst [])))
  (hR:∀ D C s' H' m,Inv X pins σ H' s'->qg X pins H' C->s'.heap.Ns C m->Q (.ref D) H'->RR (.ref D) C (.ok .next) s') :
  ut ‹6› X.A (newList []) (fun acc s₃=>ut ‹6› X.A (newFunctionEnv scope X.env.globals (clo X.env.cells scope.names []) [] X.env.qual none .none (some X.env)) (fun cenv s₄=>
   HH ‹6› X.A (.compStart (.ListComp elt [⟨tg,iter,ifs,0⟩] scope pos) 0 (.ref it) acc { cenv with scope:=NB scope X.env }) (RR acc cenv.locals) s₄) E s₃) E s2:=by
 have hD:H2 s2.heap.objs.size=none:=I2.hok.fresh (am _)
 have I3:Inv X pins σ (upd H2 s2.heap.objs.size (.lst [])) { s2 with heap:=s2.heap.push { cls:=.type "list",data:=.seq ([]:LU).toArray } }:=
  I2.QL (t':=s2.toks) (ys:=[]) (its:=[]) .nil (bn _)
 have hltf:∀ b∈fp,b < s2.heap.objs.size:=fun b hb=>by
  obtain ⟨o,e,_⟩:=T.obj _ _ st2 b hb;exact bu e
 have f3:∀ b∈fp,qg X pins (upd H2 s2.heap.objs.size (.lst [])) b:=fun b hb=>⟨by rw [au (dE (hltf b hb))]; exact(f2 b hb).1,(f2 b hb).2⟩;obtain ⟨W,⟨m0,w0⟩,turn⟩:=hw _ hD;refine ik (zq fun h₁ hns₁ old₁ hco₁=>?_)
 suffices main:∀ s3:sr,s3={ s2 with heap:=s2.heap.push { cls:=.type "list",data:=.seq ([]:LU).toArray } }->Inv X pins σ (upd H2 s2.heap.objs.size (.lst [])) s3->∀ m:MG,h₁.Ns s3.heap.objs.size m->
   (∀ b o,s3.heap.get? b=some o->h₁.get? b=some o)->CellsOk h₁ (s3.heap.objs.size+1) (cellsFrom (s3.heap.objs.size+1) scope.names [])->HH ‹6› X.A (.compStart (.ListComp elt [⟨tg,iter,ifs,0⟩] scope pos) 0 (.ref it) (.ref s2.heap.objs.size) (compEnvC scope (pZ s3.heap.objs.size X.env.cells scope.names) s3.heap.objs.size X.env))
    (RR (.ref s2.heap.objs.size) s3.heap.objs.size) { s3 with heap:=h₁,toks:=s3.toks } from
  main _ rfl I3 _ hns₁ old₁ hco₁
 clear hns₁ old₁ hco₁;intro s3 hH3 I3 m3 hns₁ old hco;have e3:s3.heap=s2.heap.push { cls:=.type "list",data:=.seq ([]:LU).toArray }:=by rw [hH3]
 have hs3:s2.heap.objs.size < s3.heap.objs.size:=by rw [e3,fS]; exact Nat.lt_succ_self _
 have hlt3:∀ b∈fp,b < s3.heap.objs.size:=fun b hb=>ny (hltf b hb) hs3;have I4:=JD S I3 f3 hlt3 (t:=s3.toks) hns₁ old hco;have ok':=EY S I3 f3 hlt3;have st4:tn 0 h₁:=T.keep 0 s2.heap h₁ st2 fun b hb o e=>old b o (by rw [e3]; exact ai _ e)
 have stat:∀ {H':Hp},(∀ b∈fp,H' b=none)->∀ b∈fp,qg (lG X scope (pZ s3.heap.objs.size X.env.cells scope.names) N s3.heap.objs.size s3 (upd H2 s2.heap.objs.size (.lst [])) fp) [] H' b:=fun {H'} hn b hb=>
  ⟨hn b hb,dE (hlt3 b hb),ok'.Hs b hb,.inl hb,(ok'.exf b hb).2,fun p hp=>by
   have hp:p∈([]:LO):=hp;simp at hp⟩
 have loop:∀ s₄:sr,s₄={ s3 with heap:=h₁,toks:=s3.toks }->
   HH ‹6› X.A (.compLoop (.ListComp elt [⟨tg,iter,ifs,0⟩] scope pos) 0 (.ref it) (.ref s2.heap.objs.size) (compEnvC scope (pZ s3.heap.objs.size X.env.cells scope.names) s3.heap.objs.size X.env))
    (RR (.ref s2.heap.objs.size) s3.heap.objs.size) s₄:=by
  rintro s₄ rfl
  refine yK (fun n s'=>∃ i ys σo H',σo.length=own.length/\Inv (lG X scope (pZ s3.heap.objs.size X.env.cells scope.names) N s3.heap.objs.size s3 (upd H2 s2.heap.objs.size (.lst [])) fp) [] (σo++frv σ fr) H' s'/\
   tn i s'.heap/\(∀ b∈fp,H' b=none)/\W i n ys H') ?_ m0 ⟨0,[],List.replicate own.length none,_,ij,I4,st4,fun b hb=>(f3 b hb).1,w0⟩
  rintro n s5 ⟨i,ys,σo,H5,hσ,I5,st5,fr5,w5⟩;rcases turn i n ys H5 w5 with ⟨stop,qn⟩ | ⟨go,step⟩
  ·refine thn (T.done (lG X scope (pZ s3.heap.objs.size X.env.cells scope.names) N s3.heap.objs.size s3 (upd H2 s2.heap.objs.size (.lst [])) fp) rfl rfl rfl hc i [] s5 (σo++frv σ fr) H5 _ I5 (stat fr5) st5 stop) fun r s6 ⟨hr,I6⟩=>?_;subst hr;obtain ⟨m,hn6,_⟩:=I6.loc;refine hR _ _ s6 H5 m (I3.call' (ch:=fp) I6.os I6.base I6.hok I6.bare fun b hb=>⟨(f3 b hb).2.2.2.1,(f3 b hb).2.1,(f3 b hb).2.2.2.2.1,(f3 b hb).2.2.2.2.2⟩) (I3.nZ (am _) I6.free) hn6 qn
  ·refine thn (T.item (lG X scope (pZ s3.heap.objs.size X.env.cells scope.names) N s3.heap.objs.size s3 (upd H2 s2.heap.objs.size (.lst [])) fp) rfl rfl rfl hc i [] s5 (σo++frv σ fr) H5 _ I5 (stat fr5) st5 go) fun r s6 ⟨u,hr,h6⟩=>?_;subst hr;refine thn h6 fun _ s7 ⟨x,H7,I7,r7,y7,st7,fr7⟩=>?_;have I7':=I7.pinned (stat fr7) (T.obj _ _ st7)
   have again:∀ {σ8:St} {H8:Hp} {s8:sr} {zs:LV},Inv (lG X scope (pZ s3.heap.objs.size X.env.cells scope.names) N s3.heap.objs.size s3 (upd H2 s2.heap.objs.size (.lst [])) fp) ([]++vN fp s7.heap) (σ8++frv σ fr) H8 s8->σ8.length=own.length->
     (∃ m',m' < n/\W (i+1) m' zs H8)->∃ m,m < n/\∃ i ys σo H',σo.length=own.length/\Inv (lG X scope (pZ s3.heap.objs.size X.env.cells scope.names) N s3.heap.objs.size s3 (upd H2 s2.heap.objs.size (.lst [])) fp) [] (σo++frv σ fr) H' s8/\
      tn i s8.heap/\(∀ b∈fp,H' b=none)/\W i m ys H':=fun {σ8 H8 s8 zs} I8 h8 ⟨m',hm,w8⟩=>by
    refine⟨m',hm,i+1,zs,σ8,H8,h8,I8.rG,T.keep _ _ _ st7 fun b hb o e=>(I8.pin (b,o) (bX _ (bX _ (oK hb e)))).1,fun b hb=>?_,w8⟩;obtain ⟨o,e,d⟩:=T.obj _ _ st7 b hb;exact(I8.pin (b,o) (bX _ (bX _ (oK hb e)))).2.1
   refine thn (CP.tg _ _ _ _ _ _ s7 _ H7 x u _ I7' r7 (step x H7 y7 σo hσ)) fun _ s8 ⟨σ8,H8,I8,⟨σo',hσ',eσ⟩,q8⟩=>?_;subst eσ;refine thn (CP.ifs _ _ _ _ _ _ s8 _ H8 _ I8 q8) fun b s9 ⟨H9,I9,q9⟩=>?_;cases b with
   | false=>
    rw [cK bo] at q9 ⊢;exact again I9 hσ' q9
   | true=>
    rw [dC rfl] at q9 ⊢;refine thn (CP.elt _ _ _ _ _ _ s9 _ H9 _ I9 q9) fun z s10 ⟨y,H10,I10,r10,hz,hD10,q10⟩=>?_
    exact thn (bT _ s10 _ H10 (.ref s2.heap.objs.size) [y] (.ref s2.heap.objs.size) [z] (fun _ H=>∃ m',m' < n/\W (i+1) m' (ys++[y]) H) I10 rfl (.cons r10 .nil) ⟨_,ys,y,rfl,rfl,hD10,hz,q10⟩)
     fun _ s11 ⟨_,H11,I11,_,q11⟩=>again I11 hσ' q11
 exact codeAny_compStart_list (loop _ rfl) (T.self _ 0 _ _ _ st4 (loop _ rfl))
theorem fu(hc:X.calm=true)(S:aZ X scope own fr N)(CP:tQ X scope N tg elt ifs g tc te)(hi:PI X tg iter wi)(hs:∀ x,foldedSetIterable iter X.env x=Eg x:=by intro _; rfl) :
  PE X (.ListComp elt [⟨tg,iter,ifs,0⟩] scope pos) (Np own.length fr wi g tc te):=by
 intro pins s σ H Q I h;rw [eval_ListComp];refine wpAny_comprehension_free (use:=none) (g:=⟨tg,iter,ifs,0⟩) (gs:=[]) rfl hs (qM (S.clo I.ok)) S.kind S.names (thn (hi pins s σ H _ I h) fun v s1 h1=>thn h1 fun itv s2 h2=>?_);obtain ⟨it,fp,tn,J,H2,e,I2,T,st2,f2,hw⟩:=h2;subst e
 exact zU (RR:=fun acc C=>compPost ‹6› X.A X.xe none (EP X pins σ Q) acc C) hc S CP I2 T st2 f2 hw fun D C s' H' m I' fC hn q=>
  ⟨m,hn,fun h' hb=>⟨.ref D,H',I'.turned (t':=s'.toks) (fun b o hne e=>hb.extBut b o hne e) fC.1 fC.2.1 fC.2.2.2.1 fC.2.2.2.2.1 fC.2.2.2.2.2,rfl,q⟩⟩
theorem rW{x:Str}{posc pos':Pos}(hc:X.calm=true)(hN:X.N.Nodup)(hi':X.N[i]?=some x)(hx:Loc X.env.scope x)(S:aZ X scope own fr N)(CP:tQ X scope N tg elt ifs g tc te)(hi:PI X tg iter wi)
  (hsw:TY (.ListComp elt [⟨tg,iter,ifs,0⟩] scope posc) (some (.Name x pos')) pos.line X.env=Eg true:=by rfl)
  (hf:X.fn x=true\/X.env.scope.names.lookup x=some .local:=by first | exact .inl rfl | exact .inr rfl | assumption) (hs:∀ x,foldedSetIterable iter X.env x=Eg x:=by intro _; rfl) :
  PS X (.Assign [.Name x pos'] (.ListComp elt [⟨tg,iter,ifs,0⟩] scope posc) pos) (PK (Np own.length fr wi g tc te) (Fg i)):=by
 intro pins s σ H D I h;rw [exec_Assign_Name_used _ _ _ _ hsw];refine ac (mn (ac ?_));show ut _ X.A (do let _ <- comprehension (.ListComp elt [⟨tg,iter,ifs,0⟩] scope posc) scope X.env _ (newList []) false (eval iter X.env) (some (assign (.Name x pos') X.env))) _ _ s
 refine ac (fT (wpAny_comprehension_free (use:=some (assign (.Name x pos') X.env)) (g:=⟨tg,iter,ifs,0⟩) (gs:=[]) (Q:=fun _ s'=>SP X pins D .next s') rfl hs (qM (S.clo I.ok)) S.kind S.names
  (thn (hi pins s σ H _ I h) fun v s1 h1=>thn h1 fun itv s2 h2=>?_)) (fun _ _ q=>ay (ay q)) fun _ _ e=>e)
 obtain ⟨it,fp,tn,J,H2,e,I2,T,st2,f2,hw⟩:=h2;subst e;refine zU (Q:=fun x H1=>Fg i x σ H1 D.nx) (RR:=fun acc C=>compPost ‹6› X.A X.xe (some (assign (.Name x pos') X.env)) (fun _ s'=>SP X pins D .next s') acc C) hc S CP I2 T st2 f2 hw fun Dd C s' H' m I' fC hn q=>?_;refine wpAny_assign_Name (wN I' hN hi' hx (show RelV (.ref Dd) (.ref Dd) from rfl) (fun s'' I'' ⟨a,hsb,ha⟩=>?_) hf)
 have hCa:C≠a:=by
  rcases ha with z | z
  ·rw [z]; exact fC.2.1
  ·exact fun e=>fC.2.2.2.2.1 x a z e.symm
 refine⟨m,hn.sameBut hsb hCa,fun h' hb=>?_⟩;exact⟨_,H',I''.turned (t':=s''.toks) (fun b o hne e=>hb.extBut b o hne e) fC.1 fC.2.1 fC.2.2.2.1 fC.2.2.2.2.1 fC.2.2.2.2.2,q⟩
end
inductive T where
 | non | int (i:Int) | str (x:Str) | tup (ts:List T)
mutual
def Dp(H:Hp):T->V->Prop
 | .non,v=>v=V.non
 | .int i,v=>v=V.int i
 | .str x,v=>v=V.str x
 | .tup ts,v=>∃ a xs,v=V.ref a/\H a=some (.tup xs)/\DpL H ts xs
def DpL(H:Hp):List T->LV->Prop
 | [],xs=>xs=[]
 | t::ts,xs=>∃ x r,xs=x::r/\Dp H t x/\DpL H ts r
end
def fB(H H':Hp):Prop:=∀ a xs,H a=some (.tup xs)->H' a=some (.tup xs)
theorem fB.trans(a:fB H H1)(b:fB H1 H2):fB H H2:=fun c o h=>b c o (a c o h)
theorem Same.tups(h:Same H H'):fB H H':=fun a xs e=>h a _ e
abbrev Uj:=@Same.tups
mutual
theorem Dp.mono{H H':Hp}(h:fB H H'):∀ {t:T} {v:V},Dp H t v->Dp H' t v
 | .non,_,e=>by rw [Dp] at e ⊢; exact e
 | .int _,_,e=>by rw [Dp] at e ⊢; exact e
 | .str _,_,e=>by rw [Dp] at e ⊢; exact e
 | .tup ts,v,e=>by
  rw [Dp] at e ⊢;obtain ⟨a,xs,e,ha,hl⟩:=e;exact⟨a,xs,e,h a xs ha,DpL.mono h hl⟩
theorem DpL.mono{H H':Hp}(h:fB H H'):∀ {ts:List T} {xs:LV},DpL H ts xs->DpL H' ts xs
 | [],_,e=>by rw [DpL] at e ⊢; exact e
 | t::ts,xs,e=>by
  rw [DpL] at e ⊢;obtain ⟨x,r,e,h1,h2⟩:=e;exact⟨x,r,e,Dp.mono h h1,DpL.mono h h2⟩
end
theorem DpL.nil:DpL H [] []:=by rw [DpL]
theorem DpL.cons{H:Hp}{t:T}{ts:List T}{x:V}{xs:LV}(h:Dp H t x)(r:DpL H ts xs):DpL H (t::ts) (x::xs):=by
 rw [DpL];exact⟨x,xs,rfl,h,r⟩
theorem DpL.cases{t:T}{ts:List T}(h:DpL H (t::ts) xs):∃ x r,xs=x::r/\Dp H t x/\DpL H ts r:=by
 rw [DpL] at h;exact h
theorem DpL.kZ(h:DpL H [] xs):xs=[]:=by
 rw [DpL] at h;exact h
theorem Dp.int(i:Int):Dp H (.int i) (.int i):=by rw [Dp]
theorem Dp.str(x:Str):Dp H (.str x) (.str x):=by rw [Dp]
theorem Dp.cQ{x:Str}(h:Dp H (.str x) v):v=.str x:=by
 rw [Dp] at h;exact h
theorem Dp.bG{ts:List T}(h:Dp H (.tup ts) v):∃ a xs,v=V.ref a/\H a=some (.tup xs)/\DpL H ts xs:=by
 rw [Dp] at h;exact h
theorem Dp.tup{H:Hp}{ts:List T}{a:Addr}{xs:LV}(h:H a=some (.tup xs))(r:DpL H ts xs):Dp H (.tup ts) (.ref a):=by
 rw [Dp];exact⟨a,xs,rfl,h,r⟩
theorem DpL.length{H:Hp}:∀ {ts:List T} {xs:LV},DpL H ts xs->xs.length=ts.length
 | [],xs,h=>by rw [h.kZ]; rfl
 | t::ts,xs,h=>by
  obtain ⟨x,r,rfl,_,h2⟩:=h.cases;rw [ar,ar,h2.length]
theorem DpL.get{H:Hp}:∀ {ts:List T} {xs:LV} {i:Nat} {t:T},DpL H ts xs->ts[i]?=some t->∃ x,xs[i]?=some x/\Dp H t x
 | [],_,_,_,_,e=>by simp at e
 | t::ts,xs,0,t',h,e=>by
  obtain ⟨x,r,rfl,h1,_⟩:=h.cases;simp at e;subst e;exact⟨x,rfl,h1⟩
 | t::ts,xs,i+1,t',h,e=>by
  obtain ⟨x,r,rfl,_,h2⟩:=h.cases;obtain ⟨y,e1,e2⟩:=h2.get (i:=i) (t:=t') (by simpa using e);exact⟨y,by simpa using e1,e2⟩
theorem DpL.append{H:Hp}:∀ {ts us:List T} {xs ys:LV},DpL H ts xs->DpL H us ys->DpL H (ts++us) (xs++ys)
 | [],_,xs,_,h,g=>by rw [h.kZ]; exact g
 | t::ts,us,xs,ys,h,g=>by
  obtain ⟨x,r,rfl,h1,h2⟩:=h.cases;exact .cons h1 (h2.append g)
theorem DpL.strs{H:Hp}:∀(ns:LS),DpL H (ns.map T.str) ‹17›
 | []=>.nil
 | n::ns=>.cons (Dp.str n) (DpL.strs ns)
theorem DpL.nM{H:Hp}:∀ {ns:LS} {xs:LV},DpL H (ns.map T.str) xs->xs=ns.map V.str
 | [],_,h=>h.kZ
 | n::ns,xs,h=>by
  obtain ⟨x,r,rfl,h1,h2⟩:=DpL.cases (t:=T.str n) (ts:=ns.map T.str) h;rw [h1.cQ,DpL.nM h2];rfl
mutual
theorem Dp.fn{H:Hp}:∀ {t t':T} {v:V},Dp H t v->Dp H t' v->t=t'
 | .non,t',v,h,g=>by
  rw [Dp] at h;subst h;cases t' <;> rw [Dp] at g
  all_goals first | rfl | (cases g; done) | (obtain ⟨_,_,e,_⟩:=g; cases e)
 | .int i,t',v,h,g=>by
  rw [Dp] at h;subst h;cases t' <;> rw [Dp] at g
  all_goals first | (cases g; rfl) | (cases g; done) | (obtain ⟨_,_,e,_⟩:=g; cases e)
 | .str i,t',v,h,g=>by
  rw [Dp] at h;subst h;cases t' <;> rw [Dp] at g
  all_goals first | (cases g; rfl) | (cases g; done) | (obtain ⟨_,_,e,_⟩:=g; cases e)
 | .tup ts,t',v,h,g=>by
  obtain ⟨a,xs,rfl,ha,hl⟩:=h.bG;cases t' with
  | tup us=>
   obtain ⟨b,ys,e,hb,gl⟩:=g.bG;cases e;rw [ha] at hb;cases hb;rw [DpL.fn hl gl]
  | _=>rw [Dp] at g; cases g
theorem DpL.fn{H:Hp}:∀ {ts us:List T} {xs:LV},DpL H ts xs->DpL H us xs->ts=us
 | [],us,xs,h,g=>by
  have e:=h.kZ;subst e;cases us with
  | nil=>rfl
  | cons u us=>
   obtain ⟨_,_,e,_⟩:=g.cases;cases e
 | t::ts,us,xs,h,g=>by
  obtain ⟨x,r,rfl,h1,h2⟩:=h.cases;cases us with
  | nil=>
   have e:=g.kZ;cases e
  | cons u us=>
   obtain ⟨_,_,e,g1,g2⟩:=g.cases;cases e;rw [Dp.fn h1 g1,DpL.fn h2 g2]
end
def Lv:Nat->T->Prop
 | _,.non=>True
 | _,.int _=>True
 | _,.str _=>True
 | 0,.tup _=>False
 | n+1,.tup ts=>∀ t∈ts,Lv n t
noncomputable def dcd (p:Prop):Bool:=@decide p (Hc p)
theorem wY{p:Prop}(h:p):dcd p=true:=@bg p (Hc p) h
theorem lY{p:Prop}(h:¬ p):dcd p=false:=@ff p (Hc p) h
theorem Mq{p:Prop}:dcd p=true↔p:=⟨fun h=>@eJ p (Hc p) h,wY⟩
theorem J6{p q:Prop}(h:p↔q):dcd p=dcd q:=by rw [propext h]
theorem Cv{p:Prop}{b:Bool}(h:b=true↔p):b=dcd p:=by
 by_cases hp:p
 ·rw [wY hp];exact h.mpr hp
 ·rw [lY hp];cases b with
  | false=>rfl
  | true=>exact absurd (h.mp rfl) hp
section
variable {X:Cx}{pins:LO}{σ:St}{H:Hp}{s:sr}
theorem qU(I:Inv X pins σ H s)(h:H a=some (.tup xs)):∃ its:LU,Vals xs its/\s.heap.IsTuple a its.toArray:=by
 obtain ⟨its,r,p,_⟩:=I.tuple (Ui h);exact⟨its,r,p⟩
theorem Pr(I:Inv X pins σ H s):∀(n:Nat) (A:xn) (t1 t2:T) (v1 v2:V) (u1 u2:rn),Lv n t1->A.units+n < cLine->Dp H t1 v1->Dp H t2 v2->RelV v1 u1->RelV v2 u2->xx A s u1 u2 (dcd (t1=t2)):=by
 have flat:∀(A:xn) (t1 t2:T) (v1 v2:V) (u1 u2:rn),kO v1=true->kO v2=true->Dp H t1 v1->Dp H t2 v2->RelV v1 u1->RelV v2 u2->eqV v1 v2=dcd (t1=t2)->xx A s u1 u2 (dcd (t1=t2)):=
  fun A t1 t2 v1 v2 u1 u2 f1 f2 _ _ r1 r2 e=>by
   rw [<- e];exact Ce r1 r2 f1 f2
 intro n
 induction n with
 | zero=>
  intro A t1 t2 v1 v2 u1 u2 hn hu d1 d2 r1 r2;have hu0:A.units < cLine:=by omega
  cases t1 with
  | tup ts=>exact(show False from hn).elim
  | non=>
   rw [Dp] at d1;subst d1;cases t2 with
   | tup us=>
    obtain ⟨b,ys,rfl,hb,_⟩:=d2.bG;obtain ⟨its,r,p⟩:=qU I hb;cases r1;cases r2;rw [lY (by intro h; cases h)];exact xx.none_tuple p hu0
   | non=>rw [Dp] at d2; subst d2; exact flat A _ _ _ _ _ _ rfl rfl (by rw [Dp]) (by rw [Dp]) r1 r2 (wY rfl).symm
   | int j=>rw [Dp] at d2; subst d2; exact flat A _ _ _ _ _ _ rfl rfl (by rw [Dp]) (by rw [Dp]) r1 r2 (lY (by intro h; cases h)).symm
   | str j=>rw [Dp] at d2; subst d2; exact flat A _ _ _ _ _ _ rfl rfl (by rw [Dp]) (by rw [Dp]) r1 r2 (lY (by intro h; cases h)).symm
  | int i=>
   rw [Dp] at d1;subst d1;cases t2 with
   | tup us=>
    obtain ⟨b,ys,rfl,hb,_⟩:=d2.bG;obtain ⟨its,r,p⟩:=qU I hb;obtain ⟨t,rfl⟩:=r1;cases r2;rw [lY (by intro h; cases h)];exact xx.int_tuple i t p hu0
   | non=>rw [Dp] at d2; subst d2; exact flat A _ _ _ _ _ _ rfl rfl (by rw [Dp]) (by rw [Dp]) r1 r2 (lY (by intro h; cases h)).symm
   | int j=>
    rw [Dp] at d2;subst d2;exact flat A _ _ _ _ _ _ rfl rfl (by rw [Dp]) (by rw [Dp]) r1 r2 (Cv (by show (i == j)=true↔_; rw [ki]; exact⟨fun h=>by rw [h],fun h=>by cases h; rfl⟩))
   | str j=>rw [Dp] at d2; subst d2; exact flat A _ _ _ _ _ _ rfl rfl (by rw [Dp]) (by rw [Dp]) r1 r2 (lY (by intro h; cases h)).symm
  | str i=>
   rw [Dp] at d1;subst d1;cases t2 with
   | tup us=>
    obtain ⟨b,ys,rfl,hb,_⟩:=d2.bG;obtain ⟨its,r,p⟩:=qU I hb;obtain ⟨t,rfl⟩:=r1;cases r2;rw [lY (by intro h; cases h)];exact xx.str_tuple i t p hu0
   | non=>rw [Dp] at d2; subst d2; exact flat A _ _ _ _ _ _ rfl rfl (by rw [Dp]) (by rw [Dp]) r1 r2 (lY (by intro h; cases h)).symm
   | int j=>rw [Dp] at d2; subst d2; exact flat A _ _ _ _ _ _ rfl rfl (by rw [Dp]) (by rw [Dp]) r1 r2 (lY (by intro h; cases h)).symm
   | str j=>
    rw [Dp] at d2;subst d2;exact flat A _ _ _ _ _ _ rfl rfl (by rw [Dp]) (by rw [Dp]) r1 r2 (Cv (by show (i == j)=true↔_; rw [ki]; exact⟨fun h=>by rw [h],fun h=>by cases h; rfl⟩))
 | succ n ih=>
  intro A t1 t2 v1 v2 u1 u2 hn hu d1 d2 r1 r2;cases t1 with
  | non=>exact(ih A .non t2 v1 v2 u1 u2 (by cases n <;> trivial) ‹23› d1 d2 r1 r2)
  | int i=>exact(ih A (.int i) t2 v1 v2 u1 u2 (by cases n <;> trivial) ‹23› d1 d2 r1 r2)
  | str i=>exact(ih A (.str i) t2 v1 v2 u1 u2 (by cases n <;> trivial) ‹23› d1 d2 r1 r2)
  | tup ts=>
   have hn:∀ t∈ts,Lv n t:=hn;have hu0:A.units < cLine:=by omega
   obtain ⟨a,xs,rfl,ha,hl⟩:=d1.bG;obtain ⟨its,r,p⟩:=qU I ha;cases r1;cases t2 with
   | non=>
    rw [Dp] at d2;subst d2;cases r2;rw [lY (by intro h; cases h)];exact xx.tuple_none p hu0
   | int j=>
    rw [Dp] at d2;subst d2;obtain ⟨t,rfl⟩:=r2;rw [lY (by intro h; cases h)];exact xx.tuple_int j t p hu0
   | str j=>
    rw [Dp] at d2;subst d2;obtain ⟨t,rfl⟩:=r2;rw [lY (by intro h; cases h)];exact xx.tuple_str j t p hu0
   | tup us=>
    obtain ⟨b,ys,rfl,hb,gl⟩:=d2.bG;obtain ⟨its2,q,p2⟩:=qU I hb;cases r2
    by_cases hab:a=b
    ·subst hab;rw [ha] at hb;cases hb;rw [wY (by rw [DpL.fn hl gl])];exact xx.same _
    ·have l1:its.toArray.size=ts.length:=by rw [bb,<- r.length,hl.length]
     have l2:its2.toArray.size=us.length:=by rw [bb,<- q.length,gl.length]
     have key:=SeqAt.RcAt.tuples (A:=A) (s:=s) (e:=fun j=>dcd (ts[j]?=us[j]?)) p p2 hu0 (fun j h1 h2=>by
      have j1:j < ts.length:=by omega
      have j2:j < us.length:=by omega
      have e1:ts[j]?=some ts[j]:=af j1;have e2:us[j]?=some us[j]:=af j2;obtain ⟨x1,f1,g1⟩:=hl.get e1;obtain ⟨x2,f2,g2⟩:=gl.get e2;obtain ⟨w1,k1,m1⟩:=r.get f1;obtain ⟨w2,k2,m2⟩:=q.get f2
      have n1:its.toArray[j]=w1:=by
       have:its.toArray[j]?=some w1:=by simpa using k1
       rw [jp h1] at this;exact dL this
      have n2:its2.toArray[j]=w2:=by
       have:its2.toArray[j]?=some w2:=by simpa using k2
       rw [jp h2] at this;exact dL this
      rw [n1,n2];have:=ih A.in1 ts[j] us[j] x1 x2 w1 w2 (hn _ (dm j1)) (by show A.units+1+n < cLine; omega) g1 g2 m1 m2;rw [show dcd (ts[j]?=us[j]?)=dcd (ts[j]=us[j]) from J6 (by rw [e1,e2]; exact⟨fun h=>dL h,fun h=>by rw [h]⟩)];exact this)
     have fin:=xx.of_refs hab key
     have ee:((List.range (min its.toArray.size its2.toArray.size)).all (fun j=>dcd (ts[j]?=us[j]?)) && its.toArray.size == its2.toArray.size)=dcd (T.tup ts=T.tup us):=by
      refine Cv ?_;rw [l1,l2,j3,fE,ki];constructor
      ·rintro ⟨h1,h2⟩
       have:ts=us:=by
        apply List.ext_getElem?;intro j
        by_cases hj:j < ts.length
        ·exact Mq.mp (h1 j (jv.mpr ‹23›))
        ·rw [List.getElem?_eq_none ‹23›,List.getElem?_eq_none ‹23›]
       rw [this]
      ·intro h;cases h;exact⟨fun j _=>wY rfl,rfl⟩
     rw [ee] at fin;exact fin
noncomputable def isT (H:Hp) (t:T) (u:rn):Bool:=dcd (∃ v,RelV v u/\Dp H t v)
theorem Le{t t':T}(r:RelV v u)(d:Dp H t' v):isT H t u=dcd (t'=t):=by
 refine J6 ⟨?_,?_⟩
 ·rintro ⟨v',r',d'⟩;rw [r'.inj r] at d';exact(d'.fn d).symm
 ·intro h;subst h;exact⟨v,r,d⟩
theorem Fb:∀ {ts:List T} {xs:LV} {us:LU},DpL H ts xs->Vals xs us->∀ u∈us,∃ t∈ts,∃ v,RelV v u/\Dp H t v
 | [],xs,us,h,r=>by
  have e:=h.kZ;subst e;cases r;exact fun u hu=>by cases hu
 | t::ts,xs,us,h,r=>by
  obtain ⟨x,xr,rfl,h1,h2⟩:=h.cases;cases r with
  | cons r1 r2=>
   intro u hu;rcases bc.mp hu with e | e
   ·rw [e];exact⟨t,bE,x,r1,h1⟩
   ·obtain ⟨t',m,z⟩:=Fb h2 r2 u e;exact⟨t',cz _ m,z⟩
end
section
variable {X:Cx}
inductive Ry (x:V) (lo:Option Int) (hi:Option Int) (H:Hp) (Q:VK):Prop
 | mk (z:_):x=.str z->z.length<=sizeLine->Q (.str (BV z lo hi)) H->Ry x lo hi H Q
theorem J4:SlR X Ry:=by
 intro pins s σ H x v vl vu lo hi sl Q I rx hs pl pu h;obtain ⟨z,rfl,hz,q⟩:=h;obtain ⟨t,rfl⟩:=rx;obtain ⟨o,ho,hc,hd⟩:=hs;have fin:∀ (t':Tok) (k:Nat),EP X pins σ Q (.str (BV z lo hi) t') { s with toks:=k }:=fun t' k=>⟨.str _,H,I.tok k,⟨_,rfl⟩,q⟩;refine⟨"str",_,F.slot_str_getitem.lookup,typeIs_str _ _ _,?_⟩;cases pl with
 | none=>
  cases pu with
  | none=>exact kN (l:=none) (u:=none) (st:=none) ⟨o,ho,hc,hd⟩ rfl (o0 ⟨eR (qh z _ _) hz,fin⟩)
  | int j uj=>exact kN (l:=none) (u:=some (j,uj)) (st:=none) ⟨o,ho,hc,hd⟩ rfl (o0 ⟨eR (qh z _ _) hz,fin⟩)
 | int i ui=>
  cases pu with
  | none=>exact kN (l:=some (i,ui)) (u:=none) (st:=none) ⟨o,ho,hc,hd⟩ rfl (o0 ⟨eR (qh z _ _) hz,fin⟩)
  | int j uj=>exact kN (l:=some (i,ui)) (u:=some (j,uj)) (st:=none) ⟨o,ho,hc,hd⟩ rfl (o0 ⟨eR (qh z _ _) hz,fin⟩)
end
open AutoSeq1 (wpAny_loadPart') in
open MeetsSeq MeetsSeq2 MeetsSeq3 SeqRoads2 SeqAt in
theorem Jq(l:Addr)(items:AV)(n:Nat)(dd:Option Addr)(sl:Array (Option rn))(x:rn)(e:rn->Bool)(j:Nat)(hj:j < items.size)(hit:e items[j]=true)(hno:∀ m (hm:m < items.size),m < j->e items[m]=false) :
  Meets (uA.«tuple.index» ⟨[.ref l,x],[]⟩) (fun A R s=>s.heap.get? l=some { cls:=.type "tuple",dict:=dd,data:=.seq items n,slots:=sl }/\(∀ y,y∈items->EqAt A.in1 s y x (e y))/\R (.ok (.ret (.int j s.toks))) { s with toks:=s.toks+1 }):=
 .of_wp fun prog w A R s h=>by
  obtain ⟨hp,g,d,tk,os⟩:=s;obtain ⟨hl,he,h⟩:=h;unfold uA.«tuple.index»;simp only [Std.Legacy.Range.forIn_eq_forIn_range',Std.Legacy.Range.size];have hmin:(min items.size items.size - 0+1 - 1) / 1=items.size:=by simp
  wp_walk using wpAny_loadPart' hl
  rw [hmin]
  change ut _ _ (forIn (List.range' 0 items.size) (none,()) _) _ _ _
  refine wpAny_forIn_list _ (fun rest b s'=>b.1=none/\s'=⟨hp,g,d,tk,os⟩/\∃ i,i<=j/\rest=(List.range' 0 items.size).drop i) _ ?_ ?_ (List.range' 0 items.size) (none,()) ⟨rfl,rfl,0,bn _,by simp⟩
  ·rintro i rest b s' ⟨hb,rfl,k,hk,hr⟩;have hkl:k < items.size:=by omega
   have e0:(List.range' 0 items.size).drop k=k::(List.range' 0 items.size).drop (k+1):=by
    rw [List.drop_eq_getElem_cons (by simpa using hkl)];simp
   rw [e0] at hr;injection hr with h1 h2;subst h1;have hi:items[i]?=some items[i]:=by simp [hkl]
   rw [hi];refine ac (he _ (Array.getElem_mem hkl) prog w _ _ ?_)
   by_cases hij:i=j
   ·subst hij;rw [hit]
    wp_walk
    exact⟨_,rfl,h⟩
   ·rw [hno i hkl ‹23›]
    wp_walk
    exact⟨rfl,rfl,i+1,by omega,h2⟩
  ·rintro b s' ⟨hb,rfl,k,hk,hr⟩
   exfalso
   have:((List.range' 0 items.size).drop k).length=0:=by rw [<- hr]; rfl
   simp at this;omega
section
variable {prog:uv}{w:xf}{A:xn}{E:ES}{s:sr}
theorem kJ{it t:Addr}{x:rn}(hit:s.heap.IsTupleIter it t i)(ht:s.heap.IsTuple t items)(hx:items[i]?=some x)
  (hQ:∀ h',h'.IsTupleIter it t (i+1)->Heap.SameBut it s.heap h'->Q x { s with heap:=h' }):ut ‹18› A (xj (.ref it)) Q E s:=by
 obtain ⟨ob,e1,e2,e3⟩:=id hit;obtain ⟨ot,g1,_,nn,g2⟩:=ht;unfold xj;refine ac (fk (name:=Str.ofString "__next__") hit.typeIs km (hU km hit.typeIs F.entry_tuple_iterator_next ?_ (F.args_tuple_iterator_next_1 _)));show ut _ _ (O3 (.ref it) 0 >>= _) _ _ s; refine ac (eQ e1 e3 (x:=.ref t) rfl ?_);show ut _ _ (if (wy t == yf)=true then _ else _) _ _ s; rw [cK (show ¬ ((wy t == yf)=true) from bo)];show ut _ _ (O3 (.ref it) 1 >>= _) _ _ s; refine ac (eQ e1 e3 (x:=.int i 0) rfl ?_);show ut _ _ (seqItems? (.ref t) >>= _) _ _ s; refine ac (gN g1 g2 ?_);simp only [Int.toNat_natCast,hx];refine ac (wpAny_setField e1 e3 (by simp) (ay ⟨x,rfl,ay (hQ _ ⟨_,Heap.get?_update_self _ e1 (Obj.isFreed_of_fields (Obj.data_mapFields e3 _)),(Obj.cls_mapFields ..).trans e2,?_⟩ (Heap.SameBut.update ..))⟩));rw [Obj.data_mapFields e3]; simp [rawInt]
theorem tK{it t:Addr}(hh:A.handled=none)(hit:s.heap.IsTupleIter it t i)(ht:s.heap.IsTuple t items)(hx:items[i]?=none)
  (hE:∀ h' e,Heap.ExtBut it s.heap h'->(∃ o,h'.get? e=some o/\o.cls=.type "StopIteration")->E (.ref e) { s with heap:=h' }):ut ‹18› A (xj (.ref it)) Q E s:=by
 obtain ⟨ob,e1,e2,e3⟩:=id hit;obtain ⟨ot,g1,_,nn,g2⟩:=ht;unfold xj;refine ac (fk (name:=Str.ofString "__next__") hit.typeIs km (hU km hit.typeIs F.entry_tuple_iterator_next ?_ (F.args_tuple_iterator_next_1 _)));show ut _ _ (O3 (.ref it) 0 >>= _) _ _ s; refine ac (eQ e1 e3 (x:=.ref t) rfl ?_);show ut _ _ (if (wy t == yf)=true then _ else _) _ _ s; rw [cK (show ¬ ((wy t == yf)=true) from bo)];show ut _ _ (O3 (.ref it) 1 >>= _) _ _ s; refine ac (eQ e1 e3 (x:=.int i 0) rfl ?_);show ut _ _ (seqItems? (.ref t) >>= _) _ _ s; refine ac (gN g1 g2 ?_);simp only [Int.toNat_natCast,hx];refine ac (jS (ac (wpAny_setField e1 e3 (by simp) ?_)));show ut _ _ (newExc (.type "StopIteration") [] >>= _) _ _ _; refine ac ?_;simp only [newExc,newTuple]; refine ac (ik ?_ (by size_fits));refine ac (m:=firstArgMember _ _) (wpAny_of_eq (a:=yf) (by first | rfl | (simp only [firstArgMember]; rfl)) ?_);refine ik ?_ (by size_fits); simp only [raiseNew]; refine ac (wpAny_handled ?_)
 first | rw [show A.in1.handled=none from hh] | rw [hh]
 refine ac (ay (wpAny_throw (hE _ _ (((Heap.SameBut.update ..).extBut.push _).push _) ⟨_,aS _ rfl,rfl⟩)))
structure ZA (z TI TO i1 i2 t1 t2:Addr):Prop where
 a1:TI≠z
 a2:TO≠z
 a3:i1≠z
 a4:i2≠z
 a5:TI≠TO
 a6:TI≠i1
 a7:TI≠i2
 a8:TO≠i1
 a9:TO≠i2
 b1:i1≠i2
 b2:t1≠z
 b3:t1≠TO
 b4:t1≠i1
 b5:t1≠i2
 b6:t2≠z
 b7:t2≠TO
 b8:t2≠i1
 b9:t2≠i2
theorem GQ{TI TO:Addr}{k:Nat}{xs ys:AV}{x y a b:rn}(D:ZA z TI TO i1 i2 t1 t2)
  (hz:Hd s.heap z TI TO .none) (hTI:zz s.heap TI (.ref i1) (.ref i2)) (hTO:zz s.heap TO a b) (h1:s.heap.IsTupleIter i1 t1 k) (h2:s.heap.IsTupleIter i2 t2 k)
  (hl1:s.heap.IsTuple t1 xs) (hl2:s.heap.IsTuple t2 ys) (hx:xs[k]?=some x) (hy:ys[k]?=some y)
  (hQ:∀ h',Hd h' z TI TO (rawInt s.heap.objs.size)->zz h' TO x y->h'.IsTupleIter i1 t1 (k+1)->h'.IsTupleIter i2 t2 (k+1)->zz h' s.heap.objs.size x y->
   (∀ c o,c≠z->c≠TO->c≠i1->c≠i2->s.heap.get? c=some o->h'.get? c=some o)->Q (.ref s.heap.objs.size) { s with heap:=h' }) :
  ut ‹18› A (uA.«zip.__next__» ⟨[.ref z],[]⟩) (fun fin s'=>∃ v,fin=.done (.ret v)/\Q v s') E s:=by
 show ut _ _ (O3 (.ref z) 2 >>= _) _ _ _; refine ac (eQ hz rfl (x:=.bool false) rfl ?_);show ut _ _ (O3 (.ref z) 3 >>= _) _ _ _; refine ac (eQ hz rfl (x:=.ref TI) rfl (ac (gN hTI rfl ?_)));show ut _ _ (vz (.ref z) >>= _) _ _ _;unfold vz;refine ac (ac (eQ hz rfl (x:=.none) rfl (ay ?_)));simp only [ku];refine ac (jS (ac (eQ hz rfl (x:=.ref TO) rfl (ac (eW hz (by simp) fun g1 z1 q1=>?_)))))
 replace z1:Hd g1 z TI TO .ellipsis:=z1
 simp only [ly,mE,kT,lw];refine ac (ac (ac (kG ?_)));show ut _ _ (xj (.ref i1) >>= _) _ _ _;refine ac (kJ (h1.extBut q1.extBut D.a3) (hl1.extBut q1.extBut D.b2) hx fun g2 j2 q2=>ay ?_);have p2:zz g2 TO a b:=q2.extBut _ _ D.a8 (q1.extBut _ _ D.a2 hTO);refine ac (gN p2 rfl (ac (kC p2 fun g3 p3 q3=>ac (lx (ay ?_)))))
 replace p3:zz g3 TO x b:=p3
 refine ac (ac (kG ?_));show ut _ _ (xj (.ref i2) >>= _) _ _ _;refine ac (kJ (((h2.extBut q1.extBut D.a4).extBut q2.extBut D.b1.symm).extBut q3.extBut D.a9.symm) (((hl2.extBut q1.extBut D.b6).extBut q2.extBut D.b8).extBut q3.extBut D.b7) hy fun g4 j4 q4=>ay ?_);have p4:zz g4 TO x b:=q4.extBut _ _ D.a9 p3;refine ac (gN p4 rfl (ac (kC p4 fun g5 p5 q5=>ac (lx (ay (ay ?_))))))
 replace p5:zz g5 TO x y:=p5
 refine ac (gN p5 rfl (ac (nz ?_)));have sz:g5.objs.size=s.heap.objs.size:=by rw [q5.1,q4.1,q3.1,q2.1,q1.1]
 have z5:Hd g5 z TI TO .ellipsis:=q5.extBut _ _ D.a2.symm (q4.extBut _ _ D.a4.symm (q3.extBut _ _ D.a2.symm (q2.extBut _ _ D.a3.symm z1)));have k5:∀ c o,c≠z->c≠TO->c≠i1->c≠i2->s.heap.get? c=some o->g5.get? c=some o:=fun c o c1 c2 c3 c4 e=>q5.extBut _ _ c2 (q4.extBut _ _ c4 (q3.extBut _ _ c2 (q2.extBut _ _ c3 (q1.extBut _ _ c1 e))));have j5:g5.IsTupleIter i1 t1 (k+1):=((j2.extBut q3.extBut D.a8.symm).extBut q4.extBut D.b1).extBut q5.extBut D.a8.symm;have l5:g5.IsTupleIter i2 t2 (k+1):=j4.extBut q5.extBut D.a9.symm;have zl:z < g5.objs.size:=bu z5;show ut _ _ (xN (.ref z) (.ref g5.objs.size) >>= _) _ _ _;refine ac ?_;unfold xN;have z6:Hd (g5.push { cls:=.type "tuple",data:=.seq #[x,y] }) z TI TO .ellipsis:=ai _ z5;refine ac (eW z6 (by simp) fun g7 z7 q7=>?_)
 replace z7:Hd g7 z TI TO (rawInt g5.objs.size):=z7
 refine eW z7 (by simp) fun g8 z8 q8=>?_
 replace z8:Hd g8 z TI TO (rawInt g5.objs.size):=z8
 have up:∀ c o,c≠z->g5.get? c=some o->g8.get? c=some o:=fun c o c1 e=>q8.extBut _ _ c1 (q7.extBut _ _ c1 (ai _ e));have n8:zz g8 g5.objs.size x y:=q8.extBut _ _ (fz zl) (q7.extBut _ _ (fz zl) (aS _ rfl));rw [sz] at z8 n8;refine ay ⟨_,rfl,?_⟩;show Q (.ref g5.objs.size) _;rw [sz];refine hQ g8 z8 (up _ _ D.a2 p5) ?_ ?_ n8 fun c o c1 c2 c3 c4 e=>up c o c1 (k5 c o c1 c2 c3 c4 e)
 ·obtain ⟨o,e,r⟩:=j5; exact⟨o,up _ o D.a3 e,r⟩
 ·obtain ⟨o,e,r⟩:=l5; exact⟨o,up _ o D.a4 e,r⟩
theorem Kh{TI TO:Addr}{k:Nat}{xs:AV}{a b:rn}{Q:Fin->sr->Prop}(hh:A.handled=none)(D:ZA z TI TO i1 i2 t1 t2)
  (hz:Hd s.heap z TI TO .none) (hTI:zz s.heap TI (.ref i1) (.ref i2)) (hTO:zz s.heap TO a b) (h1:s.heap.IsTupleIter i1 t1 k) (hl1:s.heap.IsTuple t1 xs) (hx:xs[k]?=none)
  (hE:∀ h' e,(∀ c o,c≠z->c≠TO->c≠i1->c≠i2->s.heap.get? c=some o->h'.get? c=some o)->(∃ o,h'.get? e=some o/\o.cls=.type "StopIteration")->E (.ref e) { s with heap:=h' }) :
  ut ‹18› A (uA.«zip.__next__» ⟨[.ref z],[]⟩) Q E s:=by
 show ut _ _ (O3 (.ref z) 2 >>= _) _ _ _; refine ac (eQ hz rfl (x:=.bool false) rfl ?_);show ut _ _ (O3 (.ref z) 3 >>= _) _ _ _; refine ac (eQ hz rfl (x:=.ref TI) rfl (ac (gN hTI rfl ?_)));show ut _ _ (vz (.ref z) >>= _) _ _ _;unfold vz;refine ac (ac (eQ hz rfl (x:=.none) rfl (ay ?_)));simp only [ku];refine ac (jS (ac (eQ hz rfl (x:=.ref TO) rfl (ac (eW hz (by simp) fun g1 z1 q1=>?_)))))
 replace z1:Hd g1 z TI TO .ellipsis:=z1
 simp only [ly,mE,kT,lw];refine ac (ac (ac (kG ?_)));show ut _ _ (xj (.ref i1) >>= _) _ _ _;refine ac (tK hh (h1.extBut q1.extBut D.a3) (hl1.extBut q1.extBut D.b2) hx fun g2 e q2 ⟨oe,e1,e2⟩=>?_);have z2:Hd g2 z TI TO .ellipsis:=q2 _ _ D.a3.symm z1;have hez:e≠z:=fun x=>by subst x; rw [z2] at e1; cases e1; simp at e2
 exact eW z2 (by simp) fun g3 _ q3=>hE g3 e (fun c o c1 _ c3 _ x=>q3.extBut _ _ c1 (q2 _ _ c3 (q1.extBut _ _ c1 x))) ⟨oe,q3.extBut _ _ hez e1,e2⟩
end
theorem Inv.sy(I:Inv X pins σ H s)(hf:∀ b∈fp,qg X pins H b)
  (k:∀ b u,b ∉ fp->s.heap.get? b=some u->h'.get? b=some u) (hp:s.heap.objs.size<=a) (new:dJ X.prog X.w (upd H a o) h' a o):Inv X pins σ (upd H a o) { s with heap:=h',toks:=t' }:=by
 have hn:H a=none:=I.hok.fresh hp;have nf:∀ b u,H b=some u->b ∉ fp:=fun b u e hb=>by rw [(hf b hb).1] at e; cases e
 refine I.step (g':=s.gens) (d':=s.drawn) (ch:=fp) (fun b hb=>⟨(hf b hb).2.2.2.1,(hf b hb).2.1,(hf b hb).2.2.2.2.1,(hf b hb).2.2.2.2.2⟩) (fun b u _ _ hc e _=>k b u hc e) (fun b u _ _ hc e _=>⟨u.slots,k b u hc e⟩)
  (fun b u _ e n=>by rw [au (dE (dS (bu e) hp))]; exact n) (fun b u hc e=>⟨u,k b u hc e⟩) (fun b xs e=>by rw [au (aB e hn)]; exact e)
  (fun b u v e=>by rw [au (aB e hn)]; exact e) (fun b ps e=>⟨#[],by rw [au (aB e hn),e]; simp⟩) (fun m hm=>?_) (fun b u e=>?_) I.bare
 ·obtain ⟨ob,es,ep,ho,r⟩:=hm;exact⟨ob,es,ep,k _ ob (fun z=>(hf _ z).2.1 rfl) ho,r⟩
 ·by_cases hb:b=a
  ·subst hb;rw [ak] at e;cases e;exact new
  ·rw [au hb] at e;refine(I.hok b u e).stay (fun c v hc q=>k c v ?_ q) (fun c q=>by rw [au (aB q hn)]; exact q) fun c xs q=>by rw [au (aB q hn)]; exact q
   rcases hc with z | z
   ·rw [z]; exact nf b u e
   ·exact nf c _ z
theorem Inv.sO(I:Inv X pins σ H s)(hf:∀ b∈fp,qg X pins H b)
  (k:∀ b u,b ∉ fp->s.heap.get? b=some u->h'.get? b=some u):Inv X pins σ H { s with heap:=h',toks:=t' }:=by
 have nf:∀ b u,H b=some u->b ∉ fp:=fun b u e hb=>by rw [(hf b hb).1] at e; cases e
 refine I.step (g':=s.gens) (d':=s.drawn) (ch:=fp) (fun b hb=>⟨(hf b hb).2.2.2.1,(hf b hb).2.1,(hf b hb).2.2.2.2.1,(hf b hb).2.2.2.2.2⟩) (fun b u _ _ hc e _=>k b u hc e) (fun b u _ _ hc e _=>⟨u.slots,k b u hc e⟩)
  (fun b u _ e n=>n) (fun b u hc e=>⟨u,k b u hc e⟩) (fun b xs e=>e) (fun b u v e=>e) (fun b ps e=>⟨#[],by rw [e]; simp⟩) (fun m hm=>?_) (fun b u e=>?_) I.bare
 ·obtain ⟨ob,es,ep,ho,r⟩:=hm;exact⟨ob,es,ep,k _ ob (fun z=>(hf _ z).2.1 rfl) ho,r⟩
 ·refine(I.hok b u e).stay (fun c v hc q=>k c v ?_ q) (fun c q=>q) fun c xs q=>q;rcases hc with z | z
  ·rw [z]; exact nf b u e
  ·exact nf c _ z
def Itz(K:PySem.W.Frag)(t1 t2:Addr):It:=
 ⟨fun i H=>∃ xs ys x y,SqT K H t1 xs/\SqT K H t2 ys/\xs[i]?=some x/\ys[i]?=some y,fun i H v H'=>∃ p,H p=none/\v=.ref p/\∀ xs ys x y,SqT K H t1 xs->SqT K H t2 ys->xs[i]?=some x->ys[i]?=some y->H'=upd H p (.tup [x,y]),
  fun i H=>∃ xs,SqT K H t1 xs/\xs.length<=i⟩
theorem mJ{TI TO:Addr}(D:ZA z TI TO i1 i2 t1 t2):Turn P w K (.Tuple elts x1 tpos) (Itz K t1 t2) [z,TI,TO,i1,i2] z
  (fun i h=>Hd h z TI TO .none/\zz h TI (.ref i1) (.ref i2)/\(∃ a b,zz h TO a b)/\h.IsTupleIter i1 t1 i/\h.IsTupleIter i2 t2 i) where
 mem:=by simp
 obj:=fun i h st b hb=>by
  obtain ⟨hz,hTI,⟨a,c,hTO⟩,⟨o1,e1,_,d1⟩,⟨o2,e2,_,d2⟩⟩:=st;simp only [bc,eL,iP] at hb;rcases hb with rfl | rfl | rfl | rfl | rfl
  ·exact⟨_,hz,fun v q=>nomatch q⟩
  ·exact⟨_,hTI,fun v q=>nomatch q⟩
  ·exact⟨_,hTO,fun v q=>nomatch q⟩
  ·exact⟨_,e1,fun v q=>by rw [d1] at q; cases q⟩
  ·exact⟨_,e2,fun v q=>by rw [d2] at q; cases q⟩
 keep:=fun i h h' st k=>by
  obtain ⟨hz,hTI,⟨a,c,hTO⟩,⟨o1,e1,r1⟩,⟨o2,e2,r2⟩⟩:=st;exact⟨k z (by simp) _ hz,k TI (by simp) _ hTI,⟨a,c,k TO (by simp) _ hTO⟩,⟨o1,k i1 (by simp) _ e1,r1⟩,⟨o2,k i2 (by simp) _ e2,r2⟩⟩
 item:=by
  intro X hP hw hK hc i pins s σ H E I hf st hg;subst hP hw hK;obtain ⟨xs,ys,x,y,q1,q2,e1,e2⟩:=hg;obtain ⟨its,rv,p,hz'⟩:=I.tuple q1;obtain ⟨jts,rw',p',hz''⟩:=I.tuple q2;obtain ⟨u,hu,ru⟩:=rv.get e1;obtain ⟨u',hu',ru'⟩:=rw'.get e2;obtain ⟨hz,hTI,⟨a,c,hTO⟩,h1,h2⟩:=st;have hT:s.TypeIs (.ref z) "zip" := ⟨_,hz,rfl⟩;unfold Hn
  refine ac (kH (fk (name:=Str.ofString "__next__") hT iS (hU iS hT lz
   (GQ D hz hTI hTO h1 h2 (show s.heap.IsTuple t1 its.toArray from p) (show s.heap.IsTuple t2 jts.toArray from p') (x:=u) (y:=u') (by simpa using hu) (by simpa using hu') fun h' a1 a2 a3 a4 a5 a6=>ay ?_) (kX _))))
  refine⟨_,rfl,wpAny_letOwnedTupleGo_zip a1 fun h2' a1' q'=>?_⟩;have hn:H s.heap.objs.size=none:=I.hok.fresh (am _);have zlt:z < s.heap.objs.size:=bu hz;have tlt:TO < s.heap.objs.size:=bu hTO;have i1lt:i1 < s.heap.objs.size:=by obtain ⟨_,e,_⟩:=h1; exact bu e
  have i2lt:i2 < s.heap.objs.size:=by obtain ⟨_,e,_⟩:=h2; exact bu e
  have kk:∀ b ob,b ∉ [z,TI,TO,i1,i2]->s.heap.get? b=some ob->h2'.get? b=some ob:=fun b ob hb e=>by
   simp only [bc,eL,iP,qB] at hb;exact q'.extBut _ _ hb.1 (a6 b ob hb.1 hb.2.2.1 hb.2.2.2.1 hb.2.2.2.2 e)
  have I1:Inv X pins σ (upd H s.heap.objs.size (.tup [x,y])) { s with heap:=h2' }:=I.sy (t':=s.toks) hf kk (am _)
   ⟨⟨by show 2<=sizeLine; decide,fun o e=>by rw [q'.extBut _ _ (fz zlt) a5] at e; cases e; rfl⟩,[u,u'],.cons ru (.cons ru' .nil),⟨_,q'.extBut _ _ (fz zlt) a5,rfl,_,rfl⟩⟩
  refine⟨.ref s.heap.objs.size,_,I1,rfl,⟨_,hn,rfl,fun xs' ys' x' y' k1 k2 k3 k4=>?_⟩,⟨a1',q'.extBut _ _ D.a1 (a6 _ _ D.a1 D.a5 D.a6 D.a7 hTI),⟨_,_,q'.extBut _ _ D.a2 a2⟩,a3.extBut q'.extBut D.a3,a4.extBut q'.extBut D.a4⟩,fun b hb=>?_⟩
  ·rw [I.mV k1 q1,e1] at k3;rw [I.mV k2 q2,e2] at k4;cases k3;cases k4;rfl
  ·have hb':=hb;simp only [bc,eL,iP] at hb'
   have hlt:b < s.heap.objs.size:=by
    rcases hb' with rfl | rfl | rfl | rfl | rfl
    ·exact zlt
    ·exact bu hTI
    ·exact tlt
    ·exact i1lt
    ·exact i2lt
   rw [au (dE hlt)];exact(hf b hb).1
 done:=by
  intro X hP hw hK hc i pins s σ H E I hf st hg;subst hP hw hK;obtain ⟨xs,q1,e1⟩:=hg;obtain ⟨its,rv,p,hz'⟩:=I.tuple q1;obtain ⟨hz,hTI,⟨a,c,hTO⟩,h1,h2⟩:=st;have hT:s.TypeIs (.ref z) "zip" := ⟨_,hz,rfl⟩;have hl:=rv.length;unfold Hn
  refine ac (kH (fk (name:=Str.ofString "__next__") hT iS (hU iS hT lz
   (Kh (I.ok.hd hc) D hz hTI hTO h1 (show s.heap.IsTuple t1 its.toArray from p) (by simp; omega) fun h' e kk ⟨o,ho,hcl⟩=>?_) (kX _))))
  refine ac (nX (T:= "StopIteration") (b:=true) ⟨o,ho,hcl⟩ qv (ay ⟨rfl,I.sO (t':=s.toks) hf fun b u hb q=>?_⟩));simp only [bc,eL,iP,qB] at hb;exact kk b u hb.1 hb.2.2.1 hb.2.2.2.1 hb.2.2.2.2 q
 self:=fun _ _ _ _ _ st h=>n0 st.1 h
abbrev zq1(h:Heap)(l1:Addr):Heap:=h.push { cls:=.type "tuple_iterator",data:=.fields #[.ref l1,.int 0 0] }
abbrev zq2(h:Heap)(l1 l2:Addr):Heap:=(zq1 h l1).push { cls:=.type "tuple_iterator",data:=.fields #[.ref l2,.int 0 0] }
abbrev zq3(h:Heap)(l1 l2:Addr):Heap:=(zq2 h l1 l2).push { cls:=.type "tuple",data:=.seq #[.ref h.objs.size,.ref (zq1 h l1).objs.size] }
abbrev zq4(h:Heap)(l1 l2:Addr):Heap:=(zq3 h l1 l2).push { cls:=.type "tuple",data:=.seq #[.none,.none] }
abbrev zq5(h:Heap)(l1 l2:Addr):Heap:=(zq4 h l1 l2).push { cls:=.type "zip",data:=.fields #[.none,.bool false,.bool false,.ref (zq2 h l1 l2).objs.size,.ref (zq3 h l1 l2).objs.size] }
theorem Qj(l1 l2:Addr)(xs ys:AV):Meets (uA.«zip.__new__» ⟨[.type "zip",.ref l1,.ref l2],[]⟩) (fun _ R s=>s.heap.IsTuple l1 xs/\s.heap.IsTuple l2 ys/\R (.ok (.ret (.ref (zq4 s.heap l1 l2).objs.size))) { s with heap:=zq5 s.heap l1 l2 }):=
 .of_wp fun prog w A R s h=>by
  obtain ⟨hp,g,d,tk,os⟩:=s;obtain ⟨hl1,hl2,h⟩:=h;have hsub:=sub_zip;have hL1:Heap.IsTuple (R1 ⟨hp,g,d,tk,os⟩) l1 xs:=hl1;have hL2:Heap.IsTuple (R1 ⟨hp.push { cls:=.type "tuple_iterator",data:=.fields #[.ref l1,.int 0 0] },g,d,tk,os⟩) l2 ys:=Heap.IsTuple.push hl2 _
  wp_walk using wpAny_pyIter_tuple hL1,wpAny_pyIter_tuple hL2
  exact⟨_,rfl,h⟩
theorem Lr{l1 l2:Addr}{xs ys:AV}(hl1:s.heap.IsTuple l1 xs)(hl2:s.heap.IsTuple l2 ys)
  (h:Q (.ref (zq4 s.heap l1 l2).objs.size) { s with heap:=zq5 s.heap l1 l2 }):ut ‹18› A (call (.type "zip") [.ref l1,.ref l2]) Q E s:=by
 refine callType_new F.called_zip (by decide) (F.typeCall_zip_2 _ _) (F.newCall_zip_2 _ _) (fun obj=>F.args_object_init_3 obj _ _) F.entry_zip_new (Qj l1 l2 xs ys) ⟨hl1,hl2,?_⟩;show _/\_;exact⟨⟨_,aS _ rfl,rfl⟩,h⟩
theorem N5{t1 t2:Nat}(h1:t1 < n)(h2:t2 < n):ZA (n+4) (n+2) (n+3) n (n+1) t1 t2:=by
 constructor <;> (change @Ne Nat _ _; omega)
section
variable {X:Cx}
inductive qR (K:PySem.W.Frag) (xs:LV) (H:Hp) (Q:VK):Prop
 | mk (p:Addr) (bs:List Bool):xs=[.ref p]->SqL K H p (bs.map V.bl)->Q (.bl (bs.all _root_.id)) H->qR K xs H Q
theorem Jc(hc:X.calm=true):iz X (.builtin "all") (qR X.K):=by
 intro pins s σ H xs us Q I r h;obtain ⟨p,bs,rfl,hq,q⟩:=h;obtain ⟨u,rfl,ru⟩:=vals1 r;cases ru;obtain ⟨its,rv,pl,hz⟩:=I.list hq;have hl:=rv.length;rw [aa] at hl;refine call_all_walk (wpAny_pyIter_list pl.isList ?_);have plt:p < s.heap.objs.size:=by obtain ⟨o,e,_⟩:=pl.isList; exact bu e
 refine⟨s.heap.objs.size,_,_,_,_,_,fun i=>bs.getD i true,rfl,Walks.list (A:=X.A.in1) (I.ok.hd hc) s.heap.objs.size p (dE plt) its.toArray,⟨⟨_,aS _ rfl,rfl,rfl⟩,pl.isList.push _⟩,fun i v s' Q' E' hv hQ=>?_,fun h' tk kk=>?_⟩
 ·have hi:i < bs.length:=by
   have:=(Array.getElem?_eq_some_iff.mp hv).1;rw [bb] at this;omega
  obtain ⟨u,hu,ru⟩:=rv.get (i:=i) (x:=V.bl bs[i]) (by simp [hi]);have hv':its[i]?=some v:=by simpa using hv
  rw [hv'] at hu;cases hu;cases ru;refine i6 ?_;simpa [hi] using hQ
 ·have ee:((List.range its.toArray.size).all fun i=>bs.getD i true)=bs.all _root_.id:=by
   rw [bb,<- hl];apply gX.mpr;rw [fE,fE];constructor
   ·intro h b hb;obtain ⟨i,hi,rfl⟩:=gx hb;have:=h i (jv.mpr hi);simpa [hi] using this
   ·intro h i hi;have hi':=jv.mp hi;have:=h bs[i] (dm hi');simpa [hi'] using this
  rw [ee];have I1:Inv X pins σ H { s with heap:=s.heap.push { cls:=.type "list_iterator",data:=.fields #[.ref p,.int 0 0] } }:=I.kept (t':=s.toks) fun b o e=>ai _ e;refine⟨.bl _,H,I1.turned (t':=tk) (it:=s.heap.objs.size) (fun b o hb e=>kk b o (by simpa using hb) e) (I.hok.fresh (am _)) (fz I.lt) (.inr I.sz) ?_ ?_,rfl,q⟩
  ·exact(I.nZ (am _) (I.hok.fresh (am _))).2.2.2.2.1
  ·exact(I.nZ (am _) (I.hok.fresh (am _))).2.2.2.2.2
def Its(x:Str):It:=⟨fun i _=>i < x.cps.size,fun i H v H'=>H'=H/\∃ c,x.cps[i]?=some c/\v=.str ⟨#[c]⟩,fun i _=>x.cps.size<=i⟩
theorem J8(x:Str)(t:Tok)(it:Addr):Turn P w K tg (Its x) [it] it (fun i h=>h.IsStrIter it "str_ascii_iterator" x t i) where
 mem:=by simp
 obj:=fun i h st b hb=>by
  have e:b=it:=by simpa using hb
  subst e;obtain ⟨o,e,c,d⟩:=st;exact⟨o,e,fun v z=>by rw [d] at z; cases z⟩
 keep:=fun i h h' st k=>by
  obtain ⟨o,e,r⟩:=st;exact⟨o,k it (by simp) o e,r⟩
 item:=by
  intro X hP hw hK hc i pins s σ H E I hf st hg;subst hP hw hK;have hg:i < x.cps.size:=hg;obtain ⟨f0,f1,f2,f3,f4,f5⟩:=hf it (by simp);refine wpAny_pyNext_ascii_item st (c:=x.cps[i]) (by simp [hg]) fun h' st' sb=>?_;have I1:Inv X pins σ H { s with heap:=h',toks:=s.toks+1 }:=I.turned (fun b o hb e=>(sb.2 b hb).trans e) f0 f1 f3 f4 f5;obtain ⟨o,e,c,d⟩:=id st';exact⟨_,rfl,DK (s:={ s with heap:=h',toks:=s.toks+1 }) e c d (by decide) ⟨.str ⟨#[x.cps[i]]⟩,H,I1,⟨_,rfl⟩,⟨rfl,_,by simp [hg],rfl⟩,st',fun b hb=>(hf b hb).1⟩⟩
 done:=by
  intro X hP hw hK hc i pins s σ H E I hf st hg;subst hP hw hK;have hg:x.cps.size<=i:=hg;obtain ⟨f0,f1,f2,f3,f4,f5⟩:=hf it (by simp);exact wpAny_pyNext_ascii_end (I.ok.hd hc) st (by simp [hg]) fun h' eb=>⟨rfl,I.turned (t':=s.toks) (fun b o hb e=>eb b o hb e) f0 f1 f3 f4 f5⟩
 self:=fun _ _ _ _ _ st h=>wpAny_pyIter_striter_ascii st h
inductive Nz (R:It->Hp->Prop) (v:V) (H1:Hp):Prop
 | mk (x:_):v=.str x->x.cps.all (· < 128)=true->R (Its x) H1->Nz R v H1
def Sy(te:TE):TI:=fun σ H R=>te σ H fun v H1=>Nz R v H1
theorem O2{e:Expr}(he:PE X e te):PI X tg e (Sy te):=by
 intro pins s σ H R I h;refine thn (he pins s σ H _ I h) fun v s1 ⟨y,H1,I1,r1,x,e,hx,q⟩=>?_;subst e;obtain ⟨t,rfl⟩:=r1;refine wpAny_pyIter_ascii hx ?_;refine⟨s1.heap.objs.size,[s1.heap.objs.size],_,_,H1,rfl,I1.kept (t':=s1.toks) fun b o e=>ai _ e,J8 x t _,⟨_,aS _ rfl,rfl,rfl⟩,fun b hb=>?_,q⟩;have e:b=s1.heap.objs.size:=by simpa using hb
 subst e;exact I1.nZ (am _) (I1.hok.fresh (am _))
inductive mD (K:PySem.W.Frag) (xs:LV) (H:Hp) (Q:VK):Prop
 | mk (x n t b:_):xs=[x,.ty n]->rC K H x t->PySem.W.kitOne K t (.type n)=some b->Q (.bl b) H->mD K xs H Q
theorem uf:iz X (.builtin "isinstance") (mD X.K):=by
 intro pins s σ H xs us Q I r h;obtain ⟨x,n,t,b,rfl,ty,e,q⟩:=h;obtain ⟨u,w',rfl,ru,rw'⟩:=vals2 r;cases rw';exact G3 I ru ty e fun tk=>⟨.bl b,H,I.tok _,rfl,q⟩
theorem lM(K:PySem.W.Frag)(n:String):PySem.W.kitOne K (.type n) (.type n)=some true:=by
 unfold PySem.W.kitOne;rw [dC (by simp)]
def Tp(r:V->LV->Hp->VK->Prop)(to:TE)(t:TA):TE:=fun σ H Q=>to σ H fun x H1=>(∃ p xs,x=.ref p/\H1 p=some (.tup xs))/\t σ H1 fun xs H2=>r x xs H2 Q
theorem Om{o e:Expr}{es:List Expr}{to:TE}{t:TA}{name:Str}{apos cpos:Pos}{r:V->LV->Hp->VK->Prop}(slot:Slot "tuple" name id)(hty:typeOf (.builtin id)=Eg (.type "method_descriptor"))(hm:MtR X id r)(ho:PE X o to)(ha:PA X (e::es) t)
  (hbase:M3 o name X.env (eval o X.env)=eval o X.env:=by rfl)
  (hfew:((zg cpos (uC (e::es) X.env)).all (fun x=>!x.1) && (Tt cpos (JS [] X.env)).all (fun x=>x.1.isSome) && decide ((e::es).length+([]:List Keyword).length+(if ([]:List Keyword).isEmpty then 0 else 1) < 30))=true:=by rfl)
  (hline:(apos.endLine == cpos.line)=true:=by rfl) (hs:uC (e::es) X.env=(false,eval e X.env)::uC es X.env:=by rfl) (hplain:(zg cpos (uC es X.env)).any (·.1)=false:=by rfl):PE X (.Call (.Attribute o name apos) (e::es) [] cpos) (Tp r to t):=by
 intro pins s σ H Q I h;refine wpAny_Call_method_late hbase hfew hline rfl (thn (ho pins s σ H _ I h) fun v s1 ⟨x,H1,I1,r1,⟨p,xs,e1,e2⟩,q1⟩=>?_);subst e1;cases r1;obtain ⟨⟨_,nd⟩,its,rv,ob,g1,g2,g3⟩:(xs.length<=sizeLine/\NoD s1.heap p)/\∃ its:LU,Vals xs its/\TX s1.heap p its.toArray:=I1.hok p _ e2;refine⟨"tuple",id,PySem.F.plainAttrs_tuple,slot,hty,⟨ob,g1,g2⟩,fun a ea=>?_,?_⟩
 ·cases ea;exact⟨ob,g1,nd ob g1⟩
 have hA:=ha cpos pins s1 σ H1 _ I1 q1;rw [hs] at hA ⊢;refine nw (by show (false || (zg cpos (uC es X.env)).any (·.1))=false; rw [hplain] <;> rfl) (oB ?_);exact thn hA fun us s2 ⟨vs,H2,I2,r2,q2⟩=>hm pins s2 σ H2 (.ref p) vs (.ref p) us Q I2 rfl r2 q2
inductive Aa (x:V) (vs:LV) (H:Hp) (Q:VK):Prop
 | mk (p y xs t ts j:_):x=.ref p->vs=[y]->H p=some (.tup xs)->Dp H t y->DpL H ts xs->(∀ t∈ts,Lv 6 t)->ts[j]?=some t->(∀ m,m < j->ts[m]?≠some t)->Q (.int (j:Nat)) H->Aa x vs H Q
theorem BR(hu:X.A.units+10 < cLine):MtM X "tuple.index" Aa:=by
 intro pins s σ H x vs v us Q I rx rv h;obtain ⟨p,y,xs,t,ts,j,rfl,rfl,hH,dy,dl,lv,hj,hno,q⟩:=h;cases rx;obtain ⟨u,rfl,ru⟩:=rv.one;obtain ⟨⟨z,nd⟩,its,r,ob,g1,g2,n,g3⟩:(xs.length<=sizeLine/\NoD s.heap p)/\∃ its:LU,Vals xs its/\TX s.heap p its.toArray:=I.hok p _ hH;have hl:=r.length
 have hjl:j < its.toArray.size:=by
  have:=(aT.mp hj).1;rw [bb,<- hl,dl.length];exact this
 have at_:∀(m:Nat) (hm:m < its.toArray.size) (t':T),ts[m]?=some t'->isT H t its.toArray[m]=dcd (t'=t):=fun m hm t' e'=>by
  obtain ⟨x',f,g⟩:=dl.get e';obtain ⟨w,k,m'⟩:=r.get f
  have:its.toArray[m]=w:=by
   have z:its.toArray[m]?=some w:=by simpa using k
   rw [jp hm] at z;exact dL z
  rw [this];exact Le m' g
 obtain ⟨oc,od,odt,osl⟩:=ob;simp only at g2 g3;subst g2 g3;refine qq F.slot_tuple_index ⟨_,g1,rfl⟩ F.entry_tuple_index (F.args_tuple_index_2 _ _) (Jq p its.toArray n od osl u (isT H t) j hjl ?_ ?_) ⟨g1,?_,?_⟩
 ·rw [at_ j hjl t hj];exact wY rfl
 ·intro m hm hlt
  have hm':m < ts.length:=by
   rw [bb,<- hl,dl.length] at hm;exact hm
  rw [at_ m hm _ (af hm')];refine lY fun h=>hno m hlt ?_;rw [af hm',h]
 ·intro w hw;obtain ⟨t',m,v',r',d'⟩:=Fb dl r w (by simpa using hw);rw [Le r' d'];exact Pr I 6 _ t' t v' y w u (lv t' m) (by show X.A.units+1+6 < cLine; omega) d' dy r' ru
 ·exact⟨.int j,H,I.tok _,⟨_,rfl⟩,q⟩
end
structure Rw (P:uv) (w:xf) (outer:List Env) (H:Hp) (s:sr) (e:Addr) (cls:rn) (H':Hp) (B:Heap) (a0:rn) (s':sr):Prop where
 os:s'.os=s.os
 bare:PQ s'.gens
 un:Un (frs outer) [] H H' s.heap s'.heap
 hok:HOk P w H' s'.heap
 fl:Heap.FlyingW B outer e cls a0 s'.heap
 Tr:∀ b,H' b≠none->∃ o,B.get? b=some o
 Tq:∀ b o,s.heap.get? b=some o->b ∉ frs outer->∃ o,B.get? b=some o
structure Fnd (K:PySem.W.Frag) (mg:MG) (x:Str) (st:Stmt) (ps:LS) (f:Addr) (fd:vy):Prop where
 fn:Fun K x x st f fd
 b:Binds K fd ps []
 m:mg x=some (.ref f)
theorem aF{x:Str}{f:Addr}{k:Nat}{e:Expr}{es:List Expr}{t:TA}{p:Pos}(D:Fnd X.K X.mg x st ps f fd)(G:bw X.prog X.w X.K X.mg X.base CX0 k f fd ps sp)(hr:iD k X.A)(hg:Gl X x)(ha:PA X (e::es) t)
  (hdb:(x == ("__debug__" : Str))=false:=by decide) (he:uC (e::es) X.env=(false,eval e X.env)::uC es X.env:=by rfl) (hpl:(zg pos (uC es X.env)).any (·.1)=false:=by rfl):PE X (.Call (.Name x p) (e::es) [] pos) (NQ sp [] E0 t):=
 M5 G hr hg D.m D.fn.kp D.b .nil eZ ha hdb he hpl
theorem bY:ye "len" = some (.builtin "len"):=by decide +kernel
theorem gC:ye "isinstance" = some (.builtin "isinstance"):=by decide +kernel
theorem yX:ye "int" = some (.type "int"):=by decide +kernel
theorem bR:ye "tuple" = some (.type "tuple"):=by decide +kernel
theorem yQ:ye "list" = some (.type "list"):=by decide +kernel
theorem O1:ye "abs" = some (.builtin "abs"):=by decide +kernel
theorem Ov:ye "all" = some (.builtin "all"):=by decide +kernel
theorem HW:ye "any" = some (.builtin "any"):=by decide +kernel
inductive JX (t u:TS) (D:Ends) (σ:St) (H:Hp):Prop
 | mk (M:St->Hp->Prop):t { D with nx:=M } σ H->(∀ σ' H',M σ' H'->u D σ' H')->JX t u D σ H
theorem gw{rest:List Stmt}{t u:TS}(h1:PS X st t)(h2:PSs X rest u):PSs X (st::rest) (JX t u):=by
 intro pins s σ H D I h;obtain ⟨M,h,hM⟩:=h;refine Th (thn (h1 pins s σ H _ I h) fun f s1 q=>?_);cases f with
 | next=>
  obtain ⟨σ1,H1,I1,m1⟩:=q;exact h2 pins s1 σ1 H1 D I1 (hM σ1 H1 m1)
 | brk=>exact q
 | cont=>exact q
 | ret u=>exact q
def Off(p:Addr)(H H':Hp):Prop:=∀ b o,b≠p->H b=some o->H' b=some o
theorem Off.refl(p:Addr)(H:Hp):Off p H H:=fun _ _ _ e=>e
theorem Off.trans(a:Off p H H1)(b:Off p H1 H2):Off p H H2:=fun c o n e=>b c o n (a c o n e)
theorem Off.upd:Off p H (upd H p o):=fun c u n e=>by rw [au n]; exact e
abbrev Uk:=@Off.upd
theorem Off.new(h:H q=none):Off p H (L2.upd H q o):=fun c u _ e=>by rw [au (aB e h)]; exact e
abbrev Ul:=@Off.new
theorem Same.off(h:Same H H'):Off p H H':=fun c u _ e=>h c u e
theorem Same.new(h:H q=none):Same H (upd H q o):=fun c u e=>by rw [au (aB e h)]; exact e
abbrev Um:=@Same.new
theorem sX{α:Type}{xs:List α}{i:Int}(h0:0<=i)(h1:i < xs.length):∃ v,atI xs i=some v/\v∈xs/\xs[i.toNat]?=some v:=by
 have h:i.toNat < xs.length:=by omega
 refine⟨xs[i.toNat],?_,dm h,af h⟩;have:=aH (xs:=xs) (j:=i.toNat) (v:=xs[i.toNat]) (af h);rw [mf h0] at this;exact this
theorem dM{i:Int}(h0:0<=i)(h1:i < ns.length):∃ x,atI ‹17› i=some (.str x)/\x∈ns/\ns[i.toNat]?=some x:=by
 obtain ⟨v,e,m,g⟩:=sX (xs:=ns.map V.str) h0 (by rw [aa]; exact h1);rw [bj] at g;cases q:ns[i.toNat]? with
 | none=>rw [q] at g; cases g
 | some x=>
  rw [q] at g;cases g;exact⟨x,e,gh q,rfl⟩
theorem M6{as:LS}{a b c:Int}:¬ HO.lst [.int a,.int b,.int c]=HO.lst (as.map V.str):=by
 intro h;cases as with
 | nil=>cases h
 | cons x r=>
  injection h with h;injection h with h;cases h
theorem jP{x:Str}:inV (.str x) ‹17›=decide (x∈ns):=by
 unfold inV;rw [List.any_map];apply gX.mpr;rw [iX,fg];constructor
 ·rintro ⟨y,hy,e⟩;have:(y == x)=true:=e;rw [ki] at this;rw [<- this];exact hy
 ·intro h;exact⟨x,h,by show (x == x)=true; simp⟩
theorem mL(ns:LS):‹17›.all kO=true:=by
 rw [List.all_map,fE];exact fun _ _=>rfl
def strsOf:List Expr->Option LS
 | []=>some []
 | .Constant (.str x) _ _::r=>(strsOf r).map (x::·)
 | _=>none
theorem yN{X:Cx}:∀ {es:List Expr} (ns:LS),strsOf es=some ns->PA X es (fun _ H Q=>Q ‹17› H)
 | [],ns,h=>by
  have e:ns=[]:=by
   unfold strsOf at h;exact(dL h).symm
  subst e;exact aq
 | e::es,ns,h=>by
  cases e with
  | Constant c j pos=>
   cases c with
   | str x=>
    unfold strsOf at h;cases q:strsOf es with
    | none=>rw [q] at h; cases h
    | some ms=>
     rw [q] at h;have e:ns=x::ms:=(dL h).symm;subst e;exact aj aM (yN ms q)
   | _=>unfold strsOf at h; cases h
  | _=>unfold strsOf at h; cases h
def okF(scope:Scope)(N0 N own:LS)(fr:List Nat)(j:Nat):Bool:=match fr[j]? with
 | none=>false
 | some i=>match N[own.length+j]?,N0[i]? with
  | some x,some y=>(x == y) && (scope.names.lookup x == some .free)
  | _,_=>false
def CSc(scX:Scope)(N0:LS)(scope:Scope)(own:LS)(fr:List Nat)(N:LS):Prop:=
 scope.kind=.function/\(scope.names.map (·.1)).Nodup/\(∀ y∈scope.names,y.2=.local->scope.names.lookup y.1=some .local)/\(∀ y∈scope.names,y.2=.free->scX.names.lookup y.1=some .cell\/scX.names.lookup y.1=some .free)/\
  N.length=own.length+fr.length/\(∀ j∈List.range fr.length,okF scope N0 N own fr j=true)/\N.take own.length=own
instance (scX:Scope) (N0:LS) (scope:Scope) (own:LS) (fr:List Nat) (N:LS):Decidable (CSc scX N0 scope own fr N):=by
 unfold CSc
 infer_instance
theorem aZ.of(own:LS)(fr:List Nat)(N:LS)(scX:Scope)(N0:LS)(hsc:X.env.scope=scX)(hN:X.N=N0)(h:CSc scX N0 scope own fr N):aZ X scope own fr N where
 kind:=h.1
 nodup:=h.2.1
 names:=h.2.2.1
 free:=fun y hy e=>by
  show X.env.scope.names.lookup y.1=_\/X.env.scope.names.lookup y.1=_;rw [hsc];exact h.2.2.2.1 y hy e
 len:=h.2.2.2.2.1
 Hx:=fun j i e=>by
  have hj:j < fr.length:=(aT.mp e).1;have q:=h.2.2.2.2.2.1 j (jv.mpr hj);unfold okF at q;rw [e] at q;simp only at q;cases e1:N[own.length+j]? with
  | none=>rw [e1] at q; simp at q
  | some x=>
   cases e2:N0[i]? with
   | none=>rw [e1,e2] at q; simp at q
   | some y=>
    rw [e1,e2] at q;simp only [j3,ki] at q;exact⟨x,rfl,by rw [hN,e2,q.1],q.2⟩
 frs:=fun j x e hj=>by
  rw [<- h.2.2.2.2.2.2,mv hj];exact e
abbrev Uo:=@aZ.of
theorem jZ{x:Str}(h:scope.names.lookup x=some .cell):(NB scope env).names.lookup x=some .cell:=by
 unfold NB;show List.lookup x (List.map _ _)=_;rw [gP (scope:=scope),h];rfl
theorem aZ.of2{sc0:Scope}{e0:Env}(own:LS)(fr:List Nat)(N:LS)(N0:LS)(hsc:X.env.scope=NB sc0 e0)(hN:X.N=N0)(h:CSc sc0 N0 scope own fr N):aZ X scope own fr N where
 kind:=h.1
 nodup:=h.2.1
 names:=h.2.2.1
 free:=fun y hy e=>by
  show X.env.scope.names.lookup y.1=_\/X.env.scope.names.lookup y.1=_;rw [hsc];rcases h.2.2.2.1 y hy e with z | z
  ·exact .inl (jZ z)
  ·unfold NB;show List.lookup y.1 (List.map _ _)=_\/List.lookup y.1 (List.map _ _)=_;rw [gP (scope:=sc0),z];simp only [jb];split
   ·exact .inl rfl
   ·exact .inr rfl
 len:=h.2.2.2.2.1
 Hx:=fun j i e=>by
  have hj:j < fr.length:=(aT.mp e).1;have q:=h.2.2.2.2.2.1 j (jv.mpr hj);unfold okF at q;rw [e] at q;simp only at q;cases e1:N[own.length+j]? with
  | none=>rw [e1] at q; simp at q
  | some x=>
   cases e2:N0[i]? with
   | none=>rw [e1,e2] at q; simp at q
   | some y=>
    rw [e1,e2] at q;simp only [j3,ki] at q;exact⟨x,rfl,by rw [hN,e2,q.1],q.2⟩
 frs:=fun j x e hj=>by
  rw [<- h.2.2.2.2.2.2,mv hj];exact e
section
variable {X:Cx}{pins:LO}{σ:St}{H:Hp}{s:sr}
abbrev Cx.suite(X:Cx)(ea:Addr):Cx:={ X with A:=X.A.mark (some (.ref ea)),calm:=false,xe:=fun _ _=>False }
end
inductive XP (X:Cx) (pins:LO) (σ:St) (E:XK) (e:rn) (s':sr):Prop
 | mk (ea C H s H' B a0:_):e=.ref ea->Inv X pins σ H s->Rw X.prog X.w X.stack H s ea (.ref C) H' B a0 s'->E (.ref C) none H'->XP X pins σ E e s'
def Ru(_ j:Int):Prop:=0 < j/\j < 1606938044258990275541962092341162602522202993782792835301376
theorem KZ:OpR X (Ff .FloorDiv) (rI Ru fun i j=>.int (i / j)):=opI fun i j _ _ _ _ _ hc q=>by
 have h1:(0:Int) < j:=hc.1;have h2:j < 1606938044258990275541962092341162602522202993782792835301376:=hc.2;refine floordiv_int ‹23› (by rw [Int.fdiv_eq_ediv_of_nonneg i ‹23›]; exact q) (.inl (PyProof.noPylong_of_log2 ?_));have h3:j.natAbs≠0:=by omega
 have h4:j.natAbs < 2 ^ 200:=by
  have e:(2:Nat) ^ 200=1606938044258990275541962092341162602522202993782792835301376:=by decide +kernel
  rw [e];omega
 exact ny ((Nat.log2_lt h3).mpr h4) (by decide)
theorem JZ:∀ {x:V},kO x=true->eqV x x=true:=by
 intro x h;cases x with
 | byt b=>cases h
 | flt b=>cases h
 | ref a=>cases h
 | ty n=>cases h
 | non=>rfl
 | bl b=>simp [eqV]
 | int i=>simp [eqV]
 | str z=>simp [eqV]
inductive CK (x:V) (y:V) (H:Hp) (Q:VK):Prop
 | mk (a b:Addr) (ys:LV):x=.ref a->y=.ref b->H a=some (.tup [])->H b=some (.tup ys)->Q (.ref b) H->CK x y H Q
theorem JK:OpR X (Ff .Add) CK:=by
 intro pins s σ H x y v u Q I rx ry h;obtain ⟨a,b,ys,rfl,rfl,ha,hb,q⟩:=h;cases rx;cases ry;obtain ⟨its,r,p⟩:=qU I ha;obtain ⟨its2,r2,p2⟩:=qU I hb;have e0:its=[]:=r.lX.mpr rfl;subst e0;obtain ⟨⟨cls,dd,data,sl⟩,ho,hc,n,hd⟩:=id p;obtain ⟨⟨cls2,dd2,data2,sl2⟩,ho2,hc2,n2,hd2⟩:=id p2;simp only at hc hd hc2 hd2;subst hc hd hc2 hd2;exact concat_meets ⟨_,ho,rfl⟩ ⟨_,ho2,rfl⟩ Tu seq_tuple_add nr nh (mw _ _) (tuple_addW0 a b [].toArray its2.toArray n n2 dd dd2 sl sl2 rfl) ⟨ho,ho2,⟨.ref b,H,I,rfl,q⟩⟩
theorem Km:OpR X (Ff .Add) (fun x y H Q=>Jl X.K x y H Q\/CK x y H Q):=sJ.or JK
theorem Ji{k:Key}{v:rn}(h:(cC P w).is k v=true):RelV (kV k) v:=by
 rw [CG] at h;rcases dY h with ⟨i,t,rfl,rfl⟩ | ⟨x,t,rfl,rfl⟩
 ·exact⟨t,rfl⟩
 ·exact⟨t,rfl⟩
theorem je{α β:Type}{F:α->β->Prop}:∀ {l₁:List α} {l₂:List β},Paired F l₁ l₂->∀(i:Nat) (h1:i < l₁.length) (h2:i < l₂.length),F l₁[i] l₂[i]
 | _,_,.nil,i,h1,_=>by simp at h1
 | _,_,.cons r t,0,_,_=>r
 | _,_,.cons r t,i+1,h1,h2=>je t i (by simpa using h1) (by simpa using h2)
section
variable {X:Cx}
inductive qX (K:PySem.W.Frag) (xs:LV) (H:Hp) (Q:VK):Prop
 | mk (p:Addr) (bs:List Bool):xs=[.ref p]->SqL K H p (bs.map V.bl)->Q (.bl (bs.any _root_.id)) H->qX K xs H Q
theorem HY(hc:X.calm=true):iz X (.builtin "any") (qX X.K):=by
 intro pins s σ H xs us Q I r h;obtain ⟨p,bs,rfl,hq,q⟩:=h;obtain ⟨u,rfl,ru⟩:=vals1 r;cases ru;obtain ⟨its,rv,pl,hz⟩:=I.list hq;have hl:=rv.length;rw [aa] at hl;refine call_any_walk (wpAny_pyIter_list pl.isList ?_);have plt:p < s.heap.objs.size:=by obtain ⟨o,e,_⟩:=pl.isList; exact bu e
 refine⟨s.heap.objs.size,_,_,_,_,_,fun i=>bs.getD i false,rfl,Walks.list (A:=X.A.in1) (I.ok.hd hc) s.heap.objs.size p (dE plt) its.toArray,⟨⟨_,aS _ rfl,rfl,rfl⟩,pl.isList.push _⟩,fun i v s' Q' E' hv hQ=>?_,fun h' tk kk=>?_⟩
 ·have hi:i < bs.length:=by
   have:=(Array.getElem?_eq_some_iff.mp hv).1;rw [bb] at this;omega
  obtain ⟨u,hu,ru⟩:=rv.get (i:=i) (x:=V.bl bs[i]) (by simp [hi]);have hv':its[i]?=some v:=by simpa using hv
  rw [hv'] at hu;cases hu;cases ru;refine i6 ?_;simpa [hi] using hQ
 ·have ee:((List.range its.toArray.size).any fun i=>bs.getD i false)=bs.any _root_.id:=by
   rw [bb,<- hl];apply gX.mpr;rw [iX,iX];constructor
   ·rintro ⟨i,hi,h⟩;have hi':=jv.mp hi;exact⟨bs[i],dm hi',by simpa [hi'] using h⟩
   ·rintro ⟨b,hb,h⟩;obtain ⟨i,hi,rfl⟩:=gx hb;exact⟨i,jv.mpr hi,by simpa [hi] using h⟩
  rw [ee];have I1:Inv X pins σ H { s with heap:=s.heap.push { cls:=.type "list_iterator",data:=.fields #[.ref p,.int 0 0] } }:=I.kept (t':=s.toks) fun b o e=>ai _ e;refine⟨.bl _,H,I1.turned (t':=tk) (it:=s.heap.objs.size) (fun b o hb e=>kk b o (by simpa using hb) e) (I.hok.fresh (am _)) (fz I.lt) (.inr I.sz) ?_ ?_,rfl,q⟩
  ·exact(I.nZ (am _) (I.hok.fresh (am _))).2.2.2.2.1
  ·exact(I.nZ (am _) (I.hok.fresh (am _))).2.2.2.2.2
end
def Ite(K:PySem.W.Frag)(a:Addr):It:=
 ⟨fun i H=>∃ xs x,SqL K H a xs/\xs[i]?=some x,fun i H v H'=>∃ p,H p=none/\v=.ref p/\∀ xs x,SqL K H a xs->xs[i]?=some x->H'=upd H p (.tup [.int i,x]),fun i H=>∃ xs,SqL K H a xs/\xs.length<=i⟩
theorem GR{it l:Addr}(hne:e≠it):Turn P w K (.Tuple elts x1 tpos) (Ite K l) [e,it] e
  (fun i h=>(∃ old,RC h e it i old)/\h.IsListIter it l i) where
 mem:=by simp
 obj:=fun i h st b hb=>by
  obtain ⟨⟨old,he⟩,o,ei,c,d⟩:=st;simp only [bc,eL,iP] at hb;rcases hb with rfl | rfl
  ·exact⟨_,he,fun v q=>nomatch q⟩
  ·exact⟨o,ei,fun v z=>by rw [d] at z; cases z⟩
 keep:=fun i h h' st k=>by
  obtain ⟨⟨old,he⟩,o,ei,r⟩:=st;exact⟨⟨old,k e (by simp) _ he⟩,o,k it (by simp) _ ei,r⟩
 item:=by
  intro X hP hw hK hc i pins s σ H E I hf st hg;subst hP hw hK;obtain ⟨xs,x,hq,hx⟩:=hg;obtain ⟨its,rv,p,hz⟩:=I.list hq;obtain ⟨u,hu,ru⟩:=rv.get hx;obtain ⟨⟨old,he⟩,hit⟩:=st;refine wpAny_pyNext_enum_item he hit p.isList (x:=u) (by simpa using hu) hne fun h' a1 a2 a3 a4 a5=>?_;refine⟨_,rfl,wpAny_letOwnedTupleGo_enum a1 fun h2' a1' q'=>?_⟩;have hn:H s.heap.objs.size=none:=I.hok.fresh (am _);have elt:e < s.heap.objs.size:=bu he;have ilt:it < s.heap.objs.size:=by obtain ⟨_,e,_⟩:=hit; exact bu e
  have kk:∀ b ob,b ∉ [e,it]->s.heap.get? b=some ob->h2'.get? b=some ob:=fun b ob hb ee=>by
   simp only [bc,eL,iP,qB] at hb;exact q'.extBut _ _ hb.1 (a5 b ob hb.1 hb.2 ee)
  have I1:Inv X pins σ (upd H s.heap.objs.size (.tup [.int i,x])) { s with heap:=h2',toks:=s.toks+1 }:=I.sy (t':=s.toks+1) hf kk (am _)
   ⟨⟨by show 2<=sizeLine; decide,fun o ee=>by rw [q'.extBut _ _ (fz elt) a3] at ee; cases ee; rfl⟩,[.int i s.toks,u],.cons ⟨_,rfl⟩ (.cons ru .nil),⟨_,q'.extBut _ _ (fz elt) a3,rfl,_,rfl⟩⟩
  refine⟨.ref s.heap.objs.size,_,I1,rfl,⟨_,hn,rfl,fun xs' x' k1 k3=>?_⟩,⟨⟨_,by simpa using a1'⟩,a2.extBut q'.extBut hne.symm⟩,fun b hb=>?_⟩
  ·rw [I.vM k1 hq,hx] at k3;cases k3;rfl
  ·have hb':=hb;simp only [bc,eL,iP] at hb'
   have hlt:b < s.heap.objs.size:=by
    rcases hb' with rfl | rfl
    ·exact elt
    ·exact ilt
   rw [au (dE hlt)];exact(hf b hb).1
 done:=by
  intro X hP hw hK hc i pins s σ H E I hf st hg;subst hP hw hK;obtain ⟨xs,hq,hx⟩:=hg;obtain ⟨its,rv,p,hz⟩:=I.list hq;obtain ⟨⟨old,he⟩,hit⟩:=st;have hl:=rv.length;refine wpAny_pyNext_enum_end (I.ok.hd hc) he hit p.isList (by simp; omega) fun h' eb=>⟨rfl,I.sO (t':=s.toks) hf fun b u hb q=>?_⟩;simp only [bc,eL,iP,qB] at hb;exact eb b u hb.2 q
 self:=fun _ _ _ _ _ st h=>by
  obtain ⟨⟨old,he⟩,_⟩:=st;exact nB he h
section
variable {X:Cx}
inductive Jv (K:PySem.W.Frag) (R:It->Hp->Prop) (vs:LV) (H1:Hp):Prop
 | mk (a xs:_):vs=[.ref a]->SqL K H1 a xs->R (Ite K a) H1->Jv K R vs H1
def Rp(K:PySem.W.Frag)(ta:TA):TI:=fun σ H R=>ta σ H fun vs H1=>Jv K R vs H1
theorem yM{a:Expr}{p:Pos}(hg:Gl X "enumerate")(hm:X.mg "enumerate" = none)(ha:PA X [a] ta)
  (he:uC [a] X.env=(false,eval a X.env)::uC [] X.env:=by rfl) (hpl:(zg pos (uC [] X.env)).any (·.1)=false:=by rfl):PI X (.Tuple elts x1 tpos) (.Call (.Name "enumerate" p) [a] [] pos) (Rp X.K ta):=by
 intro pins s σ H R I h;have boot_enum:ye "enumerate" = some (.type "enumerate"):=by decide +kernel
 refine ib (oA I hg hm boot_enum ?_);refine i4 (thn (ha pos pins s σ H _ I h) fun us s1 ⟨vs,H1,I1,r1,t1,xs,e,q1,q⟩=>?_) he hpl;subst e;obtain ⟨u,rfl,ru⟩:=vals1 r1;cases ru;obtain ⟨its,rv,p1,hz1⟩:=I1.list q1;refine call_enumerate_list p1.isList fun h' hE hI hsz hk=>?_;refine nB hE ?_;have I2:Inv X pins σ H1 { s1 with heap:=h' }:=I1.kept (t':=s1.toks) hk;have hne:s1.heap.objs.size+1≠s1.heap.objs.size:=by change @Ne Nat _ _; omega
 refine⟨s1.heap.objs.size+1,[s1.heap.objs.size+1,s1.heap.objs.size],_,Ite X.K t1,H1,rfl,I2,GR hne,⟨⟨_,hE⟩,hI⟩,fun b hb=>?_,q⟩
 have hle:s1.heap.objs.size<=b:=by
  simp only [bc,eL,iP] at hb;rcases hb with h | h <;> rw [h] <;> first | exact am _ | exact lI _ _
 exact I1.nZ hle (I1.hok.fresh hle)
end
theorem wW:entryFor table "dict.update.loop" = some uA.«dict.update.loop»:=entryFor_of_fast (by kernel_rfl)
theorem pQ:plainId "dict.update.loop" = true:=by decide +kernel
theorem Ac:typeLookup (.type "tuple") "keys" = Eg none:=by rw [typeLookup_type,builtinLookup_eq_fast]; kernel_rfl
section
variable {prog:uv}{w:xf}{A:xn}{E:ES}{s:sr}
theorem Gf{o:Obj}{xs:AV}{k:Nat}{Q:Option rn->sr->Prop}(hx:s.heap.get? a=some o)(hc:o.cls=.type "tuple")(hdat:o.data=.seq xs k)(hd:o.dict=none)(hA:A.handled=none)
  (h:∀ h' tk,(∀ b o,s.heap.get? b=some o->h'.get? b=some o)->Q none { s with heap:=h',toks:=tk }):ut ‹18› A (getAttr? (.ref a) "keys") Q E s:=by
 obtain ⟨c,dct,dat,sl⟩:=o;simp only at hc hdat hd;subst hc hdat hd;obtain ⟨hp,g,d,tk,os⟩:=s;have hT:∀ tk',(⟨hp,g,d,tk',os⟩:sr).TypeIs (.ref a) "tuple" := fun _=>⟨_,hx,rfl⟩;have f1:=sub_AttributeError;have f3:=lT.lookup;have f4:=lT.bind (.ref a);have f5:=am_tuple_getattr_none;have hm:=Ac;unfold getAttr? getAttrBy? getAttrBy
 repeat (any_goals (first | assumption | exact hT _ | ((with_reducible show ut _ _ (call (rn.builtin "tuple.__getattribute__") _ _) _ _ _); refine qq lT (hT _) am_entry_tuple_getattribute (F.args_tuple_getattribute_2 _ _) (meets_getattribute_miss_tuple a xs k sl "keys" _ hm ‹3›) ⟨hx,hA,fun h' tk' e hx'=>?_⟩) | wp_step))
 have kk:=hx'.keeps;obtain ⟨t',u',he⟩:=hx'.there;show ut _ _ (getattributeRaised _ _ _ _ _ _ _) _ _ _;unfold getattributeRaised
 repeat (any_goals (first | assumption | wp_step))
 all_goals exact h _ _ kk
end
section
variable {X:Cx}{pins:LO}{σ:St}{A:xn}
def zc(H:Hp)(xs:LV)(kvs:LK0):Prop:=xs.length=kvs.length/\∀(i:Nat) (kv:Key × V),kvs[i]?=some kv->∃ p,xs[i]?=some (.ref p)/\H p=some (.tup [kV kv.1,kv.2])
theorem Rk{d:Addr}{k:Key}{r:rn}{Q:Unit->sr->Prop}(I:Inv X pins σ H s)(e:H d=some (.dK kvs))(l:kvs.length < sizeLine)(ry:RelV (kV k) u)(rv:RelV v r)
  (h:∀ h',Heap.SameBut d s.heap h'->Inv X pins σ (upd H d (.dK (putK kvs k v))) { s with heap:=h',toks:=s.toks+1 }->Q () { s with heap:=h',toks:=s.toks+1 }):ut ‹6› A (dictSet d u r) Q E s:=by
 obtain ⟨z,hd,vs,rel,dd⟩:=Ob I.hok e;have hz:vs.length<=sizeLine:=by rw [<- rel.length]; exact z
 have hl:(putK kvs k v).length<=sizeLine:=by have:=jg kvs k v; omega
 refine wpAny_dictSet_pairs (hsz:=hz) (rY ry) dd fun h' dd' hs=>h _ hs ?_;have he:∃ q,h'.get? d=some q:=let ⟨q,_,_,hq,_⟩:=dd'; ⟨q,hq⟩;exact zf (t':=s.toks+1) I (by rw [e]; exact True.intro) hs he (Lb hl hd (rel.put k rv) dd')
theorem Af(kvs:LK0)(kv:Key × V):iB [] (kvs++[kv])=putK (iB [] kvs) kv.1 kv.2:=by
 unfold iB;rw [List.foldl_append];rfl
theorem MK{d it:Addr}(hh:A.handled=none)(ha:H a=some (.tup xs))(hp:zc H xs kvs)(hn:kvs.length<=1000)(hd:H d=none)(hid:it≠d)(hia:it≠a)
  (hR:∀ s',Inv X pins σ (upd H d (.dK (iB [] kvs))) s'->R (.ok (.ret .none)) s') :
  ∀(k i:Nat) (s:sr),kvs.length - i=k->i<=kvs.length->Inv X pins σ (upd H d (.dK (iB [] (kvs.take i)))) s->s.heap.IsTupleIter it a i->(∀ H':Hp,H' it=none->qg X pins H' it)->H it=none->
   HH ‹6› A (.builtin "dict.update.loop" ⟨[.ref d,.ref it,rawInt i,.none],[]⟩) R s:=by
 intro k;have had:a≠d:=aB ha hd;have hz:sizeLine=16777216:=ci
 induction k with
 | zero=>
  intro i s hk hi I hit hf hi0;have hin:i=kvs.length:=by omega
  have ha':(upd H d (.dK (iB [] (kvs.take i)))) a=some (.tup xs):=by rw [au had]; exact ha
  obtain ⟨its,rv,p,_⟩:=I.tuple (Ui ha');have hit0:(upd H d (.dK (iB [] (kvs.take i)))) it=none:=by rw [au hid]; exact hi0
  obtain ⟨f0,f1,f2,f3,f4,f5⟩:=hf _ hit0;refine kB wW ?_;rw [jI pQ _];show ut _ A.in1 (Hn (.ref it) >>= _) _ _ s;refine ac (nk hh hit (show s.heap.IsTuple a its.toArray from p) (by have:=rv.length; have:=hp.1; simp; omega) fun h' eb=>?_);refine ac (ay (ay ?_));have I1:=I.turned (t':=s.toks) (fun b o hb e=>eb b o hb e) f0 f1 f3 f4 f5;rw [hin,aE (am _)] at I1;exact hR _ I1
 | succ k ih=>
  intro i s hk hi I hit hf hi0;have hlt:i < kvs.length:=by omega
  have ha':(upd H d (.dK (iB [] (kvs.take i)))) a=some (.tup xs):=by rw [au had]; exact ha
  obtain ⟨its,rv,p,_⟩:=I.tuple (Ui ha');have hit0:(upd H d (.dK (iB [] (kvs.take i)))) it=none:=by rw [au hid]; exact hi0
  obtain ⟨f0,f1,f2,f3,f4,f5⟩:=hf _ hit0;obtain ⟨pr,ex,hpr⟩:=hp.2 i kvs[i] (af hlt);obtain ⟨u,hu,ru⟩:=rv.get ex;cases ru;refine kB wW ?_;rw [jI pQ _];show ut _ A.in1 (Hn (.ref it) >>= _) _ _ s;refine ac (mS hit (show s.heap.IsTuple a its.toArray from p) (x:=.ref pr) (by simpa using hu) fun h' hit' sb=>?_);have I1:=I.turned (t':=s.toks) (fun b o hb e=>sb.extBut b o hb e) f0 f1 f3 f4 f5;have hpd:pr≠d:=aB hpr hd;obtain ⟨jts,rj,⟨oj,gj,cj,nj,dj⟩,_⟩:=I1.tuple (Ui (show (upd H d (.dK (iB [] (kvs.take i)))) pr=some (.tup [kV kvs[i].1,kvs[i].2]) by rw [au hpd]; exact hpr));obtain ⟨v1,v2,rfl,r1,r2⟩:=rj.two;have hT:({ s with heap:=h' }:sr).TypeIs (.ref pr) "tuple" := ⟨oj,gj,cj⟩;refine ac (gv ?_);refine ac (wpAny_tryCatch ?_);unfold uA.Dict.pairItems;refine ac (wpAny_typeOf hT ?_);rw [dC (by decide)];refine ac (gN gj dj (ay ?_));show ut _ _ (TF [v1,v2] (dictSet d v1 v2)) _ _ _;refine gv (Rk I1 ak ?_ r1 r2 fun h2 sb2 I2=>?_)
  ·have:=qp (kvs.take i) [];rw [cf,de] at this;omega
  rw [jM] at I2
  have et:kvs.take (i+1)=kvs.take i++[kvs[i]]:=by
   rw [List.take_succ,af hlt];rfl
  rw [<- Af,<- et] at I2;refine ay ⟨my pQ _,?_⟩;exact ih (i+1) _ ‹23› hlt I2 (hit'.extBut sb2.extBut hid) hf hi0
end
section
variable {X:Cx}
inductive rM (xs:LV) (H:Hp) (Q:VK):Prop
 | mk (a ps kvs:_):xs=[.ref a]->H a=some (.tup ps)->zc H ps kvs->kvs.length<=1000->(∀ d,H d=none->Q (.ref d) (upd H d (.dK (iB [] kvs))))->rM xs H Q
theorem Bv(hc:X.calm=true):iz X (.type "dict") rM:=by
 intro pins s σ H xs us Q I r h;obtain ⟨a,ps,kvs,rfl,ha,hp,hn,q⟩:=h;obtain ⟨u,rfl,ru⟩:=vals1 r;cases ru;have hh:X.A.handled=none:=I.ok.hd hc;refine callType_codes (Q₁:=fun obj s₁=>obj=.ref s.heap.objs.size/\s₁={ s with heap:=s.heap.push { cls:=.type "dict",data:=.dict #[] } }) F.kt_called_dict (F.kt_typeCall_dict_1 _) F.entry_dict_init (kt_code_dict_new _ ⟨rfl,rfl⟩) ?_;rintro obj s₁ ⟨rfl,rfl⟩;have hd:H s.heap.objs.size=none:=I.hok.fresh (am _)
 have I1:Inv X pins σ (upd H s.heap.objs.size (.dK [])) { s with heap:=s.heap.push { cls:=.type "dict",data:=.dict #[] } }:=
  I.laid (t':=s.toks) (fun b o e=>ai _ e) (am _) (zm s.heap (dS I.big (am _)))
 have had:a≠s.heap.objs.size:=aB ha hd;have ha1:(upd H s.heap.objs.size (.dK [])) a=some (.tup ps):=by rw [au had]; exact ha
 obtain ⟨⟨_,nd⟩,its,rv,o,go,co,n,dto⟩:=I1.hok a _ ha1;have hnew:(s.heap.push { cls:=.type "dict",data:=.dict #[] }).DictOf (cC X.prog X.w) s.heap.objs.size []:=Heap.DictOf.new s.heap;refine⟨hnew.typeIs,F.args_dict_init_2 _ _,?_⟩;unfold uA.«dict.__init__»;refine ac ?_;unfold uA.Dict.selfAndRest;refine ac (wpAny_notOrdered_dict hnew.typeIs ?_);show ut _ _ (Eg (s.heap.objs.size,[wy a])) _ _ _;refine ay ?_;show ut _ _ (uA.Dict.updateFrom "dict.__init__" s.heap.objs.size (.ref a) [] .none) _ _ _;unfold uA.Dict.updateFrom;have hT:({ s with heap:=s.heap.push { cls:=.type "dict",data:=.dict #[] } }:sr).TypeIs (.ref a) "tuple" := ⟨o,go,co⟩;refine ac (wpAny_typeOf hT ?_);rw [dC (by decide)];refine ac (Gf go co dto (nd o go) hh fun h2 tk2 k2=>?_);rw [dC (by rfl)];have I2:=I1.kept (t':=tk2) k2;refine ac (jS ?_);refine ac (wpAny_pyIter_tuple (show Heap.IsTuple h2 a its.toArray from ⟨o,k2 a o go,co,n,dto⟩) ?_);have I3:=I2.kept (t':=tk2) (h':=h2.push { cls:=.type "tuple_iterator",data:=.fields #[.ref a,.int 0 0] }) fun b o e=>ai _ e
 have hle:s.heap.objs.size < h2.objs.size:=by
  obtain ⟨o',e'⟩:∃ o',(s.heap.push { cls:=.type "dict",data:=.dict #[] }).get? s.heap.objs.size=some o':=⟨_,aS _ rfl⟩;exact bu (k2 _ _ e')
 have hif:(upd H s.heap.objs.size (.dK [])) h2.objs.size=none:=I2.hok.fresh (am _);refine ay ⟨my pQ _,?_⟩;have al:a < h2.objs.size:=bu (k2 a o go);have hi0:H h2.objs.size=none:=by rw [au (fz hle)] at hif; exact hif
 refine MK (A:=X.A.in1) (H:=H) (a:=a) (d:=s.heap.objs.size) (it:=h2.objs.size) (xs:=ps) (kvs:=kvs) hh ha hp hn hd (fz hle) (fz al) (fun s' I'=>?_) kvs.length 0 _ (by simp) (bn _) I3 ⟨_,aS _ rfl,rfl,rfl⟩ (fun H' hH'=>?_) hi0
 ·exact⟨rfl,⟨.ref s.heap.objs.size,_,I',rfl,q _ hd⟩⟩
 ·obtain ⟨g1,g2⟩:=I2.nZ (am _) hif;exact⟨hH',g2⟩
end
end L2
end
section
namespace L2
open PySem PySem.Spec PyProof.Rows PySem.W
variable {n:Nat}{a:Addr}{Q:ES}
def KOk{α:Type}(n:Nat)(P:α->Prop):KasT α->Prop
 | .ret a=>P a
 | .ask i j k=>i < n/\j < n/\∀ b,KOk n P (k b)
theorem KOk.bind{α β:Type}{n:Nat}{P:α->Prop}{Q:β->Prop}{f:α->KasT β}(hf:∀ a,P a->KOk n Q (f a)):∀ {t:KasT α},KOk n P t->KOk n Q (t.bind f)
 | .ret a,h=>hf a h
 | .ask i j k,h=>⟨h.1,h.2.1,fun b=>KOk.bind hf (h.2.2 b)⟩
theorem KOk.wp{α:Type}{n:Nat}{P:α->Prop}{Q:α->sr->Prop}{s:sr}{cmp:Nat->Nat->(Bool->sr->Prop)->sr->Prop}(hc:∀ i j C,i < n->j < n->(∀ b,C b s)->cmp i j C s)(hq:∀ a,P a->Q a s):∀ {t:KasT α},KOk n P t->t.kasWp cmp Q s
 | .ret a,h=>hq a h
 | .ask i j k,h=>hc i j _ h.1 h.2.1 fun b=>KOk.wp hc hq (h.2.2 b)
def Pm(n:Nat)(p:Array Nat):Prop:=p.Perm (List.range n).toArray
theorem Pm.lt{p:Array Nat}(h:Pm n p)(h0:0 < n)(i:Nat):p.getD i 0 < n:=by
 by_cases hi:i < p.size
 ·have e:p.getD i 0=p[i]:=by simp [Array.getD,hi]
  rw [e];have m:p[i]∈(List.range n).toArray:=h.mem_iff.mp (Array.getElem_mem hi);simpa using m
 ·have e:p.getD i 0=0:=by simp [Array.getD,hi]
  rw [e];exact h0
theorem Pm.rev{p:Array Nat}(h:Pm n p)(i j:Nat):Pm n (kas_rev p i j):=Array.Perm.trans (mirror_perm p i j _) h
theorem Pm.bub{p:Array Nat}(h:Pm n p)(k d:Nat):Pm n (bubble p k d):=Array.Perm.trans (bubble_perm p k d) h
section
variable {n:Nat}(h0:0 < n)
include h0
theorem CN{p:Array Nat}(h:Pm n p):∀(f m:Nat),KOk n (fun _=>True) (kas_asc p f m)
 | 0,m=>trivial
 | f+1,m=>⟨h.lt h0 _,h.lt h0 _,fun b=>by
   cases b with
   | true=>exact trivial
   | false=>exact CN h f (m+1)⟩
theorem uH:∀(f:Nat) {p:Array Nat} (m q:Nat),Pm n p->KOk n (fun r=>Pm n r.1) (kas_desc f p m q)
 | 0,p,m,q,h=>h
 | f+1,p,m,q,h=>⟨h.lt h0 _,h.lt h0 _,fun b=>by
   cases b with
   | true=>
    show KOk n _ (if true=true then _ else _);rw [dC rfl];split
    ·exact uH f _ _ (h.rev _ _)
    ·exact uH f _ _ h
   | false=>
    refine⟨h.lt h0 _,h.lt h0 _,fun d=>?_⟩;cases d with
    | true=>exact h
    | false=>exact uH f _ _ h⟩
theorem Ah(m nrem:Nat){p:Array Nat}(h:Pm n p):KOk n (fun r=>Pm n r.2) (kas_tail3 m nrem p):=by
 unfold kas_tail3;refine KOk.bind (P:=fun _=>True) (fun a _=>?_) (CN h0 (h.rev 0 m) _ _);exact h.rev 0 m
theorem ur(m nrem:Nat){p:Array Nat}(h:Pm n p):KOk n (fun r=>Pm n r.2) (kas_descPart m nrem p):=by
 refine KOk.bind (fun r hr=>?_) (uH h0 _ _ _ h);split
 ·exact Ah h0 _ _ (hr.rev _ _)
 ·exact Ah h0 _ _ hr
theorem Il(nrem:Nat){p:Array Nat}(h:Pm n p):KOk n (fun r=>Pm n r.2) (kas_count nrem p):=by
 refine KOk.bind (fun r _=>?_) (CN h0 h _ _);split
 ·exact h
 ·split
  ·refine⟨h.lt h0 _,h.lt h0 _,fun b=>?_⟩;cases b with
   | true=>exact h
   | false=>exact ur h0 _ _ (h.rev _ _)
  ·exact ur h0 _ _ h
theorem vp{p:Array Nat}(h:Pm n p)(k:Nat):∀(f l r:Nat),KOk n (fun _=>True) (kas_place p k f l r)
 | 0,l,r=>trivial
 | f+1,l,r=>by
  unfold kas_place;split
  ·exact trivial
  ·refine⟨h.lt h0 _,h.lt h0 _,fun b=>?_⟩;cases b with
   | true=>exact vp h k f _ _
   | false=>exact vp h k f _ _
theorem Kz:∀(f:Nat) {p:Array Nat} (k:Nat),Pm n p->KOk n (Pm n) (kas_bin f p k)
 | 0,p,k,h=>h
 | f+1,p,k,h=>KOk.bind (fun l _=>Kz f (k+1) (h.bub _ _)) (vp h0 h k _ _ _)
theorem El:KOk n (Pm n) (kas_sort n):=by
 refine KOk.bind (fun r hr=>?_) (Il h0 n (Array.Perm.refl _));split
 ·exact Kz h0 _ _ hr
 ·exact hr
end
theorem Pm.out{vs:LU}{p:Array Nat}(h:Pm vs.length p):(p.toList.map fun i=>vs.getD i yf).Perm vs:=by
 have h1:p.toList.Perm (List.range vs.length):=by simpa using h.toList
 have h2:=h1.map fun i=>vs.getD i yf
 have h3:(List.range vs.length).map (fun i=>vs.getD i yf)=vs:=by
  apply List.ext_getElem (by simp);intro i a b;simp [b]
 rw [h3] at h2;exact h2
section
variable {prog:uv}{w:xf}{A:xn}{E:ES}{s:sr}
structure Qt (prog:uv) (w:xf) (A:xn) (κ:SortKind) (vs:LU) (h:Heap):Prop where
 kind:∀ (s':sr) (Q:SortKind->sr->Prop) (E:ES),(∀ b o,h.get? b=some o->s'.heap.get? b=some o)->Q κ s'->ut ‹18› A (keyKind' vs.toArray) Q E s'
 lt:∀ x∈vs,∀ y∈vs,∀ (s':sr) (C:Bool->sr->Prop),(∀ b o,h.get? b=some o->s'.heap.get? b=some o)->(∀ b,C b s')->ut ‹18› A (keyLt' κ x y) C (fun _ _=>False) s'
theorem wG{vs:LU}{P:Fin->sr->Prop}{h₀:Heap}{κ:SortKind}(ho:s.heap.get? a=some (seqObj "list" vs.toArray n))(h64:vs.length < 64)(keep:∀ b o,h₀.get? b=some o->s.heap.get? b=some o/\b≠a)
  (hc:2<=vs.length->Qt prog w A κ vs h₀)
  (h:∀ out:AV,out.toList.Perm vs->P (.done (.ret .none)) { s with heap:=sortedHeap s.heap a vs out }) :
  ut ‹18› A (uA.«list.sort» ⟨[.ref a],[]⟩) P E s:=by
 rw [list_sort_plain];have ha:a < s.heap.objs.size:=bu ho;refine ac (listItems_at ho rfl ?_);refine ac (mB ho rfl ?_ (by rw [bb,ci]; omega) (bn _));obtain ⟨e1,ho1⟩:∃ e1,(s.heap.update a (xm fun _=>#[])).get? a=some (seqObj "list" #[] e1):=⟨_,pe ho (fun _=>#[])⟩;refine ac (seqEpoch_at ho1 rfl ?_);refine ac (nz ?_ (by show vs.length<=_; rw [ci]; omega));refine ac (qE ?_ (bn _));refine gv ?_
 have ho6:(((s.heap.update a (xm fun _=>#[])).push (seqObj "tuple" vs.toArray 0)).push ‹11›).get? a=some (seqObj "list" #[] e1):=by
  rw [kF _ _ _ (by rw [size_push',lL]; exact dE (li ha)),kF _ _ _ (by rw [lL]; exact dE ha)];exact ho1
 have kp:∀ b o,h₀.get? b=some o->(((s.heap.update a (xm fun _=>#[])).push (seqObj "tuple" vs.toArray 0)).push ‹11›).get? b=some o:=fun b o e=>by
  obtain ⟨e',ne⟩:=keep b o e;exact ai _ (ai _ ((gL _ _ (kq ne)).trans e'))
 show ut ‹18› A _ P E { s with heap:=((s.heap.update a (xm fun _=>#[])).push (seqObj "tuple" vs.toArray 0)).push ‹11› };dsimp only;have hsz:vs.toArray.size=vs.length:=by simp
 have fin:∀ st':SortSt,failedOf st'=none->((arrOf st').map (·.2)).toList.Perm vs->ut ‹18› A (do
   let touched:=(<- seqEpoch a) != e1
   uA.List.listUpdate (.ref a) fun _=>(arrOf st').map (·.2)
   if let some e:=failedOf st' then rule "list.sort.comparison-raised"; throw e
   if touched then rule "list.sort.modified"; raiseError "ValueError" "list modified during sort"
   ret .none) P E { s with heap:=((s.heap.update a (xm fun _=>#[])).push (seqObj "tuple" vs.toArray 0)).push ‹11› }:=fun st' hf hp=>by
  refine ac (seqEpoch_at ho6 rfl ?_)
  refine ac (mB ho6 rfl ?_ (bn _) (by
   have:=hp.length_eq;rw [iF] at this;show ((arrOf st').map (·.2)).size<=_;rw [this,ci];omega))
  rw [hf];simp only [bne_self_eq_false,eI,ir];exact ay (h _ hp)
 by_cases h2:vs.toArray.size < 2
 ·rw [dC h2,dC h2];refine ac (ay ?_);rw [StateT.run_pure];refine ac (ay ?_);refine fin (SortSt.mk' general' (vs.toArray.zip vs.toArray) #[] 7 none) rfl ?_
  have e:((vs.toArray.zip vs.toArray).map (·.2)).toList=vs:=by
   simp only [List.zip_toArray,List.map_toArray];exact List.map_snd_zip (am _)
  show ((vs.toArray.zip vs.toArray).map (·.2)).toList.Perm vs;rw [e]
 ·rw [cK h2,cK h2];rw [hsz] at h2;have C:=hc ‹23›;refine ac (C.kind _ _ _ kp ?_)
  refine ac (fT (kat_run (ks:=vs) (Q:=fun st' s'=>s'={ s with heap:=((s.heap.update a (xm fun _=>#[])).push (seqObj "tuple" vs.toArray 0)).push ‹11› }/\failedOf st'=none/\((arrOf st').map (·.2)).toList.Perm vs)
   (G:=fun p s'=>s'={ s with heap:=((s.heap.update a (xm fun _=>#[])).push (seqObj "tuple" vs.toArray 0)).push ‹11› }/\Pm vs.length p) rfl ‹23› h64 (fun p st' s' _ e1 e2 ⟨e3,e4⟩=>⟨e3,e2,?_⟩) ?_) ?_ fun _ _ e=>e)
  ·rw [kat_snds rfl e1];exact e4.out
  ·refine KOk.wp (fun i j Cc hi hj hC=>?_) (fun p hp=>⟨rfl,hp⟩) (El ‹23›)
   have gm:∀ i,i < vs.length->vs.getD i yf∈vs:=fun i hi=>by
    have:vs.getD i yf=vs[i]:=by simp [hi]
    rw [this];exact dm hi
   exact C.lt _ (gm i hi) _ (gm j hj) _ _ kp hC
  ·rintro ⟨⟨⟩,st'⟩ s' ⟨rfl,hf,hp⟩;exact fin st' hf hp
theorem Br{l:Addr}{vs:LU}{κ:SortKind}(hl:s.heap.IsList l vs.toArray)(h64:vs.length < 64)(hc:2<=vs.length->Qt prog w A.in1.in1 κ vs s.heap)
  (h:∀ out:AV,out.toList.Perm vs->Q (.ref ‹7›) { s with heap:=sortedAll s.heap vs out }) :
  ut ‹18› A (call (.builtin "sorted") [.ref l]) Q E s:=by
 refine Calls.call_function_entry kind_sorted plain_sorted entry_sorted (args_sorted1 _) ?_;unfold uA.«sorted»;refine ac (m:=checkCount "sorted" 1 1 _) (ay ?_);refine ac (collect_list hl ?_ (by rw [ci]; omega));refine ac (qE ?_ (by rw [ci]; omega))
 have hsz:((s.heap.push ‹11›).update s.heap.objs.size (xm (·++vs.toArray))).objs.size=s.heap.objs.size+1:=by
  rw [lL,size_push']
 have hoL:(((s.heap.push ‹11›).update s.heap.objs.size (xm (·++vs.toArray))).push (seqObj "list" vs.toArray 0)).get? ‹7›=some (seqObj "list" vs.toArray 0):=by
  rw [<- hsz]; exact aS _ rfl
 have keep:∀ b o,s.heap.get? b=some o->(((s.heap.push ‹11›).update s.heap.objs.size (xm (·++vs.toArray))).push (seqObj "list" vs.toArray 0)).get? b=some o/\b≠s.heap.objs.size+1:=fun b o q=>by
  have hlt:b < s.heap.objs.size:=bu q;refine⟨?_,dE (li hlt)⟩;rw [kF _ _ _ (by rw [hsz]; exact dE (li hlt)),Heap.get?_update_ne _ _ _ _ (dE hlt),kF _ _ _ (dE hlt)];exact q
 show ut _ _ _ _ _ { s with heap:=((s.heap.push ‹11›).update s.heap.objs.size (xm (·++vs.toArray))).push (seqObj "list" vs.toArray 0) };rw [hsz];refine ac (gv (hU slot_list_sort ⟨_,hoL,rfl⟩ entry_list_sort (wG hoL h64 keep hc fun out a1=>⟨_,rfl,?_⟩) (args_list_sort _)));exact ay ⟨_,rfl,h out a1⟩
end
theorem Vals.perm:∀ {us ws:LU},us.Perm ws->∀ {xs:LV},Vals xs ws->∃ ys,ys.Perm xs/\Vals ys us:=by
 intro us ws h
 induction h with
 | nil=>exact fun {xs} r=>⟨xs,.refl _,r⟩
 | cons a _ ih=>
  intro xs r;cases r with
  | cons q t=>
   obtain ⟨ys,p,r'⟩:=ih t;exact⟨_::ys,p.cons _,.cons q r'⟩
 | swap a b l=>
  intro xs r;cases r with
  | cons q t=>
   cases t with
   | cons q' t'=>exact⟨_,.swap _ _ _,.cons q' (.cons q t')⟩
 | trans _ _ i1 i2=>
  intro xs r;obtain ⟨ys,p,r'⟩:=i2 r;obtain ⟨zs,p',r''⟩:=i1 r';exact⟨zs,p'.trans p,r''⟩
end L2
end
section
namespace L2
open PySem PySem.Spec PyProof.Rows
variable {J:It}{i n:Nat}{fr:List Nat}{te tl:TE}{σ:St}{D a p q:Addr}{A:xn}{H H':Hp}{o:HO}{K:PySem.W.Frag}{xs:LV}{tg:Expr}{pins:LO}{R:Result->sr->Prop}
theorem Hw:ye "sorted" = some (.builtin "sorted"):=by decide +kernel
theorem M9:ye "dict" = some (.type "dict"):=by decide +kernel
section
variable {X:Cx}{K:PySem.W.Frag}
theorem BZ(h:X.K=K)(hc:X.calm=true):iz X (.builtin "any") (qX K):=by subst h; exact HY hc
end
theorem dD{own:Nat}{g:TG}{tc:TT}{Q:VK}{H0:Hp}(Pv:Nat->LV->Hp->Prop)(h0:Pv 0 [] H0)(stop:∀ ys H,Pv n ys H->J.stop n H/\Q (.ref D) H)
  (go:∀ i ys H,i < n->Pv i ys H->J.go i H/\∀ x H',J.yld i H x H'->∀ σo:St,σo.length=own->g x (σo++frv σ fr) H' fun σ2 H2=>(∃ σo':St,σo'.length=own/\σ2=σo'++frv σ fr)/\
   tc σ2 H2 fun b H3=>if b=true then te σ2 H3 fun y H4=>ys.length < sizeLine/\H4 D=some (.lst ys)/\∃ m',m' < n - i/\(m'=n - (i+1)/\i+1<=n/\Pv (i+1) (ys++[y]) (upd H4 D (.lst (ys++[y])))) else ∃ m',m' < n - i/\(m'=n - (i+1)/\i+1<=n/\Pv (i+1) ys H3)) :
  wL own fr g tc te σ Q J D H0:=by
 refine⟨fun i m ys H=>m=n - i/\i<=n/\Pv i ys H,⟨n,by simp,bn _,h0⟩,?_⟩;rintro i m ys H ⟨rfl,hi,p⟩
 by_cases hlt:i < n
 ·exact .inr (go i ys H hlt p)
 ·have e:i=n:=by omega
  subst e;exact .inl (stop ys H p)
theorem bV(h:i < n){P:Prop}(p:P):∃ m',m' < n - i/\(m'=n - (i+1)/\i+1<=n/\P):=⟨n - (i+1),by omega,rfl,h,p⟩
theorem own1{σo:St}(h:σo.length=1):∃ o,σo=[o]:=by
 cases σo with
 | nil=>cases h
 | cons o r=>
  cases r with
  | nil=>exact⟨o,rfl⟩
  | cons _ _=>cases h
theorem Q9{σo:St}(h:σo.length=2):∃ o o',σo=[o,o']:=by
 cases σo with
 | nil=>cases h
 | cons o r=>
  cases r with
  | nil=>cases h
  | cons o' r=>
   cases r with
   | nil=>exact⟨o,o',rfl⟩
   | cons _ _=>cases h
theorem tV{α β:Type}{f:α->β}:∀ {l:List α},(∀ a∈l,∀ b∈l,f a=f b->a=b)->l.Nodup->(l.map f).Nodup
 | [],_,_=>kM
 | a::r,hi,hn=>by
  obtain ⟨h1,h2⟩:=gI.mp hn;rw [eB];refine gI.mpr ⟨fun m=>?_,tV (fun x hx y hy=>hi x (cz _ hx) y (cz _ hy)) h2⟩;obtain ⟨b,hb,e⟩:=eA.mp m;exact h1 (hi b (cz _ hb) a bE e ▸ hb)
theorem jO{α:Type}[DecidableEq α]:∀ {l m:List α},l.Nodup->(∀ x∈l,x∈m)->l.length<=m.length
 | [],_,_,_=>bn _
 | a::r,m,hn,hs=>by
  obtain ⟨h1,h2⟩:=gI.mp hn;have hm:a∈m:=hs a bE
  have:=jO (l:=r) (m:=m.erase a) h2 fun x hx=>by
   have ne:x≠a:=fun e=>h1 (e ▸ hx);exact(List.mem_erase_of_ne ne).mpr (hs x (cz _ hx))
  have e:=List.length_erase_of_mem hm;have p:0 < m.length:=List.length_pos_of_mem hm;rw [ar];omega
theorem R6{k:Nat}(hr:iD k A):A.units+10 < cLine:=by
 have:=hr.units;omega
inductive Pu (H:Hp) (p:Addr):Prop
 | mk (a b c:Int):H p=some (.lst [.int a,.int b,.int c])->Pu H p
theorem Pu.ne{u:Addr}{us:LS}(h:Pu H p)(g:H u=some (.lst (us.map V.str))):u≠p:=by
 obtain ⟨a,b,c,e⟩:=h;exact(bI e g M6).symm
theorem Pu.upd{a b c:Int}:Pu (upd H p (.lst [.int a,.int b,.int c])) p:=⟨a,b,c,ak⟩
abbrev Up:=@Pu.upd
theorem Pu.same(h:Pu H p)(s:Same H H'):Pu H' p:=by
 obtain ⟨a,b,c,e⟩:=h;exact⟨a,b,c,s p _ e⟩
theorem Pu.neN(h:Pu H p)(g:H q=none):p≠q:=by
 obtain ⟨a,b,c,e⟩:=h;exact aB e g
theorem Pu.au(h:Pu H p)(g:p≠q):Pu (L2.upd H q o) p:=by
 obtain ⟨a,b,c,e⟩:=h;exact⟨a,b,c,by rw [L2.au g]; exact e⟩
theorem cG{c A B:Prop}[Decidable c](h:c)(a:A):if c then A else B:=by
 rw [dC h];exact a
theorem bF{c A B:Prop}[Decidable c](h:¬ c)(b:B):if c then A else B:=by
 rw [cK h];exact b
def abc:Str:= "abcdefghijklmnopqrstuvwxyz"
def letters:LS:=abc.cps.toList.map fun c=>⟨#[c]⟩
theorem uw:letters.length=26:=by decide +kernel
theorem yG:abc.cps.size=26:=by decide +kernel
theorem lU:∀ x∈letters,x.length=1:=by
 intro x hx;obtain ⟨c,_,rfl⟩:=eA.mp hx;rfl
theorem wD:letters.Nodup:=by decide +kernel
theorem zA{a b z:Str}(ha:a.length=1)(hb:b.length=1)(h:a++z=b++z):a=b:=by
 obtain ⟨⟨a⟩⟩:=a;obtain ⟨⟨b⟩⟩:=b
 have h':(a++z.cps.toList)=(b++z.cps.toList):=by
  have e:∀ y:List Nat,((⟨⟨y⟩⟩:Str)++z).cps.toList=y++z.cps.toList:=fun y=>by
   show ((⟨y⟩:Array Nat)++z.cps).toList=_;rw [Array.toList_append]
  rw [<- e,<- e,h]
 have:=List.append_cancel_right h';rw [this]
theorem uz(a b:Str):(a++b).length=a.length+b.length:=by
 show (a.cps++b.cps).size=_;rw [Array.size_append];rfl
theorem zH{us:LS}(h:us.length<=25)(z:Str):∃ c∈letters,¬ (c++z)∈us:=by
 apply gE;intro hn;have all:∀ c∈letters,(c++z)∈us:=fun c hc=>gE fun hx=>hn ⟨c,hc,hx⟩
 have nd:(letters.map (·++z)).Nodup:=by
  exact tV (fun a ha b hb e=>zA (lU a ha) (lU b hb) e) wD
 have:=jO nd fun x hx=>by
  obtain ⟨c,hc,rfl⟩:=eA.mp hx;exact all c hc
 rw [aa,uw] at this;omega
theorem Ge(z:Str)(lo hi:Option Int):(BV z lo hi).length<=z.length:=qh z lo hi
theorem IW{g:TG}{tb:TS}{D:Ends}(Pv:Nat->St->Hp->Prop)(h0:Pv 0 σ H)(hl:∀ i σ H,i<=xs.length->Pv i σ H->SqL K H a xs)
  (hs:∀ i x σ H p,xs[i]?=some x->Pv i σ H->H p=none->g (.ref p) σ (upd H p (.tup [.int i,x])) fun σ2 H2=>tb { D with nx:=Pv (i+1),ct:=Pv (i+1),bk:=D.nx } σ2 H2) (hd:∀ σ H,Pv xs.length σ H->D.nx σ H) :
  ∃ W:Nat->Nat->St->Hp->Prop,(∃ m,W 0 m σ H)/\∀ i m σ H,W i m σ H->
   ((Ite K a).stop i H/\D.nx σ H)\/((Ite K a).go i H/\∃ N:St->Hp->Prop,(∀ σ' H',N σ' H'->∃ m',m' < m/\W (i+1) m' σ' H')/\∀ x H',(Ite K a).yld i H x H'->g x σ H' fun σ2 H2=>tb { D with nx:=N,ct:=N,bk:=D.nx } σ2 H2):=by
 refine⟨fun i m σ H=>m=xs.length - i/\i<=xs.length/\Pv i σ H,⟨xs.length,by simp,bn _,h0⟩,?_⟩;rintro i m σ H ⟨rfl,hi,p⟩;have q:=hl i σ H hi p
 by_cases hlt:i < xs.length
 ·refine .inr ⟨⟨xs,xs[i],q,by simp [hlt]⟩,Pv (i+1),fun σ' H' p'=>⟨xs.length - (i+1),by omega,rfl,hlt,p'⟩,fun x H' y=>?_⟩;obtain ⟨r,hr,rfl,y⟩:=y;have e:=y xs xs[i] q (by simp [hlt]);subst e;exact hs i xs[i] σ _ r (by simp [hlt]) p hr
 ·have e:i=xs.length:=by omega
  subst e;exact .inl ⟨⟨xs,q,am _⟩,hd σ H p⟩
section
variable {X:Cx}{K:PySem.W.Frag}
inductive QZ (K:PySem.W.Frag) (x:V) (y:V) (H:Hp) (Q:VK):Prop
 | mk (a b:Addr) (xs:LV):x=.ref a->y=.ref b->SqL K H a xs->SqL K H b []->Q (.bl (!xs.isEmpty)) H->QZ K x y H Q
inductive RW (K:PySem.W.Frag) (x:V) (y:V) (H:Hp) (Q:VK):Prop
 | mk (a b:Addr) (xs:LV):x=.ref a->y=.ref b->SqL K H a xs->SqL K H b []->Q (.bl xs.isEmpty) H->RW K x y H Q
theorem KH(hK:X.K=K)(hu:X.A.units < cLine):OpR X (yo .NotEq) (QZ K):=by
 subst hK;intro pins s σ H x y v u Q I rx ry h;obtain ⟨a,b,xs,rfl,rfl,ha,hb,q⟩:=h;cases rx;cases ry;obtain ⟨its,r,p,_⟩:=I.list ha;obtain ⟨its2,r2,p2,_⟩:=I.list hb;have e2:its2=[]:=r2.lX.mpr rfl;subst e2;cases xs with
 | nil=>
  have e1:its=[]:=r.lX.mpr rfl;subst e1;exact SeqAt.RcNeAt.lists (A:=X.A) (s:=s) (e:=fun _=>true) p.isList p2.isList rfl hu (fun j h1 _=>by simp at h1) X.prog X.w X.xe _ ⟨.bl false,H,I,rfl,q⟩
 | cons x0 xr=>
  have hl:=r.length;refine SeqAt.RcNeAt.lists_lengths (A:=X.A) (s:=s) p.isList p2.isList ?_ hu X.prog X.w X.xe _ ⟨.bl true,H,I,rfl,q⟩;rw [ar] at hl;have:its.length≠0:=by omega
  simpa using this
theorem QS(hK:X.K=K)(hu:X.A.units < cLine):OpR X (yo .Eq) (RW K):=by
 subst hK;intro pins s σ H x y v u Q I rx ry h;obtain ⟨a,b,xs,rfl,rfl,ha,hb,q⟩:=h;cases rx;cases ry;obtain ⟨its,r,p,_⟩:=I.list ha;obtain ⟨its2,r2,p2,_⟩:=I.list hb;have e2:its2=[]:=r2.lX.mpr rfl;subst e2;cases xs with
 | nil=>
  have e1:its=[]:=r.lX.mpr rfl;subst e1;exact SeqAt.RcAt.lists (A:=X.A) (s:=s) (e:=fun _=>true) p.isList p2.isList rfl hu (fun j h1 _=>by simp at h1) X.prog X.w X.xe _ ⟨.bl true,H,I,rfl,q⟩
 | cons x0 xr=>
  have hl:=r.length;refine SeqAt.RcAt.lists_lengths (A:=X.A) (s:=s) p.isList p2.isList ?_ hu X.prog X.w X.xe _ ⟨.bl false,H,I,rfl,q⟩;rw [ar] at hl;have:its.length≠0:=by omega
  simpa using this
inductive NT (K:PySem.W.Frag) (R:It->Hp->Prop) (x:V) (H1:Hp):Prop
 | mk (a:_):x=.ref a->((∃ xs,SqT K H1 a xs/\R (Itt K a) H1)\/∃ xs,SqL K H1 a xs/\R (Itl K a) H1)->NT K R x H1
def S5(K:PySem.W.Frag)(tl:TE):TI:=fun σ H R=>tl σ H fun x H1=>NT K R x H1
theorem vd{l:Expr}(hl:PE X l tl)(hK:X.K=K):PI X tg l (S5 K tl):=by
 subst hK;intro pins s σ H R I h;refine thn (hl pins s σ H _ I h) fun v s1 ⟨x,H1,I1,r1,a,e,q1⟩=>?_;subst e;cases r1;rcases q1 with ⟨xs,hq,q⟩ | ⟨xs,hq,q⟩
 ·obtain ⟨its,rv,p,hz⟩:=I1.tuple hq;refine wpAny_pyIter_tuple (show s1.heap.IsTuple a its.toArray from p) ?_;refine⟨s1.heap.objs.size,[s1.heap.objs.size],_,_,H1,rfl,I1.kept (t':=s1.toks) fun b o e=>ai _ e,uW a _,⟨_,aS _ rfl,rfl,rfl⟩,fun b hb=>?_,q⟩;have e:b=s1.heap.objs.size:=by simpa using hb
  subst e;exact I1.nZ (am _) (I1.hok.fresh (am _))
 ·obtain ⟨its,rv,p,hz⟩:=I1.list hq;refine wpAny_pyIter_list p.isList ?_;refine⟨s1.heap.objs.size,[s1.heap.objs.size],_,_,H1,rfl,I1.kept (t':=s1.toks) fun b o e=>ai _ e,sU a _,⟨_,aS _ rfl,rfl,rfl⟩,fun b hb=>?_,q⟩;have e:b=s1.heap.objs.size:=by simpa using hb
  subst e;exact I1.nZ (am _) (I1.hok.fresh (am _))
end
section
variable {X:Cx}{K:PySem.W.Frag}
inductive jm (H:Hp) (v:V) (ys:LV):Prop
 | mk (p:_):v=.ref p->(H p=some (.lst ys)\/H p=some (.tup ys))->jm H v ys
theorem Eh{it:Addr}{bs:List Bool}(tn:Nat->Heap->Prop)(hb:bs.length=xs.length)
  (item:∀(i:Nat) (hi:i < xs.length) (s:sr) (Q:Option rn->sr->Prop) (E:ES),Inv X pins σ H s->tn i s.heap->(∀ u h',RelV xs[i] u->Inv X pins σ H { s with heap:=h' }->tn (i+1) h'->Q (some u) { s with heap:=h' })->ut ‹6› A.in1 (Hn (.ref it)) Q E s)
  (done:∀(s:sr) (Q:Option rn->sr->Prop) (E:ES),Inv X pins σ H s->tn xs.length s.heap->(∀ h',Inv X pins σ H { s with heap:=h' }->Q none { s with heap:=h' })->ut ‹6› A.in1 (Hn (.ref it)) Q E s)
  (tru:∀(i:Nat) (hi:i < xs.length) (hj:i < bs.length),∃ ys,jm H xs[i] ys/\bs[i]=!ys.isEmpty)
  (hR:∀ s',Inv X pins σ H s'->R (.ok (.ret (.bool (bs.any _root_.id)))) s') :
  ∀(k i:Nat) (s:sr),xs.length - i=k->i<=xs.length->(∀(j:Nat) (hj:j < bs.length),j < i->bs[j]=false)->Inv X pins σ H s->tn i s.heap->HH ‹6› A (.builtin "any.loop" ⟨[.ref it],[]⟩) R s:=by
 intro k
 induction k with
 | zero=>
  intro i s hk hi hf I ht;have hin:i=xs.length:=by omega
  subst hin;refine kB F.entry_any_loop ?_;rw [jI lP _];show ut _ A.in1 (Hn (.ref it) >>= _) _ _ s;refine ac (done s _ _ I ht fun h' I'=>?_);refine ac (jS (ay ?_))
  have e:bs.any _root_.id=false:=by
   apply Bool.eq_false_iff.mpr;intro h;obtain ⟨b,hb',hb1⟩:=iX.mp h;obtain ⟨j,hj,rfl⟩:=gx hb';rw [hf j hj ‹23›] at hb1;cases hb1
  have:=hR _ I';rw [e] at this;exact this
 | succ k ih=>
  intro i s hk hi hf I ht;have hlt:i < xs.length:=by omega
  have hlb:i < bs.length:=by omega
  refine kB F.entry_any_loop ?_;rw [jI lP _];show ut _ A.in1 (Hn (.ref it) >>= _) _ _ s;refine ac (item i hlt s _ _ I ht fun u h' ru I' ht'=>?_);obtain ⟨ys,⟨p,ep,hp⟩,eb⟩:=tru i hlt hlb;rw [ep] at ru;cases ru;have hs:sizeLine=16777216:=ci;have hl63:=qQ
  have step:∀(s2:sr),Inv X pins σ H s2->s2.heap=h'->ut ‹6› A.in1 (do
    letGo [wy p]
    if bs[i]=true then do rule "any.true-item"; ret (.bool true) else again (.builtin "any.loop" ⟨[.ref it],[]⟩)) (fun fin s'=>(match fin with | .done f=>R (.ok f) s' | .again c=>Ud.quiet c/\HH ‹6› A c R s')) (fun e s'=>R (.error e) s') s2:=fun s2 I2 e2=>by
   refine ac (lx ?_);cases hbi:bs[i] with
   | true=>
    simp only [ku];refine ac (jS (ay ?_));have e:bs.any _root_.id=true:=iX.mpr ⟨bs[i],dm hlb,hbi⟩;have:=hR _ I2;rw [e] at this;exact this
   | false=>
    simp only [eI,ir];refine ay ⟨my lP _,ih (i+1) _ ‹23› hlt (fun j hj hji=>?_) I2 (by rw [e2]; exact ht')⟩
    by_cases hji':j=i
    ·subst hji';exact hbi
    ·exact hf j hj ‹23›
  rcases hp with hp | hp
  ·obtain ⟨its,r,pl,hz⟩:=I'.list (Uh hp);have hlen:=r.length;refine ac (gv (wpAny_truthy_list pl.isList (by simp only [bb]; omega) ?_));rw [oH r,<- eb];exact step _ (I'.tok _) rfl
  ·obtain ⟨its,r,pl,hz⟩:=I'.tuple (Ui hp);have hlen:=r.length;refine ac (gv (truthy_tuple pl (by simp only [bb]; omega) ?_));rw [oH r,<- eb];exact step _ (I'.tok _) rfl
end
section
variable {X:Cx}{K:PySem.W.Frag}
inductive uy (vs:LV) (H:Hp) (Q:VK):Prop
 | mk (p:Addr) (xs:LV) (bs:List Bool):vs=[.ref p]->(H p=some (.lst xs)\/H p=some (.tup xs))->bs.length=xs.length->(∀(i:Nat) (hi:i < xs.length) (hj:i < bs.length),∃ ys,jm H xs[i] ys/\bs[i]=!ys.isEmpty)->Q (.bl (bs.any _root_.id)) H->uy vs H Q
theorem Gn(hc:X.calm=true):iz X (.builtin "any") uy:=by
 intro pins s σ H xs us Q I r h;obtain ⟨p,xs,bs,rfl,hp,hb,tru,q⟩:=h;obtain ⟨u,rfl,ru⟩:=vals1 r;cases ru;have hh:X.A.handled=none:=I.ok.hd hc;refine call_function_tree F.kind_any F.plain_any F.entry_any (F.args_any1 _) ?_;unfold uA.«any»;refine ac (m:=oneArg "any" _) (ay ?_);rcases hp with hp | hp
 ·obtain ⟨its,rv,pl,hz⟩:=I.list (Uh hp);have hl:=rv.length;refine ac (wpAny_pyIter_list pl.isList ?_);have I1:=I.kept (t':=s.toks) (h':=s.heap.push { cls:=.type "list_iterator",data:=.fields #[.ref p,.int 0 0] }) fun b o e=>ai _ e;have fp:=I.nZ (am _) (I.hok.fresh (am s.heap.objs.size));obtain ⟨f0,f1,f2,f3,f4,f5⟩:=fp;refine ay ⟨my lP _,Eh (X:=X) (pins:=pins) (σ:=σ) (H:=H) (A:=X.A) (it:=s.heap.objs.size) (xs:=xs) (bs:=bs) (fun i h=>h.IsListIter s.heap.objs.size p i) hb ?_ ?_ tru (fun s' I'=>?_) xs.length 0 _ (by simp) (bn _) (by intro j hj h; omega) I1 ⟨_,aS _ rfl,rfl,rfl⟩⟩
  ·intro i hi s2 Q2 E2 I2 t2 k;obtain ⟨its2,rv2,pl2,_⟩:=I2.list (Uh hp);obtain ⟨u,hu,ru⟩:=rv2.get (i:=i) (x:=xs[i]) (af hi);exact wpAny_pyNext_list_item t2 pl2.isList (x:=u) (by simpa using hu) fun h' st' sb=>k u h' ru (I2.turned (t':=s2.toks) (fun b o hb e=>(sb.2 b hb).trans e) f0 f1 f3 f4 f5) st'
  ·intro s2 Q2 E2 I2 t2 k;obtain ⟨its2,rv2,pl2,_⟩:=I2.list (Uh hp);have hl2:=rv2.length;exact wpAny_pyNext_list_end hh t2 pl2.isList (by simp; omega) fun h' eb=>k h' (I2.turned (t':=s2.toks) (fun b o hb e=>eb b o hb e) f0 f1 f3 f4 f5)
  ·exact⟨.bl _,H,I',rfl,q⟩
 ·obtain ⟨its,rv,pl,hz⟩:=I.tuple (Ui hp);have hl:=rv.length;refine ac (wpAny_pyIter_tuple (show s.heap.IsTuple p its.toArray from pl) ?_);have I1:=I.kept (t':=s.toks) (h':=s.heap.push { cls:=.type "tuple_iterator",data:=.fields #[.ref p,.int 0 0] }) fun b o e=>ai _ e;have fp:=I.nZ (am _) (I.hok.fresh (am s.heap.objs.size));obtain ⟨f0,f1,f2,f3,f4,f5⟩:=fp;refine ay ⟨my lP _,Eh (X:=X) (pins:=pins) (σ:=σ) (H:=H) (A:=X.A) (it:=s.heap.objs.size) (xs:=xs) (bs:=bs) (fun i h=>h.IsTupleIter s.heap.objs.size p i) hb ?_ ?_ tru (fun s' I'=>?_) xs.length 0 _ (by simp) (bn _) (by intro j hj h; omega) I1 ⟨_,aS _ rfl,rfl,rfl⟩⟩
  ·intro i hi s2 Q2 E2 I2 t2 k;obtain ⟨its2,rv2,pl2,_⟩:=I2.tuple (Ui hp);obtain ⟨u,hu,ru⟩:=rv2.get (i:=i) (x:=xs[i]) (af hi);exact mS t2 (show s2.heap.IsTuple p its2.toArray from pl2) (x:=u) (by simpa using hu) fun h' st' sb=>k u h' ru (I2.turned (t':=s2.toks) (fun b o hb e=>sb.extBut b o hb e) f0 f1 f3 f4 f5) st'
  ·intro s2 Q2 E2 I2 t2 k;obtain ⟨its2,rv2,pl2,_⟩:=I2.tuple (Ui hp);have hl2:=rv2.length;exact nk hh t2 (show s2.heap.IsTuple p its2.toArray from pl2) (by simp; omega) fun h' eb=>k h' (I2.turned (t':=s2.toks) (fun b o hb e=>eb b o hb e) f0 f1 f3 f4 f5)
  ·exact⟨.bl _,H,I',rfl,q⟩
theorem LR(hK:X.K=K):SlR X (fun x lo hi H Q=>Mi K x lo hi H Q\/HS K x lo hi H Q):=by subst hK; exact K1.or uJ
theorem yI(hK:X.K=K):IxR X (fun x y H Q=>Gx K x y H Q\/Ht K x y H Q):=by subst hK; exact nH.or yt
end
end L2
end
section
namespace L2
open PySem PySem.Spec PyProof.Rows PySem.W
variable {Q:ES}
section
variable {prog:uv}{w:xf}{A:xn}{E:ES}{s:sr}{T:String}{r d:Addr}{n:Nat}{P:Nat->rn->Prop}{OK:Heap->Prop}
theorem zB{Q:LU->sr->Prop}(K:KdlSrc prog w T r d n P OK)(hh:A.handled=none)(hok:OK s.heap)(hn:n<=sizeLine)
  (hQ:∀ (h':Heap) (tk:Nat) (acc:AV),(∀ b o,s.heap.get? b=some o->h'.get? b=some o)->ItemsOf P acc n->Q acc.toList { s with heap:=h',toks:=tk }):ut ‹18› A (collect (.ref r)) Q E s:=by
 obtain ⟨l1,l2⟩:=K.there _ hok;unfold collect;refine ac (wpAny_runValue (kB F.entry_proto_collect ?_));rw [jI F.plain_proto_collect _];show ut _ A.in1 (newList [] >>= fun l=>again (.builtin "list.__iadd__" ⟨[l,.ref r],[]⟩)) _ _ s;refine ac (ik ?_);refine ay ⟨my F.plain_list_iadd _,kB F.entry_list_iadd ?_⟩;rw [jI F.plain_list_iadd _];show ut _ A.in1 (uA.List.listExtendWith (.ref s.heap.objs.size) (.ref r) (.ref s.heap.objs.size)) _ _ _
 have fin':∀ s':sr,(∃ (h':Heap) (tk:Nat) (acc:AV) (c:Nat),s'={ s with heap:=h',toks:=tk }/\(∀ b o,s.heap.get? b=some o->h'.get? b=some o)/\h'.get? s.heap.objs.size=some { cls:=.type "list",dict:=none,data:=.seq acc c,slots:=#[] }/\ItemsOf P acc n)->
   ut ‹18› A (do
    let o <- load s.heap.objs.size
    match o.data with
    | .seq xs _=>Eg xs.toList
    | _=>unsupported "internal:collect") Q E s':=by
  rintro s' ⟨h',tk,acc,c,rfl,kp,hS,hacc⟩;exact ac (wpAny_load hS (ay (hQ h' tk acc kp hacc)))
 refine fT (kdl_extend (s:={ s with heap:=s.heap.push { cls:=.type "list",data:=.seq ([]:LU).toArray } }) (A:=A)
  (R:=fun r' s'=>r'=.ok (.ret (.ref s.heap.objs.size))/\∃ (h':Heap) (tk:Nat) (acc:AV) (c:Nat),s'={ s with heap:=h',toks:=tk }/\(∀ b o,s.heap.get? b=some o->h'.get? b=some o)/\h'.get? s.heap.objs.size=some { cls:=.type "list",dict:=none,data:=.seq acc c,slots:=#[] }/\ItemsOf P acc n)
  K hh (K.keep _ _ hok fun b _ o e=>ai _ e) s.heap.objs.size (fz l1) (fz l2) _ 0 (aS _ rfl)
  (fun h' tk acc c kp hS hacc=>⟨rfl,h',tk,acc,c,rfl,fun b o e=>kp b o (dE (bu e)) (ai _ e),hS,hacc⟩) hn) (fun fin s' h=>?_) (fun e s' h=>?_)
 ·cases fin with
  | done f=>
   obtain ⟨e,h⟩:=h;cases e;exact fin' s' h
  | again c'=>exact⟨h.1,kQ h.2 fun r s'' hr=>by obtain ⟨rfl,hr⟩:=hr; exact fin' s'' hr⟩
 ·exact absurd h.1 (by simp)
theorem vC(K:KdlSrc prog w "dict" r d n P OK)(hh:A.handled=none)(hok:OK s.heap)(hn:n<=sizeLine)
  (hQ:∀ (h':Heap) (tk:Nat) (acc:AV),(∀ b o,s.heap.get? b=some o->h'.get? b=some o)->ItemsOf P acc n->Q (.ref h'.objs.size) { s with heap:=h'.push { cls:=.type "tuple",data:=.seq acc },toks:=tk }) :
  ut ‹18› A (call (.type "tuple") [.ref r]) Q E s:=by
 refine callType_codes (Q₁:=fun obj s₁=>s₁.TypeIs obj "tuple" /\ Q obj s₁) F.called_tuple (F.typeCall_tuple_1 _) F.entry_object_init (oC ‹3› F.entry_tuple_new (wpAny_of_eq (F.newCall_tuple_1 _) ?_)) fun obj s₁ h₁=>?_
 ·have hT:∀ tk',({ s with toks:=tk' }:sr).TypeIs (.ref r) "dict" := fun tk'=>K.type _ hok;obtain ⟨hp,g,dd,tk,os⟩:=s;have hsub:=sub_tuple_self;have hinit:=init_tuple_lookup;have hmh:=madeHere_tuple;have hT0:sr.TypeIs ⟨hp,g,dd,tk,os⟩ (.ref r) "dict" := hT tk
  wp_walk using wpAny_typeOf hT0,zB (A:=A.in1.in1) K hh hok hn
  intro h' tk' acc kp hacc;show ut _ _ (zb acc.toList.toArray >>= fun v=>ret v) _ _ _;unfold zb;refine ac (ik ?_ (by show acc.toList.toArray.size<=sizeLine; simp; rw [hacc.1]; exact hn));have e:acc.toList.toArray=acc:=by simp
  rw [e];refine ay ⟨⟨_,aS _ rfl,rfl⟩,hQ h' tk' acc kp hacc⟩
 ·exact⟨h₁.1,F.args_object_init_2 _ _,object_init_meets F.called_tuple.init.lookup F.called_tuple.made (by decide) prog w A.in1 _ s₁ ⟨h₁.1,rfl,h₁.2⟩⟩
end
end L2
end
section
namespace L2
open PySem PySem.Spec PyProof.Rows
variable {X:Cx}{a e:Addr}{i:Nat}{items:AV}{old:rn}{Q:ES}{H H':Hp}{v:V}{xs ys:LV}{K:PySem.W.Frag}{fr:List Nat}{td te ty:TE}{pins:LO}{σ:St}{s:sr}{kvs:LK0}{pos:Pos}
section
variable {X:Cx}
theorem Hh:∀(ks:LK0) (ws:List (Key × rn)) (us:LU),KV ks ws->us.length=ws.length->(∀(j:Nat) (v:rn),us[j]?=some v->∃ k x,ws[j]?=some (k,x)/\(cC X.prog X.w).is k v=true)->Vals (ks.map fun kv=>kV kv.1) us:=by
 intro ks ws us rr
 induction rr generalizing us with
 | nil=>
  intro hl _;cases us with
  | nil=>exact .nil
  | cons _ _=>cases hl
 | @cons p w' ks ws r t ih=>
  intro hl hi;cases us with
  | nil=>cases hl
  | cons u us=>
   obtain ⟨k,x,e1,e2⟩:=hi 0 u rfl;cases e1;exact .cons (by show RelV (kV p.1) u; rw [r.1]; exact Ji e2) (ih us (by simpa using hl) fun j v e=>hi (j+1) v e)
inductive qz (xs:LV) (H:Hp) (Q:VK):Prop
 | mk (d kvs:_):xs=[.ref d]->Rd H d (.dK kvs)->(∀ l,H l=none->Q (.ref l) (upd H l (.tup (kvs.map fun kv=>kV kv.1))))->qz xs H Q
theorem Al(hc:X.calm=true):iz X (.type "tuple") qz:=by
 intro pins s σ H xs us Q I r h;obtain ⟨d,kvs,rfl,hd,q⟩:=h;obtain ⟨u,rfl,ru⟩:=vals1 r;cases ru;have hh:X.A.handled=none:=I.ok.hd hc;obtain ⟨hz,hs,vs,rv,od,es,ep,ho,r1,r2,r3⟩:=(show dJ X.prog X.w H s.heap d (.dK kvs) from hd.ok I.hok);have hl:vs.length=kvs.length:=(eM rv).symm;refine vC (PySem.W.kdl_dict (knd:=cC X.prog X.w) (kvs:=vs) (ep:=ep) hs) hh ⟨_,_,ho,r1,r2,r3⟩ ‹23› fun h' tk acc kp it=>?_;obtain ⟨i1,i2⟩:=it;have rk:=Hh (X:=X) kvs vs acc.toList rv (by rw [iF]; exact i1) fun j v e=>i2 j v (by simpa using e);have I1:Inv X pins σ H { s with heap:=h',toks:=tk }:=I.kept (t':=tk) kp
 have I2:Inv X pins σ (upd H h'.objs.size (.tup (kvs.map fun kv=>kV kv.1))) { s with heap:=h'.push { cls:=.type "tuple",data:=.seq acc },toks:=tk }:=
  I1.laid (t':=tk) (fun b o e=>ai _ e) (am _) (show dJ X.prog X.w _ _ _ (.tup (kvs.map fun kv=>kV kv.1)) from ⟨⟨by rw [aa]; exact hz,pC _ _⟩,acc.toList,rk,by rw [oP]; exact T9 _ _⟩)
 exact⟨.ref h'.objs.size,_,I2,rfl,q _ (I1.hok.fresh (am _))⟩
end
section
variable {prog:uv}{w:xf}{A:xn}{E:ES}{s:sr}
theorem BW{it l:Addr}{c:Int}{x:rn}(he:RC s.heap e it c old)(hit:s.heap.IsTupleIter it l i)(hl:s.heap.IsTuple l items)(hx:items[i]?=some x)(hne:e≠it)
  (hQ:∀ h',IsEnumOut h' e it (c+1) x s.heap.objs.size->h'.IsTupleIter it l (i+1)->h'.get? s.heap.objs.size=some { cls:=.type "tuple",data:=.seq #[.int c s.toks,x] }->
   (∀ b o,b≠e->b≠it->s.heap.get? b=some o->h'.get? b=some o)->Q (.ref s.heap.objs.size) { s with heap:=h',toks:=s.toks+1 }) :
  ut ‹18› A (uA.«enumerate.__next__» ⟨[.ref e],[]⟩) (fun fin s'=>∃ v,fin=.done (.ret v)/\Q v s') E s:=by
 obtain ⟨hp,g,d,tk,os⟩:=s;have elt:e < hp.objs.size:=bu he;show ut _ _ (O3 (.ref e) 2 >>= _) _ _ _;refine ac (eQ he rfl (x:=.ref it) rfl ?_);refine ac (kJ hit hl hx fun h1 t1 b1=>?_);have e1:RC h1 e it c old:=(b1.2 e hne).trans he;show ut _ _ (O3 (.ref e) 3 >>= _) _ _ ⟨h1,g,d,tk,os⟩;refine ac (eQ e1 rfl (x:=rawInt c) rfl ?_);show ut _ _ (O3 (.ref e) 4 >>= _) _ _ ⟨h1,g,d,tk,os⟩;refine ac (eQ e1 rfl (x:=.none) rfl ?_);show ut _ _ (mkInt c >>= _) _ _ ⟨h1,g,d,tk,os⟩;refine ac (wpAny_mkInt ?_);show ut _ _ (setField (.ref e) 3 (rawInt (c+1)) >>= _) _ _ ⟨h1,g,d,tk+1,os⟩;refine ac (eW e1 (by simp) fun h2 e2 b2=>?_)
 replace e2:RC h2 e it (c+1) old:=e2
 show ut _ _ (setField (.ref e) 4 .none >>= _) _ _ ⟨h2,g,d,tk+1,os⟩;refine ac (eW e2 (by simp) fun h3 e3 b3=>?_)
 replace e3:RC h3 e it (c+1) old:=e3
 show ut _ _ (newTuple [.int c tk,x] >>= _) _ _ ⟨h3,g,d,tk+1,os⟩;refine ac (nz ?_);have hsz:h3.objs.size=hp.objs.size:=b3.1.trans (b2.1.trans b1.1);have e4:RC (h3.push { cls:=.type "tuple",data:=.seq #[.int c tk,x] }) e it (c+1) old:=ai _ e3
 have g4:(h3.push { cls:=.type "tuple",data:=.seq #[.int c tk,x] }).get? hp.objs.size=some { cls:=.type "tuple",data:=.seq #[.int c tk,x] }:=by
  rw [<- hsz];exact aS _ rfl
 have k4:∀ b o,b≠e->b≠it->hp.get? b=some o->(h3.push { cls:=.type "tuple",data:=.seq #[.int c tk,x] }).get? b=some o:=fun b o c1 c2 z=>
  ai _ (b3.extBut b o c1 (b2.extBut b o c1 (b1.extBut b o c2 z)))
 have t4:(h3.push { cls:=.type "tuple",data:=.seq #[.int c tk,x] }).IsTupleIter it l (i+1):=by
  obtain ⟨o,ho,r⟩:=(t1.extBut b2.extBut (kq hne)).extBut b3.extBut (kq hne);exact⟨o,ai _ ho,r⟩
 have gt:hp.objs.size≠e:=fz elt;show ut _ _ (vz (.ref e) >>= _) _ _ ⟨h3.push { cls:=.type "tuple",data:=.seq #[.int c tk,x] },g,d,tk+1,os⟩;rw [hsz];generalize h3.push { cls:=.type "tuple",data:=.seq #[.int c tk,x] }=h4 at e4 g4 k4 t4;refine ac ?_;unfold vz;refine ac (eQ e4 rfl (x:=.none) rfl (ay ?_));simp only [ku];refine ac (jS ?_);refine ac (eQ e4 rfl (x:=old) rfl ?_);refine ac (eW e4 (by simp) fun h5 e5 b5=>?_)
 replace e5:RC h5 e it (c+1) x:=e5
 show ut _ _ (xN (.ref e) (.ref hp.objs.size) >>= _) _ _ ⟨h5,g,d,tk+1,os⟩;refine ac ?_;unfold xN;refine ac (eW e5 (by simp) fun h6 e6 b6=>?_)
 replace e6:IsEnumOut h6 e it (c+1) x hp.objs.size:=e6
 refine eW e6 (by simp) fun h7 e7 b7=>?_
 replace e7:IsEnumOut h7 e it (c+1) x hp.objs.size:=e7
 refine ac (lx (ay ⟨_,rfl,hQ h7 e7 ?_ ?_ ?_⟩))
 ·exact((t4.extBut b5.extBut (kq hne)).extBut b6.extBut (kq hne)).extBut b7.extBut (kq hne)
 ·exact b7.extBut _ _ gt (b6.extBut _ _ gt (b5.extBut _ _ gt g4))
 ·exact fun b o c1 c2 z=>b7.extBut b o c1 (b6.extBut b o c1 (b5.extBut b o c1 (k4 b o c1 c2 z)))
theorem Dh{it l:Addr}{c:Int}{x:rn}{Q:Option rn->sr->Prop}(he:RC s.heap e it c old)(hit:s.heap.IsTupleIter it l i)(hl:s.heap.IsTuple l items)(hx:items[i]?=some x)(hne:e≠it)
  (hQ:∀ h',IsEnumOut h' e it (c+1) x s.heap.objs.size->h'.IsTupleIter it l (i+1)->h'.get? s.heap.objs.size=some { cls:=.type "tuple",data:=.seq #[.int c s.toks,x] }->
   (∀ b o,b≠e->b≠it->s.heap.get? b=some o->h'.get? b=some o)->Q (some (.ref s.heap.objs.size)) { s with heap:=h',toks:=s.toks+1 }) :
  ut ‹18› A (Hn (.ref e)) Q E s:=by
 have hT:s.TypeIs (.ref e) "enumerate" := ⟨_,he,rfl⟩;unfold Hn;exact ac (kH (fk (name:=Str.ofString "__next__") hT kU (hU kU hT F.entry_enumerate_next (BW he hit hl hx hne fun h' a b c k=>ay (hQ h' a b c k)) (F.args_enumerate_next_1 _))))
theorem Hl{it l:Addr}{c:Int}{Q:Option rn->sr->Prop}(hh:A.handled=none)(he:RC s.heap e it c old)(hit:s.heap.IsTupleIter it l i)(hl:s.heap.IsTuple l items)(hx:items[i]?=none)
  (hQ:∀ h',Heap.ExtBut it s.heap h'->Q none { s with heap:=h' }):ut ‹18› A (Hn (.ref e)) Q E s:=by
 have hT:s.TypeIs (.ref e) "enumerate" := ⟨_,he,rfl⟩;unfold Hn;refine ac (kH (fk (name:=Str.ofString "__next__") hT kU (hU kU hT F.entry_enumerate_next ?_ (F.args_enumerate_next_1 _))));show ut _ _ (O3 (.ref e) 2 >>= _) _ _ _;refine ac (eQ he rfl (x:=.ref it) rfl ?_);refine ac (tK hh hit hl hx fun h' x' k' hx'=>?_);obtain ⟨o,ho,hc⟩:=hx';exact ac (nX (T:= "StopIteration") (b:=true) ⟨o,ho,hc⟩ qv (ay (hQ _ k')))
end
abbrev Rx(g:TG)(tb:TS)(D:Ends)(σ:L2.St)(J:It)(H1:Hp):Prop:=∃ W:Nat->Nat->L2.St->Hp->Prop,(∃ m,W 0 m σ H1)/\∀ i m σ H,W i m σ H->
 (J.stop i H/\D.nx σ H)\/(J.go i H/\∃ N:L2.St->Hp->Prop,(∀ σ' H',N σ' H'->∃ m',m' < m/\W (i+1) m' σ' H')/\∀ x H',J.yld i H x H'->g x σ H' fun σ2 H2=>tb { D with nx:=N,ct:=N,bk:=D.nx } σ2 H2)
theorem jm.same(h:jm H v ys)(s:Same H H'):jm H' v ys:=by
 obtain ⟨p,e,h⟩:=h;exact⟨p,e,h.elim (fun z=>.inl (s p _ z)) fun z=>.inr (s p _ z)⟩
theorem yW{g:TG}{tb:TS}{D:Ends}{σ:L2.St}(hq:jm H (.ref a) xs)(Pv:Nat->L2.St->Hp->Prop)(h0:Pv 0 σ H)
  (keep:∀ i σ H',i<=xs.length->Pv i σ H'->∀ o,H a=some o->H' a=some o)
  (hs:∀ i x σ H,xs[i]?=some x->Pv i σ H->g x σ H fun σ2 H2=>tb { D with nx:=Pv (i+1),ct:=Pv (i+1),bk:=D.nx } σ2 H2) (hd:∀ σ H,Pv xs.length σ H->D.nx σ H) :
  (∃ xs,SqT K H a xs/\Rx g tb D σ (Itt K a) H)\/∃ xs,SqL K H a xs/\Rx g tb D σ (Itl K a) H:=by
 obtain ⟨p,e,h⟩:=hq;cases e;rcases h with h | h
 ·exact .inr ⟨xs,Uh h,lC (K:=K) (a:=a) (xs:=xs) Pv h0 (fun i σ H' hi p=>Uh (keep i σ H' hi p _ h)) hs hd⟩
 ·exact .inl ⟨xs,Ui h,kj (K:=K) (a:=a) (xs:=xs) Pv h0 (fun i σ H' hi p=>Ui (keep i σ H' hi p _ h)) hs hd⟩
theorem zp{own:Nat}{g:TG}{tc:TT}{σ:L2.St}{Q:VK}(hq:jm H (.ref a) xs)(Pv:Addr->Nat->LV->Hp->Prop)
  (h0:∀ D,H D=none->Pv D 0 [] (upd H D (.lst []))) (keep:∀ D i ys H',H D=none->Pv D i ys H'->∀ o,H a=some o->H' a=some o) (stop:∀ D ys H',H D=none->Pv D xs.length ys H'->Q (.ref D) H')
  (go:∀ D i x ys H',H D=none->i < xs.length->xs[i]?=some x->Pv D i ys H'->∀ σo:L2.St,σo.length=own->g x (σo++frv σ fr) H' fun σ2 H2=>(∃ σo':L2.St,σo'.length=own/\σ2=σo'++frv σ fr)/\
   tc σ2 H2 fun b H3=>if b=true then te σ2 H3 fun y H4=>ys.length < sizeLine/\H4 D=some (.lst ys)/\∃ m',m' < xs.length - i/\(m'=xs.length - (i+1)/\i+1<=xs.length/\Pv D (i+1) (ys++[y]) (upd H4 D (.lst (ys++[y])))) else ∃ m',m' < xs.length - i/\(m'=xs.length - (i+1)/\i+1<=xs.length/\Pv D (i+1) ys H3)) :
  (∃ xs,SqT K H a xs/\∀ D,H D=none->wL own fr g tc te σ Q (Itt K a) D (upd H D (.lst [])))\/∃ xs,SqL K H a xs/\∀ D,H D=none->wL own fr g tc te σ Q (Itl K a) D (upd H D (.lst [])):=by
 obtain ⟨p,e,h⟩:=hq;cases e;rcases h with h | h
 ·refine .inr ⟨xs,Uh h,fun D hD=>dD (n:=xs.length) (Pv D) (h0 D hD) (fun ys H' p=>⟨⟨xs,Uh (keep D _ ys H' hD p _ h),am _⟩,stop D ys H' hD p⟩) fun i ys H' hi p=>?_⟩;have ex:xs[i]?=some xs[i]:=af hi;have hl:=Uh (K:=K) (keep D i ys H' hD p _ h);refine⟨⟨xs,xs[i],hl,ex⟩,?_⟩;rintro x H2 ⟨rfl,yy⟩ σo ho;exact go D i x ys H2 hD hi (yy xs hl) p σo ho
 ·refine .inl ⟨xs,Ui h,fun D hD=>dD (n:=xs.length) (Pv D) (h0 D hD) (fun ys H' p=>⟨⟨xs,Ui (keep D _ ys H' hD p _ h),am _⟩,stop D ys H' hD p⟩) fun i ys H' hi p=>?_⟩;have ex:xs[i]?=some xs[i]:=af hi;have hl:=Ui (K:=K) (keep D i ys H' hD p _ h);refine⟨⟨xs,xs[i],hl,ex⟩,?_⟩;rintro x H2 ⟨rfl,yy⟩ σo ho;exact go D i x ys H2 hD hi (yy xs hl) p σo ho
def tU(P:uv)(w:xf)(K:PySem.W.Frag)(a:Addr)(kvs:LK0):Prop:=(a == ym)=false/\∃(o:Obj) (es:Array Do) (ep:Nat) (vs:List (Key × rn)),K.lookup a=some o/\o.ExactDict/\o.data=.dict es ep/\KeysOf (cC P w) es/\Pairs (cC P w) es.toList vs/\(vs.map (·.1)).Nodup/\KV kvs vs
section
variable {X:Cx}
theorem tU.at(I:Inv X pins σ H s)(h:tU X.prog X.w X.K a kvs):(a == ym)=false/\(∃ vs,KV kvs vs/\s.heap.DictOf (cC X.prog X.w) a vs)/\∀ b,wy a=.ref b->∃ ob,s.heap.get? b=some ob/\ob.dict=none:=by
 obtain ⟨h1,o,es,ep,vs,hk,hx,hd,ko,pr,nd,kv⟩:=h;refine⟨h1,⟨vs,kv,o,es,ep,I.kIn a o hk,hx,hd,ko,pr,nd⟩,fun b q=>?_⟩;cases q;exact⟨o,I.kIn a o hk,hx.2.1⟩
inductive Kc (P:uv) (w:xf) (K:PySem.W.Frag) (Q:VK) (x:V) (y:V) (H2:Hp):Prop
 | mk (a kvs k v:_):x=.ref a->tU P w K a kvs->y=kV k->cZ kvs k=some v->Q v H2->Kc P w K Q x y H2
def Rh(P:uv)(w:xf)(K:PySem.W.Frag)(td ty:TE):TE:=fun σ H Q=>td σ H fun x H1=>ty σ H1 fun y H2=>Kc P w K Q x y H2
theorem pW{o i:Expr}(ho:PE X o td)(hi:PE X i ty)(hs:Oo i):PE X (.Subscript o i pos) (Rh X.prog X.w X.K td ty):=by
 intro pins s σ H Q I h;refine Ez PySem.F.slot_dict_getitem.lookup hs (thn (ho pins s σ H _ I h) fun u s1 ⟨x,H1,I1,rx,q1⟩=>thn (hi pins s1 σ H1 _ I1 q1) fun iv s2 ⟨y,H2,I2,ry,a,kvs,k,v,ex,kd,ey,hv,q2⟩=>?_);subst ex ey;obtain rfl:u=wy a:=rx;obtain ⟨_,⟨vs,rel,dd⟩,_⟩:=tU.at I2 kd;obtain ⟨w',hw,rw'⟩:=nu.some_of (v:=v) (o:=TV vs k) (by rw [<- hv]; exact rel.val k);exact⟨dd.typeIs,wpAny_getItem_of (rY ry) dd.mapOf hw ⟨v,H2,I2.tok _,rw',q2⟩⟩
inductive FP (P:uv) (w:xf) (K:PySem.W.Frag) (ty:TE) (tx:TE) (σ:St) (Q:VK) (x:V) (H1:Hp):Prop
 | mk (a kvs:_):x=.ref a->tU P w K a kvs->(ty σ H1 fun y H2=>tx σ H2 fun z H3=>∃ k,y=kV k/\Q ((cZ kvs k).getD z) H3)->FP P w K ty tx σ Q x H1
def Qp(P:uv)(w:xf)(K:PySem.W.Frag)(td ty tx:TE):TE:=fun σ H Q=>td σ H fun x H1=>FP P w K ty tx σ Q x H1
theorem HB{o e f:Expr}{apos cpos:Pos}{tx:TE}(ho:PE X o td)(he:PE X e ty)(hf:PE X f tx)(m:M2 X o "get" apos e f cpos):PE X (.Call (.Attribute o "get" apos) [e,f] [] cpos) (Qp X.prog X.w X.K td ty tx):=by
 intro pins s σ H Q I h;refine wpAny_Call_method m.base m.few m.line PySem.F.plainAttrs_dict PySem.F.slot_dict_get PySem.F.type_dict_get (thn (ho pins s σ H _ I h) fun u s1 ⟨x,H1,I1,rx,a,kvs,ex,kd,q1⟩=>?_);subst ex;obtain rfl:u=wy a:=rx;obtain ⟨_,⟨vs,rel,dd⟩,t2⟩:=tU.at I1 kd;refine⟨dd.typeIs,t2,?_⟩;rw [m.trees]
 refine nw rfl (oB (Q3 (thn (he pins s1 σ H1 _ I1 q1) fun iv s2 ⟨y,H2,I2,ry,q2⟩=>
  Q3 (thn (hf pins s2 σ H2 _ I2 q2) fun fv s3 ⟨z,H3,I3,rz,k,ey,q3⟩=>Calls.spliced_nil ?_))))
 subst ey;obtain ⟨hd,⟨vs,rel,dd⟩,_⟩:=tU.at I3 kd;exact call_meetsIn PySem.F.slot_dict_get dd.typeIs PySem.F.entry_dict_get (PySem.F.args_dict_get_3 _ _ _) (meets_dict_get_default (cC X.prog X.w) a (rY ry) hd fv) ⟨_,dd.mapOf,⟨_,H3,I3.tok _,(rel.val k).getD rz,q3⟩⟩
end
end L2
end
section
namespace K37
open PySem L2
def top(i:Nat):Stmt:=PySem.Challenge.pw_warmrows_k37_names_of_bodies.main.body.getD i (.Pass ⟨0,0,0,0⟩)
structure Adr where
 fQ:Addr × vy
 eE:Addr × vy
 bA:Addr × vy
 gK:Addr × vy
 fJ:Addr × vy
 nT:Addr × vy
 jc:Addr × vy
 jf:Addr × vy
 jC:Addr × vy
 yc:Addr × vy
 jD:Addr × vy
 lJ:Addr × vy
 jB:Addr × vy
 n6:Addr × vy
 jj:Addr × vy
 fY:Addr × vy
 bU:Addr × vy
 cg:Addr × vy
 aN:Addr × vy
 nF:Addr × vy
 jA:Addr × vy
 d8:Addr × vy
 dG:Addr × vy
 iw:Addr × vy
 jG:Addr × vy
 iV:Addr × vy
 aO:Addr × vy
 jF:Addr × vy
 fD:Addr × vy
 gM:Addr × vy
 gV:Addr × vy
 iY:Addr × vy
 jh:Addr × vy
 gb:Addr × vy
 gB:Addr × vy
 cu:Addr × vy
 gG:Addr × vy
 jd:Addr × vy
 eX:Addr × vy
 cN:Addr × vy
 iZ:Addr × vy
 bW:Addr × vy
 cB:Addr × vy
 bQ:Addr × vy
 dz:Addr × vy
 law:Addr × vy
 cA:Addr
 dh:Addr
 fU:Addr
 fH:Addr
 ad:Str->Str->Addr
structure Defs (K:PySem.W.Frag) (mg:MG) (t:Adr):Prop where
 fQ:Fnd K mg "elders_first" (top 1) ["family"] t.fQ.1 t.fQ.2
 eE:Fnd K mg "names_in" (top 5) ["block"] t.eE.1 t.eE.2
 bA:Fnd K mg "names_among" (top 6) ["forms","parts"] t.bA.1 t.bA.2
 gK:Fnd K mg "tell_orders" (top 8) ["family"] t.gK.1 t.gK.2
 fJ:Fnd K mg "quarrel_among" (top 9) ["kinds","told"] t.fJ.1 t.fJ.2
 nT:Fnd K mg "rows_by" (top 10) ["elders","told"] t.nT.1 t.nT.2
 jc:Fnd K mg "merge_rows" (top 11) ["kind","rows"] t.jc.1 t.jc.2
 jf:Fnd K mg "first_free" (top 12) ["left"] t.jf.1 t.jf.2
 jC:Fnd K mg "ring_among" (top 13) ["left"] t.jC.1 t.jC.2
 yc:Fnd K mg "hold_of" (top 14) ["name","left"] t.yc.1 t.yc.2
 jD:Fnd K mg "family_of" (top 16) ["table"] t.jD.1 t.jD.2
 lJ:Fnd K mg "table_of" (top 18) ["program"] t.lJ.1 t.lJ.2
 jB:Fnd K mg "own_deeds" (top 19) ["deeds","kind"] t.jB.1 t.jB.2
 n6:Fnd K mg "book_of" (top 23) ["program"] t.n6.1 t.n6.2
 jj:Fnd K mg "body_of" (top 24) ["params","block"] t.jj.1 t.jj.2
 fY:Fnd K mg "number_names" (top 25) ["params","block"] t.fY.1 t.fY.2
 bU:Fnd K mg "lay_block" (top 26) ["sheet","block"] t.bU.1 t.bU.2
 cg:Fnd K mg "lay_parts" (top 27) ["sheet","forms","parts"] t.cg.1 t.cg.2
 aN:Fnd K mg "lay_expression" (top 28) ["sheet","expression"] t.aN.1 t.aN.2
 nF:Fnd K mg "lay_or" (top 29) ["sheet","expression"] t.nF.1 t.nF.2
 jA:Fnd K mg "lay_if" (top 30) ["sheet","statement"] t.jA.1 t.jA.2
 d8:Fnd K mg "lay_while" (top 31) ["sheet","statement"] t.d8.1 t.d8.2
 dG:Fnd K mg "lay_repeat" (top 32) ["sheet","statement"] t.dG.1 t.dG.2
 iw:Fnd K mg "lay_try" (top 33) ["sheet","statement"] t.iw.1 t.iw.2
 jG:Fnd K mg "_law_cell" (top 36) ["_law_script","_law_k"] t.jG.1 t.jG.2
 iV:Fnd K mg "_law_purse" (top 37) ["_law_cell_here"] t.iV.1 t.iV.2
 aO:Fnd K mg "_law_take" (top 38) ["_law_purse_here","_law_many"] t.aO.1 t.aO.2
 jF:Fnd K mg "_law_word" (top 39) ["_law_purse_here","_law_used"] t.jF.1 t.jF.2
 fD:Fnd K mg "_law_words" (top 40) ["_law_purse_here","_law_many","_law_used"] t.fD.1 t.fD.2
 gM:Fnd K mg "_law_merge" (top 41) ["_law_kind","_law_rows"] t.gM.1 t.gM.2
 gV:Fnd K mg "_law_some" (top 42) ["_law_purse_here","_law_menu","_law_most"] t.gV.1 t.gV.2
 iY:Fnd K mg "_law_kinds" (top 43) ["_law_purse_here","_law_many","_law_used","_law_fields"] t.iY.1 t.iY.2
 jh:Fnd K mg "_law_atom" (top 44) ["_law_purse_here","_law_tools"] t.jh.1 t.jh.2
 gb:Fnd K mg "_law_thing" (top 45) ["_law_purse_here","_law_tools","_law_home"] t.gb.1 t.gb.2
 gB:Fnd K mg "_law_args" (top 46) ["_law_purse_here","_law_deep","_law_tools","_law_home","_law_deed"] t.gB.1 t.gB.2
 cu:Fnd K mg "_law_value" (top 47) ["_law_purse_here","_law_deep","_law_tools","_law_home"] t.cu.1 t.cu.2
 gG:Fnd K mg "_law_change" (top 48) ["_law_purse_here","_law_tools"] t.gG.1 t.gG.2
 jd:Fnd K mg "_law_plain" (top 49) ["_law_purse_here","_law_tools","_law_home","_law_pick"] t.jd.1 t.jd.2
 eX:Fnd K mg "_law_nested" (top 50) ["_law_purse_here","_law_tools","_law_home","_law_deep","_law_room","_law_pick"] t.eX.1 t.eX.2
 cN:Fnd K mg "_law_block" (top 51) ["_law_purse_here","_law_tools","_law_home","_law_deep","_law_room"] t.cN.1 t.cN.2
 iZ:Fnd K mg "_law_named" (top 52) ["_law_purse_here"] t.iZ.1 t.iZ.2
 bW:Fnd K mg "_law_of_value" (top 53) ["_law_value_here"] t.bW.1 t.bW.2
 cB:Fnd K mg "_law_of_statement" (top 54) ["_law_statement","_law_laid"] t.cB.1 t.cB.2
 bQ:Fnd K mg "_law_of_block" (top 55) ["_law_block_here","_law_laid"] t.bQ.1 t.bQ.2
 dz:Fnd K mg "_law_body_right" (top 56) ["_law_body","_law_params","_law_block_here"] t.dz.1 t.dz.2
 law:Fnd K mg "law" (top 57) ["_law_script"] t.law.1 t.law.2
 RB:mg "abs" = none
 RD:mg "all" = none
 Nx:mg "any" = none
 Ph:mg "dict" = none
 ux:mg "enumerate" = none
 Dy:mg "int" = none
 gY:mg "isinstance" = none
 dg:mg "len" = none
 Bo:mg "list" = none
 rD:mg "range" = none
 zL:mg "sorted" = none
 cJ:mg "tuple" = none
 Ab:mg "zip" = none
def exprs:List (Str × LS):=[("me",[]),("name",["x"]),("new",["kind"]),("get",["e","name"]),("ask",["e","name","args"]),("up",["name","args"]),("plus",["e","e"]),("minus",["e","e"]),("less",["e","e"]),("alike",["e","e"]),("or",["e","e"])]
def stats:List (Str × LS):=[("let",["x","e"]),("put",["e","name","e"]),("drop",["e","name"]),("tell",["e"]),("do",["e"]),("give",["e"]),("throw",["e"]),("become",["e","kind"]),("if",["e","block","block"]),("while",["e","block"]),("repeat",["e","block"]),("try",["block","x","block"]),("turn",["kind","name","kind","name"]),("strip",["kind","name"]),("elders",["kind","elders"])]
structure Tab (P:uv) (w:xf) (K:PySem.W.Frag) (c:Addr) (ad:Str->Addr) (tb:List (Str × LS)):Prop where
 d:tU P w K c (tb.map fun p=>(.inr p.1,V.ref (ad p.1)))
 s:∀ p∈tb,∀ H:Hp,SqT K H (ad p.1) (p.2.map V.str)
structure Glb (P:uv) (w:xf) (K:PySem.W.Frag) (mg:MG) (t:Adr):Prop where
 mF:mg "EXPRESSIONS" = some (.ref t.cA)
 dI:Tab P w K t.cA (t.ad "e") exprs
 rQ:mg "STATEMENTS" = some (.ref t.dh)
 gU:Tab P w K t.dh (t.ad "s") stats
 Dw:mg "NESTS" = some (.ref t.fU)
 j8:tU P w K t.fU [(.inr "if",.ref t.jA.1),(.inr "while",.ref t.d8.1),(.inr "repeat",.ref t.dG.1),(.inr "try",.ref t.iw.1)]
 Aj:mg "ROW_WORDS" = some (.ref t.fH)
 Ag:tU P w K t.fH [(.inr "let",.str "set"),(.inr "do",.str "pop")]
theorem dU:bf ["family","placed","waiting","ready","kind"] ["family"] (aG (top 1)):=‹0›
theorem pL:bf ["block","names","statement"] ["block"] (aG (top 5)):=‹0›
theorem dO:bf ["forms","parts","names","form","part"] ["forms","parts"] (aG (top 6)):=‹0›
theorem gJ:bf ["family","elders_of","told","kind","quarrel"] ["family"] (aG (top 8)):=‹0›
theorem mY:bf ["kinds","told","kind"] ["kinds","told"] (aG (top 9)):=‹0›
theorem Ca:bf ["elders","told"] ["elders","told"] (aG (top 10)):=‹0›
theorem iK:bf ["kind","rows","order","left","first"] ["kind","rows"] (aG (top 11)):=‹0›
theorem iJ:bf ["left","held","row","name"] ["left"] (aG (top 12)):=‹0›
theorem yZ:bf ["table"] ["table"] (aG (top 16)):=‹0›
theorem eU:bf ["program","kinds","deeds","run","told","rows","kind","elders","fields"] ["program"] (aG (top 18)):=‹0›
theorem yu:bf ["deeds","kind"] ["deeds","kind"] (aG (top 19)):=‹0›
theorem kW:bf ["program","kinds","deeds","run","bodies"] ["program"] (aG (top 23)):=‹0›
theorem qI:bf ["params","block","sheet","catches"] ["params","block"] (aG (top 24)):=‹0›
theorem jX:bf ["params","block","numbers","name"] ["params","block"] (aG (top 25)):=‹0›
theorem jl:bf ["sheet","block","statement","word","deed","parts"] ["sheet","block"] (aG (top 26)):=‹0›
theorem eG:bf ["sheet","forms","parts","left","form","part"] ["sheet","forms","parts"] (aG (top 27)):=‹0›
theorem jo:bf ["sheet","expression","word","parts"] ["sheet","expression"] (aG (top 28)):=‹0›
theorem w6:bf ["sheet","expression","keep"] ["sheet","expression"] (aG (top 29)):=‹0›
theorem tW:bf ["sheet","statement","unless","over"] ["sheet","statement"] (aG (top 30)):=‹0›
theorem nQ:bf ["sheet","statement","mark","unless"] ["sheet","statement"] (aG (top 31)):=‹0›
theorem iM:bf ["sheet","statement","first","over","mark","rounds"] ["sheet","statement"] (aG (top 32)):=‹0›
theorem qG:bf ["sheet","statement","first","over"] ["sheet","statement"] (aG (top 33)):=‹0›
theorem j7:bf ["_law_script","_law_k","_law_state","_law_cell_here"] ["_law_script","_law_k"] (aG (top 36)):=‹0›
theorem mj:bf ["_law_cell_here","_law_digits"] ["_law_cell_here"] (aG (top 37)):=‹0›
theorem nO:bf ["_law_purse_here","_law_many","_law_state","_law_taken"] ["_law_purse_here","_law_many"] (aG (top 38)):=‹0›
theorem gn:bf ["_law_purse_here","_law_used","_law_menu","_law_word_here","_law_k","_law_first"] ["_law_purse_here","_law_used"] (aG (top 39)):=‹0›
theorem mz:bf ["_law_purse_here","_law_many","_law_used","_law_words_here","_law_k"] ["_law_purse_here","_law_many","_law_used"] (aG (top 40)):=‹0›
theorem gA:bf ["_law_kind","_law_rows","_law_order","_law_good"] ["_law_kind","_law_rows"] (aG (top 41)):=‹0›
theorem kE:bf ["_law_purse_here","_law_menu","_law_most","_law_some_here","_law_k","_law_one"] ["_law_purse_here","_law_menu","_law_most"] (aG (top 42)):=‹0›
theorem cR:bf ["_law_purse_here","_law_many","_law_used","_law_fields","_law_names","_law_kinds_here","_law_orders","_law_k","_law_kind","_law_elders","_law_order"] ["_law_purse_here","_law_many","_law_used","_law_fields"] (aG (top 43)):=‹0›
theorem ig:bf ["_law_purse_here","_law_tools","_law_kinds_here","_law_deeds","_law_fields","_law_names","_law_pick"] ["_law_purse_here","_law_tools"] (aG (top 44)):=‹0›
theorem qC:bf ["_law_purse_here","_law_tools","_law_home","_law_names"] ["_law_purse_here","_law_tools","_law_home"] (aG (top 45)):=‹0›
theorem ji:bf ["_law_purse_here","_law_deep","_law_tools","_law_home","_law_deed","_law_many","_law_args_here","_law_k"] ["_law_purse_here","_law_deep","_law_tools","_law_home","_law_deed"] (aG (top 46)):=‹0›
theorem cM:bf ["_law_purse_here","_law_deep","_law_tools","_law_home","_law_kinds_here","_law_deeds","_law_fields","_law_names","_law_pick","_law_deed","_law_thing_here","_law_word_here","_law_one"] ["_law_purse_here","_law_deep","_law_tools","_law_home"] (aG (top 47)):=‹0›
theorem cY:bf ["_law_purse_here","_law_tools","_law_kinds_here","_law_deeds","_law_fields","_law_names","_law_pick","_law_kind","_law_deed","_law_other"] ["_law_purse_here","_law_tools"] (aG (top 48)):=‹0›
theorem dZ:bf ["_law_purse_here","_law_tools","_law_home","_law_pick","_law_kinds_here","_law_deeds","_law_fields","_law_names","_law_value_here","_law_thing_here","_law_field"] ["_law_purse_here","_law_tools","_law_home","_law_pick"] (aG (top 49)):=‹0›
theorem gO:bf ["_law_purse_here","_law_tools","_law_home","_law_deep","_law_room","_law_pick","_law_names","_law_value_here","_law_name","_law_one"] ["_law_purse_here","_law_tools","_law_home","_law_deep","_law_room","_law_pick"] (aG (top 50)):=‹0›
theorem jN:bf ["_law_purse_here","_law_tools","_law_home","_law_deep","_law_room","_law_block_here","_law_k","_law_pick"] ["_law_purse_here","_law_tools","_law_home","_law_deep","_law_room"] (aG (top 51)):=‹0›
theorem cL:bf ["_law_purse_here","_law_own","_law_fields","_law_deeds","_law_names","_law_kinds_here","_law_tools","_law_some_here","_law_deed","_law_at","_law_params"] ["_law_purse_here"] (aG (top 52)):=‹0›
theorem cI:bf ["_law_value_here","_law_word_here","_law_parts","_law_some_here","_law_part"] ["_law_value_here"] (aG (top 53)):=‹0›
theorem cF:bf ["_law_statement","_law_laid","_law_word_here","_law_value_here","_law_name","_law_one","_law_some_here","_law_block_here"] ["_law_statement","_law_laid"] (aG (top 54)):=‹0›
theorem iu:bf ["_law_block_here","_law_laid","_law_some_here","_law_statement"] ["_law_block_here","_law_laid"] (aG (top 55)):=‹0›
theorem fV:bf ["_law_body","_law_params","_law_block_here","_law_numbers","_law_one","_law_due"] ["_law_body","_law_params","_law_block_here"] (aG (top 56)):=‹0›
theorem tE:bf ["_law_script","_law_cell_here","_law_program","_law_bodies","_law_body","_law_deed"] ["_law_script"] (aG (top 57)):=‹0›
end K37
end
section
namespace L2
open PySem PyProof.Rows
variable {rows:LL}{H H':Hp}{vs:LV}{D:Addr}{o:HO}{i:Nat}
def dN(rows:LL)(x:Str):Bool:=rows.any fun o=>decide (x∈o.drop 1)
def freeOf(rows:LL):LS->LS
 | []=>[]
 | x::_=>if dN rows x=true then [] else [x]
def frees(rows:LL):LS:=rows.flatMap (freeOf rows)
def cH(x:Str)(r:LS):LS:=r.filter fun y=>decide (y≠x)
def full(rows:LL):LL:=rows.filter fun r=>!r.isEmpty
inductive Mg:LL->Option LS->Prop where
 | nil:Mg [] (some [])
 | stuck {rows:LL}:rows≠[]->frees rows=[]->Mg rows none
 | step {rows:LL} {x:Str} {more:LS} {r:Option LS}:frees rows=x::more->Mg (full (rows.map (cH x))) r->Mg rows (r.map (x::·))
theorem Mg.det{r:Option LS}(h:Mg rows r):∀ {r':Option LS},Mg rows r'->r=r':=by
 induction h with
 | nil=>
  intro r' h';cases h' with
  | nil=>rfl
  | stuck h _=>exact absurd rfl h
  | step h _=>cases h
 | stuck h1 h2=>
  intro r' h';cases h' with
  | nil=>exact absurd rfl h1
  | stuck _ _=>rfl
  | step h _=>rw [h2] at h; cases h
 | step h1 _ ih=>
  intro r' h';cases h' with
  | nil=>cases h1
  | stuck _ h=>rw [h1] at h; cases h
  | step h hr=>
   rw [h1] at h;cases h;rw [ih hr]
def tot(rows:LL):Nat:=(rows.map List.length).sum
theorem gR(r:LS)(rows:LL):tot (r::rows)=r.length+tot rows:=by
 unfold tot;rw [eB,List.sum_cons]
theorem rB:∀(rows:LL),tot (full rows)=tot rows
 | []=>rfl
 | r::rows=>by
  unfold full;rw [gr];have ih:=rB rows;unfold full at ih;cases r with
  | nil=>
   rw [gR,<- ih];simp
  | cons y r=>simp only [nE,qA,ku]; rw [gR,gR,ih]
theorem yw(x:Str)(r:LS):(cH x r).length<=r.length:=fF _ _
theorem vU(x:Str):∀(rows:LL),tot (rows.map (cH x))<=tot rows
 | []=>am _
 | r::rows=>by
  rw [eB,gR,gR];have:=vU x rows;have:=yw x r;omega
theorem qJ{x:Str}:∀ {rows:LL},(∃ r∈rows,x∈r)->tot (rows.map (cH x)) < tot rows
 | [],⟨_,h,_⟩=>nomatch h
 | r::rows,⟨q,hq,hx⟩=>by
  rw [eB,gR,gR];have h1:=vU x rows;have h2:=yw x r;rcases bc.mp hq with rfl | h
  ·have:(cH x q).length < q.length:=by
    unfold cH;refine Nat.lt_of_le_of_ne (fF _ _) fun e=>?_;have:=List.length_filter_eq_length_iff.mp e x hx;simp at this
   omega
  ·have:=qJ ⟨q,h,hx⟩;omega
theorem tG{x:Str}(h:x∈frees rows):∃ r∈rows,r.head?=some x:=by
 obtain ⟨r,hr,hx⟩:=List.mem_flatMap.mp h;refine⟨r,hr,?_⟩;cases r with
 | nil=>cases hx
 | cons y r=>
  have hx:x∈(if dN rows y=true then [] else [y]):=hx
  by_cases hh:dN rows y=true
  ·rw [dC hh] at hx;cases hx
  ·rw [cK hh] at hx;rw [bS.mp hx];rfl
theorem vW{r:LS}(h:r∈rows):r.length<=tot rows:=by
 induction rows with
 | nil=>cases h
 | cons q rows ih=>
  rw [gR];rcases bc.mp h with rfl | h
  ·omega
  ·have:=ih h;omega
theorem oW:∀(rows:LL),(full rows).length<=tot rows
 | []=>am _
 | r::rows=>by
  have ih:=oW rows;unfold full at ih ⊢;rw [gr,gR];cases r with
  | nil=>simpa using ih
  | cons y r=>simp only [nE,qA,ku,ar]; omega
def kY(H:Hp)(vs:LV)(rows:LL):Prop:=Paired (fun(v:V) (r:LS)=>∃ a,v=.ref a/\H a=some (.tup (r.map V.str))) vs rows
def RP(H:Hp)(vs:LV)(rows:LL):Prop:=Paired (fun(v:V) (r:LS)=>∃ a,v=.ref a/\H a=some (.lst (r.map V.str))) vs rows
theorem kY.mono(h:kY H vs rows)(s:fB H H'):kY H' vs rows:=Ue h fun v r ⟨a,e,q⟩=>⟨a,e,s a _ q⟩
def qj(H:Hp)(D:Addr)(vs:LV)(rows:LL):Prop:=Paired (fun(v:V) (r:LS)=>∃ a,v=.ref a/\a≠D/\H a=some (.lst (r.map V.str))) vs rows
theorem qj.l(h:qj H D vs rows):RP H vs rows:=Ue h fun v r ⟨a,e,_,q⟩=>⟨a,e,q⟩
theorem qj.mono(h:qj H D vs rows)(s:Same H H'):qj H' D vs rows:=Ue h fun v r ⟨a,e,n,q⟩=>⟨a,e,n,s a _ q⟩
def oU(H:Hp)(D E:Addr)(vs:LV)(rows:LL):Prop:=Paired (fun(v:V) (r:LS)=>∃ a,v=.ref a/\a≠D/\a≠E/\H a=some (.lst (r.map V.str))) vs rows
theorem oU.x{E:Addr}(h:oU H D E vs rows):qj H E vs rows:=Ue h fun v r ⟨a,e,_,n,q⟩=>⟨a,e,n,q⟩
theorem oU.grow{E:Addr}(h:oU H D E vs rows)(s:Same H H'):oU (upd H' D o) D E vs rows:=Ue h fun v r ⟨a,e,n,n',q⟩=>⟨a,e,n,n',by rw [au n]; exact s a _ q⟩
theorem oU.mono{E:Addr}(h:oU H D E vs rows)(s:Same H H'):oU H' D E vs rows:=Ue h fun v r ⟨a,e,n,n',q⟩=>⟨a,e,n,n',s a _ q⟩
theorem qj.get{H:Hp}{D:Addr}{vs:LV}{rows:LL}(h:qj H D vs rows){i:Nat}(hi:i < vs.length):∃(a:Addr) (hr:i < rows.length),vs[i]?=some (.ref a)/\a≠D/\H a=some (.lst (rows[i].map V.str)):=by
 have hr:i < rows.length:=by rw [<- eM h]; exact hi
 obtain ⟨a,e,n,q⟩:=je h i hi hr;exact⟨a,hr,by rw [af hi,e],n,q⟩
theorem at0(y:Str)(r:LS):atI ((y::r).map V.str) 0=some (.str y):=aH (j:=0) rfl
theorem zP(R:LL):∀(rows:LL),(rows.flatMap (freeOf R)).length<=rows.length
 | []=>am _
 | r::rows=>by
  rw [nI,ae,ar];have:=zP R rows
  have:(freeOf R r).length<=1:=by
   cases r with
   | nil=>exact bn _
   | cons y r=>
    show (if dN R y=true then [] else [y]).length<=1;split <;> simp
  omega
theorem fG{α β:Type}{F:α->β->Prop}{as:List α}{bs:List β}{a:α}{b:β}(h:Paired F as bs)(hy:F a b):Paired F (as++[a]) (bs++[b]):=by
 induction h with
 | nil=>exact .cons hy .nil
 | cons a _ ih=>exact .cons a ih
theorem kY.get{H:Hp}{vs:LV}{rows:LL}(h:kY H vs rows){i:Nat}(hi:i < vs.length):∃(a:Addr) (hr:i < rows.length),vs[i]?=some (.ref a)/\H a=some (.tup (rows[i].map V.str)):=by
 have hr:i < rows.length:=by rw [<- eM h]; exact hi
 obtain ⟨a,e,q⟩:=je h i hi hr;exact⟨a,hr,by rw [af hi,e],q⟩
theorem take_snoc{α:Type}{l:List α}(h:i < l.length):l.take (i+1)=l.take i++[l[i]]:=by
 rw [List.take_succ,af h];rfl
theorem pP(rows:LL)(r:LS):full (rows++[r])=full rows++(if r.isEmpty=true then [] else [r]):=by
 unfold full;rw [js];congr 1;cases r <;> rfl
theorem jT{σ:L2.St}{A B:Hp->Prop}(h:A H):Rg σ H (fun b H3=>if b=true then A H3 else B H3):=by
 show (if true=true then A H else B H);rw [dC rfl];exact h
def R7(H:Hp)(x:Str)(r:Option LS)(v:V):Prop:=match r with
 | none=>v=.non
 | some os=>∃ q,v=.ref q/\H q=some (.tup ((x::os).map V.str))
theorem M4(r:LS):gW (r.map V.str) (some 1) none=(r.drop 1).map V.str:=by
 unfold gW;rw [aa];have e1:HT.sIx r.length 0 (some 1)=min 1 r.length:=HT.uO r.length 0 1;have e2:HT.sIx r.length r.length none=r.length:=rfl;rw [e1,e2,<- List.map_drop,<- gy];congr 1;cases r with
 | nil=>rfl
 | cons y r=>
  have:min 1 (y::r).length=1:=by simp
  rw [this];exact aE (by simp)
end L2
end
section
namespace HT
open PySem PySem.Spec PyProof.Rows
variable {sl:Addr}{items:Array rn}{vl vu:rn}{hi lo:Option Int}{Q:rn->sr->Prop}
section
variable {prog:uv}{w:xf}{A:xn}{E:rn->sr->Prop}{s:sr}
theorem qd{t:Addr}(ht:TX s.heap t items)(hs:s.heap.IsSliceOf sl vl vu .none)(pl:TQ vl lo)(pu:TQ vu hi)
  (hw:sIx items.size 0 lo=0/\sIx items.size items.size hi=items.size) (h:Q (.ref t) s):ut ‹18› A (QQ (.ref t) (.ref sl)) Q E s:=by
 obtain ⟨os,hos,hcs,hds⟩:=id hs;have hTs:s.TypeIs (.ref sl) "slice" := ⟨os,hos,hcs⟩;unfold QQ
 try with_reducible refine gv ?_
 first | refine ac (ay ?_) | skip
 refine ac (wpAny_sequenceKey ht.typeIs (by decide) ?_)
 refine ac (fk (name:=Str.ofString "__getitem__") ht.typeIs gT
  (hU gT ht.typeIs entry_tuple_getitem ?_ (args_tuple_getitem _ _)))
 show ut _ _ (uA.Tuple.tupleItemsOf (.ref t) >>= _) _ _ s;refine ac (tupleItemsOf_ ht ?_);refine ac (wpAny_typeOf hTs ?_);rw [dC (by decide)];refine ac (mH hs pl pu ?_)
 have hyes:(((sIx items.size 0 lo:Nat):Int) == 0 && (1:Int) == 1 && (sIx items.size items.size hi - sIx items.size 0 lo) == items.size)=true:=by
  rw [hw.1,hw.2];simp
 show ut _ _ (if (((sIx items.size 0 lo:Nat):Int) == 0 && (1:Int) == 1 && (sIx items.size items.size hi - sIx items.size 0 lo) == items.size)=true then _ else _) _ _ s;rw [dC hyes];unfold uA.Tuple.tupleIsExact;refine ac (ac (wpAny_typeOf ht.typeIs (ay ?_)));rw [dC (by decide)];refine ac (jS ?_);exact ay ⟨_,rfl,ay h⟩
end
end HT
namespace L2
open PySem PySem.Spec PyProof.Rows
variable {a b i1 i2 t1 t2 z:Addr}{P:uv}{w:xf}{K:PySem.W.Frag}{elts:List Expr}{n x1:Nat}{pos tpos:Pos}{ta:TA}{xs ys:LV}{σ:St}{H:Hp}{X:Cx}{tg:Expr}{J:It}{fp:LA}{tl:TE}
section
variable {X:Cx}
inductive Qe (K:PySem.W.Frag) (x:V) (lo:Option Int) (hi:Option Int) (H:Hp) (Q:VK):Prop
 | mk (a xs:_):x=.ref a->H a=some (.tup xs)->(∀ p H',H' p=some (.tup (gW xs lo hi))->Same H H'->Q (.ref p) H')->Qe K x lo hi H Q
theorem Fo:SlR X (Qe X.K):=by
 intro pins s σ H x v vl vu lo hi sl Q I rx hs pl pu h;obtain ⟨a,xs,rfl,hx,q⟩:=h
 by_cases hw:HT.sIx xs.length 0 lo=0/\HT.sIx xs.length xs.length hi=xs.length
 ·cases rx;obtain ⟨its,r,ht,hz⟩:=I.tuple (Ui (K:=X.K) hx);have hlen:its.toArray.size=xs.length:=by rw [bb]; exact r.length.symm
  refine⟨"tuple",_,gT.lookup,ht.typeIs,?_⟩;refine HT.qd ht hs pl pu (by rw [hlen]; exact hw) ?_
  have e:gW xs lo hi=xs:=by
   unfold gW;rw [hw.1,hw.2];simp
  exact⟨.ref a,H,I,rfl,q a H (by rw [e]; exact hx) (Same.refl H)⟩
 ·exact K1 pins s σ H (.ref a) v vl vu lo hi sl Q I rx hs pl pu ⟨a,xs,rfl,Ui hx,hw,fun p hp=>q p _ ak (Um hp)⟩
end
section
variable {prog:uv}{w:xf}{A:xn}{E:ES}{s:sr}
theorem G6{TI TO:Addr}{k:Nat}{xs ys:AV}{x a b:rn}{Q:Fin->sr->Prop}(hh:A.handled=none)(D:ZA z TI TO i1 i2 t1 t2)
  (hz:Hd s.heap z TI TO .none) (hTI:zz s.heap TI (.ref i1) (.ref i2)) (hTO:zz s.heap TO a b) (h1:s.heap.IsTupleIter i1 t1 k) (h2:s.heap.IsTupleIter i2 t2 k) (hl1:s.heap.IsTuple t1 xs) (hl2:s.heap.IsTuple t2 ys) (hx:xs[k]?=some x) (hy:ys[k]?=none)
  (hE:∀ h' e,(∀ c o,c≠z->c≠TO->c≠i1->c≠i2->s.heap.get? c=some o->h'.get? c=some o)->(∃ o,h'.get? e=some o/\o.cls=.type "StopIteration")->E (.ref e) { s with heap:=h' }) :
  ut ‹18› A (uA.«zip.__next__» ⟨[.ref z],[]⟩) Q E s:=by
 show ut _ _ (O3 (.ref z) 2 >>= _) _ _ _; refine ac (eQ hz rfl (x:=.bool false) rfl ?_);show ut _ _ (O3 (.ref z) 3 >>= _) _ _ _; refine ac (eQ hz rfl (x:=.ref TI) rfl (ac (gN hTI rfl ?_)));show ut _ _ (vz (.ref z) >>= _) _ _ _;unfold vz;refine ac (ac (eQ hz rfl (x:=.none) rfl (ay ?_)));simp only [ku];refine ac (jS (ac (eQ hz rfl (x:=.ref TO) rfl (ac (eW hz (by simp) fun g1 z1 q1=>?_)))))
 replace z1:Hd g1 z TI TO .ellipsis:=z1
 simp only [ly,mE,kT,lw];refine ac (ac (ac (kG ?_)));show ut _ _ (xj (.ref i1) >>= _) _ _ _;refine ac (kJ (h1.extBut q1.extBut D.a3) (hl1.extBut q1.extBut D.b2) hx fun g2 j2 q2=>ay ?_);have p2:zz g2 TO a b:=q2.extBut _ _ D.a8 (q1.extBut _ _ D.a2 hTO);refine ac (gN p2 rfl (ac (kC p2 fun g3 p3 q3=>ac (lx (ay ?_)))));refine ac (ac (kG ?_));show ut _ _ (xj (.ref i2) >>= _) _ _ _;refine ac (tK hh (((h2.extBut q1.extBut D.a4).extBut q2.extBut D.b1.symm).extBut q3.extBut D.a9.symm) (((hl2.extBut q1.extBut D.b6).extBut q2.extBut D.b8).extBut q3.extBut D.b7) hy fun g4 e q4 ⟨oe,e1,e2⟩=>?_);have z4:Hd g4 z TI TO .ellipsis:=q4 _ _ D.a4.symm (q3.extBut _ _ D.a2.symm (q2.extBut _ _ D.a3.symm z1));have hez:e≠z:=fun x=>by subst x; rw [z4] at e1; cases e1; simp at e2
 exact eW z4 (by simp) fun g5 _ q5=>hE g5 e (fun c o c1 c2 c3 c4 x=>q5.extBut _ _ c1 (q4 _ _ c4 (q3.extBut _ _ c2 (q2.extBut _ _ c3 (q1.extBut _ _ c1 x))))) ⟨oe,q5.extBut _ _ hez e1,e2⟩
end
def GZ(K:PySem.W.Frag)(t1 t2:Addr):It:=
 ⟨fun i H=>∃ xs ys x y,SqT K H t1 xs/\SqT K H t2 ys/\xs[i]?=some x/\ys[i]?=some y,fun i H v H'=>∃ p,H p=none/\v=.ref p/\∀ xs ys x y,SqT K H t1 xs->SqT K H t2 ys->xs[i]?=some x->ys[i]?=some y->H'=upd H p (.tup [x,y]),
  fun i H=>∃ xs ys,SqT K H t1 xs/\SqT K H t2 ys/\(xs.length<=i\/ys.length<=i)⟩
theorem Gh{TI TO:Addr}(D:ZA z TI TO i1 i2 t1 t2):Turn P w K (.Tuple elts x1 tpos) (GZ K t1 t2) [z,TI,TO,i1,i2] z
  (fun i h=>Hd h z TI TO .none/\zz h TI (.ref i1) (.ref i2)/\(∃ a b,zz h TO a b)/\h.IsTupleIter i1 t1 i/\h.IsTupleIter i2 t2 i) where
 mem:=(mJ (P:=P) (w:=w) (K:=K) (elts:=elts) (x1:=x1) (tpos:=tpos) D).mem
 obj:=(mJ (P:=P) (w:=w) (K:=K) (elts:=elts) (x1:=x1) (tpos:=tpos) D).obj
 keep:=(mJ (P:=P) (w:=w) (K:=K) (elts:=elts) (x1:=x1) (tpos:=tpos) D).keep
 item:=(mJ (P:=P) (w:=w) (K:=K) (elts:=elts) (x1:=x1) (tpos:=tpos) D).item
 done:=by
  intro X hP hw hK hc i pins s σ H E I hf st hg;subst hP hw hK;obtain ⟨xs,ys,q1,q2,e1⟩:=hg
  by_cases hx:xs.length<=i
  ·exact(mJ (P:=X.prog) (w:=X.w) (K:=X.K) (elts:=elts) (x1:=x1) (tpos:=tpos) D).done X rfl rfl rfl hc i pins s σ H E I hf st ⟨xs,q1,hx⟩
  ·have hy:=e1.resolve_left hx;obtain ⟨its,rv,p,hz'⟩:=I.tuple q1;obtain ⟨jts,rw',p',hz''⟩:=I.tuple q2;have hl:=rv.length;have hl2:=rw'.length;have hxi:i < xs.length:=by omega
   obtain ⟨u,hu,ru⟩:=rv.get (af hxi);obtain ⟨hz,hTI,⟨a,c,hTO⟩,h1,h2⟩:=st;have hT:s.TypeIs (.ref z) "zip" := ⟨_,hz,rfl⟩;unfold Hn
   refine ac (kH (fk (name:=Str.ofString "__next__") hT iS (hU iS hT lz
    (G6 (I.ok.hd hc) D hz hTI hTO h1 h2 (show s.heap.IsTuple t1 its.toArray from p) (show s.heap.IsTuple t2 jts.toArray from p') (x:=u) (by simpa using hu) (by simp; omega) fun h' e kk ⟨o,ho,hcl⟩=>?_) (kX _))))
   refine ac (nX (T:= "StopIteration") (b:=true) ⟨o,ho,hcl⟩ qv (ay ⟨rfl,I.sO (t':=s.toks) hf fun b u hb q=>?_⟩));simp only [bc,eL,iP,qB] at hb;exact kk b u hb.1 hb.2.2.1 hb.2.2.2.1 hb.2.2.2.2 q
 self:=(mJ (P:=P) (w:=w) (K:=K) (elts:=elts) (x1:=x1) (tpos:=tpos) D).self
section
variable {X:Cx}
inductive Ik (K:PySem.W.Frag) (R:It->Hp->Prop) (vs:LV) (H1:Hp):Prop
 | mk (a b xs ys:_):vs=[.ref a,.ref b]->SqT K H1 a xs->SqT K H1 b ys->R (GZ K a b) H1->Ik K R vs H1
def RZ(K:PySem.W.Frag)(ta:TA):TI:=fun σ H R=>ta σ H fun vs H1=>Ik K R vs H1
theorem yL{a b:Expr}{p:Pos}(hg:Gl X "zip")(hm:X.mg "zip" = none)(ha:PA X [a,b] ta)
  (he:uC [a,b] X.env=(false,eval a X.env)::uC [b] X.env:=by rfl) (hpl:(zg pos (uC [b] X.env)).any (·.1)=false:=by rfl):PI X (.Tuple elts x1 tpos) (.Call (.Name "zip" p) [a,b] [] pos) (RZ X.K ta):=by
 intro pins s σ H R I h;refine ib (oA I hg hm boot_zip ?_);refine i4 (thn (ha pos pins s σ H _ I h) fun us s1 ⟨vs,H1,I1,r1,t1,t2,xs,ys,e,q1,q2,q⟩=>?_) he hpl;subst e;obtain ⟨u,w',rfl,ru,rw'⟩:=vals2 r1;cases ru;cases rw';obtain ⟨its,rv,p1,hz1⟩:=I1.tuple q1;obtain ⟨jts,rv2,p2,hz2⟩:=I1.tuple q2;refine Lr (show s1.heap.IsTuple t1 its.toArray from p1) (show s1.heap.IsTuple t2 jts.toArray from p2) ?_;have b1:(zq1 s1.heap t1).objs.size=s1.heap.objs.size+1:=fS ..;have b2:(zq2 s1.heap t1 t2).objs.size=s1.heap.objs.size+2:=by rw [fS,b1]
 have b3:(zq3 s1.heap t1 t2).objs.size=s1.heap.objs.size+3:=by rw [fS,b2]
 have b4:(zq4 s1.heap t1 t2).objs.size=s1.heap.objs.size+4:=by rw [fS,b3]
 have c1:t1 < s1.heap.objs.size:=p1.lt;have c2:t2 < s1.heap.objs.size:=p2.lt;have hz:Hd (zq5 s1.heap t1 t2) (zq4 s1.heap t1 t2).objs.size (zq2 s1.heap t1 t2).objs.size (zq3 s1.heap t1 t2).objs.size .none:=aS _ rfl
 have DD:ZA (zq4 s1.heap t1 t2).objs.size (zq2 s1.heap t1 t2).objs.size (zq3 s1.heap t1 t2).objs.size s1.heap.objs.size (zq1 s1.heap t1).objs.size t1 t2:=by
  rw [b4,b2,b3,b1];exact N5 c1 c2
 refine n0 hz ?_;have I2:Inv X pins σ H1 { s1 with heap:=zq5 s1.heap t1 t2 }:=I1.kept (t':=s1.toks) fun b o e=>ai _ (ai _ (ai _ (ai _ (ai _ e))))
 refine⟨(zq4 s1.heap t1 t2).objs.size,[(zq4 s1.heap t1 t2).objs.size,(zq2 s1.heap t1 t2).objs.size,(zq3 s1.heap t1 t2).objs.size,s1.heap.objs.size,(zq1 s1.heap t1).objs.size],_,GZ X.K t1 t2,H1,rfl,I2,
  Gh DD,⟨hz,?_,⟨.none,.none,?_⟩,?_,?_⟩,fun b hb=>?_,q⟩
 ·exact ai _ (ai _ (aS _ rfl))
 ·exact ai _ (aS _ rfl)
 ·exact⟨_,ai _ (ai _ (ai _ (ai _ (aS _ rfl)))),rfl,rfl⟩
 ·exact⟨_,ai _ (ai _ (ai _ (aS _ rfl))),rfl,rfl⟩
 ·have hle:s1.heap.objs.size<=b:=by
   rw [b4,b2,b3,b1] at hb;simp only [bc,eL,iP] at hb;rcases hb with h | h | h | h | h <;> rw [h] <;> first | exact am _ | exact lI _ _
  exact I1.nZ hle (I1.hok.fresh hle)
end
theorem uP{g:TG}{tb:TS}{D:Ends}(hn:n=min xs.length ys.length)(Pv:Nat->St->Hp->Prop)(h0:Pv 0 σ H)(hl:∀ i σ H,i<=n->Pv i σ H->SqT K H a xs/\SqT K H b ys)
  (hs:∀ i x y σ H p,xs[i]?=some x->ys[i]?=some y->Pv i σ H->H p=none->g (.ref p) σ (upd H p (.tup [x,y])) fun σ2 H2=>tb { D with nx:=Pv (i+1),ct:=Pv (i+1),bk:=D.nx } σ2 H2) (hd:∀ σ H,Pv n σ H->D.nx σ H) :
  ∃ W:Nat->Nat->St->Hp->Prop,(∃ m,W 0 m σ H)/\∀ i m σ H,W i m σ H->
   ((GZ K a b).stop i H/\D.nx σ H)\/((GZ K a b).go i H/\∃ N:St->Hp->Prop,(∀ σ' H',N σ' H'->∃ m',m' < m/\W (i+1) m' σ' H')/\∀ x H',(GZ K a b).yld i H x H'->g x σ H' fun σ2 H2=>tb { D with nx:=N,ct:=N,bk:=D.nx } σ2 H2):=by
 refine⟨fun i m σ H=>m=n - i/\i<=n/\Pv i σ H,⟨n,by simp,bn _,h0⟩,?_⟩;rintro i m σ H ⟨rfl,hi,p⟩;obtain ⟨q1,q2⟩:=hl i σ H hi p
 by_cases hlt:i < n
 ·have hx:i < xs.length:=by omega
  have hy:i < ys.length:=by omega
  refine .inr ⟨⟨xs,ys,xs[i],ys[i],q1,q2,af hx,af hy⟩,Pv (i+1),fun σ' H' p'=>⟨n - (i+1),by omega,rfl,hlt,p'⟩,fun x H' y=>?_⟩;obtain ⟨r,hr,rfl,y⟩:=y;have e:=y xs ys xs[i] ys[i] q1 q2 (af hx) (af hy);subst e;exact hs i xs[i] ys[i] σ _ r (af hx) (af hy) p hr
 ·have e:i=n:=by omega
  subst e;exact .inl ⟨⟨xs,ys,q1,q2,by omega⟩,hd σ H p⟩
def tx:rn->Str
 | .str x _=>x
 | _=> ""
def un(ns:LS):Nat->Nat
 | 0=>0
 | i+1=>if decide (ns.getD i "" ∈ ns.take i)=true then un ns i else un ns i+1
inductive Ak (x:V) (y:V) (H:Hp) (Q:VK):Prop
 | mk (a b:Addr) (xs:LV):x=.ref a->y=.ref b->H a=some (.lst xs)->H b=some (.lst xs)->xs.all kO=true->Q (.bl true) H->Ak x y H Q
theorem BP(hu:X.A.units < cLine):OpR X (yo .Eq) Ak:=by
 intro pins s σ H x y v u Q I rx ry h;obtain ⟨a,b,xs,rfl,rfl,ha,hb,hf,q⟩:=h;cases rx;cases ry;obtain ⟨its,r,p,_⟩:=I.list (Uh (K:=X.K) ha);obtain ⟨its2,r2,p2,_⟩:=I.list (Uh (K:=X.K) hb);have l1:=r.length;have l2:=r2.length
 have key:=SeqAt.RcAt.lists (A:=X.A) (s:=s) (e:=fun _=>true) p.isList p2.isList (by simp; omega) hu (fun j h1 h2=>by
  have h1':j < its.length:=by simpa using h1
  have j1:j < xs.length:=by omega
  have e1:xs[j]?=some xs[j]:=af j1;obtain ⟨w1,k1,m1⟩:=r.get e1;obtain ⟨w2,k2,m2⟩:=r2.get e1
  have n1:its.toArray[j]=w1:=by
   have:its.toArray[j]?=some w1:=by simpa using k1
   rw [jp h1] at this;exact dL this
  have n2:its2.toArray[j]=w2:=by
   have:its2.toArray[j]?=some w2:=by simpa using k2
   rw [jp h2] at this;exact dL this
  rw [n1,n2];have fj:kO xs[j]=true:=fE.mp hf _ (dm j1);have:=Ce (A:=X.A.in1) (s:=s) m1 m2 fj fj;rw [JZ fj] at this;exact this)
 have ee:((List.range its.toArray.size).all (fun _=>true))=true:=by simp
 rw [ee] at key;exact key X.prog X.w X.xe _ ⟨.bl _,H,I,rfl,q⟩
abbrev N0:PySem.W.Frag:=[]
section
variable {X:Cx}
theorem SqT.up(h:SqT N0 H a xs):SqT K H a xs:=by
 rcases h with h | ⟨o,its,n,h,_⟩
 ·exact .inl h
 ·cases h
theorem SqL.up(h:SqL N0 H a xs):SqL K H a xs:=by
 rcases h with h | ⟨o,its,n,h,_⟩
 ·exact .inl h
 ·cases h
theorem Sq.up(h:SqL N0 H a xs\/SqT N0 H a xs):SqL K H a xs\/SqT K H a xs:=h.elim (fun h=>.inl h.up) fun h=>.inr h.up
theorem aU:IxR X (Gx N0):=fun value slice pins s σ H x y v u Q I rx ry ⟨p,xs,i,z,e1,e2,h,e3,q⟩ hs=>nH value slice pins s σ H x y v u Q I rx ry ⟨p,xs,i,z,e1,e2,h.up,e3,q⟩ hs
theorem bO:IxR X (Ht N0):=fun value slice pins s σ H x y v u Q I rx ry ⟨p,xs,i,z,e1,e2,h,e3,q⟩ hs=>yt value slice pins s σ H x y v u Q I rx ry ⟨p,xs,i,z,e1,e2,h.up,e3,q⟩ hs
theorem vB:SlR X (HS N0):=fun pins s σ H x v vl vu lo hi sl Q I rx hs pl pu ⟨a,xs,e,h,q⟩=>uJ pins s σ H x v vl vu lo hi sl Q I rx hs pl pu ⟨a,xs,e,h.up,q⟩
theorem iH:SlR X (Qe N0):=fun pins s σ H x v vl vu lo hi sl Q I rx hs pl pu ⟨a,xs,e,h,q⟩=>Fo pins s σ H x v vl vu lo hi sl Q I rx hs pl pu ⟨a,xs,e,h,q⟩
theorem bC:iz X (.builtin "len") (lN N0):=fun pins s σ H xs us Q I r ⟨p,ys,e,h,q⟩=>kh pins s σ H xs us Q I r ⟨p,ys,e,Sq.up h,q⟩
theorem qT:iz X (.type "list") (lF N0):=fun pins s σ H xs us Q I r ⟨p,ys,e,h,q⟩=>za pins s σ H xs us Q I r ⟨p,ys,e,Sq.up h,q⟩
theorem bM:iz X (.type "tuple") (jY N0):=fun pins s σ H xs us Q I r ⟨p,ys,e,h⟩=>wk pins s σ H xs us Q I r ⟨p,ys,e,h.elim (fun h=>.inl ⟨h.1.up,h.2⟩) fun h=>.inr ⟨h.1.up,h.2⟩⟩
theorem Hy(hc:X.calm=true):iz X (.builtin "all") (qR N0):=fun pins s σ H xs us Q I r ⟨p,ys,e,h,q⟩=>Jc hc pins s σ H xs us Q I r ⟨p,ys,e,h.up,q⟩
theorem uV:OpR X (yo .In) (rIn N0 false):=fun pins s σ H x y v u Q I rx ry ⟨p,xs,e,h,f,g,q⟩=>GJ pins s σ H x y v u Q I rx ry ⟨p,xs,e,Sq.up h,f,g,q⟩
theorem pN:OpR X (yo .NotIn) (rIn N0 true):=fun pins s σ H x y v u Q I rx ry ⟨p,xs,e,h,f,g,q⟩=>yO pins s σ H x y v u Q I rx ry ⟨p,xs,e,Sq.up h,f,g,q⟩
theorem Qu{m n:String}{b:Bool}(h:PySem.W.kitOne N0 (.type m) (.type n)=some b):PySem.W.kitOne K (.type m) (.type n)=some b:=h
theorem jk:iz X (.builtin "isinstance") (mD N0):=fun pins s σ H xs us Q I r ⟨x,n,t,b,e,ty,kt,q⟩=>by
 have go:∀ {m:String},t=.type m->rC X.K H x t->ut ‹6› X.A (call (.builtin "isinstance") us) (EP X pins σ Q) X.xe s:=fun {m} e' ty'=>uf pins s σ H xs us Q I r ⟨x,n,t,b,e,ty',by subst e'; exact Qu kt,q⟩;cases ty with
 | non=>exact go rfl .non
 | bl b=>exact go rfl (.bl b)
 | int i=>exact go rfl (.int i)
 | str x=>exact go rfl (.str x)
 | flt x=>exact go rfl (.flt x)
 | lst h=>exact go rfl (.lst h)
 | frz h=>exact go rfl (.frz h)
 | tup h=>exact go rfl (.tup h)
 | dK h=>exact go rfl (.dK h)
 | dT h=>exact go rfl (.dT h)
 | ins h cl ha hn ht hm=>exact absurd hm (by simp [PySem.W.mroIn,PySem.W.clsIn])
theorem It.weak{J':It}{it:Addr}{tn:Nat->Heap->Prop}(t:Turn P w K tg J fp it tn)(g:∀ i H,J'.go i H->J.go i H)(y:∀ i H x H',J.yld i H x H'->J'.yld i H x H')(d:∀ i H,J'.stop i H->J.stop i H):Turn P w K tg J' fp it tn:=
 ⟨t.mem,t.obj,t.keep,fun X hP hw hK hc i pins s σ H E I hf st hg=>fT (t.item X hP hw hK hc i pins s σ H E I hf st (g i H hg)) (fun r s1 ⟨u,e,q⟩=>⟨u,e,fT q (fun _ s2 ⟨x,H',I',rx,yy,z⟩=>⟨x,H',I',rx,y i H x H' yy,z⟩) fun _ _ h=>h⟩) fun _ _ h=>h,
  fun X hP hw hK hc i pins s σ H E I hf st hg=>t.done X hP hw hK hc i pins s σ H E I hf st (d i H hg),t.self⟩
theorem eY{l:Expr}(hl:PE X l tl):PI X tg l (R4 N0 tl):=by
 intro pins s σ H R I h;refine thn (hl pins s σ H _ I h) fun v s1 ⟨x,H1,I1,r1,a,e,⟨xs,hq⟩,q⟩=>?_;subst e;cases r1;obtain ⟨its,rv,p,hz⟩:=I1.tuple hq.up;refine wpAny_pyIter_tuple (show s1.heap.IsTuple a its.toArray from p) ?_;refine⟨s1.heap.objs.size,[s1.heap.objs.size],_,_,H1,rfl,I1.kept (t':=s1.toks) fun b o e=>ai _ e,It.weak (J':=Itt N0 a) (uW a _) (fun i H ⟨xs,x,h,e⟩=>⟨xs,x,h.up,e⟩) (fun i H x H' ⟨e,h⟩=>⟨e,fun xs h'=>h xs h'.up⟩) (fun i H ⟨xs,h,l⟩=>⟨xs,h.up,l⟩),⟨_,aS _ rfl,rfl,rfl⟩,fun b hb=>?_,q⟩;have e:b=s1.heap.objs.size:=by simpa using hb
 subst e;exact I1.nZ (am _) (I1.hok.fresh (am _))
theorem fM{l:Expr}(hl:PE X l tl):PI X tg l (Nq N0 tl):=by
 intro pins s σ H R I h;refine thn (hl pins s σ H _ I h) fun v s1 ⟨x,H1,I1,r1,a,e,⟨xs,hq⟩,q⟩=>?_;subst e;cases r1;obtain ⟨its,rv,p,hz⟩:=I1.list hq.up;refine wpAny_pyIter_list p.isList ?_;refine⟨s1.heap.objs.size,[s1.heap.objs.size],_,_,H1,rfl,I1.kept (t':=s1.toks) fun b o e=>ai _ e,It.weak (J':=Itl N0 a) (sU a _) (fun i H ⟨xs,x,h,e⟩=>⟨xs,x,h.up,e⟩) (fun i H x H' ⟨e,h⟩=>⟨e,fun xs h'=>h xs h'.up⟩) (fun i H ⟨xs,h,l⟩=>⟨xs,h.up,l⟩),⟨_,aS _ rfl,rfl,rfl⟩,fun b hb=>?_,q⟩;have e:b=s1.heap.objs.size:=by simpa using hb
 subst e;exact I1.nZ (am _) (I1.hok.fresh (am _))
theorem fL{es:List Expr}{k:Nat}{t:TGs}(hc:X.calm=true)(h:PGs X es t)
  (hn:(JP es X.env).length=n:=by rfl) (hst:(JP es X.env).findIdx? (·.1)=none:=by rfl):PG X (.Tuple es k pos) (QH N0 n t):=
 fun pins s σ H v u Q I r ⟨a,xs,e1,hq,l,q⟩=>K8 hc h hn hst pins s σ H v u Q I r ⟨a,xs,e1,hq.up,l,q⟩
end
end L2
end
section
namespace K37
open PySem PyProof.Rows L2
variable {K:PySem.W.Frag}{H H':Hp}{e m p q:Addr}{xs:LV}{v:V}{es:LS}
section
variable {P:uv}{w:xf}{K:PySem.W.Frag}{mg:MG}{base:Heap}{t:Adr}
inductive DY (vs:LV) (H:Hp) (Q:VK) (E_:XK):Prop
 | mk (x:Str) (rl:Addr) (us:LV) (rows:LL):vs=[.str x,.ref rl]->H rl=some (.lst us)->kY H us rows->tot rows<=1000->rows.length<=1000->(∀(v:V) (r:Option LS) H',Mg (full rows) r->R7 H' x r v->Same H H'->Q v H')->DY vs H Q E_
theorem JT(D:Defs K mg t):bw P w K mg base CX0 1 t.gM.1 t.gM.2 ["_law_kind","_law_rows"] DY:=by
 have hz:sizeLine=16777216:=ci;refine D.gM.fn.ok gA ‹5› ‹2›
 ·obtain ⟨x,rl,us,rows,rfl,_⟩:=h;rfl
 ·obtain ⟨x,rl,us,rows,rfl,hrl,rt,htot,hlen,k⟩:=h;have hul:us.length=rows.length:=eM rt
  refine⟨_,(aA (aK (i:=2) gA.nd rfl (ue rfl) (bB (aj (pv 0) aq)))
   (aA (aK (i:=1) gA.nd rfl (My rfl) (fu rfl (Uo ["_law_row"] [] ["_law_row"] (aG (top 41)) ["_law_kind","_law_rows","_law_order","_law_good"] rfl rfl ‹3›) ⟨fun _ _ _ _ _=>(aJ (i:=0) (show List.Nodup [("_law_row" : Str)] by decide +kernel) rfl (ue (aw rfl)) ‹15›),fun _ _ _ _ _=>(jL (aL uX (aW bC (by rfl) D.dg bY (aj (pv 0) aq)) aC (aQ _))),fun _ _ _ _ _=>(bK qT (by rfl) D.Bo yQ (aj (pv 0) aq))⟩ (fM (pv 1))))
   (aA (vI dQ (aL (KH rfl hr.yg) (pv 1) (bB aq) (aQ _))
   (aA (aK (i:=3) gA.nd rfl (My rfl) (fu rfl (Uo ["_law_row"] [1] ["_law_row","_law_rows"] (aG (top 41)) ["_law_kind","_law_rows","_law_order","_law_good"] rfl rfl ‹3›) ⟨fun _ _ _ _ _=>(aJ (i:=0) (show List.Nodup [("_law_row" : Str),("_law_rows" : Str)] by decide +kernel) rfl (My (jZ rfl)) (.inl rfl)),fun _ _ _ _ _=>(jL (sS (lA (aW (BZ (K:=K) rfl rfl) (by rfl) D.Nx HW (aj (fu rfl (aZ.of2 ["_law_other"] [0] ["_law_other","_law_row"] ["_law_row","_law_rows"] rfl rfl ‹3›) ⟨fun _ _ _ _ _=>(aJ (i:=0) (show List.Nodup [("_law_other" : Str),("_law_row" : Str)] by decide +kernel) rfl (ue (aw rfl)) ‹15›),fun _ _ _ _ _=>iU,fun _ _ _ _ _=>(su uV (aV bO (pv 1) aC ‹4›) (cX vB (pv 0) (cW aC) fW) (by with_unfolding_all rfl))⟩ (fM (pv 1))) aq))))),fun _ _ _ _ _=>(aV bO (pv 0) aC ‹4›)⟩ (fM (pv 1))))
   (aA (bD (aL (QS rfl hr.yg) (pv 3) (bB aq) (aQ _))
   (aD (aR mq))
   aX)
   (aA (aP (eO br cw cy bT (pv 2) (aj (aV bO (pv 3) aC ‹4›) aq)))
   (aA (aK (i:=1) gA.nd rfl (My rfl) (fu rfl (Uo ["_law_row"] [3] ["_law_row","_law_good"] (aG (top 41)) ["_law_kind","_law_rows","_law_order","_law_good"] rfl rfl ‹3›) ⟨fun _ _ _ _ _=>(aJ (i:=0) (show List.Nodup [("_law_row" : Str),("_law_good" : Str)] by decide +kernel) rfl (ue (aw rfl)) ‹15›),fun _ _ _ _ _=>iU,fun _ _ _ _ _=>(fu rfl (aZ.of2 ["_law_one"] [1] ["_law_one","_law_good"] ["_law_row","_law_good"] rfl rfl ‹3›) ⟨fun _ _ _ _ _=>(aJ (i:=0) (show List.Nodup [("_law_one" : Str),("_law_good" : Str)] by decide +kernel) rfl (ue (aw rfl)) ‹15›),fun _ _ _ _ _=>(jL (aL vV (pv 0) (aV bO (pv 1) aC ‹4›) (aQ _))),fun _ _ _ _ _=>(pv 0)⟩ (fM (pv 0)))⟩ (fM (pv 1))))
   (aD (aK (i:=1) gA.nd rfl (My rfl) (fu rfl (Uo ["_law_row"] [] ["_law_row"] (aG (top 41)) ["_law_kind","_law_rows","_law_order","_law_good"] rfl rfl ‹3›) ⟨fun _ _ _ _ _=>(aJ (i:=0) (show List.Nodup [("_law_row" : Str)] by decide +kernel) rfl (ue (aw rfl)) ‹15›),fun _ _ _ _ _=>(jL (aL (KH (K:=K) rfl hr.yg) (pv 0) (bB aq) (aQ _))),fun _ _ _ _ _=>(pv 0)⟩ (fM (pv 1))))))))))
   (aD (aR (bK bM (by rfl) D.cJ bR (aj (pv 2) aq))))))),?_⟩
  refine⟨_,rfl,by show 1<=sizeLine; decide,fun ol hol=>?_⟩;have s0:Same H (upd H ol (.lst [.str x])):=Um hol;refine⟨_,rfl,rl,rfl,⟨_,Uh (s0 rl _ hrl)⟩,fun D1 hD1=>?_⟩;have olD1:ol≠D1:=aB ak hD1;have hD1H:H D1=none:=by rw [au olD1.symm] at hD1; exact hD1
  refine dD (n:=us.length) (fun i ys H2=>H2 D1=some (.lst ys)/\oU H2 D1 ol ys (full (rows.take i))/\H2 ol=some (.lst [.str x])/\Same H H2)
   ⟨ak,.nil,by rw [au olD1,ak],s0.trans (Um hD1)⟩ ?_ ?_
  ·rintro ys H2 ⟨hD2,rl2,hol2,sm2⟩;rw [aE ‹23›] at rl2;refine⟨⟨_,Uh (sm2 rl _ hrl),am _⟩,?_⟩
   refine⟨fun m σ H3=>∃(zs:LV) (rows3:LL) (os:LS) (r3:Addr) (v3:OV),σ=[some (.str x),some (.ref r3),some (.ref ol),v3]/\H3 r3=some (.lst zs)/\qj H3 ol zs rows3/\r3≠ol/\full rows3=rows3/\H3 ol=some (.lst ((x::os).map V.str))/\m=tot rows3/\os.length+tot rows3<=1000/\
    (∀ r,Mg rows3 r->Mg (full rows) (r.map (os++·)))/\Same H H3,⟨_,ys,full rows,[],D1,_,rfl,hD2,rl2.x,olD1.symm,?_,hol2,rfl,by rw [rB]; show 0+_<=_; omega,fun r h=>?_,sm2⟩,?_⟩
   ·unfold full;rw [List.filter_filter];simp
   ·have:r.map (([]:LS)++·)=r:=by cases r <;> rfl
    rw [this];exact h
   rintro m σ H3 ⟨zs,rows3,os,r3,v3,rfl,hr3,rl3,r3o,hf3,hol3,rfl,hb3,mg3,sm3⟩;have hzl:zs.length=rows3.length:=eM rl3;have hrl3:rows3.length<=tot rows3:=by have:=oW rows3; rwa [hf3] at this
   refine⟨_,rfl,bn _,fun e0 he0=>⟨r3,e0,zs,rfl,rfl,Uh (by rw [au (aB hr3 he0)]; exact hr3),Uh ak,_,rfl,?_⟩⟩;have s4:Same H3 (upd H3 e0 (.lst [])):=Um he0;cases hzs:zs with
   | nil=>
    subst hzs
    have e3:rows3=[]:=by
     cases rows3 with
     | nil=>rfl
     | cons _ _=>rw [de,ar] at hzl; omega
    subst e3;refine iG ⟨_,rfl,ol,_,rfl,.inl ⟨Uh (s4 ol _ hol3),fun q hq=>?_⟩⟩;refine k (.ref q) (some os) _ ?_ ⟨q,rfl,ak⟩ ((sm3.trans s4).trans (Um hq));have:=mg3 _ .nil;simpa using this
   | cons z0 zr=>
    have hne:rows3≠[]:=fun e=>by rw [e,hzs] at hzl; simp at hzl
    rw [<- hzs];have hb:(!zs.isEmpty)=true:=by rw [hzs]; rfl
    rw [hb];clear hzs hb z0 zr
    refine jQ ⟨fun σ' H'=>∃ m',m' < tot rows3/\∃(zs:LV) (rows3:LL) (os:LS) (r3:Addr) (v3:OV),σ'=[some (.str x),some (.ref r3),some (.ref ol),v3]/\H' r3=some (.lst zs)/\qj H' ol zs rows3/\r3≠ol/\full rows3=rows3/\H' ol=some (.lst ((x::os).map V.str))/\m'=tot rows3/\os.length+tot rows3<=1000/\
     (∀ r,Mg rows3 r->Mg (full rows) (r.map (os++·)))/\Same H H',fun σ' H' h=>h,?_⟩
    have hnz:∀ r∈rows3,∃ y r',r=y::r':=fun r hr=>by
     rw [<- hf3] at hr;have:=(eS.mp hr).2;cases r with
     | nil=>cases this
     | cons y r'=>exact⟨y,r',rfl⟩
    generalize upd H3 e0 (.lst [])=H4 at s4;have rl4:=rl3.mono s4;have hr4:=s4 r3 _ hr3;refine⟨_,rfl,r3,rfl,⟨_,Uh hr4⟩,fun D2 hD2=>?_⟩;refine dD (n:=zs.length) (fun i ys H5=>ys=((rows3.take i).flatMap (freeOf rows3)).map V.str/\H5 D2=some (.lst ys)/\Same H4 H5) ⟨rfl,ak,Um hD2⟩ ?_ ?_
    ·rintro ys' H5 ⟨rfl,hD5,sm5⟩;rw [aE ‹23›] at hD5;refine⟨⟨_,Uh (sm5 r3 _ hr4),am _⟩,?_⟩;have hD5:H5 D2=some (.lst ((frees rows3).map V.str)):=hD5;refine⟨_,rfl,bn _,fun e1 he1=>⟨D2,e1,_,rfl,rfl,Uh (by rw [au (aB hD5 he1)]; exact hD5),Uh ak,_,rfl,?_⟩⟩;have s6:Same H5 (upd H5 e1 (.lst [])):=Um he1;generalize upd H5 e1 (.lst [])=H6 at s6;have sm6:Same H4 H6:=sm5.trans s6;have hD6:=s6 D2 _ hD5;cases hfr:frees rows3 with
     | nil=>
      refine jQ ?_;have:=mg3 none (.stuck hne hfr);exact k .non none H6 this rfl ((sm3.trans s4).trans sm6)
     | cons x1 more=>
      rw [hfr] at hD6;refine iG ?_;have hx1:x1∈frees rows3:=by rw [hfr]; exact bE
      obtain ⟨r1,hr1,hh1⟩:=tG hx1
      have hx1r:x1∈r1:=by
       cases r1 with
       | nil=>cases hh1
       | cons y r'=>
        cases hh1;exact bE
      have hol6:=sm6 ol _ (s4 ol _ hol3);have hr6:=sm6 r3 _ hr4;refine⟨_,rfl,.inl ⟨rfl,_,Uh hol6⟩,_,rfl,D2,_,_,_,rfl,rfl,Uh hD6,at0 x1 more,ol,_,.str x1,rfl,rfl,hol6,by rw [aa,ar]; omega,?_⟩;have eol:(x::os).map V.str++[V.str x1]=(x::(os++[x1])).map V.str:=by rw [eB,eB,az]; rfl
      rw [eol]
      have oD:ol≠D2:=fun e=>by
       have h1:=hD2;rw [<- e,s4 ol _ hol3] at h1;cases h1
      have kp7:∀ b u,b≠ol->H6 b=some u->(upd H6 ol (.lst ((x::(os++[x1])).map V.str))) b=some u:=fun b u hb e=>by rw [au hb]; exact e
      have sm7:Same H (upd H6 ol (.lst ((x::(os++[x1])).map V.str))):=fun b u e=>kp7 b u (aB e hol) (sm6 b u (s4 b u (sm3 b u e)))
      have rl7:∀ i (hi:i < zs.length),∃(a:Addr) (hr:i < rows3.length),zs[i]?=some (.ref a)/\(upd H6 ol (.lst ((x::(os++[x1])).map V.str))) a=some (.lst (rows3[i].map V.str)):=fun i hi=>by
       obtain ⟨a,hr',e,n,q⟩:=(rl4.mono sm6).get hi;exact⟨a,hr',e,kp7 a _ n q⟩
      have hol7:(upd H6 ol (.lst ((x::(os++[x1])).map V.str))) ol=some (.lst ((x::(os++[x1])).map V.str)):=ak;have hr7:=kp7 r3 _ r3o hr6;have hD7:=kp7 D2 _ oD.symm hD6;generalize upd H6 ol (.lst ((x::(os++[x1])).map V.str))=H7 at kp7 sm7 rl7 hol7 hr7 hD7;have hlt:=qJ (x:=x1) ⟨r1,hr1,hx1r⟩;refine⟨_,rfl,r3,rfl,⟨_,Uh hr7⟩,fun D4 hD4=>?_⟩;refine dD (n:=zs.length) (fun i ys H8=>H8 D4=some (.lst ys)/\oU H8 D4 ol ys ((rows3.take i).map (cH x1))/\Same H7 H8) ⟨ak,.nil,Um hD4⟩ ?_ ?_
      ·rintro ys8 H8 ⟨hD8,ry8,sm8⟩;rw [aE ‹23›] at ry8;refine⟨⟨_,Uh (sm8 r3 _ hr7),am _⟩,?_⟩;have hy8:ys8.length=rows3.length:=by rw [eM ry8,aa]
       refine⟨_,rfl,D4,rfl,⟨_,Uh hD8⟩,fun D6 hD6'=>?_⟩;have rx8:=ry8.x;refine dD (n:=ys8.length) (fun i ys H9=>H9 D6=some (.lst ys)/\oU H9 D6 ol ys (full ((rows3.map (cH x1)).take i))/\Same H8 H9) ⟨ak,.nil,Um hD6'⟩ ?_ ?_
       ·rintro ys9 H9 ⟨hD9,ry9,sm9⟩;rw [aE (by rw [aa]; omega)] at ry9;refine⟨⟨_,Uh (sm9 D4 _ hD8),am _⟩,?_⟩;have sm89:=sm8.trans sm9;refine⟨tot (full (rows3.map (cH x1))),by rw [rB]; exact hlt,ys9,full (rows3.map (cH x1)),os++[x1],D6,_,rfl,hD9,ry9.x,?_,?_,sm89 ol _ hol7,rfl,?_,fun r h=>?_,sm7.trans sm89⟩
        ·intro e;rw [e] at hD9;rw [sm89 ol _ hol7] at hD9;injection hD9 with hD9;injection hD9 with hD9;cases ys9 with
         | nil=>cases hD9
         | cons y9 _=>
          obtain ⟨a9,_,e9,_⟩:=ry9.x.get (i:=0) (by simp);injection hD9 with h9 _;rw [<- h9] at e9;cases e9
        ·unfold full;rw [List.filter_filter];simp
        ·rw [rB,ae,em];omega
        ·have h1:=mg3 _ (.step hfr h);rw [Option.map_map] at h1
         have:((fun x=>os++x) ∘ fun x=>x1::x)=fun x=>os++[x1]++x:=by
          funext z;simp
         rw [this] at h1;exact h1
       ·rintro i ys9 H9 hi ⟨hD9,ry9,sm9⟩;obtain ⟨a,hir,ea,_,ha⟩:=(rx8.mono sm9).get hi;refine⟨⟨_,_,Uh (sm9 D4 _ hD8),ea⟩,?_⟩;rintro yv H10 ⟨rfl,yy⟩ σo ho;obtain ⟨oo,rfl⟩:=own1 ho;have ey:=yy _ (Uh (sm9 D4 _ hD8));rw [ea] at ey;cases ey
        have hys:ys9.length<=1000:=by
         rw [eM ry9];refine eR (fF _ _) ?_;rw [cf,aa];omega
        refine⟨‹16›,_,rfl,bn _,fun e2 he2=>⟨a,e2,_,rfl,rfl,Uh (by rw [au (aB ha he2)]; exact ha),Uh ak,_,rfl,?_⟩⟩;have s10:Same H10 (upd H10 e2 (.lst [])):=Um he2
        have hb:(!(((rows3.map (cH x1))[i]).map V.str).isEmpty)=!((rows3.map (cH x1))[i]).isEmpty:=by
         cases (rows3.map (cH x1))[i] <;> rfl
        rw [hb];cases he:((rows3.map (cH x1))[i]).isEmpty with
        | true=>
         refine iG (bV hi ⟨s10 D6 _ hD9,?_,sm9.trans s10⟩);rw [take_snoc hir,pP,dC he,av];exact ry9.mono s10
        | false=>
         have aD6:a≠D6:=fun e=>by
          have:=hD6';obtain ⟨a',_,ea',_,ha'⟩:=rx8.get hi;rw [ea] at ea';cases ea';rw [<- e,ha'] at this;cases this
         have ao:a≠ol:=by
          obtain ⟨a',_,ea',n',_⟩:=rx8.get hi;rw [ea] at ea';cases ea';exact n'
         refine jQ ⟨_,rfl,by omega,s10 D6 _ hD9,bV hi ⟨ak,?_,fun b u e=>?_⟩⟩
         ·rw [take_snoc hir,pP,cK (by rw [he]; exact bo)];exact fG (ry9.grow s10) ⟨a,rfl,aD6,ao,by rw [au aD6]; exact s10 a _ ha⟩
         ·rw [au (aB e hD6')];exact s10 b _ (sm9 b _ e)
      ·rintro i ys8 H8 hi ⟨hD8,ry8,sm8⟩;obtain ⟨a,hir,ea,ha⟩:=rl7 i hi;have ha8:=sm8 a _ ha;refine⟨⟨_,_,Uh (sm8 r3 _ hr7),ea⟩,?_⟩;rintro yv H9 ⟨rfl,yy⟩ σo ho;obtain ⟨oo,rfl⟩:=own1 ho;have ey:=yy _ (Uh (sm8 r3 _ hr7));rw [ea] at ey;cases ey
       have hys:ys8.length<=1000:=by
        rw [eM ry8,aa,cf];omega
       refine⟨‹16›,jT ⟨_,rfl,a,rfl,⟨_,Uh ha8⟩,fun D5 hD5'=>?_⟩⟩;have s9:∀ o,Same H9 (upd H9 D5 o):=fun o=>Um hD5';have D54:D5≠D4:=fun e=>by rw [e,hD8] at hD5'; cases hD5'
       have D5o:D5≠ol:=fun e=>by rw [e,sm8 ol _ hol7] at hD5'; cases hD5'
       have hrl1:(rows3[i]).length<=1000:=by
        have:=vW (dm hir);omega
       refine dD (n:=((rows3[i]).map V.str).length) (fun j ys5 H10=>ys5=(cH x1 ((rows3[i]).take j)).map V.str/\H10=upd H9 D5 (.lst ys5)) ⟨rfl,rfl⟩ ?_ ?_
       ·rintro ys5 H10 ⟨rfl,rfl⟩;rw [aE (by rw [aa]; exact am _)];refine⟨⟨_,Uh (s9 _ a _ ha8),am _⟩,by omega,s9 _ D4 _ hD8,bV hi ⟨ak,?_,fun b u e=>?_⟩⟩
        ·rw [take_snoc hir,az];exact fG (ry8.grow (s9 _)) ⟨D5,rfl,D54,D5o,by rw [au D54,ak]⟩
        ·rw [au (aB e hD4)];exact s9 _ b _ (sm8 b _ e)
       ·rintro j ys5 H10 hj ⟨rfl,rfl⟩;have hj':j < (rows3[i]).length:=by rw [aa] at hj; exact hj
        have ej:((rows3[i]).map V.str)[j]?=some (.str (rows3[i])[j]):=by rw [bj,af hj']; rfl
        refine⟨⟨_,_,Uh (s9 _ a _ ha8),ej⟩,?_⟩;rintro y5 H11 ⟨rfl,yy⟩ σo5 ho5;obtain ⟨o5,rfl⟩:=own1 ho5;have ey:=yy _ (Uh (s9 _ a _ ha8));rw [ej] at ey;cases ey
        have eout:cH x1 ((rows3[i]).take (j+1))=cH x1 ((rows3[i]).take j)++(if decide ((rows3[i])[j]≠x1)=true then [(rows3[i])[j]] else []):=by
         unfold cH;rw [take_snoc hj',js];congr 1;rw [gr];rfl
        have hl5:((cH x1 ((rows3[i]).take j)).map V.str).length<=1000:=by
         rw [aa];have h1:=yw x1 ((rows3[i]).take j);rw [cf] at h1;omega
        refine⟨‹16›,_,rfl,_,rfl,D2,_,_,_,rfl,rfl,Uh (s9 _ D2 _ (sm8 D2 _ hD7)),at0 x1 more,rfl,_,rfl,fO ‹14› ‹14›⟩
        ·have hb:(rows3[i])[j]≠x1:=by
          intro e;rw [e] at hb;simp at hb
         refine⟨_,rfl,by omega,ak,bV hj ⟨?_,by rw [jM]⟩⟩;rw [eout,dC (bg hb),az];rfl
        ·have hb:(rows3[i])[j]=x1:=gE fun e=>hb (by
          show (!decide (V.str (rows3[i])[j]=V.str x1))=true;rw [ff (by intro z; injection z with z; exact e z)];rfl)
         refine bV hj ⟨?_,rfl⟩;rw [eout,cK (by simpa using hb),av]
    ·rintro i ys' H5 hi ⟨rfl,hD5,sm5⟩;obtain ⟨a,hir,ea,_,ha⟩:=(rl4.mono sm5).get hi;obtain ⟨y0,r0,er0⟩:=hnz rows3[i] (dm hir);rw [er0] at ha;refine⟨⟨_,_,Uh (sm5 r3 _ hr4),ea⟩,?_⟩;rintro yv H6 ⟨rfl,yy⟩ σo ho;obtain ⟨oo,rfl⟩:=own1 ho;have ey:=yy _ (Uh (sm5 r3 _ hr4));rw [ea] at ey;cases ey;refine⟨‹16›,_,rfl,r3,rfl,⟨_,Uh (sm5 r3 _ hr4)⟩,fun D3 hD3=>?_⟩;refine dD (n:=zs.length) (fun i3 bs H7=>bs=((rows3.take i3).map fun o=>decide (y0∈o.drop 1)).map V.bl/\H7 D3=some (.lst bs)/\Same H6 H7) ⟨rfl,ak,Um hD3⟩ ?_ ?_
     ·rintro bs H7 ⟨rfl,hD7,sm7⟩;rw [aE ‹23›] at hD7;refine⟨⟨_,Uh (sm7 r3 _ (sm5 r3 _ hr4)),am _⟩,D3,_,rfl,Uh hD7,_,rfl,?_⟩
      have eany:(rows3.map fun o=>decide (y0∈o.drop 1)).any id=dN rows3 y0:=by
       unfold dN;rw [List.any_map];rfl
      rw [eany]
      have efr:((rows3.take (i+1)).flatMap (freeOf rows3))=((rows3.take i).flatMap (freeOf rows3))++(if dN rows3 y0=true then [] else [y0]):=by
       rw [take_snoc hir,mi,List.flatMap_singleton,er0];rfl
      have hlen:(((rows3.take i).flatMap (freeOf rows3)).map V.str).length<=1000:=by
       rw [aa];have h1:=zP rows3 (rows3.take i);rw [cf] at h1;omega
      cases hh:dN rows3 y0 with
      | true=>
       refine iG (bV hi ⟨?_,sm7 D2 _ hD5,sm5.trans sm7⟩);rw [efr,hh,dC rfl,av]
      | false=>
       refine jQ ⟨_,rfl,a,_,_,_,rfl,rfl,Uh (sm7 a _ ha),at0 y0 r0,by omega,sm7 D2 _ hD5,bV hi ⟨?_,ak,fun b u e=>?_⟩⟩
       ·rw [efr,hh,cK bo,az];rfl
       ·rw [au (aB e hD2)];exact sm7 b _ (sm5 b _ e)
     ·rintro i3 bs H7 hi3 ⟨rfl,hD7,sm7⟩;obtain ⟨a3,hir3,ea3,_,ha3⟩:=((rl4.mono sm5).mono sm7).get hi3;refine⟨⟨_,_,Uh (sm7 r3 _ (sm5 r3 _ hr4)),ea3⟩,?_⟩;rintro y3 H8 ⟨rfl,yy⟩ σo3 ho3;obtain ⟨o3,rfl⟩:=own1 ho3;have ey:=yy _ (Uh (sm7 r3 _ (sm5 r3 _ hr4)));rw [ea3] at ey;cases ey;refine⟨‹16›,jT ⟨_,rfl,a,_,_,_,rfl,rfl,Uh (sm7 a _ ha),at0 y0 r0,_,rfl,_,rfl,a3,_,rfl,Uh ha3,fun q hq=>⟨q,_,rfl,.inl (Uh ak),rfl,by rw [M4]; exact mL _,by rw [aa,aa,cf]; omega,by rw [au (aB hD7 hq)]; exact hD7,bV hi3 ⟨?_,ak,fun b u e=>?_⟩⟩⟩⟩
      ·show _++[V.bl (inV (.str y0) (gW ((rows3[i3]).map V.str) (some 1) none))]=_;rw [M4,jP,take_snoc hir3,az,az];rfl
      ·rw [au (aB e hD3),au (aB (sm7 b _ e) hq)];exact sm7 b _ e
  ·rintro i ys H2 hi ⟨hD2,rl2,hol2,sm2⟩;obtain ⟨a,hir,ea,ha⟩:=(rt.mono (Uj sm2)).get hi;refine⟨⟨_,_,Uh (sm2 rl _ hrl),ea⟩,?_⟩;rintro y H3 ⟨rfl,yy⟩ σo ho;obtain ⟨o,rfl⟩:=own1 ho;have ey:=yy _ (Uh (sm2 rl _ hrl));rw [ea] at ey;cases ey
   have hys:ys.length<=1000:=by
    rw [eM rl2];have:=oW (rows.take i);refine eR (fF _ _) ?_;rw [cf];omega
   refine⟨‹16›,_,rfl,a,_,rfl,.inr (Ui ha),_,_,rfl,rfl,_,rfl,fO ‹14› ‹14›⟩
   ·refine⟨_,rfl,a,_,rfl,.inr (Ui ha),fun l hl=>?_⟩;have sl:∀ o,Same H3 (upd H3 l o):=fun o=>Um hl;have lD:l≠D1:=fun e=>by rw [e,hD2] at hl; cases hl
    have lo:l≠ol:=fun e=>by rw [e,hol2] at hl; cases hl
    refine⟨by omega,sl _ D1 _ hD2,bV hi ⟨ak,?_,?_,?_⟩⟩
    ·have hne:¬ (rows[i]).isEmpty=true:=fun e=>by
      have hb:decide ((0:Int) < (((rows[i]).map V.str).length:Int))=true:=hb;have:=eJ hb;rw [List.isEmpty_iff.mp e] at this;simp at this
     rw [take_snoc hir,pP,cK hne];exact fG (rl2.grow (sl _)) ⟨l,rfl,lD,lo,by rw [au lD,ak]⟩
    ·rw [au olD1];exact sl _ ol _ hol2
    ·intro b o' e;rw [au (aB e hD1H)];exact sl _ b _ (sm2 b _ e)
   ·have he:(rows[i]).isEmpty=true:=by
     have hb:¬ decide ((0:Int) < (((rows[i]).map V.str).length:Int))=true:=hb;rw [fg,aa] at hb;exact List.isEmpty_iff_length_eq_zero.mpr ‹23›
    refine bV hi ⟨hD2,?_,hol2,sm2⟩;rw [take_snoc hir,pP,dC he,av];exact rl2
end
section
variable {P:uv}{w:xf}{K:PySem.W.Frag}{mg:MG}{base:Heap}{t:Adr}
inductive Jx (vs:LV) (H:Hp) (Q:VK) (E_:XK):Prop
 | mk (p:Addr) (n:Int):vs=[.ref p,.int n]->Pu H p->0 < n->n < 1606938044258990275541962092341162602522202993782792835301376->(∀(r a b c:Int),0<=r->r < n->Q (.int r) (upd H p (.lst [.int a,.int b,.int c])))->Jx vs H Q E_
theorem uM(D:Defs K mg t):bw P w K mg base CX0 1 t.aO.1 t.aO.2 ["_law_purse_here","_law_many"] Jx:=by
 refine D.aO.fn.ok nO ‹5› ‹2›
 ·obtain ⟨p,n,rfl,_⟩:=h;rfl
 ·obtain ⟨p,n,rfl,⟨a,b,c,hp⟩,h0,h1,k⟩:=h
  refine⟨_,(aA (jx (bH jz (aV bO (pv 0) aC ‹4›) aC) (sY (pv 0) aC set_list))
   (aA (aK (i:=2) nO.nd rfl (ue rfl) (aV bO (pv 0) aC ‹4›))
   (aA (jx (bH qW (bH jz (bH uR (pv 2) (bH jz (bH qW (pv 2) aC) aC)) (bH uR aC (aV bO (pv 0) aC ‹4›))) aC) (sY (pv 0) aC set_list))
   (aA (bD (aL uX (aV bO (pv 0) aC ‹4›) aC (aQ _))
   (aA (aK (i:=3) nO.nd rfl (ue rfl) (bH qW (aV bO (pv 0) aC ‹4›) (pv 1)))
   (aA (jx (bH KZ (aV bO (pv 0) aC ‹4›) (pv 1)) (sY (pv 0) aC set_list))
   (aD (aR (pv 3)))))
   aX)
   (aD (aR (bH qW (bH Mw (aV bO (pv 0) aC ‹4›) aC) (pv 1)))))))),?_⟩
  refine⟨_,rfl,p,_,_,_,rfl,rfl,Uh hp,rfl,_,_,rfl,rfl,_,rfl,p,_,_,2,rfl,rfl,hp,rfl,?_⟩;refine⟨_,rfl,p,_,_,_,rfl,rfl,Uh ak,rfl,?_⟩
  refine⟨_,rfl,_,rfl,_,_,rfl,rfl,(by show (0:Int) < 46337; decide),_,_,rfl,rfl,_,_,rfl,rfl,.inr ⟨?_,?_⟩,_,rfl,p,_,_,_,rfl,rfl,Uh ak,rfl,_,_,rfl,rfl,.inl ⟨by decide,by decide⟩,_,_,rfl,rfl,_,_,rfl,rfl,
   (by show (0:Int) < 2147483587; decide),_,rfl,p,_,_,0,rfl,rfl,ak,rfl,?_⟩
  ·have:=Int.emod_nonneg a (show (46337:Int)≠0 by decide);omega
  ·have:=Int.emod_lt_of_pos a (show (0:Int) < 46337 by decide);omega
  rw [jM];refine⟨_,rfl,p,_,_,_,rfl,rfl,Uh ak,rfl,_,_,rfl,rfl,_,rfl,fO ‹14› ‹14›⟩
  ·refine⟨_,rfl,p,_,_,_,rfl,rfl,Uh ak,rfl,_,rfl,_,_,rfl,rfl,h0,_,rfl,p,_,_,_,rfl,rfl,Uh ak,rfl,_,rfl,_,_,rfl,rfl,⟨h0,h1⟩,_,rfl,p,_,_,1,rfl,rfl,ak,rfl,_,rfl,?_⟩;rw [jM];exact k _ _ _ _ (Int.emod_nonneg _ ‹23›) (Int.emod_lt_of_pos _ h0)
  ·refine⟨_,rfl,p,_,_,_,rfl,rfl,Uh ak,rfl,_,_,rfl,rfl,⟨by decide,by decide⟩,_,rfl,_,_,rfl,rfl,h0,?_⟩;exact k _ _ _ _ (Int.emod_nonneg _ ‹23›) (Int.emod_lt_of_pos _ h0)
inductive DG (vs:LV) (H:Hp) (Q:VK) (E_:XK):Prop
 | mk (n:Int):vs=[.int n]->(∀(p:Addr) (a b c:Int),H p=none->Q (.ref p) (upd H p (.lst [.int a,.int b,.int c])))->DG vs H Q E_
theorem Kv(D:Defs K mg t):bw P w K mg base CX0 1 t.iV.1 t.iV.2 ["_law_cell_here"] DG:=by
 refine D.iV.fn.ok mj ‹5› ‹2›
 ·obtain ⟨n,rfl,_⟩:=h;rfl
 ·obtain ⟨n,rfl,k⟩:=h
  refine⟨_,(aA (aK (i:=1) mj.nd rfl (ue rfl) aC)
   (gw (bD (Ug (ug (aL ju (pv 0) aC (aQ _)) (pB (aL Nt (pv 0) (bH O5 aC aC) (aQ _)))))
   (aD (aK (i:=1) mj.nd rfl (ue rfl) (aW Kg (by rfl) D.RB O1 (aj (pv 0) aq))))
   aX)
   (aD (aR (bB (aj (bH qW (pv 0) aC) (aj (pv 1) (aj aC aq)))))))),?_⟩
  refine⟨fun σ' H'=>∃ d:Int,σ'=[some (.int n),some (.int d)]/\H'=H,?_,?_⟩
  ·refine⟨_,rfl,_,_,rfl,rfl,_,rfl,fO ‹14› ‹14›⟩
   ·exact jQ ⟨_,rfl,_,rfl,_,rfl,rfl⟩
   ·refine⟨_,rfl,_,_,rfl,rfl,⟨by decide,by decide,by decide⟩,_,_,rfl,rfl,_,rfl,fO (fun hc=>?_) (fun hc=>?_)⟩
    ·exact⟨_,rfl,_,rfl,_,rfl,rfl⟩
    ·exact⟨_,rfl,rfl⟩
  ·rintro σ' H' ⟨d,rfl,rfl⟩;exact⟨_,rfl,_,_,rfl,rfl,(by show (0:Int) < 2147483587; decide),_,rfl,(by show 3<=sizeLine; decide),fun p hp=>k p _ _ _ hp⟩
inductive Kr (K:PySem.W.Frag) (vs:LV) (H:Hp) (Q:VK) (E_:XK):Prop
 | mk (a:Addr) (ns:List Int) (k:Int):vs=[.ref a,.int k]->SqL K H a (ns.map V.int)->ns.length<=63->0<=k->k<=1000->(∀(n:Int) H',Same H H'->Q (.int n) H')->Kr K vs H Q E_
theorem MF(D:Defs K mg t):bw P w K mg base CX0 1 t.jG.1 t.jG.2 ["_law_script","_law_k"] (Kr K):=by
 refine D.jG.fn.ok j7 ‹5› ‹2›
 ·obtain ⟨a,ns,k,rfl,_⟩:=h;rfl
 ·obtain ⟨a,ns,k,rfl,hS,hl,h0,h1,q⟩:=h
  refine⟨_,(aA (bD (aL ju (pv 1) (aW kh (by rfl) D.dg bY (aj (pv 0) aq)) (aQ _))
   (aD (aR (aV yt (pv 0) (pv 1) ‹4›)))
   aX)
   (aA (aK (i:=2) j7.nd rfl (ue rfl) (bH uR (bH uR aC (bH jz (pv 1) aC)) (bH jz (pv 1) aC)))
   (aA (dB dQ rfl (Ec (cX uJ (pv 0) fW (cW aC))) (aJ (i:=3) j7.nd rfl (ue rfl))
   (aD (aK (i:=2) j7.nd rfl (ue rfl) (bH qW (bH jz (bH uR (pv 2) aC) (pv 3)) aC))))
   (aD (aR (pv 2)))))),?_⟩
  refine⟨_,rfl,_,rfl,a,_,rfl,.inl hS,_,_,rfl,rfl,_,rfl,fO ‹14› ‹14›⟩
  ·have hk:k < (ns.map V.int).length:=eJ hb;obtain ⟨v,e,m,_⟩:=sX h0 hk;obtain ⟨z,_,rfl⟩:=eA.mp m;exact⟨_,rfl,_,rfl,a,_,_,_,rfl,rfl,hS,e,q z H (Same.refl H)⟩
  ·refine⟨_,rfl,_,_,rfl,rfl,_,_,rfl,rfl,.inl ⟨by decide,by decide⟩,_,rfl,_,_,rfl,rfl,_,_,rfl,rfl,.inr ⟨by omega,by omega⟩,?_⟩
   refine⟨_,rfl,_,rfl,a,_,rfl,hS,fun p hp=>⟨p,rfl,⟨_,Uh ak⟩,lC (K:=K) (a:=p) (xs:=gW (ns.map V.int) none (some 4)) (fun i σ H2=>∃(st:Int) (v:OV),σ=[some (.ref a),some (.int k),some (.int st),v]/\H2=upd H p (.lst (gW (ns.map V.int) none (some 4))))
    ⟨_,_,rfl,rfl⟩ (fun i σ H2 _ ⟨_,_,_,e⟩=>by rw [e]; exact Uh ak) ?_ ?_⟩⟩
   ·rintro i x σ H2 hi ⟨st,v,rfl,rfl⟩;have m:x∈ns.map V.int:=List.mem_of_mem_drop (oQ (gh hi));obtain ⟨z,_,rfl⟩:=eA.mp m;exact⟨_,rfl,_,_,rfl,rfl,.inr ⟨by decide,by decide⟩,_,rfl,_,_,rfl,rfl,_,_,rfl,rfl,(by show (0:Int) < 2147483587; decide),_,_,rfl,rfl⟩
   ·rintro σ H2 ⟨st,v,rfl,rfl⟩;exact⟨_,rfl,q st _ (Um hp)⟩
end
section
variable {P:uv}{w:xf}{K:PySem.W.Frag}{mg:MG}{base:Heap}{t:Adr}
inductive Kl (vs:LV) (H:Hp) (Q:VK) (E_:XK):Prop
 | mk (p u:Addr) (us:LS):vs=[.ref p,.ref u]->Pu H p->H u=some (.lst (us.map V.str))->us.length<=25->(∀(x:Str) H',x.length<=100->¬ x∈us->Off p H H'->Pu H' p->Q (.str x) H')->Kl vs H Q E_
def menu:LS:=["mark","go","keep","tell","round","put","drop","none","me","ask","thing","end"]
theorem K3:∀ x∈menu,x.length<=6:=by decide +kernel
theorem Mr(D:Defs K mg t):bw P w K mg base CX0 2 t.jF.1 t.jF.2 ["_law_purse_here","_law_used"] Kl:=by
 have Ga:=@uM P w K mg base t D;have hz:sizeLine=16777216:=ci;refine D.jF.fn.ok gn ‹5› ‹2›
 ·obtain ⟨p,u,us,rfl,_⟩:=h;rfl
 ·obtain ⟨p,u,us,rfl,hp,hu,hl,k⟩:=h;have up:u≠p:=hp.ne hu
  refine⟨_,(@aA _ _ _ _ _ (@aK _ _ 2 _ _ _ _ gn.nd rfl (ue rfl) (@bB _ _ _ _ (@yN _ _ ["mark","go","keep","tell","round","put","drop","none","me","ask","thing","end"] (by rfl))) (by rfl) (by first | exact .inl rfl | exact .inr rfl))
   (aA (aK (i:=3) gn.nd rfl (My rfl) (aV bO (pv 2) ‹20› ‹4›))
   (gw (bD (aL uX ‹20› aC (aQ _))
   (aA (aK (i:=3) gn.nd rfl (My rfl) aM)
   (aD (dB dQ rfl (mQ rfl D.rD (aj (bH jz aC ‹20›) aq)) (aJ (i:=4) gn.nd rfl (ue rfl))
   (aD (aK (i:=3) gn.nd rfl (My rfl) (bH qK (pv 3) (aV O6 aM ‹20› ‹4›)))))))
   aX)
   (aA (bD (aL pN (pv 3) (pv 1) (by with_unfolding_all rfl))
   (aD (aR (pv 3)))
   aX)
   (aA (rW (i:=5) rfl gn.nd rfl (ue rfl) (Uo ["_law_a"] [1,3] ["_law_a","_law_used","_law_word_here"] (aG (top 39)) ["_law_purse_here","_law_used","_law_menu","_law_word_here","_law_k","_law_first"] rfl rfl ‹3›) ⟨fun _ _ _ _ _=>(aJ (i:=0) (show List.Nodup [("_law_a" : Str),("_law_used" : Str),("_law_word_here" : Str)] by decide +kernel) rfl (ue (aw rfl)) ‹15›),fun _ _ _ _ _=>(jL (aL pN (bH qK (pv 0) (cX J4 (pv 2) fW (cW aC))) (pv 1) (by with_unfolding_all rfl))),fun _ _ _ _ _=>(pv 0)⟩ (O2 aM))
   (aD (aR (bH qK (aV bO (pv 5) aC ‹4›) (cX J4 (pv 3) fW (cW aC)))))))))),?_⟩
  refine⟨by show 12<=sizeLine; decide,fun q hq=>?_⟩
  have pq:p≠q:=by
   obtain ⟨a,b,c,e⟩:=hp;exact aB e hq
  have o1:Off p H (upd H q (.lst (menu.map V.str))):=Ul hq
  have hp1:Pu (upd H q (.lst (menu.map V.str))) p:=by
   obtain ⟨a,b,c,e⟩:=hp;exact⟨a,b,c,by rw [au pq]; exact e⟩
  refine⟨_,rfl,_,rfl,p,12,rfl,hp1,by decide,by decide,fun r a b c h0 h1=>?_⟩;obtain ⟨x0,e0,m0,_⟩:=dM (ns:=menu) h0 h1;refine⟨q,menu.map V.str,_,_,rfl,rfl,Uh (by rw [au pq.symm,ak]; rfl),e0,?_⟩;refine⟨fun σ' H'=>∃(x:Str) (v:OV),σ'=[some (.ref p),some (.ref u),some (.ref q),some (.str x),v,none]/\x.length<=6/\Off p H H'/\Pu H' p,?_,?_⟩
  ·refine⟨_,rfl,p,5,rfl,Up,by decide,by decide,fun r a b c h0 h1=>⟨_,_,rfl,rfl,_,rfl,fO ‹14› ‹14›⟩⟩
   ·refine⟨_,rfl,p,6,rfl,Up,by decide,by decide,fun r2 a2 b2 c2 g0 g1=>⟨_,_,rfl,rfl,_,rfl,by omega,by omega,?_⟩⟩
    refine ni (lo:=0) (n:=(1+r2).toNat) (fun i σ H2=>∃(x:Str) (v:OV),σ=[some (.ref p),some (.ref u),some (.ref q),some (.str x),v,none]/\x.length<=i/\Off p H H2/\Pu H2 p)
     ⟨_,_,rfl,by decide,((o1.trans Uk).trans Uk).trans Uk,Up⟩ ?_ ?_
    ·rintro i σ H2 hi ⟨x,v,rfl,hx,o2,p2⟩;refine⟨_,rfl,_,rfl,p,26,rfl,p2,by decide,by decide,fun r3 a3 b3 c3 f0 f1=>?_⟩;obtain ⟨cc,ec,_,_⟩:=sX (xs:=abc.cps.toList) f0 (by rw [iF,yG]; exact f1);refine⟨abc,_,cc,rfl,rfl,by decide +kernel,ec,_,_,rfl,rfl,?_,_,_,rfl,?_,o2.trans Uk,Up⟩
     ·show x.length+1<=sizeLine;omega
     ·rw [uz];show x.length+1<=i+1;omega
    ·rintro σ H2 ⟨x,v,rfl,hx,o2,p2⟩;exact⟨x,v,rfl,by omega,o2,p2⟩
   ·exact⟨x0,none,rfl,K3 x0 m0,(o1.trans Uk).trans Uk,Up⟩
  ·rintro σ' H' ⟨x,v,rfl,hx,oh,ph⟩;have hu':H' u=some (.lst (us.map V.str)):=oh u _ up hu;refine⟨_,rfl,_,rfl,u,_,rfl,.inl (Uh hu'),rfl,mL us,_,rfl,fO ‹14› ‹14›⟩
   ·refine⟨_,rfl,k x H' ‹23› ?_ oh ph⟩;intro hm;have hb:(!inV (.str x) (us.map V.str))=true:=hb;rw [jP,bg hm] at hb;cases hb
   ·have s5:(BV x none (some 5)).length<=6:=eR (Ge x _ _) hx;refine⟨_,rfl,by decide +kernel,fun Dd hD=>?_⟩;have uD:u≠Dd:=aB hu' hD
    have pD:p≠Dd:=by
     obtain ⟨a,b,c,e⟩:=ph;exact aB e hD
    refine dD (n:=26) (fun i ys H2=>ys=((letters.take i).filter fun c=>decide (¬ (c++BV x none (some 5))∈us)).map V.str/\H2=upd H' Dd (.lst ys)) ⟨rfl,rfl⟩ ?_ ?_
    ·rintro ys H2 ⟨rfl,rfl⟩;refine⟨by show abc.cps.size<=26; rw [yG]; exact am _,?_⟩;rw [show letters.take 26=letters from aE (by rw [uw]; exact am _)];obtain ⟨c,hc,hn⟩:=zH hl (BV x none (some 5));have hmem:c∈letters.filter fun c=>decide (¬ (c++BV x none (some 5))∈us):=eS.mpr ⟨hc,bg hn⟩;obtain ⟨d,rest,ed⟩:=List.exists_cons_of_ne_nil (List.ne_nil_of_mem hmem);have hd:d∈letters.filter fun c=>decide (¬ (c++BV x none (some 5))∈us):=by rw [ed]; exact bE
     obtain ⟨hd1,hd2⟩:=eS.mp hd;refine⟨_,rfl,Dd,_,_,.str d,rfl,rfl,Uh ak,by rw [ed]; exact aH (j:=0) rfl,_,rfl,_,rfl,x,rfl,by omega,_,_,rfl,rfl,?_,?_⟩
     ·rw [lU d hd1];omega
     ·refine k _ _ ?_ (eJ hd2) (oh.trans (Ul hD)) ?_
      ·rw [uz,lU d hd1];omega
      ·obtain ⟨a,b,c,e⟩:=ph;exact⟨a,b,c,by rw [au pD]; exact e⟩
    ·rintro i ys H2 hi ⟨rfl,rfl⟩;refine⟨by show i < abc.cps.size; rw [yG]; exact hi,?_⟩;rintro y H3 ⟨rfl,c,ec,rfl⟩ σo ho;obtain ⟨o,rfl⟩:=own1 ho
     have el:letters[i]?=some ⟨#[c]⟩:=by
      have ec':abc.cps[i]?=some c:=ec;unfold letters;rw [bj,Array.getElem?_toList,ec'];rfl
     have et:letters.take (i+1)=letters.take i++[⟨#[c]⟩]:=by
      rw [List.take_succ,el];rfl
     have hlen:(((letters.take i).filter fun c=>decide (¬ (c++BV x none (some 5))∈us)).map V.str).length<=26:=by
      rw [aa];refine eR (fF _ _) ?_;rw [cf];omega
     refine⟨‹16›,_,rfl,_,rfl,_,rfl,x,rfl,by omega,_,_,rfl,rfl,(by show 1+_<=sizeLine; omega),_,rfl,u,_,rfl,.inl (Uh (by rw [au uD]; exact hu')),rfl,mL us,_,rfl,fO ‹14› ‹14›⟩
     ·have hb:(!inV (.str (⟨#[c]⟩++BV x none (some 5))) (us.map V.str))=true:=hb;rw [jP] at hb;have hn:¬ ((⟨#[c]⟩:Str)++BV x none (some 5))∈us:=by simpa using hb
      refine⟨_,rfl,by omega,ak,bV hi ⟨?_,by rw [jM]⟩⟩;rw [et,js,az];congr 1;rw [gr,dC (bg hn)];rfl
     ·have hb:¬ (!inV (.str (⟨#[c]⟩++BV x none (some 5))) (us.map V.str))=true:=hb;rw [jP] at hb;have hn:((⟨#[c]⟩:Str)++BV x none (some 5))∈us:=by simpa using hb
      refine bV hi ⟨?_,rfl⟩;rw [et,js];rw [show List.filter (fun c=>decide (¬ (c++BV x none (some 5))∈us)) [(⟨#[c]⟩:Str)]=[] by rw [gr,cK (by simpa using hn)]; rfl,av]
end
section
variable {P:uv}{w:xf}{K:PySem.W.Frag}{mg:MG}{base:Heap}{t:Adr}
theorem DX{α:Type}{l:List α}{x:α}(h:l.Nodup)(hx:¬ x∈l):(l++[x]).Nodup:=by
 rw [lj];refine⟨h,by simp,fun a ha b hb e=>?_⟩;have:b=x:=by simpa using hb
 rw [e,this] at ha;exact hx ha
inductive Dt (vs:LV) (H:Hp) (Q:VK) (E_:XK):Prop
 | mk (p u:Addr) (n:Int):vs=[.ref p,.int n,.ref u]->Pu H p->H u=some (.lst [])->0<=n->n<=25->(∀(l:Addr) (ws:LS) H',H l=none->ws.length=n.toNat->ws.Nodup->H' l=some (.lst (ws.map V.str))->Off p H H'->Pu H' p->Q (.ref l) H')->Dt vs H Q E_
theorem Bd(D:Defs K mg t):bw P w K mg base CX0 3 t.fD.1 t.fD.2 ["_law_purse_here","_law_many","_law_used"] Dt:=by
 have Gag:=@Mr P w K mg base t D;have hz:sizeLine=16777216:=ci;refine D.fD.fn.ok mz ‹5› ‹2›
 ·obtain ⟨p,u,n,rfl,_⟩:=h;rfl
 ·obtain ⟨p,u,n,rfl,hp,hu,h0,h1,k⟩:=h
  refine⟨_,(aA (aK (i:=3) mz.nd rfl (ue rfl) (bB aq))
   (aA (dB dQ rfl (mQ rfl D.rD (aj (pv 1) aq)) (aJ (i:=4) mz.nd rfl (ue rfl))
   (aD (aP (eO br cw cy bT (pv 3) (aj (aF D.jF Gag ‹1› (by rfl) (aj (pv 0) (aj (bH iC (pv 2) (pv 3)) aq))) aq)))))
   (aD (aR (pv 3))))),?_⟩
  refine⟨bn _,fun l hl=>?_⟩;have ul:u≠l:=aB hu hl
  have pl:p≠l:=by
   obtain ⟨a,b,c,e⟩:=hp;exact aB e hl
  have up:u≠p:=by
   obtain ⟨a,b,c,e⟩:=hp;exact(bI e hu (by intro z; cases z)).symm
  refine⟨_,rfl,n,rfl,by omega,by omega,ni (lo:=0) (n:=n.toNat) (fun i σ H2=>∃(ws:LS) (v:OV),σ=[some (.ref p),some (.int n),some (.ref u),some (.ref l),v]/\ws.length=i/\ws.Nodup/\H2 l=some (.lst (ws.map V.str))/\Off p H H2/\Pu H2 p)
   ⟨[],_,rfl,rfl,kM,ak,Ul hl,?_⟩ ?_ ?_⟩
  ·obtain ⟨a,b,c,e⟩:=hp;exact⟨a,b,c,by rw [au pl]; exact e⟩
  ·rintro i σ H2 hi ⟨ws,v,rfl,hw,nd,hl2,o2,p2⟩;have hu2:H2 u=some (.lst []):=o2 u _ up hu;refine⟨_,rfl,.inl ⟨rfl,_,Uh hl2⟩,_,rfl,_,rfl,_,rfl,u,l,[],ws.map V.str,rfl,rfl,hu2,hl2,by rw [aa]; show 0+ws.length<=sizeLine; omega,fun q hq=>?_⟩
   have pq:p≠q:=by
    obtain ⟨a,b,c,e⟩:=p2;exact aB e hq
   have lq:l≠q:=aB hl2 hq
   have p3:Pu (upd H2 q (.lst ([]++ws.map V.str))) p:=by
    obtain ⟨a,b,c,e⟩:=p2;exact⟨a,b,c,by rw [au pq]; exact e⟩
   refine⟨p,q,ws,rfl,p3,ak,by omega,fun x H3 hx hn o3 p3=>?_⟩;have hl3:H3 l=some (.lst (ws.map V.str)):=o3 l _ pl.symm (by rw [au lq]; exact hl2);refine⟨l,ws.map V.str,.str x,rfl,rfl,hl3,by rw [aa]; omega,ws++[x],_,rfl,by rw [ae,hw]; rfl,DX nd hn,by rw [ak,az]; rfl,?_,?_⟩
   ·intro b o hb e;have bl:b≠l:=aB e hl;rw [au bl];exact o3 b o hb ((Ul hq:Off p H2 _) b o hb (o2 b o hb e))
   ·obtain ⟨a,b,c,e⟩:=p3;exact⟨a,b,c,by rw [au pl]; exact e⟩
  ·rintro σ H2 ⟨ws,v,rfl,hw,nd,hl2,o2,p2⟩;exact⟨_,rfl,k l ws H2 hl hw nd hl2 o2 p2⟩
end
section
variable {P:uv}{w:xf}{K:PySem.W.Frag}{mg:MG}{base:Heap}{t:Adr}
def wF(H:Hp)(m:Addr)(xs:LV):Prop:=H m=some (.lst xs)\/H m=some (.tup xs)
theorem wF.sq(h:wF H m xs):SqL K H m xs\/SqT K H m xs:=h.imp Uh Ui
theorem wF.off(h:wF H m xs)(n:m≠p)(o:Off p H H'):wF H' m xs:=h.imp (o m _ n) (o m _ n)
theorem Ln{i:Int}{Q:VK}(h:wF H m xs)(e:atI xs i=some v)(q:Q v H):Gx K (.ref m) (.int i) H Q\/Ht K (.ref m) (.int i) H Q:=h.elim (fun h=>.inr ⟨m,xs,i,v,rfl,rfl,Uh h,e,q⟩) (fun h=>.inl ⟨m,xs,i,v,rfl,rfl,Ui h,e,q⟩)
inductive Ld (vs:LV) (H:Hp) (Q:VK) (E_:XK):Prop
 | mk (p m:Addr) (ns:LS) (n:Nat):vs=[.ref p,.ref m,.int n]->Pu H p->wF H m ‹17›->n<=100->ns.length<=100->(∀(q:Addr) (es:LS) H',H' q=some (.tup (es.map V.str))->(∀ x∈es,x∈ns)->es.Nodup->es.length<=n->Off p H H'->Pu H' p->Q (.ref q) H')->Ld vs H Q E_
theorem FN(D:Defs K mg t):bw P w K mg base CX0 2 t.gV.1 t.gV.2 ["_law_purse_here","_law_menu","_law_most"] Ld:=by
 have Ga:=@uM P w K mg base t D;have hz:sizeLine=16777216:=ci;refine D.gV.fn.ok kE ‹5› ‹2›
 ·obtain ⟨p,m,ns,n,rfl,_⟩:=h;rfl
 ·obtain ⟨p,m,ns,n,rfl,hp,hm,hn,hl,k⟩:=h
  have mp:m≠p:=by
   rcases hm with h | h
   ·exact hp.ne h
   ·obtain ⟨x1,x2,x3,ep⟩:=hp;exact bI h ep ‹8›
  refine⟨_,(aA (aK (i:=3) kE.nd rfl (ue rfl) (bB aq))
   (aA (bD (aL dH (aW bC (by rfl) D.dg bY (aj (pv 1) aq)) aC (aQ _))
   (aD (aR (bh aq)))
   aX)
   (aA (dB dQ rfl (mQ rfl D.rD (aj (aF D.aO Ga ‹1› (by rfl) (aj (pv 0) (aj (bH jz (pv 2) aC) aq))) aq)) (aJ (i:=4) kE.nd rfl (ue rfl))
   (aA (aK (i:=5) kE.nd rfl (ue rfl) (aV (yI (K:=K) rfl) (pv 1) (aF D.aO Ga ‹1› (by rfl) (aj (pv 0) (aj (aW bC (by rfl) D.dg bY (aj (pv 1) aq)) aq))) ‹4›))
   (aD (bD (aL pN (pv 5) (pv 3) (by with_unfolding_all rfl))
   (aD (aP (eO br cw cy bT (pv 3) (aj (pv 5) aq))))
   aX))))
   (aD (aR (bK bM (by rfl) D.cJ bR (aj (pv 3) aq))))))),?_⟩
  refine⟨bn _,fun l hll=>?_⟩;have pl:p≠l:=hp.neN hll;have sml:∀ o,wF (upd H l o) m (ns.map V.str):=fun o=>hm.off mp (Ul hll);refine⟨_,rfl,m,_,rfl,(sml _).sq,rfl,_,rfl,fO ‹14› ‹14›⟩
  ·exact⟨bn _,fun q hq=>k q [] _ ak (by simp) kM (bn _) ((Ul hll).trans (Ul hq)) ((hp.au pl).au ((hp.au pl).neN hq))⟩
  ·have hpos:0 < ns.length:=by
    have hb:¬ decide (V.int (‹17›.length:Int)=V.int 0)=true:=hb;rcases Nat.eq_zero_or_pos ns.length with h | h
    ·exfalso
     apply hb;rw [aa,h];exact bg rfl
    ·exact h
   refine⟨_,rfl,_,rfl,_,_,rfl,rfl,p,_,rfl,hp.au pl,by omega,by omega,fun r a1 b1 c1 l1 u1=>⟨r,rfl,by omega,by omega,?_⟩⟩
   refine ni (lo:=0) (n:=r.toNat) (fun i σ H2=>∃(es:LS) (v4 v5:OV),σ=[some (.ref p),some (.ref m),some (.int n),some (.ref l),v4,v5]/\es.length<=i/\es.Nodup/\(∀ x∈es,x∈ns)/\H2 l=some (.lst (es.map V.str))/\Off p H H2/\Pu H2 p)
    ⟨[],_,_,rfl,am _,kM,by simp,by rw [au pl.symm,ak]; rfl,(Ul hll).trans Uk,Up⟩ ?_ ?_
   ·rintro i σ H2 hi ⟨es,v4,v5,rfl,he,nd,sub,hl2,o2,p2⟩;have hm2:wF H2 m (ns.map V.str):=hm.off mp o2;refine⟨_,rfl,_,rfl,_,rfl,m,_,rfl,hm2.sq,p,_,rfl,p2,by rw [aa]; omega,by rw [aa]; omega,fun r2 a2 b2 c2 l2 u2=>?_⟩;rw [aa] at u2;obtain ⟨x,ex,mx,_⟩:=dM (ns:=ns) l2 u2;have sq3:wF (upd H2 p (.lst [.int a2,.int b2,.int c2])) m (ns.map V.str):=hm2.off mp Uk;refine Ln sq3 ex ?_;have lp:l≠p:=pl.symm;refine⟨_,rfl,_,rfl,l,_,rfl,.inl (Uh (by rw [au lp]; exact hl2)),rfl,mL es,_,rfl,fO (fun hc=>?_) (fun hc=>?_)⟩
    ·have hc:(!inV (.str x) (es.map V.str))=true:=hc;rw [jP] at hc;have hx:¬ x∈es:=by simpa using hc
     refine⟨_,rfl,.inl ⟨rfl,_,Uh (by rw [au lp]; exact hl2)⟩,_,rfl,l,es.map V.str,.str x,rfl,rfl,by rw [au lp]; exact hl2,by rw [aa]; omega,es++[x],_,_,rfl,by rw [ae]; exact n5 he,DX nd hx,?_,by rw [ak,az]; rfl,?_,Pu.upd.au pl⟩
     ·intro z hz;rcases dP.mp hz with h | h
      ·exact sub z h
      ·rw [bS.mp h];exact mx
     ·intro b o hb e;rw [au (aB e hll),au hb];exact o2 b o hb e
    ·exact⟨es,_,_,rfl,nL he,nd,sub,by rw [au lp]; exact hl2,o2.trans Uk,Up⟩
   ·rintro σ H2 ⟨es,v4,v5,rfl,he,nd,sub,hl2,o2,p2⟩;refine⟨_,rfl,l,_,rfl,.inl ⟨Uh hl2,fun q hq=>?_⟩⟩;exact k q es _ ak sub nd ‹23› (o2.trans (Ul hq)) (p2.au (p2.neN hq))
abbrev Fam:=List (Str × LS)
def vY(r:Str × LS):T:=.tup [.str r.1,.tup (r.2.map T.str)]
def Py(f:Fam):T:=.tup (f.map vY)
abbrev nms(f:Fam):LS:=f.map (·.1)
structure ql (f:Fam):Prop where
 nd:(nms f).Nodup
 sub:∀ r∈f,∀ e∈r.2,e∈nms f
 len:f.length<=7
 el:∀ r∈f,r.2.length<=7
 Ma:∃ top:LS,top.Nodup/\(∀ x,x∈top↔x∈nms f)/\∀ r∈f,∃ j,top[j]?=some r.1/\∀ e∈r.2,e∈top.take j
theorem Dp.row{x:Str}(hq:H q=some (.tup [.str x,.ref e]))(he:H e=some (.tup (es.map V.str))):Dp H (vY (x,es)) (.ref q):=
 L2.Dp.tup hq (.cons (L2.Dp.str x) (.cons (L2.Dp.tup he (DpL.strs es)) .nil))
theorem Dp.Cg{r:Str × LS}(d:Dp H (vY r) v):∃ q e,v=.ref q/\H q=some (.tup [.str r.1,.ref e])/\H e=some (.tup (r.2.map V.str)):=by
 obtain ⟨q,xs,rfl,hq,dl⟩:=L2.Dp.bG d;obtain ⟨x1,r1,rfl,d1,dl⟩:=dl.cases;obtain ⟨x2,r2,rfl,d2,dl3⟩:=dl.cases;have e1:=L2.Dp.cQ d1;have e3:=dl3.kZ;obtain ⟨e,ys,rfl,he,dl2⟩:=L2.Dp.bG d2;subst e1 e3;rw [DpL.nM dl2] at he;exact⟨q,e,rfl,hq,he⟩
end
end K37
end
section
namespace K37
open PySem L2
variable {rows:LL}{i j:Nat}
noncomputable def tY (rows:LL):Option LS:=open Classical in if h:∃ r,Mg rows r then Classical.choose h else none
theorem mU{r:Option LS}(h:Mg rows r):tY rows=r:=by
 unfold tY;rw [dif_pos ⟨r,h⟩];exact Mg.det (Classical.choose_spec (⟨r,h⟩:∃ r,Mg rows r)) h
def Hu(f:Fam)(x:Str):LS:=((f.find? fun r=>decide (r.1=x)).map (·.2)).getD []
theorem rK:∀ {f:Fam},(nms f).Nodup->∀ r∈f,Hu f r.1=r.2
 | [],_,_,h=>nomatch h
 | r0::f,nd,r,hr=>by
  have nd':(r0.1::nms f).Nodup:=nd;obtain ⟨n1,n2⟩:=gI.mp nd';unfold Hu;rw [kA];rcases bc.mp hr with rfl | h
  ·rw [bg rfl];rfl
  ·have ne:¬ r0.1=r.1:=fun e=>n1 (e ▸ eA.mpr ⟨r,h,rfl⟩);rw [ff ne];exact rK n2 r h
def cV(g:Str->Option LS)(es:LS):LL:=es.map (fun e=>(g e).getD [])++[es]
noncomputable def pA (f:Fam):Nat->Str->Option LS
 | 0,_=>none
 | n+1,x=>if (Hu f x).all (fun e=>(pA f n e).isSome)=true then (tY (full (cV (pA f n) (Hu f x)))).map (x::·) else none
variable {f:Fam}
theorem yE{l:LS}(h:l.Nodup){x:Str}(a:l[i]?=some x)(b:l[j]?=some x):i=j:=by
 obtain ⟨h1,e1⟩:=aT.mp a;obtain ⟨h2,e2⟩:=aT.mp b;exact(List.getElem_inj h).mp (e1.trans e2.symm)
theorem jR{l:LS}{x:Str}(h:x∈l.take j):∃ i,i < j/\l[i]?=some x:=by
 obtain ⟨i,hi,e⟩:=gx h;rw [cf] at hi;refine⟨i,by omega,?_⟩;rw [<- e,List.getElem_take];exact af ‹23›
theorem Ij(G:ql f){top:LS}(t0:top.Nodup)(t1:∀ x,x∈top↔x∈nms f)(t2:∀ r∈f,∃ j,top[j]?=some r.1/\∀ e∈r.2,e∈top.take j) :
  ∀(j:Nat) (x:Str),top[j]?=some x->∀ n m,j < n->j < m->pA f n x=pA f m x:=by
 intro j
 induction j using Nat.strongRecOn with
 | ind j ih=>
  intro x hx n m hn hm;obtain ⟨n,rfl⟩:∃ n',n=n'+1:=⟨n - 1,by omega⟩;obtain ⟨m,rfl⟩:∃ m',m=m'+1:=⟨m - 1,by omega⟩;have hxn:x∈nms f:=(t1 x).mp (gh hx);obtain ⟨r,hr,rfl⟩:=eA.mp hxn;have ee:=rK G.nd r hr;obtain ⟨j',h1,h2⟩:=t2 r hr;have ej:=yE t0 hx h1;subst ej
  have same:∀ e∈r.2,pA f n e=pA f m e:=fun e he=>by
   obtain ⟨i,hi,ei⟩:=jR (h2 e he);exact ih i hi e ei n m ‹23› ‹23›
  unfold pA;rw [ee]
  have c1:r.2.all (fun e=>(pA f n e).isSome)=r.2.all (fun e=>(pA f m e).isSome):=by
   apply gX.mpr;rw [fE,fE];exact⟨fun h e he=>by rw [<- same e he]; exact h e he,fun h e he=>by rw [same e he]; exact h e he⟩
  have c2:cV (pA f n) r.2=cV (pA f m) r.2:=by
   unfold cV;congr 1;exact kL fun e he=>by rw [same e he]
  rw [c1,c2]
noncomputable def fZ (f:Fam):Str->Option LS:=pA f 8
theorem Bx(G:ql f){r:Str × LS}(hr:r∈f):fZ f r.1=if r.2.all (fun e=>(fZ f e).isSome)=true then (tY (full (cV (fZ f) r.2))).map (r.1::·) else none:=by
 obtain ⟨top,t0,t1,t2⟩:=G.Ma
 have tl:top.length<=7:=by
  have h1:=jO t0 (m:=nms f) fun x hx=>(t1 x).mp hx;have h2:(nms f).length=f.length:=aa _;have:=G.len;omega
 have same:∀ e∈r.2,pA f 7 e=fZ f e:=fun e he=>by
  obtain ⟨j,h1,h2⟩:=t2 r hr;obtain ⟨i,hi,ei⟩:=jR (h2 e he);have hil:=(aT.mp ei).1;exact Ij G t0 t1 t2 i e ei 7 8 ‹23› ‹23›
 show pA f 8 r.1=_;unfold pA;rw [rK G.nd r hr]
 have c1:r.2.all (fun e=>(pA f 7 e).isSome)=r.2.all (fun e=>(fZ f e).isSome):=by
  apply gX.mpr;rw [fE,fE];exact⟨fun h e he=>by rw [<- same e he]; exact h e he,fun h e he=>by rw [same e he]; exact h e he⟩
 have c2:cV (pA f 7) r.2=cV (fZ f) r.2:=by
  unfold cV;congr 1;exact kL fun e he=>by rw [same e he]
 rw [c1,c2]
end K37
end
section
namespace K37
open PySem PyProof.Rows L2
variable {H H':Hp}{vs xs:LV}{rows:LL}{K:PySem.W.Frag}{v:V}{e p q:Addr}{kvs:LK0}{S es ns os:LS}{i n:Nat}{g:Str->LS}{α:Type}{ts:List T}
theorem vf{κ:Type}[DecidableEq κ]:∀ {kvs:List (κ × V)} {k:κ},(cZ kvs k).isSome=true↔k∈kvs.map (·.1)
 | [],k=>by simp [cZ]
 | p::kvs,k=>by
  by_cases e:p.1=k
  ·rw [dF e];simp [e]
  ·rw [bZ e,vf];have:¬ k=p.1:=fun z=>e z.symm;simp [this]
def jU(rs:LS):LK0:=rs.map fun y=>(.inr y,.bl true)
theorem mO(rs:LS)(x:Str):(cZ (jU rs) (.inr x)).isSome=true↔x∈rs:=by
 rw [vf];unfold jU;rw [nV,eA];constructor
 ·rintro ⟨y,hy,e⟩;have e:(An y:Key)=An x:=e;injection e with e;exact e ▸ hy
 ·exact fun h=>⟨x,h,rfl⟩
theorem Ar{rs:LS}{x:Str}(h:¬ x∈rs):putK (jU rs) (.inr x) (.bl true)=jU (rs++[x]):=by
 have hn:cZ (jU rs) (.inr x)=none:=by
  cases q:cZ (jU rs) (.inr x) with
  | none=>rfl
  | some y=>exact absurd ((mO rs x).mp (by rw [q]; rfl)) h
 rw [rE _ hn];unfold jU;rw [az];rfl
theorem Jm{rs:LS}{x:Str}(h:x∈rs):putK (jU rs) (.inr x) (.bl true)=jU rs:=by
 unfold putK;rw [dC (by rw [mZ]; exact(mO rs x).mpr h)];unfold jU;rw [nV];apply kL;intro y _;show (if (An y:Key)=An x then (An y,V.bl true) else (An y,V.bl true))=_;split <;> rfl
theorem Kw(rs:LS)(x:Str):∃ rs',putK (jU rs) (.inr x) (.bl true)=jU rs'/\(∀ y,y∈rs'↔y∈rs\/y=x)/\rs'.length<=rs.length+1:=by
 by_cases h:x∈rs
 ·exact⟨rs,Jm h,fun y=>⟨.inl,fun z=>z.elim id fun e=>e ▸ h⟩,oz _⟩
 ·refine⟨rs++[x],Ar h,fun y=>?_,by rw [ae]; exact am _⟩;rw [dP,bS]
section
variable {P:uv}{w:xf}{K:PySem.W.Frag}{mg:MG}{base:Heap}{t:Adr}
def zK(H:Hp)(v:V)(r:LS):Prop:=∃ a,v=.ref a/\(H a=some (.lst (r.map V.str))\/(H a=some (.tup (r.map V.str))/\r≠[]))
def qy(H:Hp)(vs:LV)(rows:LL):Prop:=Paired (zK H) vs rows
theorem qy.mono(h:qy H vs rows)(s:Same H H'):qy H' vs rows:=Ue h fun v r ⟨a,e,q⟩=>⟨a,e,q.elim (fun z=>.inl (s a _ z)) fun z=>.inr ⟨s a _ z.1,z.2⟩⟩
theorem qy.get{H:Hp}{vs:LV}{rows:LL}(h:qy H vs rows){i:Nat}{v:V}(e:vs[i]?=some v):∃(hr:i < rows.length),zK H v rows[i]:=by
 have hi:=(aT.mp e).1;have hr:i < rows.length:=by rw [<- eM h]; exact hi
 have q:=je h i hi hr;rw [af hi] at e;cases e;exact⟨hr,q⟩
theorem zK.cut{r:LS}(h:zK H v r){Q:VK}(q:∀(p:Addr) H',jm H' (.ref p) ((r.drop 1).map V.str)->Same H H'->Q (.ref p) H'):Mi K v (some 1) none H Q\/HS K v (some 1) none H Q:=by
 obtain ⟨a,rfl,h⟩:=h;rcases h with h | ⟨h,hne⟩
 ·refine .inr ⟨a,_,rfl,Uh h,fun p hp=>q p _ ⟨p,rfl,.inl (by rw [ak,M4])⟩ (Um hp)⟩
 ·refine .inl ⟨a,_,rfl,Ui h,fun z=>?_,fun p hp=>q p _ ⟨p,rfl,.inr (by rw [ak,M4])⟩ (Um hp)⟩;have e1:HT.sIx (r.map V.str).length 0 (some 1)=min 1 (r.map V.str).length:=HT.uO _ 0 1;rw [e1,aa] at z;cases r with
  | nil=>exact hne rfl
  | cons y r=>simp at z
theorem zK.at0{y:Str}{r:LS}(h:zK H v (y::r)){Q:VK}(q:Q (.str y) H):Gx K v (.int 0) H Q\/Ht K v (.int 0) H Q:=by
 obtain ⟨a,rfl,h⟩:=h;rcases h with h | ⟨h,_⟩
 ·exact .inr ⟨a,_,0,_,rfl,rfl,Uh h,L2.at0 y r,q⟩
 ·exact .inl ⟨a,_,0,_,rfl,rfl,Ui h,L2.at0 y r,q⟩
theorem zK.tru{r:LS}(h:zK H v r):Qz K v H (!r.isEmpty):=by
 obtain ⟨a,rfl,h⟩:=h;have e:(!(r.map V.str).isEmpty)=!r.isEmpty:=by cases r <;> rfl
 rcases h with h | ⟨h,_⟩
 ·exact .inl ⟨_,Uh h,e.symm⟩
 ·exact .inr (.inl ⟨_,Ui h,e.symm⟩)
theorem JN(rows:LL)(k:Nat):tot (rows.take k)<=tot rows:=by
 have e:tot rows=tot (rows.take k)+tot (rows.drop k):=by
  unfold tot;rw [<- pj,<- az,gu]
 omega
def R0(l:LS):V:=match l with
 | []=>.non
 | x::_=>.str x
inductive Fi (vs:LV) (H:Hp) (Q:VK) (E_:XK):Prop
 | mk (l:Addr) (us:LV) (rows:LL):vs=[.ref l]->jm H (.ref l) us->qy H us rows->tot rows<=2000->rows.length<=1000->(∀ H',Same H H'->Q (R0 (frees rows)) H')->Fi vs H Q E_
theorem IV(D:Defs K mg t):bw P w K mg base CX0 1 t.jf.1 t.jf.2 ["left"] Fi:=by
 have hz:sizeLine=16777216:=ci;refine D.jf.fn.ok iJ ‹5› ‹2›
 ·obtain ⟨l,us,rows,rfl,_⟩:=h;rfl
 ·obtain ⟨l,us,rows,rfl,hl,hrows,htot,hlen,k⟩:=h;have hul:us.length=rows.length:=eM hrows
  refine⟨_,(aA (aK (i:=1) iJ.nd rfl (ue rfl) pG)
   (aA (dB dQ rfl (vd (K:=K) (pv 0) rfl) (aJ (i:=2) iJ.nd rfl (ue rfl))
   (aD (dB dQ rfl (vd (K:=K) (cX (LR (K:=K) rfl) (pv 2) (cW aC) fW) rfl) (aJ (i:=3) iJ.nd rfl (ue rfl))
   (aD (nU (gD hr) (pv 1) (pv 3) qm rfl)))))
   (aA (dB dQ rfl (vd (K:=K) (pv 0) rfl) (aJ (i:=2) iJ.nd rfl (ue rfl))
   (aD (bD (Ug (sZ (vL (pv 2) (by intro _; rfl)) (pO (vq (pU (gD hr) (aV (yI (K:=K) rfl) (pv 2) aC ‹4›) (pv 1))))))
   (aD (aR (aV (yI (K:=K) rfl) (pv 2) aC ‹4›)))
   aX)))
   (aD (aR mq))))),?_⟩
  intro hd hhd;have s0:∀ o,Same H (upd H hd o):=fun o=>Um hhd
  have kl:∀ {H2:Hp},Same H H2->∀ o,(upd H hd (.dK [])) l=some o->H2 l=some o:=fun {H2} s o e=>by
   obtain ⟨p,ep,h⟩:=hl;cases ep
   have hlh:l≠hd:=by
    rcases h with h | h
    ·exact aB h hhd
    ·exact aB h hhd
   rw [au hlh] at e;exact s l o e
  refine⟨_,rfl,l,rfl,yW (K:=K) (hl.same (s0 _)) (fun i σ H2=>∃(rs:LS) (v2 v3:OV),σ=[some (.ref l),some (.ref hd),v2,v3]/\H2 hd=some (.dK (jU rs))/\(∀ y,y∈rs↔∃ o∈rows.take i,y∈o.drop 1)/\rs.length<=tot (rows.take i)/\Same H H2)
   ⟨[],_,_,rfl,ak,by simp,bn _,s0 _⟩ (fun i σ H2 _ ⟨_,_,_,_,_,_,_,s⟩=>kl s) ?_ ?_⟩
  ·rintro i x σ H2 hi ⟨rs,v2,v3,rfl,hh2,mem,rl,sm⟩;obtain ⟨hir,ha⟩:=(hrows.mono sm).get hi
   have hri:(rows[i]).length+tot (rows.take i)=tot (rows.take (i+1)):=by
    rw [take_snoc hir];unfold tot;rw [az,pj];simp;omega
   have htl:tot (rows.take (i+1))<=tot rows:=by
    exact JN rows (i+1)
   refine⟨_,rfl,_,rfl,ha.cut fun p H3 hp s3=>⟨p,rfl,?_⟩⟩;have sm3:Same H H3:=sm.trans s3
   refine yW (K:=K) hp (fun j σ H4=>∃ (rs':LS) (v3:OV),σ=[some (.ref l),some (.ref hd),some x,v3]/\H4 hd=some (.dK (jU rs'))/\(∀ y,y∈rs'↔y∈rs\/y∈((rows[i]).drop 1).take j)/\rs'.length<=rs.length+j/\∀ b u,b≠hd->H3 b=some u->H4 b=some u)
    ⟨rs,_,rfl,s3 hd _ hh2,by simp,am _,fun b u _ e=>e⟩ ?_ ?_ ?_
   ·rintro j σ H4 _ ⟨rs',v3,rfl,hh4,_,_,kp⟩ o e;refine kp p o (fun z=>?_) e;rw [z] at hp;obtain ⟨q,eq,h⟩:=hp;cases eq;rw [s3 hd _ hh2] at h;rcases h with h | h <;> cases h
   ·rintro j y σ H4 hj ⟨rs',v3,rfl,hh4,mem',rl',kp⟩
    have hjl:j < ((rows[i]).drop 1).length:=by
     have:=(aT.mp hj).1
     rwa [aa] at this
    have ey:y=.str ((rows[i]).drop 1)[j]:=by
     rw [bj,af hjl] at hj;exact(dL hj).symm
    subst ey;obtain ⟨rs2,e2,m2,l2⟩:=Kw rs' ((rows[i]).drop 1)[j];have hjl':=hjl;rw [j0] at hjl';refine⟨_,rfl,_,rfl,hd,_,rfl,zY.k (k:=.inr ((rows[i]).drop 1)[j]) hh4 (by unfold jU; rw [aa]; omega),rs2,_,rfl,by rw [ak,e2],fun z=>?_,by omega,fun b u hb e=>by rw [au hb]; exact kp b u hb e⟩;rw [m2,mem',take_snoc hjl,dP,bS];constructor
    ·rintro ((h | h) | h)
     ·exact .inl h
     ·exact .inr (.inl h)
     ·exact .inr (.inr h)
    ·rintro (h | h | h)
     ·exact .inl (.inl h)
     ·exact .inl (.inr h)
     ·exact .inr h
   ·rintro σ H4 ⟨rs',v3,rfl,hh4,mem',rl',kp⟩;rw [aa,j0] at rl';refine⟨rs',_,_,rfl,hh4,fun y=>?_,by omega,fun b u e=>kp b u (aB e hhd) (sm3 b u e)⟩;have et:((rows[i]).drop 1).take (((rows[i]).drop 1).map V.str).length=(rows[i]).drop 1:=aE (by rw [aa]; exact am _);rw [mem',et,mem,take_snoc hir];constructor
    ·rintro (⟨o,h1,h2⟩ | h)
     ·exact⟨o,fh _ h1,h2⟩
     ·exact⟨rows[i],bX _ bE,h⟩
    ·rintro ⟨o,h1,h2⟩;rcases dP.mp h1 with h | h
     ·exact .inl ⟨o,h,h2⟩
     ·rw [bS.mp h] at h2;exact .inr h2
  ·rintro σ H2 ⟨rs,v2,v3,rfl,hh2,mem,rl,sm⟩;rw [aE ‹23›] at mem
   have held:∀ y,(cZ (jU rs) (.inr y)).isSome=dN rows y:=fun y=>by
    apply gX.mpr;rw [mO,mem];unfold dN;rw [iX];exact⟨fun⟨o,h1,h2⟩=>⟨o,h1,bg h2⟩,fun⟨o,h1,h2⟩=>⟨o,h1,eJ h2⟩⟩
   refine⟨_,rfl,l,rfl,yW (K:=K) (hl.same sm) (fun i σ H3=>∃(v2 v3:OV),σ=[some (.ref l),some (.ref hd),v2,v3]/\(rows.take i).flatMap (freeOf rows)=[]/\H3=H2)
    ⟨_,_,rfl,rfl,rfl⟩ (fun i σ H3 _ ⟨_,_,_,_,e⟩ o h=>by rw [e]; exact h) ?_ ?_⟩
   ·rintro i x σ H3 hi ⟨v2',v3',rfl,hnone,rfl⟩;obtain ⟨hir,ha⟩:=(hrows.mono sm).get hi
    have hfl:frees rows=(rows.take i).flatMap (freeOf rows)++(freeOf rows rows[i]++(rows.drop (i+1)).flatMap (freeOf rows)):=by
     unfold frees
     have e:rows=rows.take i++(rows[i]::rows.drop (i+1)):=by
      rw [List.getElem_cons_drop,gu]
     conv=>lhs; rw [e]
     rw [mi,nI];rw [<- e]
    refine⟨_,rfl,_,ha.tru,?_⟩;cases hre:rows[i] with
    | nil=>
     refine iG (iG ⟨_,_,rfl,?_,rfl⟩);rw [take_snoc hir,mi,hnone,hre];rfl
    | cons y r=>
     rw [hre] at ha hfl;refine jQ ⟨_,rfl,ha.at0 ⟨_,rfl,hd,_,rfl,lR.k (k:=.inr y) hh2,_,rfl,?_⟩⟩;rw [held y];have ef:freeOf rows (y::r)=if dN rows y=true then [] else [y]:=rfl;cases hh:dN rows y with
     | true=>
      refine iG ⟨_,_,rfl,?_,rfl⟩;rw [take_snoc hir,mi,hnone,hre,List.flatMap_singleton,ef,hh,dC rfl];rfl
     | false=>
      refine jQ ⟨_,rfl,ha.at0 ?_⟩;have:=k H3 sm;rw [hfl,hnone,ef,hh,cK bo] at this;exact this
   ·rintro σ H3 ⟨v2',v3',rfl,hnone,rfl⟩;rw [aE ‹23›] at hnone;have hnone:frees rows=[]:=hnone;have:=k H3 sm;rw [hnone] at this;exact this
theorem Hv(rows:LL)(x:Str):dN (full rows) x=dN rows x:=by
 unfold dN full;apply gX.mpr;rw [iX,iX];constructor
 ·rintro ⟨o,h1,h2⟩;exact⟨o,(eS.mp h1).1,h2⟩
 ·rintro ⟨o,h1,h2⟩;refine⟨o,eS.mpr ⟨h1,?_⟩,h2⟩;cases o with
  | nil=>have:=eJ h2; cases this
  | cons _ _=>rfl
theorem vK(rows:LL):frees (full rows)=frees rows:=by
 have key:∀(R S:LL),(∀ x,dN S x=dN R x)->∀ rs:LL,(full rs).flatMap (freeOf S)=rs.flatMap (freeOf R):=by
  intro R S h rs
  induction rs with
  | nil=>rfl
  | cons r rs ih=>
   unfold full at ih ⊢;rw [gr,nI];cases r with
   | nil=>
    simp only [List.isEmpty_nil,Bool.not_true,eI,ir];rw [ih];rfl
   | cons y r=>
    simp only [nE,qA,ku];rw [nI,ih];congr 1;show (if dN S y=true then [] else [y])=(if dN R y=true then [] else [y]);rw [h y]
 exact key rows (full rows) (Hv rows) rows
theorem qu(x:Str):∀ rows:LL,full ((full rows).map (cH x))=full (rows.map (cH x))
 | []=>rfl
 | r::rows=>by
  have ih:=qu x rows;unfold full at ih ⊢;rw [gr,eB,gr];cases r with
  | nil=>
   simp only [List.isEmpty_nil,Bool.not_true,eI,ir];rw [ih];rfl
  | cons y r=>
   simp only [nE,qA,ku,eB];rw [gr,ih]
def JH(H:Hp)(x:Str)(os:LS)(q:Addr):Prop:=∃ qo,H q=some (.tup [.str "order",.ref qo])/\H qo=some (.tup ((x::os).map V.str))
inductive Fq (vs:LV) (H:Hp) (Q:VK) (E_:XK):Prop
 | mk (x:Str) (l:Addr) (us:LV) (rows:LL):vs=[.str x,.ref l]->H l=some (.tup us)->kY H us rows->((∀ r∈rows,r≠[])\/∀ r∈rows,r=[])->tot rows<=1000->rows.length<=1000->(∃ os,Mg (full rows) (some os))->(∀(q:Addr) (os:LS) H',Mg (full rows) (some os)->JH H' x os q->Same H H'->Q (.ref q) H')->Fq vs H Q E_
theorem KD(D:Defs K mg t):bw P w K mg base CX0 3 t.jc.1 t.jc.2 ["kind","rows"] Fq:=by
 have Gbh:=@IV P w K mg base t D;have Gaw:bw P w K mg base CX0 0 t.jC.1 t.jC.2 ["left"] (fun _ _ _ _=>False):=⟨fun _ _ _ _ h=>h.elim,fun _ _ _ _ _ _ _ _ _ _ _ _ _ h=>h.elim⟩;have hz:sizeLine=16777216:=ci;refine D.jc.fn.ok iK ‹5› ‹2›
 ·obtain ⟨x,l,us,rows,rfl,_⟩:=h;rfl
 ·obtain ⟨x,l,us,rows,rfl,hl,hrt,hcase,htot,hlen,⟨os0,hM⟩,k⟩:=h
  refine⟨_,(aA (aK (i:=2) iK.nd rfl (ue rfl) (bB (aj (pv 0) aq)))
   (aA (aK (i:=3) iK.nd rfl (ue rfl) (pv 1))
   (aA (vI dQ (lA (aW (Gn rfl) (by rfl) D.Nx HW (aj (pv 3) aq)))
   (aA (aK (i:=4) iK.nd rfl (My rfl) (aF D.jf Gbh ‹1› (by rfl) (aj (pv 3) aq)))
   (aA (bD (aL yJ (pv 4) mq (aQ _))
   (aD (aR (bh (aj aM (aj (pv 0) (aj (aF D.jC Gaw ‹1› (by rfl) (aj (pv 3) aq)) aq))))))
   aX)
   (aA (aP (eO br cw cy bT (pv 2) (aj (pv 4) aq)))
   (aD (rW (i:=3) rfl iK.nd rfl (ue rfl) (Uo ["row"] [4] ["row","first"] (aG (top 11)) ["kind","rows","order","left","first"] rfl rfl ‹3›) ⟨fun _ _ _ _ _=>(aJ (i:=0) (show List.Nodup [("row" : Str),("first" : Str)] by decide +kernel) rfl (ue (aw rfl)) ‹15›),fun _ _ _ _ _=>iU,fun _ _ _ _ _=>(fu rfl (aZ.of2 ["name"] [1] ["name","first"] ["row","first"] rfl rfl ‹3›) ⟨fun _ _ _ _ _=>(aJ (i:=0) (show List.Nodup [("name" : Str),("first" : Str)] by decide +kernel) rfl (ue (aw rfl)) ‹15›),fun _ _ _ _ _=>(jL (aL vV (pv 0) (pv 1) (aQ _))),fun _ _ _ _ _=>(pv 0)⟩ (vd (K:=K) (pv 0) rfl))⟩ (vd (K:=K) (pv 3) rfl)))))))
   (aD (aR (bh (aj aM (aj (bK bM (by rfl) D.cJ bR (aj (pv 2) aq)) aq)))))))),?_⟩
  refine⟨_,rfl,by show 1<=sizeLine; decide,fun ol hol=>?_⟩;exists 1,s0,hol0,H,ol,(.lst [.str x]),hol,H1;refine⟨_,rfl,?_⟩
  refine⟨fun m σ H2=>∃(us2:LV) (rows2:LL) (os:LS) (l2:Addr) (v4:OV),σ=[some (.str x),some (.ref l),some (.ref ol),some (.ref l2),v4]/\jm H2 (.ref l2) us2/\l2≠ol/\Paired (fun(v:V) (r:LS)=>∃ a,v=.ref a/\a≠ol/\(H2 a=some (.lst (r.map V.str))\/H2 a=some (.tup (r.map V.str)))) us2 rows2/\(qy H2 us2 rows2\/∀ r∈rows2,r=[])/\
   H2 ol=some (.lst ((x::os).map V.str))/\m=tot rows2/\os.length+tot rows2<=1000/\rows2.length=rows.length/\(∀ r,Mg (full rows2) r->Mg (full rows) (r.map (os++·)))/\Same H H2,?_,?_⟩
  ·refine⟨_,us,rows,[],l,_,rfl,⟨l,rfl,.inr (s0 l _ hl)⟩,aB hl hol,Ue hrt fun v r ⟨a,e,h⟩=>⟨a,e,aB h hol,.inr (s0 a _ h)⟩,?_,hol0,rfl,by show 0+_<=_; omega,rfl,fun r h=>?_,s0⟩
   ·rcases hcase with h | h
    ·left
     have key:∀ {us:LV} {rows:LL},kY H us rows->(∀ r∈rows,r≠[])->qy H1 us rows:=by
      intro us rows hh
      induction hh with
      | nil=>exact fun _=>.nil
      | cons q _ ih=>
       intro h;obtain ⟨a,e,h'⟩:=q;exact .cons ⟨a,e,.inr ⟨s0 a _ h',h _ bE⟩⟩ (ih fun r hr=>h r (cz _ hr))
     exact key hrt h
    ·exact .inr h
   ·have:r.map (([]:LS)++·)=r:=by cases r <;> rfl
    rw [this];exact h
  ·rintro m σ H2 ⟨us2,rows2,os,l2,v4,rfl,hl2,l2o,pr,hc2,hol2,rfl,hb2,hrl,mg2,sm2⟩;have hul:us2.length=rows2.length:=eM pr;obtain ⟨l2',el2,hl2'⟩:=id hl2;cases el2;refine⟨_,rfl,l2,us2,rows2.map (fun r=>!r.isEmpty),rfl,hl2',by rw [aa,hul],fun i hi hj=>?_,_,rfl,?_⟩
   ·have hir:i < rows2.length:=by omega
    obtain ⟨a,e,_,h⟩:=je pr i hi hir;refine⟨(rows2[i]).map V.str,⟨a,e,h⟩,?_⟩;rw [iE];cases rows2[i] <;> rfl
   have eany:(rows2.map fun r=>!r.isEmpty).any id=!(full rows2).isEmpty:=by
    rw [List.any_map];apply gX.mpr;rw [iX];constructor
    ·rintro ⟨r,h1,h2⟩;have:r∈full rows2:=eS.mpr ⟨h1,h2⟩;cases hf:full rows2 with
     | nil=>rw [hf] at this; cases this
     | cons _ _=>rfl
    ·intro h;cases hf:full rows2 with
     | nil=>rw [hf] at h; cases h
     | cons r _=>
      have:r∈full rows2:=by rw [hf]; exact bE
      obtain ⟨h1,h2⟩:=eS.mp this;exact⟨r,h1,h2⟩
   rw [eany];cases hf:full rows2 with
   | nil=>
    refine iG ⟨_,rfl,ol,_,rfl,.inl ⟨Uh hol2,fun qo hqo=>⟨by show 2<=sizeLine; decide,fun q hq=>?_⟩⟩⟩;have h1:=mg2 (some []) (by rw [hf]; exact .nil);have s3:=(Um (o:=.tup ((x::os).map V.str)) hqo).trans (Um (o:=.tup [.str "order",.ref qo]) hq);refine k q os _ (by simpa using h1) ⟨qo,ak,?_⟩ (sm2.trans s3);rw [au (aB ak hq),ak]
   | cons r0 rr=>
    have hfne:full rows2≠[]:=by rw [hf]; exact kP _ _
    have hrn:qy H2 us2 rows2:=by
     rcases hc2 with h | h
     ·exact h
     ·exfalso
      have:r0∈full rows2:=by rw [hf]; exact bE
      obtain ⟨h1,h2⟩:=eS.mp this;rw [h r0 h1] at h2;cases h2
    refine jQ ⟨fun σ' H'=>∃ m',m' < tot rows2/\∃(us2:LV) (rows2:LL) (os:LS) (l2:Addr) (v4:OV),σ'=[some (.str x),some (.ref l),some (.ref ol),some (.ref l2),v4]/\jm H' (.ref l2) us2/\l2≠ol/\Paired (fun(v:V) (r:LS)=>∃ a,v=.ref a/\a≠ol/\(H' a=some (.lst (r.map V.str))\/H' a=some (.tup (r.map V.str)))) us2 rows2/\(qy H' us2 rows2\/∀ r∈rows2,r=[])/\
     H' ol=some (.lst ((x::os).map V.str))/\m'=tot rows2/\os.length+tot rows2<=1000/\rows2.length=rows.length/\(∀ r,Mg (full rows2) r->Mg (full rows) (r.map (os++·)))/\Same H H',fun σ' H' h=>h,?_⟩
    refine⟨_,rfl,l2,us2,rows2,rfl,hl2,hrn,by omega,by omega,fun H3 s3=>?_⟩;cases hfr:frees rows2 with
    | nil=>
     have h0:Mg (full rows) none:=mg2 none (.stuck hfne (by rw [vK]; exact hfr));have:=(mU h0).symm.trans (mU hM);cases this
    | cons x1 more=>
     refine⟨_,rfl,rfl,_,rfl,iG ?_⟩;have hx1:x1∈frees rows2:=by rw [hfr]; exact bE
     obtain ⟨r1,hr1,hh1⟩:=tG hx1
     have hx1r:x1∈r1:=by
      cases r1 with
      | nil=>cases hh1
      | cons y r'=>
       cases hh1;exact bE
     have hlt:=qJ (x:=x1) ⟨r1,hr1,hx1r⟩;have hol3:=s3 ol _ hol2;refine⟨_,rfl,.inl ⟨rfl,_,Uh hol3⟩,_,rfl,ol,_,.str x1,rfl,rfl,hol3,by rw [aa,ar]; omega,?_⟩;have eol:(x::os).map V.str++[V.str x1]=(x::(os++[x1])).map V.str:=by rw [eB,eB,az]; rfl
     rw [eol];have kp4:∀ b u,b≠ol->H3 b=some u->(upd H3 ol (.lst ((x::(os++[x1])).map V.str))) b=some u:=fun b u hb e=>by rw [au hb]; exact e
     have hol4:(upd H3 ol (.lst ((x::(os++[x1])).map V.str))) ol=some (.lst ((x::(os++[x1])).map V.str)):=ak;generalize upd H3 ol (.lst ((x::(os++[x1])).map V.str))=H4 at kp4 hol4;have sm4:Same H H4:=fun b u e=>kp4 b u (aB e hol) (s3 b u (sm2 b u e));have hl4:jm H4 (.ref l2) us2:=⟨l2,rfl,hl2'.elim (fun z=>.inl (kp4 l2 _ l2o (s3 l2 _ z))) fun z=>.inr (kp4 l2 _ l2o (s3 l2 _ z))⟩
     have row4:∀(i:Nat) (v:V),us2[i]?=some v->∃(hir:i < rows2.length) (a:Addr),v=.ref a/\jm H4 (.ref a) ((rows2[i]).map V.str):=fun i v e=>by
      have hi:=(aT.mp e).1;have hir:i < rows2.length:=by omega
      obtain ⟨a,ea,ao,h⟩:=je pr i hi hir;rw [af hi] at e;cases e;exact⟨hir,a,ea,a,rfl,h.elim (fun z=>.inl (kp4 a _ ao (s3 a _ z))) fun z=>.inr (kp4 a _ ao (s3 a _ z))⟩
     refine⟨_,rfl,l2,rfl,zp (K:=K) hl4 (fun D i ys H5=>H5 D=some (.lst ys)/\oU H5 D ol ys ((rows2.take i).map (cH x1))/\Same H4 H5)
      (fun D hD=>⟨ak,.nil,Um hD⟩) (fun D i ys H5 hD ⟨_,_,sm⟩ o e=>sm l2 o e) ?_ ?_⟩
     ·rintro D1 ys H5 hD1 ⟨hD5,ry5,sm5⟩;rw [aE ‹23›] at ry5;have D1o:D1≠ol:=fun e=>by rw [e,hol4] at hD1; cases hD1
      refine⟨tot (rows2.map (cH x1)),hlt,ys,rows2.map (cH x1),os++[x1],D1,_,rfl,⟨D1,rfl,.inl hD5⟩,D1o,Ue ry5 fun v r ⟨a,e,_,n,q⟩=>⟨a,e,n,.inl q⟩,.inl (Ue ry5 fun v r ⟨a,e,_,n,q⟩=>⟨a,e,.inl q⟩),sm5 ol _ hol4,rfl,?_,by rw [aa]; exact hrl,fun r h=>?_,sm4.trans sm5⟩
      ·rw [ae,em];omega
      ·have h1:=mg2 _ (.step (by rw [vK]; exact hfr) (by rw [qu]; exact h));rw [Option.map_map] at h1
       have:((fun x=>os++x) ∘ fun x=>x1::x)=fun x=>os++[x1]++x:=by
        funext z;simp
       rw [this] at h1;exact h1
     ·rintro D1 i v ys H5 hD1 hi ev ⟨hD5,ry5,sm5⟩ σo ho;obtain ⟨oo,rfl⟩:=own1 ho;obtain ⟨hir,a,rfl,ha⟩:=row4 i v ev;have ha5:=ha.same sm5
      have hyl:ys.length<=1000:=by
       rw [eM ry5,aa,cf];omega
      refine⟨‹16›,jT ⟨_,rfl,a,rfl,zp (K:=K) ha5 (fun D j ys5 H6=>ys5=(cH x1 ((rows2[i]).take j)).map V.str/\H6=upd H5 D (.lst ys5))
       (fun D hD=>⟨rfl,rfl⟩) (fun D j ys5 H6 hD ⟨_,e6⟩ o e=>by rw [e6,au (aB e hD)]; exact e) ?_ ?_⟩⟩
      ·rintro D5 ys5 H6 hD5' ⟨rfl,rfl⟩;rw [aE (by rw [aa]; exact am _)];have s6:∀ o,Same H5 (upd H5 D5 o):=fun o=>Um hD5';have D51:D5≠D1:=fun e=>by rw [e,hD5] at hD5'; cases hD5'
       have D5o:D5≠ol:=fun e=>by rw [e,sm5 ol _ hol4] at hD5'; cases hD5'
       refine⟨by omega,s6 _ D1 _ hD5,bV hi ⟨ak,?_,fun b u e=>?_⟩⟩
       ·rw [take_snoc hir,az];exact fG (ry5.grow (s6 _)) ⟨D5,rfl,D51,D5o,by rw [au D51,ak]⟩
       ·rw [au (aB e hD1)];exact s6 _ b _ (sm5 b _ e)
      ·rintro D5 j y ys5 H6 hD5' hj ey ⟨rfl,rfl⟩ σo5 ho5;obtain ⟨o5,rfl⟩:=own1 ho5;have hj':j < (rows2[i]).length:=by rw [aa] at hj; exact hj
       rw [bj,af hj'] at ey;cases ey
       have eout:cH x1 ((rows2[i]).take (j+1))=cH x1 ((rows2[i]).take j)++(if decide ((rows2[i])[j]≠x1)=true then [(rows2[i])[j]] else []):=by
        unfold cH;rw [take_snoc hj',js];congr 1;rw [gr];rfl
       have hri:=vW (dm hir)
       have hl5:((cH x1 ((rows2[i]).take j)).map V.str).length<=1000:=by
        rw [aa];have h1:=yw x1 ((rows2[i]).take j);rw [cf] at h1;omega
       refine⟨‹16›,_,rfl,_,rfl,rfl,_,rfl,fO ‹14› ‹14›⟩
       ·have hb:(rows2[i])[j]≠x1:=fun e=>by
         have hb:(!decide (V.str (rows2[i])[j]=V.str x1))=true:=hb;rw [e,bg rfl] at hb;cases hb
        refine⟨_,rfl,by omega,ak,bV hj ⟨?_,by rw [jM]⟩⟩;rw [eout,dC (bg hb),az];rfl
       ·have hb:(rows2[i])[j]=x1:=gE fun e=>hb (by
         show (!decide (V.str (rows2[i])[j]=V.str x1))=true;rw [ff (by intro z; injection z with z; exact e z)];rfl)
        refine bV hj ⟨?_,rfl⟩;rw [eout,cK (by simpa using hb),av]
def xQ(H:Hp)(f:Fam)(x:Str)(q:Addr):Prop:=∃ o qo,fZ f x=some o/\H q=some (.tup [.str "order",.ref qo])/\H qo=some (.tup (o.map V.str))
def oG(H:Hp)(kvs:LK0)(f:Fam)(S:Str->Prop):Prop:=∀ x,S x->∃ q,cZ kvs (.inr x)=some (.ref q)/\xQ H f x q
theorem xQ.mono{f:Fam}{x:Str}(h:xQ H f x q)(s:fB H H'):xQ H' f x q:=by
 obtain ⟨o,qo,h1,h2,h3⟩:=h;exact⟨o,qo,h1,s q _ h2,s qo _ h3⟩
theorem oG.mono{f:Fam}{S:Str->Prop}(h:oG H kvs f S)(s:fB H H'):oG H' kvs f S:=fun x hx=>by
 obtain ⟨q,h1,h2⟩:=h x hx;exact⟨q,h1,h2.mono s⟩
inductive xV (vs:LV) (H:Hp) (Q:VK) (E_:XK):Prop
 | mk (e d:Addr) (es:LS) (kvs:LK0) (f:Fam):vs=[.ref e,.ref d]->H e=some (.tup (es.map V.str))->Rd H d (.dK kvs)->oG H kvs f (·∈es)->Q .non H->xV vs H Q E_
theorem Dl:¬ ("order" : Str) = "quarrel" := by decide +kernel
theorem BJ(D:Defs K mg t):bw P w K mg base CX0 1 t.fJ.1 t.fJ.2 ["kinds","told"] xV:=by
 refine D.fJ.fn.ok mY ‹5› ‹2›
 ·obtain ⟨e,d,es,kvs,f,rfl,_⟩:=h;rfl
 ·obtain ⟨e,d,es,kvs,f,rfl,he,hd,told,k1⟩:=h
  refine⟨_,(aA (dB dQ rfl (eY (pv 0)) (aJ (i:=2) mY.nd rfl (ue rfl))
   (aD (bD (aL dH (aV aU (iR (gD hr) (pv 1) (pv 2) ‹4›) aC ‹4›) aM (aQ _))
   (aD (aR (iR (gD hr) (pv 1) (pv 2) ‹4›)))
   aX)))
   (aD (aR mq))),?_⟩
  refine⟨_,rfl,e,rfl,⟨_,Ui he⟩,kj (K:=N0) (a:=e) (xs:=es.map V.str) (fun i σ H2=>∃ v2:OV,σ=[some (.ref e),some (.ref d),v2]/\H2=H)
   ⟨_,rfl,rfl⟩ (fun i σ H2 _ ⟨_,_,e2⟩=>by rw [e2]; exact Ui he) ?_ ?_⟩
  ·rintro i v σ H2 hi ⟨v2,rfl,rfl⟩
   have hil:i < es.length:=by
    have:=(aT.mp hi).1
    rwa [aa] at this
   have ev:v=.str es[i]:=by
    rw [bj,af hil] at hi;exact(dL hi).symm
   subst ev;have hm:es[i]∈es:=dm hil;obtain ⟨q,hv,ht⟩:=told es[i] hm;have gd:lR H2 d (.str es[i]) (some (.ref q)):=.inl ⟨kvs,.inr es[i],hd,rfl,hv.symm⟩;obtain ⟨o,qo,h1,h2,h3⟩:=ht;exact⟨_,rfl,_,rfl,d,.ref q,rfl,gd,q,_,_,_,rfl,rfl,Ui h2,rfl,rfl,_,rfl,bF (by rw [ff (by intro h; injection h with h; exact Dl h)]; exact bo) ⟨_,rfl,rfl⟩⟩
  ·rintro σ H2 ⟨v2,rfl,rfl⟩;exact k1
inductive zV (vs:LV) (H:Hp) (Q:VK) (E_:XK):Prop
 | mk (e d:Addr) (es:LS) (kvs:LK0) (f:Fam):vs=[.ref e,.ref d]->H e=some (.tup (es.map V.str))->Rd H d (.dK kvs)->oG H kvs f (·∈es)->(∀ x∈es,(fZ f x).isSome=true)->es.length<=1000->(∀(q:Addr) (us:LV) H',H' q=some (.tup us)->kY H' us (cV (fZ f) es)->Same H H'->Q (.ref q) H')->zV vs H Q E_
theorem GK(D:Defs K mg t):bw P w K mg base CX0 1 t.nT.1 t.nT.2 ["elders","told"] zV:=by
 have hz:sizeLine=16777216:=ci;refine D.nT.fn.ok Ca ‹5› ‹2›
 ·obtain ⟨e,d,es,kvs,f,rfl,_⟩:=h;rfl
 ·obtain ⟨e,d,es,kvs,f,rfl,he,hd,told,all,hlen,k⟩:=h;refine⟨_,(aD (aR (bH Km (bK bM (by rfl) D.cJ bR (aj (fu rfl (Uo ["elder"] [1] ["elder","told"] (aG (top 10)) ["elders","told"] rfl rfl ‹3›) ⟨fun _ _ _ _ _=>(aJ (i:=0) (show List.Nodup [("elder" : Str),("told" : Str)] by decide +kernel) rfl (ue (aw rfl)) ‹15›),fun _ _ _ _ _=>iU,fun _ _ _ _ _=>(aV aU (iR (gD hr) (pv 1) (pv 0) ‹4›) aC ‹4›)⟩ (eY (pv 0))) aq)) (bh (aj (pv 0) aq))))),?_⟩;refine⟨_,rfl,e,rfl,⟨_,Ui he⟩,fun D1 hD1=>?_⟩;have s1:∀ o,Same H (upd H D1 o):=fun o=>Um hD1;refine dD (n:=(es.map V.str).length) (fun i ys H2=>kY H ys ((es.take i).map fun x=>(fZ f x).getD [])/\H2=upd H D1 (.lst ys)) ⟨.nil,rfl⟩ ?_ ?_
  ·rintro ys H2 ⟨rt,rfl⟩;rw [aa,aE (am _)] at rt;refine⟨⟨_,Ui (s1 _ e _ he),am _⟩,D1,_,rfl,.inl ⟨Uh ak,fun q1 hq1=>?_⟩⟩;have s2:=(s1 (.lst ys)).trans (Um (o:=.tup ys) hq1);have hyl:ys.length=es.length:=by rw [eM rt,aa]
   refine⟨_,rfl,by show 1<=sizeLine; decide,fun q2 hq2=>?_⟩;have s3:=s2.trans (Um (o:=.tup [.ref e]) hq2);have h1:(upd (upd (upd H D1 (.lst ys)) q1 (.tup ys)) q2 (.tup [.ref e])) q1=some (.tup ys):=by rw [au (aB ak hq2),ak]
   have last:∀ (H':Hp),Same H H'->kY H' (ys++[.ref e]) (cV (fZ f) es):=fun H' s=>fG (rt.mono (Uj s)) ⟨e,rfl,s e _ he⟩;cases ys with
   | nil=>
    refine .inr ⟨q1,q2,[.ref e],rfl,rfl,h1,ak,?_⟩;exact k q2 _ _ ak (last _ s3) s3
   | cons y0 yr=>
    refine .inl ⟨q1,q2,y0::yr,[.ref e],rfl,rfl,Ui h1,Ui ak,kP _ _,by rw [hyl]; show es.length+1<=sizeLine; omega,(fun h=>absurd h (kP _ _)),fun _ q3 hq3=>?_⟩;have s4:=s3.trans (Um (o:=.tup (y0::yr++[.ref e])) hq3);exact k q3 _ _ ak (last _ s4) s4
  ·rintro i ys H2 hi ⟨rt,rfl⟩;have hi':i < es.length:=by rw [aa] at hi; exact hi
   have ei:(es.map V.str)[i]?=some (.str es[i]):=by rw [bj,af hi']; rfl
   refine⟨⟨_,_,Ui (s1 _ e _ he),ei⟩,?_⟩;rintro v H3 ⟨rfl,yy⟩ σo ho;obtain ⟨oo,rfl⟩:=own1 ho;have ev:=yy _ (Ui (s1 _ e _ he));rw [ei] at ev;cases ev;have hm:es[i]∈es:=dm hi';obtain ⟨q,hv,ht⟩:=told es[i] hm
   have hd1:Rd (upd H D1 (.lst ys)) d (.dK kvs):=by
    rcases hd with h | ⟨o,h⟩
    ·exact .inl (s1 _ d _ h)
    ·exact .inr ⟨o,s1 _ d _ h⟩
   obtain ⟨o,qo,h1,h2,h3⟩:=ht;refine⟨‹16›,jT ⟨_,rfl,_,rfl,d,.ref q,rfl,.inl ⟨kvs,.inr es[i],hd1,rfl,hv.symm⟩,q,_,_,_,rfl,rfl,Ui (s1 _ q _ h2),rfl,by rw [eM rt,aa,cf]; omega,ak,bV hi ⟨?_,by rw [jM]⟩⟩⟩;rw [take_snoc hi',az];refine fG rt ⟨qo,rfl,?_⟩;show H qo=some (.tup (((fZ f es[i]).getD []).map V.str));rw [h1];exact h3
structure Gv (f:Fam) (pl:LS):Prop where
 nd:pl.Nodup
 sub:∀ x∈pl,x∈nms f
 el:∀(j:Nat) (r:Str × LS),r∈f->pl[j]?=some r.1->∀ e∈r.2,e∈pl.take j
theorem Cw{f:Fam}(G:ql f)(pl:LS){r:Str × LS}(hr:r∈f)(hn:¬ r.1∈pl):∃ r'∈f,¬ r'.1∈pl/\∀ e∈r'.2,e∈pl:=by
 obtain ⟨top,t0,t1,t2⟩:=G.Ma
 have key:∀(j:Nat) (r:Str × LS),r∈f->top[j]?=some r.1->¬ r.1∈pl->∃ r'∈f,¬ r'.1∈pl/\∀ e∈r'.2,e∈pl:=by
  intro j
  induction j using Nat.strongRecOn with
  | ind j ih=>
   intro r hr hj hn
   by_cases hall:∀ e∈r.2,e∈pl
   ·exact⟨r,hr,hn,hall⟩
   ·have ⟨e,he⟩:=Classical.not_forall.mp hall;have he1:e∈r.2:=gE fun z=>he fun y=>absurd y z;have he2:¬ e∈pl:=fun z=>he fun _=>z;obtain ⟨j',h1,h2⟩:=t2 r hr;have ej:=yE t0 hj h1;subst ej;obtain ⟨i,hi,ei⟩:=jR (h2 e he1);obtain ⟨r2,hr2,er2⟩:=eA.mp (G.sub r hr e he1);have er2:r2.1=e:=er2;exact ih i hi r2 hr2 (by rw [er2]; exact ei) (by rw [er2]; exact he2)
 obtain ⟨j,h1,_⟩:=t2 r hr;exact key j r hr h1 hn
def bL(f:Fam)(pl:LS):Fam:=f.filter fun r=>decide (¬ r.1∈pl)
def bN(f:Fam)(pl:LS):LS:=((bL f pl).filter fun r=>r.2.all fun e=>decide (e∈pl)).map (·.1)
theorem Gv.more{f:Fam}(G:ql f){pl:LS}(T:Gv f pl):Gv f (pl++bN f pl):=by
 have mem:∀ x,x∈bN f pl->∃ r∈f,r.1=x/\¬ x∈pl/\∀ e∈r.2,e∈pl:=fun x hx=>by
  obtain ⟨r,hr,rfl⟩:=eA.mp hx;obtain ⟨h1,h2⟩:=eS.mp hr;obtain ⟨h3,h4⟩:=eS.mp h1;exact⟨r,h3,rfl,eJ h4,fun e he=>eJ (fE.mp h2 e he)⟩
 have ndr:(bN f pl).Nodup:=by
  have:(bN f pl).Sublist (nms f):=List.Sublist.map _ (List.Sublist.trans List.filter_sublist List.filter_sublist);exact G.nd.sublist this
 refine⟨?_,fun x hx=>?_,fun j r hr ej e he=>?_⟩
 ·rw [lj];refine⟨T.nd,ndr,fun a ha b hb e=>?_⟩;obtain ⟨_,_,_,h,_⟩:=mem b hb;exact h (e ▸ ha)
 ·rcases dP.mp hx with h | h
  ·exact T.sub x h
  ·obtain ⟨r,hr,e,_⟩:=mem x h;rw [<- e];exact eA.mpr ⟨r,hr,rfl⟩
 ·by_cases hj:j < pl.length
  ·rw [jn hj] at ej;have:=T.el j r hr ej e he;rw [List.take_append_of_le_length ‹23›];exact this
  ·rw [i7 ‹23›] at ej;obtain ⟨r',hr',e',_,h⟩:=mem r.1 (gh ej);have er:Hu f r'.1=r'.2:=rK G.nd r' hr';have er2:Hu f r.1=r.2:=rK G.nd r hr;rw [e',er2] at er;have hp:e∈pl:=h e (er ▸ he);rw [List.take_append];exact fh _ (by rw [aE ‹23›]; exact hp)
inductive Bj (vs:LV) (H:Hp) (Q:VK) (E_:XK):Prop
 | mk (v:V) (f:Fam):vs=[v]->Dp H (Py f) v->ql f->(∀(q:Addr) (pl:LS) H',H' q=some (.tup (pl.map V.str))->Gv f pl->(∀ x∈nms f,x∈pl)->Same H H'->Q (.ref q) H')->Bj vs H Q E_
theorem Hi(D:Defs K mg t):bw P w K mg base CX0 1 t.fQ.1 t.fQ.2 ["family"] Bj:=by
 have hz:sizeLine=16777216:=ci;refine D.fQ.fn.ok dU ‹5› ‹2›
 ·obtain ⟨v,f,rfl,_⟩:=h;rfl
 ·obtain ⟨v,f,rfl,dv,gf,k⟩:=h;obtain ⟨a,xs,rfl,ha,dl⟩:=L2.Dp.bG dv;have hxl:xs.length=f.length:=by have:=dl.length; rwa [aa] at this
  have f7:=gf.len
  refine⟨_,(aA (aK (i:=1) dU.nd rfl (My rfl) pG)
   (aA (aK (i:=2) dU.nd rfl (ue rfl) (bK qT (by rfl) D.Bo yQ (aj (pv 0) aq)))
   (aA (aK (i:=3) dU.nd rfl (ue rfl) (pv 2))
   (aA (vI dQ (vL (pv 3) (by intro _; rfl))
   (aA (rW (i:=3) rfl dU.nd rfl (ue rfl) (Uo ["kind","elders"] [1] ["kind","elders","placed"] (aG (top 1)) ["family","placed","waiting","ready","kind"] rfl rfl ‹3›) ⟨fun _ _ _ _ _=>(fL (n:=2) rfl (aY (aJ (i:=0) (show List.Nodup [("kind" : Str),("elders" : Str),("placed" : Str)] by decide +kernel) rfl (ue (aw rfl)) ‹15›) (aY (aJ (i:=1) (show List.Nodup [("kind" : Str),("elders" : Str),("placed" : Str)] by decide +kernel) rfl (ue (aw rfl)) ‹15›) eV))),fun _ _ _ _ _=>(jL (lA (aW (Hy rfl) (by rfl) D.RD Ov (aj (fu rfl (aZ.of2 ["elder"] [2] ["elder","placed"] ["kind","elders","placed"] rfl rfl ‹3›) ⟨fun _ _ _ _ _=>(aJ (i:=0) (show List.Nodup [("elder" : Str),("placed" : Str)] by decide +kernel) rfl (ue (aw rfl)) ‹15›),fun _ _ _ _ _=>iU,fun _ _ _ _ _=>(O4 (QB (gD hr) (pv 0) (pv 1)))⟩ (eY (pv 1))) aq)))),fun _ _ _ _ _=>(pv 0)⟩ (fM (pv 2)))
   (aA (dB dQ rfl (fM (pv 3)) (aJ (i:=4) dU.nd rfl (ue rfl))
   (aD (nU (gD hr) (pv 1) (pv 4) qm rfl)))
   (aD (rW (i:=2) rfl dU.nd rfl (ue rfl) (Uo ["pair"] [1] ["pair","placed"] (aG (top 1)) ["family","placed","waiting","ready","kind"] rfl rfl ‹3›) ⟨fun _ _ _ _ _=>(aJ (i:=0) (show List.Nodup [("pair" : Str),("placed" : Str)] by decide +kernel) rfl (ue (aw rfl)) ‹15›),fun _ _ _ _ _=>(jL (vq (pU (gD hr) ‹22› (pv 1)))),fun _ _ _ _ _=>(pv 0)⟩ (fM (pv 2)))))))
   (aD (aR (bK (Al rfl) (by rfl) D.cJ bR (aj (pv 1) aq)))))))),?_⟩
  intro pd hpd;have s1:Same H (upd H pd (.dK [])):=Um hpd;have hpd1:(upd H pd (.dK [])) pd=some (.dK (jU [])):=ak;generalize upd H pd (.dK [])=H1 at s1 hpd1;refine⟨_,rfl,a,_,rfl,.inr (Ui (s1 a _ ha)),fun w0 hw0=>?_⟩;have s2:Same H1 (upd H1 w0 (.lst xs)):=Um hw0;refine⟨_,rfl,?_⟩;refine⟨fun m σ H2=>∃(pl:LS) (wl rl:Addr) (ws rs:LV) (v4:OV),σ=[some (.ref a),some (.ref pd),some (.ref wl),some (.ref rl),v4]/\H2 pd=some (.dK (jU pl))/\Gv f pl/\H2 wl=some (.lst ws)/\DpL H2 ((bL f pl).map vY) ws/\H2 rl=some (.lst rs)/\(rs=[]->bL f pl=[])/\m=2 * (bL f pl).length+(if rs.isEmpty=true then 0 else 1)/\Same H H2,?_,?_⟩
  ·have e0:bL f []=f:=by
    unfold bL;rw [List.filter_eq_self];simp
   refine⟨_,[],w0,w0,xs,xs,_,rfl,s2 pd _ hpd1,⟨kM,by simp,by intro j r _ h; simp at h⟩,ak,?_,ak,fun h=>?_,rfl,s1.trans s2⟩
   ·rw [e0];exact dl.mono (Uj (s1.trans s2))
   ·rw [e0];rw [h] at hxl;exact List.eq_nil_of_length_eq_zero hxl.symm
  ·rintro m σ H2 ⟨pl,wl,rl,ws,rs,v4,rfl,hpd2,T,hw2,dw,hr2,hex,rfl,sm2⟩;refine⟨_,rfl,_,.inl ⟨_,Uh hr2,rfl⟩,?_⟩;cases hrs:rs with
   | nil=>
    refine iG ⟨_,rfl,pd,_,rfl,.inl hpd2,fun q hq=>?_⟩
    have ek:(jU pl).map (fun kv=>kV kv.1)=pl.map V.str:=by
     unfold jU;rw [nV];rfl
    rw [ek];refine k q pl _ ak T (fun x hx=>?_) (sm2.trans (Um hq));have h0:=hex hrs;apply gE;intro hn;obtain ⟨r,hr',rfl⟩:=eA.mp hx;have:r∈bL f pl:=eS.mpr ⟨hr',bg hn⟩;rw [h0] at this;cases this
   | cons r0 rr=>
    have hem:(!(r0::rr).isEmpty)=true:=rfl;rw [hem];refine jQ ⟨fun σ' H'=>∃ m',m' < 2 * (bL f pl).length+1/\∃(pl:LS) (wl rl:Addr) (ws rs:LV) (v4:OV),σ'=[some (.ref a),some (.ref pd),some (.ref wl),some (.ref rl),v4]/\H' pd=some (.dK (jU pl))/\Gv f pl/\H' wl=some (.lst ws)/\DpL H' ((bL f pl).map vY) ws/\H' rl=some (.lst rs)/\(rs=[]->bL f pl=[])/\m'=2 * (bL f pl).length+(if rs.isEmpty=true then 0 else 1)/\Same H H',fun σ' H' h=>h,?_⟩;have hwl:ws.length=(bL f pl).length:=by have:=dw.length; rwa [aa] at this
    have hl7:(bL f pl).length<=7:=eR (fF _ _) f7;have pwne:∀ {H3:Hp},Same H2 H3->True:=fun _=>trivial;refine⟨_,rfl,wl,rfl,⟨_,Uh hw2⟩,fun D1 hD1=>?_⟩;refine dD (n:=ws.length) (fun i ys H3=>ys=((((bL f pl).take i).filter fun r=>r.2.all fun e=>decide (e∈pl)).map (·.1)).map V.str/\H3 D1=some (.lst ys)/\Same H2 H3) ⟨rfl,ak,Um hD1⟩ ?_ ?_
    ·rintro ys H3 ⟨rfl,hD3,sm3⟩;rw [aE ‹23›] at hD3;have hD3:H3 D1=some (.lst ((bN f pl).map V.str)):=hD3;refine⟨⟨_,Uh (sm3 wl _ hw2),am _⟩,?_⟩;have hwD:wl≠D1:=aB hw2 hD1;have pdD:pd≠D1:=aB hpd2 hD1
     have hrdy:(bN f pl).length<=7:=by
      unfold bN;rw [aa];exact eR (fF _ _) hl7
     have Tm:=T.more gf
     have plx:pl.length<=7:=by
      have h1:=jO T.nd (m:=nms f) T.sub;have h2:(nms f).length=f.length:=aa _;omega
     have newk:∀(i:Nat) (hi:i < (bN f pl).length),¬ (bN f pl)[i]∈pl++(bN f pl).take i:=fun i hi h=>by
      have nd:=Tm.nd
      have e:pl++bN f pl=(pl++(bN f pl).take i)++((bN f pl)[i]::(bN f pl).drop (i+1)):=by
       rw [aI,List.getElem_cons_drop,gu]
      rw [e,lj] at nd;exact nd.2.2 _ h _ bE rfl
     refine⟨_,rfl,D1,rfl,⟨_,Uh hD3⟩,lC (K:=N0) (a:=D1) (xs:=(bN f pl).map V.str) (fun i σ H4=>∃ v4:OV,σ=[some (.ref a),some (.ref pd),some (.ref wl),some (.ref D1),v4]/\H4 pd=some (.dK (jU (pl++(bN f pl).take i)))/\∀ b u,b≠pd->H3 b=some u->H4 b=some u)
      ⟨_,rfl,by rw [List.take_zero,av]; exact sm3 pd _ hpd2,fun b u _ e=>e⟩ (fun i σ H4 _ ⟨_,_,_,kp⟩=>Uh (kp D1 _ pdD.symm hD3)) ?_ ?_⟩
     ·rintro i x σ H4 hi ⟨v4',rfl,hpd4,kp4⟩
      have hil:i < (bN f pl).length:=by
       have:=(aT.mp hi).1
       rwa [aa] at this
      have ex:x=.str (bN f pl)[i]:=by
       rw [bj,af hil] at hi;exact(dL hi).symm
      subst ex;refine⟨_,rfl,_,rfl,pd,_,rfl,zY.k (k:=.inr (bN f pl)[i]) hpd4 (by unfold jU; rw [aa,ae,cf]; omega),?_⟩;rw [Ar (newk i hil)];exact⟨_,rfl,by rw [ak,take_snoc hil,aI],fun b u hb e=>by rw [au hb]; exact kp4 b u hb e⟩
     ·rintro σ H4 ⟨v4',rfl,hpd4,kp4⟩;rw [aa,aE (am _)] at hpd4;have wpd:wl≠pd:=bI hw2 hpd2 ‹8›;have hw4:=kp4 wl _ wpd (sm3 wl _ hw2);have tu4:fB H2 H4:=fun c zs e=>kp4 c _ (bI e hpd2 ‹8›) (sm3 c _ e);have sm4:Same H H4:=fun b u e=>kp4 b u (aB e hpd) (sm3 b u (sm2 b u e));have dw4:=dw.mono tu4;refine⟨_,rfl,wl,rfl,⟨_,Uh hw4⟩,fun D2 hD2=>?_⟩;refine dD (n:=ws.length) (fun i ys H5=>H5 D2=some (.lst ys)/\DpL H4 ((((bL f pl).take i).filter fun r=>decide (¬ r.1∈pl++bN f pl)).map vY) ys/\Same H4 H5) ⟨ak,.nil,Um hD2⟩ ?_ ?_
      ·rintro ys H5 ⟨hD5,dy,sm5⟩;rw [aE ‹23›] at dy;refine⟨⟨_,Uh (sm5 wl _ hw4),am _⟩,?_⟩
       have el:(bL f pl).filter (fun r=>decide (¬ r.1∈pl++bN f pl))=bL f (pl++bN f pl):=by
        unfold bL;rw [List.filter_filter];apply List.filter_congr;intro r _
        by_cases h1:r.1∈pl
        ·simp [h1]
        ·simp [h1]
       rw [el] at dy;have hle:(bL f (pl++bN f pl)).length<=(bL f pl).length:=by rw [<- el]; exact fF _ _
       have hmm:2 * (bL f (pl++bN f pl)).length+(if ((bN f pl).map V.str).isEmpty=true then 0 else 1) < 2 * (bL f pl).length+1:=by
        cases hrd:bN f pl with
        | nil=>
         rw [hrd] at hle;simp
        | cons x0 xr=>
         have:(bL f (pl++bN f pl)).length < (bL f pl).length:=by
          rw [<- el];have hx0:x0∈bN f pl:=by rw [hrd]; exact bE
          obtain ⟨r,hr',e⟩:=eA.mp hx0;have hrl:=(eS.mp hr').1;refine Nat.lt_of_le_of_ne (fF _ _) fun e2=>?_;have:=List.length_filter_eq_length_iff.mp e2 r hrl;have:=eJ this;exact this (bX _ (by show r.1∈_; rw [show r.1=x0 from e]; exact hx0))
         rw [hrd] at this;simp;omega
       refine⟨_,hmm,pl++bN f pl,D2,D1,ys,(bN f pl).map V.str,_,rfl,sm5 pd _ hpd4,Tm,hD5,dy.mono (Uj sm5),sm5 D1 _ (kp4 D1 _ pdD.symm hD3),fun h=>?_,rfl,sm4.trans sm5⟩;have hrd:bN f pl=[]:=List.map_eq_nil_iff.mp h;apply gE;intro hne;obtain ⟨r,hr'⟩:=List.exists_mem_of_ne_nil _ hne;obtain ⟨h1,h2⟩:=eS.mp hr';have h2:=eJ h2;have h2':¬ r.1∈pl:=fun z=>h2 (fh _ z);obtain ⟨r',hr1,hr2',hr3⟩:=Cw gf pl h1 h2';have:r'.1∈bN f pl:=eA.mpr ⟨r',eS.mpr ⟨eS.mpr ⟨hr1,bg hr2'⟩,fE.mpr fun e he=>bg (hr3 e he)⟩,rfl⟩;rw [hrd] at this;cases this
      ·rintro i ys H5 hi ⟨hD5,dy,sm5⟩;have hif:i < (bL f pl).length:=by omega
       obtain ⟨y,ey,dyy⟩:=dw4.get (i:=i) (t:=vY (bL f pl)[i]) (by rw [bj,af hif]; rfl);obtain ⟨q,e,rfl,hq,he⟩:=K37.Dp.Cg dyy;refine⟨⟨_,_,Uh (sm5 wl _ hw4),ey⟩,?_⟩;rintro z H6 ⟨rfl,yy⟩ σo ho;obtain ⟨oo,rfl⟩:=own1 ho;have ez:=yy _ (Uh (sm5 wl _ hw4));rw [ey] at ez;cases ez
       have hyl:ys.length<=7:=by
        rw [dy.length,aa];refine eR (fF _ _) ?_;rw [cf];omega
       have efl:((bL f pl).take (i+1)).filter (fun r=>decide (¬ r.1∈pl++bN f pl))=((bL f pl).take i).filter (fun r=>decide (¬ r.1∈pl++bN f pl))++(if decide (¬ ((bL f pl)[i]).1∈pl++bN f pl)=true then [(bL f pl)[i]] else []):=by
        rw [take_snoc hif,js];congr 1;rw [gr];rfl
       refine⟨‹16›,_,rfl,q,_,_,_,rfl,rfl,Ui (sm5 q _ hq),rfl,_,rfl,pd,_,rfl,lR.k (k:=.inr ((bL f pl)[i]).1) (sm5 pd _ hpd4),_,rfl,?_⟩;cases hin:(cZ (jU (pl++bN f pl)) (.inr ((bL f pl)[i]).1)).isSome with
       | true=>
        have hm:=(mO _ _).mp hin;refine iG (bV hi ⟨hD5,?_,sm5⟩);rw [efl,cK (fun h=>(eJ h) hm),av];exact dy
       | false=>
        have hm:¬ ((bL f pl)[i]).1∈pl++bN f pl:=fun h=>by rw [(mO _ _).mpr h] at hin; cases hin
        refine jQ ⟨_,rfl,by omega,hD5,bV hi ⟨ak,?_,fun b u e'=>?_⟩⟩
        ·rw [efl,dC (bg hm),az];exact dy.append (.cons dyy .nil)
        ·rw [au (aB e' hD2)];exact sm5 b _ e'
    ·rintro i ys H3 hi ⟨rfl,hD3,sm3⟩;have hif:i < (bL f pl).length:=by omega
     obtain ⟨y,ey,dyy⟩:=(dw.mono (Uj sm3)).get (i:=i) (t:=vY (bL f pl)[i]) (by rw [bj,af hif]; rfl);obtain ⟨q,e,rfl,hq,he⟩:=K37.Dp.Cg dyy;refine⟨⟨_,_,Uh (sm3 wl _ hw2),ey⟩,?_⟩;rintro z H4 ⟨rfl,yy⟩ σo ho;obtain ⟨oo,oo',rfl⟩:=Q9 ho;have ez:=yy _ (Uh (sm3 wl _ hw2));rw [ey] at ez;cases ez
     have hyl:(((((bL f pl).take i).filter fun r=>r.2.all fun e=>decide (e∈pl)).map (·.1)).map V.str).length<=7:=by
      rw [aa,aa];refine eR (fF _ _) ?_;rw [cf];omega
     have efl:((bL f pl).take (i+1)).filter (fun r=>r.2.all fun e=>decide (e∈pl))=((bL f pl).take i).filter (fun r=>r.2.all fun e=>decide (e∈pl))++(if (((bL f pl)[i]).2.all fun e=>decide (e∈pl))=true then [(bL f pl)[i]] else []):=by
      rw [take_snoc hif,js];congr 1;rw [gr];rfl
     refine⟨q,_,rfl,Ui hq,rfl,_,_,rfl,_,_,rfl,rfl,⟨[_,_],rfl,rfl⟩,_,rfl,e,rfl,⟨_,Ui he⟩,fun D3 hD3'=>?_⟩;have s5:∀ o,Same H4 (upd H4 D3 o):=fun o=>Um hD3';have el7:=gf.el _ (eS.mp (dm hif)).1;refine dD (n:=(((bL f pl)[i]).2.map V.str).length) (fun j bs H5=>bs=((((bL f pl)[i]).2.take j).map fun e=>decide (e∈pl)).map V.bl/\H5=upd H4 D3 (.lst bs)) ⟨rfl,rfl⟩ ?_ ?_
     ·rintro bs H5 ⟨rfl,rfl⟩;rw [aE (by rw [aa]; exact am _)];refine⟨⟨_,Ui (s5 _ e _ he),am _⟩,D3,_,rfl,Uh ak,_,rfl,?_⟩
      have eall:((((bL f pl)[i]).2.map fun e=>decide (e∈pl)).all id)=((bL f pl)[i]).2.all fun e=>decide (e∈pl):=by
       rw [List.all_map];rfl
      rw [eall];cases hall:(((bL f pl)[i]).2.all fun e=>decide (e∈pl)) with
      | true=>
       refine jQ ⟨_,rfl,by omega,s5 _ D1 _ hD3,bV hi ⟨?_,ak,fun b u e'=>?_⟩⟩
       ·rw [efl,hall,dC rfl,az,az];rfl
       ·rw [au (aB e' hD1)];exact s5 _ b _ (sm3 b _ e')
      | false=>
       refine iG (bV hi ⟨?_,s5 _ D1 _ hD3,sm3.trans (s5 _)⟩);rw [efl,hall,cK bo,av]
     ·rintro j bs H5 hj ⟨rfl,rfl⟩;have hj':j < ((bL f pl)[i]).2.length:=by rw [aa] at hj; exact hj
      have ej:(((bL f pl)[i]).2.map V.str)[j]?=some (.str ((bL f pl)[i]).2[j]):=by rw [bj,af hj']; rfl
      refine⟨⟨_,_,Ui (s5 _ e _ he),ej⟩,?_⟩;rintro y5 H6 ⟨rfl,yy⟩ σo5 ho5;obtain ⟨o5,rfl⟩:=own1 ho5;have ey5:=yy _ (Ui (s5 _ e _ he));rw [ej] at ey5;cases ey5;refine⟨‹16›,jT ⟨_,rfl,_,rfl,pd,_,rfl,lR.k (k:=.inr ((bL f pl)[i]).2[j]) (s5 _ pd _ (sm3 pd _ hpd2)),by rw [aa,aa,cf]; omega,ak,bV hj ⟨?_,by rw [jM]⟩⟩⟩;rw [take_snoc hj',az,az];congr 1;show [V.bl (cZ (jU pl) (.inr ((bL f pl)[i]).2[j])).isSome]=[V.bl (decide (((bL f pl)[i]).2[j]∈pl))];congr 2;apply gX.mpr;rw [mO,fg]
theorem Mg.Ao{r:Option LS}(h:Mg rows r):∀ os,r=some os->(∀ y∈os,∃ q∈rows,y∈q)/\os.Nodup:=by
 induction h with
 | nil=>
  intro os e;cases e;exact⟨by simp,kM⟩
 | stuck _ _=>
  intro os e;cases e
 | @step rows x more r hf _ ih=>
  intro os e;cases r with
  | none=>cases e
  | some os'=>
   cases e;obtain ⟨h1,h2⟩:=ih os' rfl
   have back:∀ y∈os',y≠x/\∃ q∈rows,y∈q:=fun y hy=>by
    obtain ⟨q,hq,hyq⟩:=h1 y hy;obtain ⟨hq1,_⟩:=eS.mp hq;obtain ⟨q0,hq0,rfl⟩:=eA.mp hq1;obtain ⟨a,b⟩:=eS.mp hyq;exact⟨eJ b,q0,hq0,a⟩
   refine⟨fun y hy=>?_,gI.mpr ⟨fun h=>(back x h).1 rfl,h2⟩⟩;rcases bc.mp hy with rfl | h
   ·obtain ⟨q,hq,hh⟩:=tG (by rw [hf]; exact bE);refine⟨q,hq,?_⟩;cases q with
    | nil=>cases hh
    | cons z q=>
     cases hh;exact bE
   ·exact(back y h).2
theorem G5{f:Fam}(G:ql f):∀ x∈nms f,∀ o,fZ f x=some o->o≠[]/\(∀ y∈o,y∈nms f)/\o.length<=8:=by
 obtain ⟨top,t0,t1,t2⟩:=G.Ma
 have key:∀(j:Nat) (x:Str),top[j]?=some x->∀ o,fZ f x=some o->o≠[]/\(∀ y∈o,y∈nms f)/\o.length<=8:=by
  intro j
  induction j using Nat.strongRecOn with
  | ind j ih=>
   intro x hx o ho;have hxn:x∈nms f:=(t1 x).mp (gh hx);obtain ⟨r,hr,rfl⟩:=eA.mp hxn;rw [Bx G hr] at ho;split at ho
   ·rename_i hall
    obtain ⟨j',h1,h2⟩:=t2 r hr;have ej:=yE t0 hx h1;subst ej;cases hm:tY (full (cV (fZ f) r.2)) with
    | none=>rw [hm] at ho; cases ho
    | some os=>
     rw [hm] at ho;cases ho
     have hM:∃ q,Mg (full (cV (fZ f) r.2)) q:=by
      apply gE;intro hn;unfold tY at hm;rw [dif_neg hn] at hm;cases hm
     obtain ⟨q,hq⟩:=hM;have eq:=mU hq;rw [hm] at eq;subst eq;obtain ⟨h3,h4⟩:=Mg.Ao hq os rfl
     have sub:∀ y∈os,y∈nms f:=fun y hy=>by
      obtain ⟨q,hq',hyq⟩:=h3 y hy;have hq':=(eS.mp hq').1;unfold cV at hq';rcases dP.mp hq' with h | h
      ·obtain ⟨e,he,rfl⟩:=eA.mp h;obtain ⟨i,hi,ei⟩:=jR (h2 e he);have hs:=fE.mp hall e he;obtain ⟨oe,hoe⟩:=iO.mp hs;rw [hoe] at hyq;exact(ih i hi e ei oe hoe).2.1 y hyq
      ·rw [bS.mp h] at hyq;exact G.sub r hr y hyq
     refine⟨kP _ _,fun y hy=>?_,?_⟩
     ·rcases bc.mp hy with rfl | h
      ·exact hxn
      ·exact sub y h
     ·have h5:=jO h4 (m:=nms f) sub;have h6:(nms f).length=f.length:=aa _;have:=G.len;rw [ar];omega
   ·cases ho
 intro x hx;obtain ⟨j,hj,e⟩:=gx ((t1 x).mpr hx);exact key j x (by rw [af hj,e])
def qx(H:Hp)(kvs:LK0)(f:Fam):Prop:=Paired (fun(kv:Key × V) (r:Str × LS)=>kv.1=.inr r.1/\∃ e,kv.2=.ref e/\H e=some (.tup (r.2.map V.str))) kvs f
theorem qx.keys{f:Fam}(h:qx H kvs f):kvs.map (·.1)=(nms f).map An:=by
 induction h with
 | nil=>rfl
 | cons r _ ih=>exact congr (congrArg List.cons r.1) ih
theorem qx.get{H:Hp}:∀ {kvs:LK0} {f:Fam},qx H kvs f->(nms f).Nodup->∀ r∈f,∃ e,cZ kvs (.inr r.1)=some (.ref e)/\H e=some (.tup (r.2.map V.str))
 | _,_,.nil,_,r,hr=>nomatch hr
 | (k,v)::kvs,r0::f,.cons q t,nd,r,hr=>by
  have nd':(r0.1::nms f).Nodup:=nd;obtain ⟨n1,n2⟩:=gI.mp nd';obtain ⟨e1,e,e2,e3⟩:=q;rcases bc.mp hr with rfl | h
  ·exact⟨e,by rw [dF (p:=(k,v)) e1]; exact congrArg some e2,e3⟩
  ·obtain ⟨e',h1,h2⟩:=qx.get t n2 r h;refine⟨e',?_,h2⟩;rw [bZ (p:=(k,v)),h1];intro z;have z:k=An r.1:=z;have e1:k=An r0.1:=e1;rw [e1] at z;injection z with z;exact n1 (z ▸ eA.mpr ⟨r,h,rfl⟩)
theorem wQ:∀(more acc:LK0),((acc++more).map (·.1)).Nodup->iB acc more=acc++more
 | [],acc,_=>by rw [av]; rfl
 | (k,v)::more,acc,nd=>by
  have hn:cZ acc k=none:=by
   cases q:cZ acc k with
   | none=>rfl
   | some y=>
    exfalso
    have h1:(cZ acc k).isSome=true:=by rw [q]; rfl
    rw [vf] at h1;have h2:=h1;rw [az,eB] at nd;exact(lj.mp nd).2.2 k h2 k bE rfl
  show iB (putK acc k v) more=_;rw [rE v hn,wQ more (acc++[(k,v)]) (by rw [aI]; exact nd),aI];rfl
theorem GD{f:Fam}(dl:DpL H (f.map vY) xs):∃ kvs,zc H xs kvs/\qx H kvs f:=by
 induction f generalizing xs with
 | nil=>
  rw [dl.kZ];exact⟨[],⟨rfl,fun i kv h=>by simp at h⟩,.nil⟩
 | cons r f ih=>
  obtain ⟨x,rest,rfl,d,dl'⟩:=dl.cases;obtain ⟨kvs,h1,h2⟩:=ih dl';obtain ⟨q,e,rfl,hq,he⟩:=K37.Dp.Cg d;refine⟨(.inr r.1,.ref e)::kvs,⟨by rw [ar,ar,h1.1],fun i kv h=>?_⟩,.cons ⟨rfl,e,rfl,he⟩ h2⟩;cases i with
  | zero=>
   cases h;exact⟨q,rfl,hq⟩
  | succ i=>exact h1.2 i kv h
theorem qx.len{f:Fam}(h:qx H kvs f):kvs.length=f.length:=eM h
theorem qx.merge{f:Fam}(h:qx H kvs f)(nd:(nms f).Nodup):iB [] kvs=kvs:=by
 refine wQ kvs [] ?_;rw [cS,h.keys];exact tV (fun a _ b _ e=>by injection e) nd
theorem Cy{f:Fam}(G:ql f){r:Str × LS}(hr:r∈f)(hall:∀ x∈r.2,(fZ f x).isSome=true):tot (cV (fZ f) r.2)<=100/\(cV (fZ f) r.2).length<=8/\((∀ q∈cV (fZ f) r.2,q≠[])\/∀ q∈cV (fZ f) r.2,q=[]):=by
 have e7:=G.el r hr
 have ord:∀ x∈r.2,∃ o,fZ f x=some o/\o≠[]/\o.length<=8:=fun x hx=>by
  obtain ⟨o,ho⟩:=iO.mp (hall x hx);obtain ⟨h1,_,h3⟩:=G5 G x (G.sub r hr x hx) o ho;exact⟨o,ho,h1,h3⟩
 have tl:∀ es:LS,(∀ x∈es,x∈r.2)->tot (es.map fun e=>(fZ f e).getD [])<=8 * es.length:=by
  intro es
  induction es with
  | nil=>exact fun _=>am _
  | cons x es ih=>
   intro h;rw [eB,gR,ar];obtain ⟨o,ho,_,h3⟩:=ord x (h x bE);have:=ih fun y hy=>h y (cz _ hy);have:((fZ f x).getD []).length<=8:=by rw [ho]; exact h3
   omega
 have ta:tot (cV (fZ f) r.2)=tot (r.2.map fun e=>(fZ f e).getD [])+r.2.length:=by
  unfold cV tot;rw [az,pj];simp
 refine⟨?_,?_,?_⟩
 ·rw [ta];have:=tl r.2 fun _ h=>h;omega
 ·unfold cV;rw [ae,aa,em];omega
 ·cases hes:r.2 with
  | nil=>
   right
   intro q hq;exact bS.mp hq
  | cons x0 xr=>
   left
   intro q hq;rw [<- hes] at hq;rcases dP.mp hq with h | h
   ·obtain ⟨x,hx,rfl⟩:=eA.mp h;obtain ⟨o,ho,h1,_⟩:=ord x hx;rw [ho];exact h1
   ·rw [bS.mp h,hes];exact kP _ _
theorem JH.f{f:Fam}(G:ql f){r:Str × LS}(hr:r∈f)(hall:∀ x∈r.2,(fZ f x).isSome=true)(hm:Mg (full (cV (fZ f) r.2)) (some os))(h:JH H r.1 os q):xQ H f r.1 q:=by
 have e:=Bx G hr;rw [dC (fE.mpr hall),mU hm] at e;obtain ⟨qo,h1,h2⟩:=h;exact⟨r.1::os,qo,e,h1,h2⟩
inductive J0 (vs:LV) (H:Hp) (Q:VK) (E_:XK):Prop
 | mk (v:V) (f:Fam):vs=[v]->Dp H (Py f) v->ql f->(∀ r∈f,∃ os,Mg (full (cV (fZ f) r.2)) (some os))->(∀(d:Addr) (kvs:LK0) H',H d=none->H' d=some (.dK kvs)->oG H' kvs f (·∈nms f)->Same H H'->Q (.ref d) H')->J0 vs H Q E_
theorem Ni(D:Defs K mg t):bw P w K mg base CX0 4 t.gK.1 t.gK.2 ["family"] J0:=by
 have Gaz:=@Hi P w K mg base t D;have Gbj:=@BJ P w K mg base t D;have Gbd:=@GK P w K mg base t D;have Gbm:=@KD P w K mg base t D;have hz:sizeLine=16777216:=ci;refine D.gK.fn.ok gJ ‹5› ‹2›
 ·obtain ⟨v,f,rfl,_⟩:=h;rfl
 ·obtain ⟨v,f,rfl,dv,gf,hord,k⟩:=h;obtain ⟨a,xs,rfl,ha,dl⟩:=L2.Dp.bG dv;obtain ⟨kvs0,hpr,el⟩:=GD dl;have hkl:kvs0.length=f.length:=el.len;have f7:=gf.len
  refine⟨_,(aA (aK (i:=1) gJ.nd rfl (ue rfl) (bK (Bv rfl) (by rfl) D.Ph M9 (aj (pv 0) aq)))
   (aA (aK (i:=2) gJ.nd rfl (ue rfl) pG)
   (aA (dB dQ rfl (eY (aF D.fQ Gaz ‹1› (by rfl) (aj (pv 0) aq))) (aJ (i:=3) gJ.nd rfl (ue rfl))
   (aA (aK (i:=4) gJ.nd rfl (ue rfl) (aF D.fJ Gbj ‹1› (by rfl) (aj (iR (gD hr) (pv 1) (pv 3) ‹4›) (aj (pv 2) aq))))
   (aD (bD (aL yJ (pv 4) mq (aQ _))
   (aD (nU (gD hr) (pv 2) (pv 3) (aF D.jc Gbm ‹1› (by rfl) (aj (pv 3) (aj (aF D.nT Gbd ‹1› (by rfl) (aj (iR (gD hr) (pv 1) (pv 3) ‹4›) (aj (pv 2) aq))) aq))) rfl))
   (aD (nU (gD hr) (pv 2) (pv 3) (pv 4) rfl))))))
   (aD (aR (pv 2)))))),?_⟩
  refine⟨_,rfl,a,xs,kvs0,rfl,ha,hpr,by omega,fun d hd=>?_⟩;rw [el.merge gf.nd];exists 1,s1,hd1,H,d,(.dK kvs0),hd,H1;intro td htd;have s2:Same H1 (upd H1 td (.dK [])):=Um htd;have htd2:(upd H1 td (.dK [])) td=some (.dK []):=ak
  have htdH:H td=none:=by
   cases q:H td with
   | none=>rfl
   | some o=>
    rw [s1 td o q] at htd;cases htd
  have dtd:d≠td:=aB hd1 htd;have htd1:=htd;generalize upd H1 td (.dK [])=H2 at s2 htd2;refine⟨_,rfl,.ref a,f,rfl,dv.mono (Uj (s1.trans s2)),gf,fun q pl H3 hq T allp s3=>⟨q,rfl,⟨_,Ui hq⟩,?_⟩⟩;have hd3:=s3 d _ (s2 d _ hd1);have htd3:=s3 td _ htd2;have qtd:q≠td:=bI hq htd3 ‹8›;have sm3:Same H H3:=(s1.trans s2).trans s3
  refine kj (K:=N0) (a:=q) (xs:=pl.map V.str) (fun i σ H4=>∃(kvs:LK0) (v3 v4:OV),σ=[some (.ref a),some (.ref d),some (.ref td),v3,v4]/\H4 td=some (.dK kvs)/\kvs.length<=i/\oG H4 kvs f (·∈pl.take i)/\∀ b u,b≠td->H3 b=some u->H4 b=some u)
   ⟨[],_,_,rfl,htd3,am _,by intro x hx; simp at hx,fun b u _ e=>e⟩ (fun i σ H4 _ ⟨_,_,_,_,_,_,_,kp⟩=>Ui (kp q _ qtd hq)) ?_ ?_
  ·rintro i x σ H4 hi ⟨kvs,v3,v4,rfl,htd4,kl,told,kp4⟩
   have hil:i < pl.length:=by
    have:=(aT.mp hi).1
    rwa [aa] at this
   have ex:x=.str pl[i]:=by
    rw [bj,af hil] at hi;exact(dL hi).symm
   subst ex;obtain ⟨r,hr',er⟩:=eA.mp (T.sub _ (dm hil));have er:r.1=pl[i]:=er;rw [<- er];have hesub:∀ e∈r.2,e∈pl.take i:=T.el i r hr' (by rw [af hil,er]);have sm4:Same H H4:=fun b u e=>kp4 b u (aB e htdH) (sm3 b u e);have hd4:=kp4 d _ dtd hd3;obtain ⟨e,he1,he2⟩:=el.get gf.nd r hr';have he4:=sm4 e _ he2;have gd:∀ {H5:Hp},H5 d=some (.dK kvs0)->lR H5 d (.str r.1) (some (.ref e)):=fun {H5} h=>.inl ⟨kvs0,.inr r.1,.inl h,rfl,he1.symm⟩
   have plx:pl.length<=7:=by
    have h1:=jO T.nd (m:=nms f) T.sub;have h2:(nms f).length=f.length:=aa _;omega
   have toldE:oG H4 kvs f (·∈r.2):=fun y hy=>told y (hesub y hy)
   have store:∀(q5:Addr) (H5:Hp) (v4:OV),Same H4 H5->xQ H5 f r.1 q5->∃ (kvs':LK0) (v3' v4':OV),([some (.ref a),some (.ref d),some (.ref td),some (.str r.1),v4]:L2.St)=[some (.ref a),some (.ref d),some (.ref td),v3',v4']/\(upd H5 td (.dK (putK kvs (.inr r.1) (.ref q5)))) td=some (.dK kvs')/\kvs'.length<=i+1/\oG (upd H5 td (.dK (putK kvs (.inr r.1) (.ref q5)))) kvs' f (·∈pl.take (i+1))/\∀ b u,b≠td->H3 b=some u->(upd H5 td (.dK (putK kvs (.inr r.1) (.ref q5)))) b=some u:=fun q5 H5 v4 s5 ht=>by
    have tu:fB H5 (upd H5 td (.dK (putK kvs (.inr r.1) (.ref q5)))):=fun c zs e'=>by
     rw [au (bI e' (s5 td _ htd4) ‹8›)];exact e'
    refine⟨_,_,_,rfl,ak,?_,fun y hy=>?_,fun b u hb e'=>by rw [au hb]; exact s5 b _ (kp4 b u hb e')⟩
    ·have:=jg kvs (.inr r.1) (.ref q5);omega
    ·rw [zX]
     by_cases hyr:y=r.1
     ·subst hyr;exact⟨q5,dC rfl,ht.mono tu⟩
     ·rw [take_snoc hil] at hy;rcases dP.mp hy with h | h
      ·obtain ⟨q6,h1,h2⟩:=told y h;exact⟨q6,by rw [cK (by intro z; injection z with z; exact hyr z)]; exact h1,(h2.mono (Uj s5)).mono tu⟩
      ·exact absurd ((bS.mp h).trans er.symm) hyr
   have hall:∀ x∈r.2,(fZ f x).isSome=true:=fun x hx=>by
    obtain ⟨_,_,o,_,ho,_⟩:=toldE x hx;rw [ho];rfl
   refine⟨_,rfl,_,rfl,d,.ref e,rfl,gd hd4,_,rfl,e,td,r.2,kvs,f,rfl,he4,.inl htd4,toldE,?_⟩;refine‹9›;obtain ⟨t1,t2,t3⟩:=Cy gf hr' hall;refine⟨_,rfl,_,rfl,_,rfl,d,.ref e,rfl,gd hd4,_,rfl,e,td,r.2,kvs,f,rfl,he4,.inl htd4,toldE,hall,by have:=gf.el r hr'; omega,fun q5 us5 H5 hq5 rt5 s5=>?_⟩;refine⟨r.1,q5,us5,cV (fZ f) r.2,rfl,hq5,rt5,t3,by omega,by omega,hord r hr',fun q6 m H6 hm ht s6=>?_⟩;refine⟨_,rfl,_,rfl,td,_,rfl,zY.k (k:=.inr r.1) ((s5.trans s6) td _ htd4) ‹23›,?_⟩;exact store q6 H6 _ (s5.trans s6) (ht.f gf hr' hall hm)
  ·rintro σ H4 ⟨kvs,v3,v4,rfl,htd4,kl,told,kp4⟩;rw [aa,aE (am _)] at told;exact⟨_,rfl,k td kvs H4 htdH htd4 (fun x hx=>told x (allp x hx)) fun b u e=>kp4 b u (aB e htdH) (sm3 b u e)⟩
structure KR where
 kind:Str
 cT:LS
 fields:LS
def krT(r:KR):T:=.tup [.str r.kind,.tup (r.cT.map T.str),.tup (r.fields.map T.str)]
def knd(ks:List KR):LS:=ks.map (·.kind)
def oV(ks:List KR):Fam:=ks.map fun r=>(r.kind,r.cT)
theorem rA(ks:List KR):nms (oV ks)=knd ks:=by
 unfold nms oV knd;rw [nV];rfl
structure DR where
 kind:Str
 name:Str
 more:T
 body:T
def drT(d:DR):T:=.tup [.str d.kind,.str d.name,d.more,d.body]
structure vh (ks:List KR):Prop where
 nd:(knd ks).Nodup
 len:ks.length<=7
 el:∀ i r,ks[i]?=some r->(∀ e∈r.cT,e∈(knd ks).take i)/\r.cT.length<=7
 fl:∀ r∈ks,r.fields.length<=100
 Tg:∃ g:Str->Option LS,∀ r∈ks,∃ os,g r.kind=some (r.kind::os)/\Mg (full (cV g r.cT)) (some os)
theorem Qo{ks:List KR}{r:KR}(h:ks[i]?=some r):(knd ks)[i]?=some r.kind:=by
 unfold knd;rw [bj,h];rfl
theorem vh.fam{ks:List KR}(G:vh ks):ql (oV ks) where
 nd:=by rw [rA]; exact G.nd
 sub:=fun r hr e he=>by
  obtain ⟨r0,h0,rfl⟩:=eA.mp hr;obtain ⟨i,hi,rfl⟩:=gx h0;rw [rA];exact oQ ((G.el i _ (af hi)).1 e he)
 len:=by unfold oV; rw [aa]; exact G.len
 el:=fun r hr=>by
  obtain ⟨r0,h0,rfl⟩:=eA.mp hr;obtain ⟨i,hi,rfl⟩:=gx h0;exact(G.el i _ (af hi)).2
 Ma:=by
  refine⟨knd ks,G.nd,fun x=>by rw [rA],fun r hr=>?_⟩;obtain ⟨r0,h0,rfl⟩:=eA.mp hr;obtain ⟨i,hi,rfl⟩:=gx h0;exact⟨i,Qo (af hi),(G.el i _ (af hi)).1⟩
theorem vh.ord{ks:List KR}(G:vh ks):∀ r∈ks,∃ os,fZ (oV ks) r.kind=some (r.kind::os)/\Mg (full (cV (fZ (oV ks)) r.cT)) (some os):=by
 obtain ⟨g,hg⟩:=G.Tg
 have key:∀(i:Nat) (r:KR),ks[i]?=some r->fZ (oV ks) r.kind=g r.kind/\∃ os,fZ (oV ks) r.kind=some (r.kind::os)/\Mg (full (cV (fZ (oV ks)) r.cT)) (some os):=by
  intro i
  induction i using Nat.strongRecOn with
  | ind i ih=>
   intro r hi;have hr:r∈ks:=gh hi;obtain ⟨os,h1,h2⟩:=hg r hr;have eo:=Bx G.fam (r:=(r.kind,r.cT)) (eA.mpr ⟨r,hr,rfl⟩)
   have eld:∀ e∈r.cT,fZ (oV ks) e=g e/\(g e).isSome=true:=fun e he=>by
    obtain ⟨j,hj,ej⟩:=jR ((G.el i r hi).1 e he);unfold knd at ej;rw [bj] at ej;cases hkj:ks[j]? with
    | none=>rw [hkj] at ej; cases ej
    | some r'=>
     rw [hkj] at ej;cases ej;obtain ⟨a,_⟩:=ih j hj r' hkj;obtain ⟨os',b,_⟩:=hg r' (gh hkj);exact⟨a,by rw [b]; rfl⟩
   have er:cV (fZ (oV ks)) r.cT=cV g r.cT:=by
    unfold cV;congr 1;exact kL fun e he=>by rw [(eld e he).1]
   rw [dC (by rw [fE]; intro e he; rw [(eld e he).1]; exact(eld e he).2),er,mU h2] at eo;have eo:fZ (oV ks) r.kind=some (r.kind::os):=eo;exact⟨by rw [eo,h1],os,eo,by rw [er]; exact h2⟩
 intro r hr;obtain ⟨i,hi,rfl⟩:=gx hr;exact(key i _ (af hi)).2
theorem Dp.En{r:KR}(d:Dp H (krT r) v):∃ q e f,v=.ref q/\H q=some (.tup [.str r.kind,.ref e,.ref f])/\H e=some (.tup (r.cT.map V.str))/\H f=some (.tup (r.fields.map V.str)):=by
 obtain ⟨q,xs,rfl,hq,dl⟩:=L2.Dp.bG d;obtain ⟨x1,r1,rfl,d1,dl⟩:=dl.cases;obtain ⟨x2,r2,rfl,d2,dl⟩:=dl.cases;obtain ⟨x3,r3,rfl,d3,dl⟩:=dl.cases;have e1:=L2.Dp.cQ d1;have e4:=dl.kZ;obtain ⟨e,ys,rfl,he,dl2⟩:=L2.Dp.bG d2;obtain ⟨f,zs,rfl,hf,dl3⟩:=L2.Dp.bG d3;subst e1 e4;rw [DpL.nM dl2] at he;rw [DpL.nM dl3] at hf;exact⟨q,e,f,rfl,hq,he,hf⟩
theorem Dp.kr{f:Addr}{r:KR}(hq:H q=some (.tup [.str r.kind,.ref e,.ref f]))(he:H e=some (.tup (r.cT.map V.str)))(hf:H f=some (.tup (r.fields.map V.str))):Dp H (krT r) (.ref q):=
 L2.Dp.tup hq (.cons (L2.Dp.str _) (.cons (L2.Dp.tup he (DpL.strs _)) (.cons (L2.Dp.tup hf (DpL.strs _)) .nil)))
theorem Dp.RN{d:DR}(h:Dp H (drT d) v):∃ q m b,v=.ref q/\H q=some (.tup [.str d.kind,.str d.name,m,b]):=by
 obtain ⟨q,xs,rfl,hq,dl⟩:=L2.Dp.bG h;obtain ⟨x1,r1,rfl,d1,dl⟩:=dl.cases;obtain ⟨x2,r2,rfl,d2,dl⟩:=dl.cases;obtain ⟨x3,r3,rfl,d3,dl⟩:=dl.cases;obtain ⟨x4,r4,rfl,d4,dl⟩:=dl.cases;have e1:=L2.Dp.cQ d1;have e2:=L2.Dp.cQ d2;have e4:=dl.kZ;subst e1 e2 e4;exact⟨q,_,_,rfl,hq⟩
def vO(H:Hp)(kvs:LK0)(g:Str->LS)(ns:LS):Prop:=∀ x∈ns,∃ q,cZ kvs (.inr x)=some (.ref q)/\H q=some (.tup ((g x).map V.str))/\(g x).length<=8
theorem vO.mono(h:vO H kvs g ns)(s:fB H H'):vO H' kvs g ns:=fun x hx=>by
 obtain ⟨q,h1,h2,h3⟩:=h x hx;exact⟨q,h1,s q _ h2,h3⟩
theorem Er(xs:LV)(k:Nat)(h:k<=xs.length):gW xs none (some (k:Int))=xs.take k:=by
 unfold gW;rw [HT.uO,Nat.min_eq_left h];rfl
theorem xJ(xs:LV)(k:Nat)(h:k<=xs.length):gW xs (some (k:Int)) none=xs.drop k:=by
 unfold gW;rw [HT.uO,Nat.min_eq_left h];show List.take (xs.length - k) (xs.drop k)=_;rw [aE];rw [j0];exact am _
theorem Lx(xs:LV):gW xs none (some 1)=xs.take 1:=by
 cases xs with
 | nil=>rfl
 | cons x xs=>exact Er (x::xs) 1 (by rw [ar]; omega)
theorem jE(xs:LV):gW xs (some 1) none=xs.drop 1:=by
 cases xs with
 | nil=>rfl
 | cons x xs=>exact xJ (x::xs) 1 (by rw [ar]; omega)
def jt(g:Str->LS)(es:LS):LL:=es.map g++[es]
theorem xR(h:∀ x∈es,(g x).length<=8):tot (jt g es)<=9 * es.length:=by
 have tl:∀ es:LS,(∀ x∈es,(g x).length<=8)->tot (es.map g)<=8 * es.length:=by
  intro es
  induction es with
  | nil=>exact fun _=>am _
  | cons x es ih=>
   intro h;rw [eB,gR,ar];have:=h x bE;have:=ih fun y hy=>h y (cz _ hy);omega
 have ta:tot (jt g es)=tot (es.map g)+es.length:=by
  unfold jt tot;rw [az,pj];simp
 have:=tl es h;omega
theorem Jb{x:Str}{q:LS}(h:¬ x∈q):cH x q=q:=by
 unfold cH;rw [List.filter_eq_self];intro y hy;exact bg fun e=>h (e ▸ hy)
theorem xM:∀(os:LS),os.Nodup->Mg (full [os]) (some os)
 | [],_=>.nil
 | y::os,nd=>by
  obtain ⟨n1,n2⟩:=gI.mp nd;have ih:=xM os n2
  have hh:¬ dN [y::os] y=true:=by
   unfold dN;simp [n1]
  have hf:frees [y::os]=y::[]:=by
   show (if dN [y::os] y=true then [] else [y])++[]=_;rw [cK hh];rfl
  have ho:full ([y::os].map (cH y))=full [os]:=by
   have:cH y (y::os)=os:=by
    have h1:cH y (y::os)=cH y os:=by
     unfold cH;rw [gr];simp
    rw [h1,Jb n1]
   show full [cH y (y::os)]=_;rw [this]
  have:=Mg.step hf (r:=some os) (by rw [ho]; exact ih);exact this
theorem Ql{e:Str}(nd:(e::os).Nodup):Mg (full [e::os,[e]]) (some (e::os)):=by
 obtain ⟨n1,n2⟩:=gI.mp nd;have ih:=xM os n2
 have hh:¬ dN [e::os,[e]] e=true:=by
  unfold dN;simp [n1]
 have hf:frees [e::os,[e]]=e::[e]:=by
  show (if dN [e::os,[e]] e=true then [] else [e])++((if dN [e::os,[e]] e=true then [] else [e])++[])=_;rw [cK hh];rfl
 have h1:cH e (e::os)=os:=by
  have h1:cH e (e::os)=cH e os:=by
   unfold cH;rw [gr];simp
  rw [h1,Jb n1]
 have h2:cH e [e]=[]:=by
  unfold cH;simp
 have ho:full ([e::os,[e]].map (cH e))=full [os]:=by
  show full [cH e (e::os),cH e [e]]=_;rw [h1,h2];cases os <;> rfl
 have hfull:full [e::os,[e]]=[e::os,[e]]:=rfl;rw [hfull];exact Mg.step hf (r:=some os) (by rw [ho]; exact ih)
def GOk(g:Str->LS)(S:LS):Prop:=∀ x∈S,(g x).Nodup/\(∃ os,g x=x::os)/\∀ y∈g x,y∈S
theorem Qk(gg:GOk g S)(sub:∀ x∈es,x∈S)(h:es.length<=1\/∃ os,Mg (full (jt g es)) (some os)):∃ os,Mg (full (jt g es)) (some os):=by
 rcases h with h | h
 ·cases es with
  | nil=>exact⟨[],.nil⟩
  | cons e r=>
   cases r with
   | nil=>
    obtain ⟨nd,⟨os,eo⟩,_⟩:=gg e (sub e bE);rw [eo] at nd;refine⟨e::os,?_⟩;show Mg (full [g e,[e]]) _;rw [eo];exact Ql nd
   | cons e2 r=>simp at h
 ·exact h
theorem Pz(gg:GOk g S)(sub:∀ x∈es,x∈S)(h:Mg (full (jt g es)) (some os)):os.Nodup/\∀ y∈os,y∈S:=by
 obtain ⟨h1,h2⟩:=Mg.Ao h os rfl;refine⟨h2,fun y hy=>?_⟩;obtain ⟨q,hq,hyq⟩:=h1 y hy;have hq:=(eS.mp hq).1;rcases dP.mp hq with h | h
 ·obtain ⟨e,he,rfl⟩:=eA.mp h;exact(gg e (sub e he)).2.2 y hyq
 ·rw [bS.mp h] at hyq;exact sub y hyq
def wI(g:Str->LS)(x:Str)(o:LS):Str->LS:=fun y=>if y=x then o else g y
theorem GOk.put{x:Str}(gg:GOk g S)(hx:¬ x∈S)(nd:os.Nodup)(sub:∀ y∈os,y∈S):GOk (wI g x (x::os)) (S++[x]):=fun y hy=>by
 unfold wI
 by_cases e:y=x
 ·rw [dC e,e];refine⟨gI.mpr ⟨fun h=>hx (sub x h),nd⟩,⟨os,rfl⟩,fun z hz=>?_⟩;rcases bc.mp hz with rfl | h
  ·exact bX _ (bS.mpr rfl)
  ·exact fh _ (sub z h)
 ·rw [cK e]
  have hy':y∈S:=by
   rcases dP.mp hy with h | h
   ·exact h
   ·exact absurd (bS.mp h) e
  obtain ⟨a,b,c⟩:=gg y hy';exact⟨a,b,fun z hz=>fh _ (c z hz)⟩
theorem vO.put{x:Str}(h:vO H kvs g S)(s:fB H H')(hq:H' q=some (.tup (os.map V.str)))(hl:os.length<=8):vO H' (putK kvs (.inr x) (.ref q)) (wI g x os) (S++[x]):=fun y hy=>by
 unfold wI;rw [zX]
 by_cases e:y=x
 ·rw [dC e,dC (by rw [e])];exact⟨q,rfl,hq,hl⟩
 ·rw [cK e,cK (by intro z; injection z with z; exact e z)]
  have hy':y∈S:=by
   rcases dP.mp hy with h | h
   ·exact h
   ·exact absurd (bS.mp h) e
  exact h.mono s y hy'
structure KOk (g:Str->LS) (ns:LS) (i:Nat) (rs:List KR):Prop where
 kn:knd rs=ns.take i
 el:∀ j r,rs[j]?=some r->(∀ e∈r.cT,e∈ns.take j)/\r.cT.length<=7
 fl:∀ r∈rs,r.fields.length<=100
 mg:∀ r∈rs,∃ os,g r.kind=r.kind::os/\Mg (full (jt g r.cT)) (some os)
theorem Ds{x y:Str}{o:LS}(h:¬ y=x):wI g x o y=g y:=by
 unfold wI;rw [cK h]
theorem KOk.snoc{rs:List KR}(h:KOk g ns i rs)(hi:i < ns.length)(hni:¬ ns[i]∈ns.take i){fs:LS}(sub:∀ e∈es,e∈ns.take i)(hel:es.length<=7)(hfl:fs.length<=100)(hm:Mg (full (jt g es)) (some os)):KOk (wI g ns[i] (ns[i]::os)) ns (i+1) (rs++[⟨ns[i],es,fs⟩]):=by
 have same:∀ es':LS,(∀ e∈es',e∈ns.take i)->jt (wI g ns[i] (ns[i]::os)) es'=jt g es':=fun es' hs=>by
  unfold jt;congr 1;exact kL fun e he=>Ds fun z=>hni (z ▸ hs e he)
 have rl:rs.length=i:=by
  have:=congrArg List.length h.kn;unfold knd at this;rw [aa,cf] at this;omega
 refine⟨?_,fun j r hj=>?_,fun r hr=>?_,fun r hr=>?_⟩
 ·unfold knd;rw [az,take_snoc hi];show knd rs++[ns[i]]=_;rw [h.kn]
 ·by_cases hj':j < rs.length
  ·rw [jn hj'] at hj;exact h.el j r hj
  ·rw [i7 ‹23›] at hj
   have e0:j - rs.length=0:=by
    have:=(aT.mp hj).1;rw [em] at this;omega
   rw [e0] at hj;cases hj;have:j=i:=by omega
   rw [this];exact⟨sub,hel⟩
 ·rcases dP.mp hr with h' | h'
  ·exact h.fl r h'
  ·rw [bS.mp h'];exact hfl
 ·rcases dP.mp hr with h' | h'
  ·obtain ⟨os',h1,h2⟩:=h.mg r h';have hk:r.kind∈ns.take i:=by rw [<- h.kn]; exact eA.mpr ⟨r,h',rfl⟩
   have ne:¬ r.kind=ns[i]:=fun z=>hni (by rw [<- z]; exact hk);refine⟨os',by rw [Ds ne]; exact h1,?_⟩;obtain ⟨j,hj,rfl⟩:=gx h';rw [same _ fun e he=>?_]
   ·exact h2
   ·have h3:=(h.el j _ (af hj)).1 e he;exact(List.take_subset_take_left ns (by omega:j<=i)) h3
  ·rw [bS.mp h'];refine⟨os,by unfold wI; rw [dC rfl],?_⟩;rw [same _ sub];exact hm
theorem KOk.good{rs:List KR}(h:KOk g ns ns.length rs)(nd:ns.Nodup)(h7:ns.length<=7):vh rs:=by
 have hk:knd rs=ns:=by rw [h.kn,aE (am _)]
 have hl:rs.length=ns.length:=by rw [<- hk]; exact(aa _).symm
 exact⟨by rw [hk]; exact nd,by omega,fun i r hi=>by rw [hk]; exact h.el i r hi,h.fl,fun x=>some (g x),fun r hr=>by
  obtain ⟨os,h1,h2⟩:=h.mg r hr;exact⟨os,congrArg some h1,h2⟩⟩
inductive Dq (vs:LV) (H:Hp) (Q:VK) (E_:XK):Prop
 | mk (p u fl:Addr) (n:Int) (fs:LS):vs=[.ref p,.int n,.ref u,.ref fl]->Pu H p->H u=some (.lst [])->1<=n->n<=7->H fl=some (.lst (fs.map V.str))->fs.length<=100->(∀(v:V) (ks:List KR) H',Dp H' (.tup (ks.map krT)) v->vh ks->ks.length=n.toNat->Off p H H'->Pu H' p->Q v H')->Dq vs H Q E_
theorem J1(D:Defs K mg t):bw P w K mg base CX0 4 t.iY.1 t.iY.2 ["_law_purse_here","_law_many","_law_used","_law_fields"] Dq:=by
 have Ga:=@uM P w K mg base t D;have Gan:=@Bd P w K mg base t D;have Gap:=@FN P w K mg base t D;have Gau:=@JT P w K mg base t D;have hz:sizeLine=16777216:=ci;refine D.iY.fn.ok cR ‹5› ‹2›
 ·obtain ⟨p,u,fl,n,fs,rfl,_⟩:=h;rfl
 ·obtain ⟨p,u,fl,n,fs,rfl,hp,hu,hn1,hn7,hfl,hfs,k⟩:=h;have flp:fl≠p:=hp.ne hfl
  refine⟨_,(aA (aK (i:=4) cR.nd rfl (ue rfl) (aF D.fD Gan ‹1› (by rfl) (aj (pv 0) (aj (pv 1) (aj (pv 2) aq)))))
   (aA (jx (bh (aj (bB aq) (aj pG aq))) (fL rfl (aY (aJ (i:=5) cR.nd rfl (ue rfl)) (aY (aJ (i:=6) cR.nd rfl (My rfl)) eV))))
   (aA (dB dQ rfl (yM rfl D.ux (aj (pv 4) aq)) (fL rfl (aY (aJ (i:=7) cR.nd rfl (ue rfl)) (aY (aJ (i:=8) cR.nd rfl (ue rfl)) eV)))
   (aA (aK (i:=9) cR.nd rfl (ue rfl) (aF D.gV Gap ‹1› (by rfl) (aj (pv 0) (aj (cX vB (pv 4) fW (cW (pv 7))) (aj (aV bO (bB (aj aC (aj aC aq))) (bK tH (by rfl) D.Dy yX (aj (su dH ‹20› aC (aQ _)) aq)) ‹4›) aq)))))
   (aA (aK (i:=10) cR.nd rfl (ue rfl) (aF D.gM Gau ‹1› (by rfl) (aj (pv 8) (aj (bH iC (fu rfl (Uo ["_law_one"] [6] ["_law_one","_law_orders"] (aG (top 43)) ["_law_purse_here","_law_many","_law_used","_law_fields","_law_names","_law_kinds_here","_law_orders","_law_k","_law_kind","_law_elders","_law_order"] rfl rfl ‹3›) ⟨fun _ _ _ _ _=>(aJ (i:=0) (show List.Nodup [("_law_one" : Str),("_law_orders" : Str)] by decide +kernel) rfl (ue (aw rfl)) ‹15›),fun _ _ _ _ _=>iU,fun _ _ _ _ _=>(iR (gD hr) (pv 1) (pv 0) ‹4›)⟩ (eY (pv 9))) (bB (aj (pv 9) aq))) aq))))
   (gw (bD (aL yJ (pv 10) mq (aQ _))
   (aA (aK (i:=9) cR.nd rfl (ue rfl) (cX iH (pv 9) fW (cW aC)))
   (aD (aK (i:=10) cR.nd rfl (ue rfl) (aF D.gM Gau ‹1› (by rfl) (aj (pv 8) (aj (bH iC (fu rfl (Uo ["_law_one"] [6] ["_law_one","_law_orders"] (aG (top 43)) ["_law_purse_here","_law_many","_law_used","_law_fields","_law_names","_law_kinds_here","_law_orders","_law_k","_law_kind","_law_elders","_law_order"] rfl rfl ‹3›) ⟨fun _ _ _ _ _=>(aJ (i:=0) (show List.Nodup [("_law_one" : Str),("_law_orders" : Str)] by decide +kernel) rfl (ue (aw rfl)) ‹15›),fun _ _ _ _ _=>iU,fun _ _ _ _ _=>(iR (gD hr) (pv 1) (pv 0) ‹4›)⟩ (eY (pv 9))) (bB (aj (pv 9) aq))) aq))))))
   aX)
   (aA (nU (gD hr) (pv 6) (pv 8) (pv 10) rfl)
   (aD (aP (eO br cw cy bT (pv 5) (aj (bh (aj (pv 8) (aj (pv 9) (aj (aF D.gV Gap ‹1› (by rfl) (aj (pv 0) (aj (pv 3) (aj aC aq)))) aq)))) aq)))))))))
   (aD (aR (bK bM (by rfl) D.cJ bR (aj (pv 5) aq))))))),?_⟩
  refine⟨_,rfl,_,rfl,_,rfl,p,u,n,rfl,hp,hu,by omega,by omega,fun l ns H1 _ hns nd hl1 o1 p1=>?_⟩;have lp:l≠p:=p1.ne hl1;have hns7:ns.length<=7:=by omega
  refine⟨bn _,fun rl hrl od hod=>⟨by show 2<=sizeLine; decide,fun tq htq=>?_⟩⟩;have p3:=((p1.au (o:=.lst []) (p1.neN hrl)).au (o:=.dK []) ((p1.au (p1.neN hrl)).neN hod)).au (o:=.tup [.ref rl,.ref od]) (((p1.au (p1.neN hrl)).au ((p1.au (p1.neN hrl)).neN hod)).neN htq);have o3:Off p H (upd (upd (upd H1 rl (.lst [])) od (.dK [])) tq (.tup [.ref rl,.ref od])):=o1.trans ((Ul hrl).trans ((Ul hod).trans (Ul htq)));have rlo:rl≠od:=aB ak hod;have odt:od≠tq:=aB ak htq;have rlt:rl≠tq:=fun e=>by rw [<- e,au rlo,ak] at htq; cases htq
  have hrl3:(upd (upd (upd H1 rl (.lst [])) od (.dK [])) tq (.tup [.ref rl,.ref od])) rl=some (.lst []):=by rw [au rlt,au rlo,ak]
  have hod3:(upd (upd (upd H1 rl (.lst [])) od (.dK [])) tq (.tup [.ref rl,.ref od])) od=some (.dK []):=by rw [au odt,ak]
  have lrl:l≠rl:=aB hl1 hrl;have lod:l≠od:=fun e=>by rw [<- e,au lrl,hl1] at hod; cases hod
  have ltq:l≠tq:=fun e=>by rw [<- e,au lod,au lrl,hl1] at htq; cases htq
  have hl3:(upd (upd (upd H1 rl (.lst [])) od (.dK [])) tq (.tup [.ref rl,.ref od])) l=some (.lst ‹17›):=by rw [au ltq,au lod,au lrl]; exact hl1
  have nof:∀ {b:Addr},b≠p->H1 b=none->H b=none:=fun {b} hb hn=>by
   cases q:H b with
   | none=>rfl
   | some o=>rw [o1 b o hb q] at hn; cases hn
  have hrlH:H rl=none:=nof (p1.neN hrl).symm hrl;have hodH:H od=none:=nof ((p1.au (p1.neN hrl)).neN hod).symm (by rw [au rlo.symm] at hod; exact hod);have rlp:rl≠p:=(p1.neN hrl).symm;have odp:od≠p:=((p1.au (p1.neN hrl)).neN hod).symm;refine⟨tq,_,rfl,Ui ak,rfl,_,_,rfl,_,_,rfl,rfl,?_⟩;generalize upd (upd (upd H1 rl (.lst [])) od (.dK [])) tq (.tup [.ref rl,.ref od])=H3 at p3 o3 hrl3 hod3 hl3
  refine⟨_,rfl,l,_,rfl,Uh hl3,IW (K:=K) (a:=l) (xs:=ns.map V.str) (fun i σ H2=>∃(rs:List KR) (ys:LV) (kvs:LK0) (g:Str->LS) (v7 v8 v9 v10:OV),σ=[some (.ref p),some (.int n),some (.ref u),some (.ref fl),some (.ref l),some (.ref rl),some (.ref od),v7,v8,v9,v10]/\
   KOk g ns i rs/\kvs.length<=i/\vO H2 kvs g (ns.take i)/\GOk g (ns.take i)/\H2 rl=some (.lst ys)/\DpL H2 (rs.map krT) ys/\H2 od=some (.dK kvs)/\H2 l=some (.lst ‹17›)/\Off p H H2/\Pu H2 p)
   ⟨[],[],[],fun _=>[],_,_,_,_,rfl,⟨rfl,fun j r h=>by simp at h,by simp,by simp⟩,am _,fun x hx=>by simp at hx,fun x hx=>by simp at hx,hrl3,.nil,hod3,hl3,o3,p3⟩ (fun i σ H2 _ ⟨_,_,_,_,_,_,_,_,_,_,_,_,_,_,_,_,e,_⟩=>Uh e) ?_ ?_⟩
  ·rintro i x σ H2 q0 hi ⟨rs,ys,kvs,g,v7,v8,v9,v10,rfl,ko,hkl,og,gg,hrl2,dl2,hod2,hl2,o2,p2⟩ hq0
   have hil:i < ns.length:=by
    have:=(aT.mp hi).1
    rwa [aa] at this
   have ex:x=.str ns[i]:=by
    rw [bj,af hil] at hi;exact(dL hi).symm
   subst ex
   have hni:¬ ns[i]∈ns.take i:=fun h=>by
    have nd':=nd;rw [<- gu i ns] at nd';exact(lj.mp nd').2.2 _ h _ (by rw [List.drop_eq_getElem_cons hil]; exact bE) rfl
   refine⟨q0,_,rfl,Ui ak,rfl,_,_,rfl,_,_,rfl,rfl,?_⟩;have s0:Same H2 (upd H2 q0 (.tup [.int i,.str ns[i]])):=Um hq0;refine⟨_,rfl,_,rfl,_,rfl,_,rfl,l,_,rfl,Uh (s0 l _ hl2),fun m hm=>?_⟩;have s1:=s0.trans (Um (o:=.lst (gW ‹17› none (some (i:Int)))) hm);have hm1:(upd (upd H2 q0 (.tup [.int i,.str ns[i]])) m (.lst (gW ‹17› none (some (i:Int))))) m=some (.lst ((ns.take i).map V.str)):=by rw [ak,Er _ _ (by rw [aa]; omega),gy]
   generalize upd (upd H2 q0 (.tup [.int i,.str ns[i]])) m (.lst (gW ‹17› none (some (i:Int))))=H4 at s1 hm1;have hti:(ns.take i).length<=7:=by rw [cf]; omega
   refine⟨by show 2<=sizeLine; decide,fun m3 hm3=>?_⟩;have p4:Pu H4 p:=p2.same s1;have pm3:p≠m3:=p4.neN hm3;have mm3:m≠m3:=aB hm1 hm3;refine⟨_,rfl,p,4,rfl,p4.au pm3,by decide,by decide,fun r a1 b1 c1 l1 u1=>?_⟩;have mp:m≠p:=p4.ne hm1;have o4:Off p H2 (upd (upd H4 m3 (.lst [.int 3,.int 12])) p (.lst [.int a1,.int b1,.int c1])):=s1.off.trans ((Ul hm3).trans Uk);have p4':Pu (upd (upd H4 m3 (.lst [.int 3,.int 12])) p (.lst [.int a1,.int b1,.int c1])) p:=Up;have hm34:(upd (upd H4 m3 (.lst [.int 3,.int 12])) p (.lst [.int a1,.int b1,.int c1])) m3=some (.lst [.int 3,.int 12]):=by rw [au pm3.symm,ak]
   have hm4:(upd (upd H4 m3 (.lst [.int 3,.int 12])) p (.lst [.int a1,.int b1,.int c1])) m=some (.lst ((ns.take i).map V.str)):=by rw [au mp,au mm3]; exact hm1
   generalize upd (upd H4 m3 (.lst [.int 3,.int 12])) p (.lst [.int a1,.int b1,.int c1])=H4' at o4 p4' hm34 hm4
   obtain ⟨z,hz',hz12⟩:∃ z:Nat,atI [V.int 3,V.int 12] (if decide (V.int r=V.int 1)=true then 1 else 0)=some (.int (z:Nat))/\z<=12:=by
    by_cases hb:decide (V.int r=V.int 1)=true
    ·rw [dC hb];exact⟨12,aH (j:=1) rfl,by decide⟩
    ·rw [cK hb];exact⟨3,aH (j:=0) rfl,by decide⟩
   refine⟨rfl,.inr ⟨_,rfl,m3,_,_,_,rfl,rfl,Uh hm34,hz',?_⟩⟩;refine⟨p,m,ns.take i,z,rfl,p4',.inl hm4,by omega,by omega,fun q es H5 hq sub nde _ o5 p5=>?_⟩;have o5:Off p H2 H5:=o4.trans o5;have hod5:=o5 od _ odp hod2
   have tu5:fB H2 H5:=fun c zs e=>by
    obtain ⟨x1,x2,x3,ep⟩:=p2;exact o5 c _ (bI e ep ‹8›) e
   have og5:=og.mono tu5;have hel:es.length<=7:=eR (jO nde (m:=ns.take i) sub) hti;refine⟨_,rfl,_,rfl,q,rfl,⟨_,Ui hq⟩,fun D1 hD1=>?_⟩;have s4:∀ u,Same H5 (upd H5 D1 u):=fun u=>Um hD1;refine dD (n:=(es.map V.str).length) (fun j ys H6=>kY H5 ys ((es.take j).map g)/\H6=upd H5 D1 (.lst ys)) ⟨.nil,rfl⟩ ?_ ?_;rotate_left
   ·rintro j ys H6 hj ⟨rt,rfl⟩;have hj':j < es.length:=by rw [aa] at hj; exact hj
    have ej:(es.map V.str)[j]?=some (.str es[j]):=by rw [bj,af hj']; rfl
    refine⟨⟨_,_,Ui (s4 _ q _ hq),ej⟩,?_⟩;rintro y H7 ⟨rfl,yy⟩ σo ho;obtain ⟨oo,rfl⟩:=own1 ho;have ey:=yy _ (Ui (s4 _ q _ hq));rw [ej] at ey;cases ey;obtain ⟨q',h1,h2,_⟩:=og5 es[j] (sub _ (dm hj'));refine⟨‹16›,jT ⟨_,rfl,_,rfl,od,.ref q',rfl,.inl ⟨kvs,.inr es[j],.inl (s4 _ od _ hod5),rfl,h1.symm⟩,by rw [eM rt,aa,cf]; omega,ak,bV hj ⟨?_,by rw [jM]⟩⟩⟩;rw [take_snoc hj',az];exact fG rt ⟨q',rfl,h2⟩
   rintro us H6 ⟨rt,rfl⟩;rw [aa,aE (am _)] at rt;refine⟨⟨_,Ui (s4 _ q _ hq),am _⟩,?_⟩;have hyl:us.length=es.length:=by rw [eM rt,aa]
   refine⟨_,rfl,by show 1<=sizeLine; decide,fun m2 hm2=>?_⟩;have s6:=(s4 (.lst us)).trans (Um (o:=.lst [.ref q]) hm2);have hD6:(upd (upd H5 D1 (.lst us)) m2 (.lst [.ref q])) D1=some (.lst us):=by rw [au (aB ak hm2),ak]
   refine⟨D1,m2,us,[.ref q],rfl,rfl,hD6,ak,by show us.length+1<=sizeLine; omega,fun ra hra=>?_⟩;have s7:=s6.trans (Um (o:=.lst (us++[.ref q])) hra);have hra7:(upd (upd (upd H5 D1 (.lst us)) m2 (.lst [.ref q])) ra (.lst (us++[.ref q]))) ra=some (.lst (us++[.ref q])):=ak;generalize upd (upd (upd H5 D1 (.lst us)) m2 (.lst [.ref q])) ra (.lst (us++[.ref q]))=H7 at s7 hra7;have rt7:kY H7 (us++[.ref q]) (jt g es):=fG (rt.mono (Uj s7)) ⟨q,rfl,s7 q _ hq⟩
   have tt:=xR (g:=g) (es:=es) fun x hx=>by
    obtain ⟨_,_,_,h⟩:=og5 x (sub x hx);exact h
   refine⟨ns[i],ra,_,jt g es,rfl,hra7,rt7,by omega,by unfold jt; rw [ae,aa,em]; omega,fun v r H8 hm res s8=>?_⟩;have s58:=s7.trans s8;have p8:Pu H8 p:=p5.same s58;have o8:Off p H2 H8:=o5.trans s58.off;have hq8:=s58 q _ hq;refine⟨fun σ H3=>∃(q qo:Addr) (es os:LS),σ=[some (.ref p),some (.int n),some (.ref u),some (.ref fl),some (.ref l),some (.ref rl),some (.ref od),some (.int i),some (.str ns[i]),some (.ref q),some (.ref qo)]/\H3 q=some (.tup (es.map V.str))/\H3 qo=some (.tup ((ns[i]::os).map V.str))/\(∀ x∈es,x∈ns.take i)/\es.length<=7/\Mg (full (jt g es)) (some os)/\Off p H2 H3/\Pu H3 p,?_,?_⟩
   ·cases r with
    | some os=>
     obtain ⟨qo,rfl,hqo⟩:∃ qo,v=V.ref qo/\H8 qo=some (.tup ((ns[i]::os).map V.str)):=res;refine⟨_,rfl,rfl,_,rfl,bF (by rw [ff ‹8›]; exact bo) ?_⟩;exact⟨q,qo,es,os,rfl,hq8,hqo,sub,hel,hm,o8,p8⟩
    | none=>
     have ev:v=.non:=res;subst ev;refine‹9›;refine⟨_,rfl,_,rfl,q,_,rfl,hq8,fun qb I5 hqb s9=>?_⟩;rw [Lx,<- gy] at hqb;have subb:∀ x∈es.take 1,x∈ns.take i:=fun x hx=>sub x (oQ hx);have hlb:(es.take 1).length<=1:=by rw [cf]; omega
     generalize es.take 1=eb at hqb subb hlb;have hod6:=(s58.trans s9) od _ hod5;have og6:=og5.mono (Uj (s58.trans s9));refine⟨_,rfl,_,rfl,qb,rfl,⟨_,Ui hqb⟩,fun D1 hD1=>?_⟩;have s4:∀ u,Same I5 (upd I5 D1 u):=fun u=>Um hD1;refine dD (n:=(eb.map V.str).length) (fun j ys I6=>kY I5 ys ((eb.take j).map g)/\I6=upd I5 D1 (.lst ys)) ⟨.nil,rfl⟩ ?_ ?_;rotate_left
     ·rintro j ys I6 hj ⟨rt,rfl⟩;have hj':j < eb.length:=by rw [aa] at hj; exact hj
      have ej:(eb.map V.str)[j]?=some (.str eb[j]):=by rw [bj,af hj']; rfl
      refine⟨⟨_,_,Ui (s4 _ qb _ hqb),ej⟩,?_⟩;rintro y I7 ⟨rfl,yy⟩ σo ho;obtain ⟨oo,rfl⟩:=own1 ho;have ey:=yy _ (Ui (s4 _ qb _ hqb));rw [ej] at ey;cases ey;obtain ⟨q',h1,h2,_⟩:=og6 eb[j] (subb _ (dm hj'));refine⟨‹16›,jT ⟨_,rfl,_,rfl,od,.ref q',rfl,.inl ⟨kvs,.inr eb[j],.inl (s4 _ od _ hod6),rfl,h1.symm⟩,by rw [eM rt,aa,cf]; omega,ak,bV hj ⟨?_,by rw [jM]⟩⟩⟩;rw [take_snoc hj',az];exact fG rt ⟨q',rfl,h2⟩
     rintro us I6 ⟨rt,rfl⟩;rw [aa,aE (am _)] at rt;refine⟨⟨_,Ui (s4 _ qb _ hqb),am _⟩,?_⟩;have hyl:us.length=eb.length:=by rw [eM rt,aa]
     refine⟨_,rfl,by show 1<=sizeLine; decide,fun m2 hm2=>?_⟩;have s6:=(s4 (.lst us)).trans (Um (o:=.lst [.ref qb]) hm2);have hD6:(upd (upd I5 D1 (.lst us)) m2 (.lst [.ref qb])) D1=some (.lst us):=by rw [au (aB ak hm2),ak]
     refine⟨D1,m2,us,[.ref qb],rfl,rfl,hD6,ak,by show us.length+1<=sizeLine; omega,fun ra hra=>?_⟩;have s7:=s6.trans (Um (o:=.lst (us++[.ref qb])) hra);have hra7:(upd (upd (upd I5 D1 (.lst us)) m2 (.lst [.ref qb])) ra (.lst (us++[.ref qb]))) ra=some (.lst (us++[.ref qb])):=ak;generalize upd (upd (upd I5 D1 (.lst us)) m2 (.lst [.ref qb])) ra (.lst (us++[.ref qb]))=I7 at s7 hra7;have rt7:kY I7 (us++[.ref qb]) (jt g eb):=fG (rt.mono (Uj s7)) ⟨qb,rfl,s7 qb _ hqb⟩
     have tt:=xR (g:=g) (es:=eb) fun x hx=>by
      obtain ⟨_,_,_,h⟩:=og6 x (subb x hx);exact h
     refine⟨ns[i],ra,_,jt g eb,rfl,hra7,rt7,by omega,by unfold jt; rw [ae,aa,em]; omega,fun vb rb I8 hmb resb s8=>?_⟩;have t58:=s7.trans s8;have p9:Pu I8 p:=(p8.same s9).same t58;have o9:Off p H2 I8:=(o8.trans s9.off).trans t58.off;obtain ⟨os,hos⟩:=Qk gg subb (.inl hlb);have er:=Mg.det hmb hos;subst er;obtain ⟨qo,rfl,hqo⟩:∃ qo,vb=V.ref qo/\I8 qo=some (.tup ((ns[i]::os).map V.str)):=resb;exact⟨qb,qo,eb,os,rfl,t58 qb _ hqb,hqo,subb,by omega,hos,o9,p9⟩
   ·clear hq8 o8 p8 s58 hm res hel sub nde hq;rintro σ H8 ⟨q,qo,es,os,rfl,hq8,hqo,sub,hel,hos,o8,p8⟩;have hod8:=o8 od _ odp hod2;have hrl8:=o8 rl _ rlp hrl2;have hl8:=o8 l _ lp hl2;obtain ⟨ndo,subo⟩:=Pz gg sub hos
    have hol:(ns[i]::os).length<=8:=by
     have:=jO ndo subo;rw [ar];omega
    have tu28:fB H2 H8:=fun c zs e=>by
     obtain ⟨x1,x2,x3,ep⟩:=p2;exact o8 c _ (bI e ep ‹8›) e
    refine⟨_,rfl,_,rfl,_,rfl,od,_,rfl,zY.k (k:=.inr ns[i]) hod8 ‹23›,?_⟩
    have tu9:fB H8 (upd H8 od (.dK (putK kvs (.inr ns[i]) (.ref qo)))):=fun c zs e=>by
     rw [au (bI e hod8 ‹8›)];exact e
    have og9:=(og.mono tu28).put (x:=ns[i]) tu9 (tu9 qo _ hqo) hol;have gg9:=gg.put hni ndo subo;have p9:=p8.au (o:=.dK (putK kvs (.inr ns[i]) (.ref qo))) odp.symm;have kp9:∀ b u,b≠od->H8 b=some u->(upd H8 od (.dK (putK kvs (.inr ns[i]) (.ref qo)))) b=some u:=fun b u hb e=>by rw [au hb]; exact e
    have hod9:(upd H8 od (.dK (putK kvs (.inr ns[i]) (.ref qo)))) od=some (.dK (putK kvs (.inr ns[i]) (.ref qo))):=ak;have tu29:fB H2 (upd H8 od (.dK (putK kvs (.inr ns[i]) (.ref qo)))):=tu28.trans tu9;have hq9:=tu9 q _ hq8;have hrl9:=kp9 rl _ rlo hrl8;have hl9:=kp9 l _ lod hl8;have o9:Off p H (upd H8 od (.dK (putK kvs (.inr ns[i]) (.ref qo)))):=fun b u hb e=>kp9 b u (aB e hodH) (o8 b u hb (o2 b u hb e));have hkl9:(putK kvs (.inr ns[i]) (V.ref qo)).length<=i+1:=eR (jg _ _ _) ‹23›;generalize hk9:putK kvs (.inr ns[i]) (V.ref qo)=kvs9 at og9 p9 hod9 tu29 hq9 hrl9 hl9 o9 hkl9;generalize upd H8 od (.dK kvs9)=H9 at og9 p9 hod9 tu29 hq9 hrl9 hl9 o9;clear kp9 tu9 hk9;have hfl9:=o9 fl _ flp hfl;refine⟨_,rfl,.inl ⟨rfl,_,Uh hrl9⟩,_,rfl,_,rfl,_,rfl,_,rfl,p,fl,fs,3,rfl,p9,.inl hfl9,by decide,hfs,fun qf fs' H13 hqf _ _ hfl' o13 p13=>?_⟩;refine⟨by show 3<=sizeLine; decide,fun qr hqr=>?_⟩
    have tu913:fB H9 H13:=fun c zs e=>by
     obtain ⟨x1,x2,x3,ep⟩:=p9;exact o13 c _ (bI e ep ‹8›) e
    have hrl13:=o13 rl _ rlp hrl9;have hod13:=o13 od _ odp hod9;have hl13:=o13 l _ lp hl9
    have hyl:ys.length=i:=by
     have e1:=dl2.length;rw [aa] at e1;have e2:=congrArg List.length ko.kn;unfold knd at e2;rw [aa,cf] at e2;omega
    have qrr:rl≠qr:=aB hrl13 hqr;refine⟨rl,ys,.ref qr,rfl,rfl,by rw [au qrr]; exact hrl13,by omega,?_⟩
    have tu15:fB H13 (upd (upd H13 qr (.tup [.str ns[i],.ref q,.ref qf])) rl (.lst (ys++[.ref qr]))):=fun c zs e=>by
     rw [au (bI e hrl13 ‹8›),au (aB e hqr)];exact e
    refine⟨rs++[⟨ns[i],es,fs'⟩],ys++[.ref qr],kvs9,wI g ns[i] (ns[i]::os),_,_,_,_,rfl,ko.snoc hil hni sub hel ‹23› hos,hkl9,?_,?_,ak,?_,?_,?_,?_,?_⟩
    ·rw [take_snoc hil];exact og9.mono (tu913.trans tu15)
    ·rw [take_snoc hil];exact gg9
    ·rw [az];refine(dl2.mono (tu29.trans (tu913.trans tu15))).append (.cons (K37.Dp.kr (e:=q) (f:=qf) ?_ ((tu913.trans tu15) q _ hq9) (tu15 qf _ hqf)) .nil);rw [au qrr.symm,ak]
    ·rw [au rlo.symm,au (aB hod13 hqr)];exact hod13
    ·rw [au lrl,au (aB hl13 hqr)];exact hl13
    ·intro b u hb e;rw [au (aB e hrlH)];exact(Ul hqr:L2.Off p _ _) b u hb (o13 b u hb (o9 b u hb e))
    ·exact(p13.au (p13.neN hqr)).au rlp.symm
  ·rintro σ H2 ⟨rs,ys,kvs,g,v7,v8,v9,v10,rfl,ko,hkl,og,gg,hrl2,dl2,hod2,hl2,o2,p2⟩;rw [aa] at ko;refine⟨_,rfl,rl,_,rfl,.inl ⟨Uh hrl2,fun q hq=>?_⟩⟩
   have hlen:rs.length=ns.length:=by
    have e2:=congrArg List.length ko.kn;unfold knd at e2;rw [aa,cf] at e2;omega
   exact k _ rs _ (L2.Dp.tup ak (dl2.mono (Uj (Um hq)))) (ko.good nd hns7) ‹23› (o2.trans (Ul hq)) (p2.au (p2.neN hq))
def sIn:Stmt:=inClass (top 22) 0
def Qa:Stmt:=inClass (top 22) 1
def CJ:Stmt:=inClass (top 22) 2
def Jh:Stmt:=inClass (top 22) 3
structure lW where
 C:Addr
 init:Addr × vy
 lay:Addr × vy
 leave:Addr × vy
 lead:Addr × vy
structure Sht (K:PySem.W.Frag) (mg:MG) (c:lW):Prop where
 cl:Cls K c.C
 mk0:Mk K c.C c.init.1
 gS:mg "Sheet" = some (.ref c.C)
 nN:jV K c.C "numbers"
 nR:jV K c.C "rows"
 nC:jV K c.C "catches"
 nS:jV K c.C "statement"
 nP:jV K c.C "repeats"
 qZ:Fun K "__init__" "Sheet.__init__" sIn c.init.1 c.init.2
 Bp:Binds K c.init.2 ["self","numbers"] []
 KY:Fun K "lay" "Sheet.lay" Qa c.lay.1 c.lay.2
 oN:Binds K c.lay.2 ["self","row"] []
 oO:Meth K c.C "lay" c.lay.1
 yP:Fun K "leave" "Sheet.leave" CJ c.leave.1 c.leave.2
 oE:Binds K c.leave.2 ["self"] []
 nG:Meth K c.C "leave" c.leave.1
 Cr:Fun K "lead" "Sheet.lead" Jh c.lead.1 c.lead.2
 qP:Binds K c.lead.2 ["self","at","word"] []
 qF:Meth K c.C "lead" c.lead.1
def lQ(n r c:Addr)(s p:Int):List (Str × V):=[("numbers",.ref n),("rows",.ref r),("catches",.ref c),("statement",.int s),("repeats",.int p)]
section
variable (n r c:Addr)(s p z:Int)
theorem QJ:(lQ n r c s p).lookup ("numbers" : Str)=some (.ref n):=rfl
theorem vg:(lQ n r c s p).lookup ("rows" : Str)=some (.ref r):=rfl
theorem Q7:(lQ n r c s p).lookup ("catches" : Str)=some (.ref c):=rfl
theorem Rm:(lQ n r c s p).lookup ("statement" : Str)=some (.int s):=rfl
theorem Pg:(lQ n r c s p).lookup ("repeats" : Str)=some (.int p):=rfl
theorem jJ:(lQ n r c s p).lookup ("lay" : Str)=none:=rfl
theorem lE:(lQ n r c s p).lookup ("leave" : Str)=none:=rfl
theorem nY:(lQ n r c s p).lookup ("lead" : Str)=none:=rfl
theorem Mz:nA "statement" (.int z) (lQ n r c s p)=lQ n r c z p:=rfl
theorem Fv:nA "repeats" (.int z) (lQ n r c s p)=lQ n r c s z:=rfl
end
theorem sE:bf ["self","numbers"] ["self","numbers"] (aG sIn):=‹0›
theorem yx:bf ["self","row"] ["self","row"] (aG Qa):=‹0›
theorem vA:bf ["self"] ["self"] (aG CJ):=‹0›
theorem wH:bf ["self","at","word"] ["self","at","word"] (aG Jh):=‹0›
inductive N7 (C:Addr) (vs:LV) (H:Hp) (Q:VK) (E_:XK):Prop
 | mk (p n dx:Addr):vs=[.ref p,.ref n]->H p=some (.ins C dx [])->(∀(r c:Addr) (H':Hp),H r=none->H c=none->r≠c->H' p=some (.ins C dx (lQ n r c 0 0))->H' r=some (.lst [])->H' c=some (.lst [])->(∀ b o,H b=some o->b≠p->H' b=some o)->Q .non H')->N7 C vs H Q E_
inductive Fz (C:Addr) (vs:LV) (H:Hp) (Q:VK) (E_:XK):Prop
 | mk (p n r c dx:Addr) (s q:Int) (v:V) (xs:LV):vs=[.ref p,v]->H p=some (.ins C dx (lQ n r c s q))->H r=some (.lst xs)->xs.length < sizeLine->Q .non (upd H r (.lst (xs++[v])))->Fz C vs H Q E_
inductive Es (C:Addr) (vs:LV) (H:Hp) (Q:VK) (E_:XK):Prop
 | mk (p n r c dx:Addr) (s q:Int) (xs:LV):vs=[.ref p]->H p=some (.ins C dx (lQ n r c s q))->H r=some (.lst xs)->xs.length < sizeLine->Q (.int xs.length) (upd H r (.lst (xs++[.non])))->Es C vs H Q E_
inductive Jz (C:Addr) (vs:LV) (H:Hp) (Q:VK) (E_:XK):Prop
 | mk (p n r c dx:Addr) (s q:Int) (i:Nat) (x:Str) (xs:LV):vs=[.ref p,.int i,.str x]->H p=some (.ins C dx (lQ n r c s q))->H r=some (.lst xs)->i < xs.length->(∀ a,H a=none->Q .non (upd (upd H a (.tup [.str x,.int xs.length])) r (.lst (xs.set i (.ref a)))))->Jz C vs H Q E_
section
variable {P:uv}{w:xf}{K:PySem.W.Frag}{mg:MG}{base:Heap}{t:Adr}{c:lW}
theorem wA(S:Sht K mg c):bw P w K mg base CX0 1 c.init.1 c.init.2 ["self","numbers"] (N7 c.C):=by
 refine S.qZ.ok sE ‹5› ‹2›
 ·obtain ⟨p,n,dx,rfl,_⟩:=h;rfl
 ·obtain ⟨p,n,dx,rfl,hp,k⟩:=h
  refine⟨_,(aA (uY (pv 0) (pv 1) rfl)
   (aA (uY (pv 0) (bB aq) rfl)
   (aA (uY (pv 0) (bB aq) rfl)
   (aA (uY (pv 0) aC rfl)
   (aD (uY (pv 0) aC rfl)))))),?_⟩
  refine⟨_,rfl,_,rfl,p,c.C,dx,[],rfl,hp,S.cl,S.nN,(by show 0 < 1000; decide),?_⟩;refine⟨bn _,fun r hr0=>?_⟩;have npr:p≠r:=aB ak hr0;refine⟨_,rfl,p,c.C,dx,_,rfl,(by rw [au npr]; exact ak),S.cl,S.nR,(by show 1 < 1000; decide),?_⟩;refine⟨bn _,fun q hq0=>?_⟩;have npq:p≠q:=aB ak hq0;rw [au npq.symm] at hq0;have nrq:r≠q:=aB ak hq0;refine⟨_,rfl,p,c.C,dx,_,rfl,(by rw [au npq]; exact ak),S.cl,S.nC,(by show 2 < 1000; decide),?_⟩;refine⟨_,rfl,p,c.C,dx,_,rfl,ak,S.cl,S.nS,(by show 3 < 1000; decide),_,rfl,p,c.C,dx,_,rfl,ak,S.cl,S.nP,(by show 4 < 1000; decide),?_⟩;rw [au npr.symm] at hr0;rw [au nrq.symm,au npq.symm] at hq0;refine k r q _ hr0 hq0 nrq (by rw [ak]; rfl) ?_ ?_ fun b o e hb=>?_
  ·rw [au npr.symm,au npr.symm,au npr.symm,au nrq,au npr.symm,ak]
  ·rw [au npq.symm,au npq.symm,au npq.symm,ak]
  ·rw [au hb,au hb,au hb,au (aB e hq0),au hb,au (aB e hr0),au hb];exact e
theorem gZ(D:Defs K mg t)(S:Sht K mg c):bw P w K mg base CX0 1 c.lay.1 c.lay.2 ["self","row"] (Fz c.C):=by
 refine S.KY.ok yx ‹5› ‹2›
 ·obtain ⟨p,n,r,a,dx,s,q,v,xs,rfl,_⟩:=h;rfl
 ·obtain ⟨p,n,r,a,dx,s,q,v,xs,rfl,hp,hx,hl,k⟩:=h;refine⟨_,(aD (aP (eO br cw cy bT (fX (pv 0) rfl) (aj (pv 1) aq)))),?_⟩;exact⟨_,rfl,p,c.C,dx,_,_,rfl,hp,S.cl,S.nR,vg _ _ _ _ _,.inl ⟨rfl,_,Uh hx⟩,_,rfl,r,xs,v,rfl,rfl,hx,hl,k⟩
theorem gH(D:Defs K mg t)(S:Sht K mg c):bw P w K mg base CX0 1 c.leave.1 c.leave.2 ["self"] (Es c.C):=by
 refine S.yP.ok vA ‹5› ‹2›
 ·obtain ⟨p,n,r,a,dx,s,q,xs,rfl,_⟩:=h;rfl
 ·obtain ⟨p,n,r,a,dx,s,q,xs,rfl,hp,hx,hl,k⟩:=h;have npr:p≠r:=bI hp hx (by intro z; cases z)
  refine⟨_,(aA (aP (eO br cw cy bT (fX (pv 0) rfl) (aj mq aq)))
   (aD (aR (bH iW (aW bC (by rfl) D.dg bY (aj (fX (pv 0) rfl) aq)) aC)))),?_⟩
  refine⟨_,rfl,p,c.C,dx,_,_,rfl,hp,S.cl,S.nR,vg _ _ _ _ _,.inl ⟨rfl,_,Uh hx⟩,r,xs,.non,rfl,rfl,hx,hl,?_⟩;refine⟨_,rfl,p,c.C,dx,_,_,rfl,(by rw [au npr]; exact hp),S.cl,S.nR,vg _ _ _ _ _,r,xs++[.non],rfl,.inl (Uh ak),_,_,rfl,rfl,?_⟩;have e:((xs++[V.non]).length:Int) - 1=(xs.length:Int):=by rw [ae]; show ((xs.length+1:Nat):Int) - 1=_; omega
  show Q (V.int (((xs++[V.non]).length:Int) - 1)) _;rw [e];exact k
theorem iQ(D:Defs K mg t)(S:Sht K mg c):bw P w K mg base CX0 1 c.lead.1 c.lead.2 ["self","at","word"] (Jz c.C):=by
 refine S.Cr.ok wH ‹5› ‹2›
 ·obtain ⟨p,n,r,a,dx,s,q,i,x,xs,rfl,_⟩:=h;rfl
 ·obtain ⟨p,n,r,a,dx,s,q,i,x,xs,rfl,hp,hx,hi,k⟩:=h;refine⟨_,(aD (jx (bh (aj (pv 2) (aj (aW bC (by rfl) D.dg bY (aj (fX (pv 0) rfl) aq)) aq))) (sY (fX (pv 0) rfl) (pv 1) set_list))),?_⟩;refine⟨_,rfl,_,rfl,p,c.C,dx,_,_,rfl,hp,S.cl,S.nR,vg _ _ _ _ _,r,xs,rfl,.inl (Uh hx),(by show 2<=sizeLine; decide),fun z hz=>?_⟩;refine⟨_,rfl,p,c.C,dx,_,_,rfl,(by rw [au (aB hp hz)]; exact hp),S.cl,S.nR,vg _ _ _ _ _,_,rfl,r,xs,i,i,rfl,rfl,(by rw [au (aB hx hz)]; exact hx),?_,k z hz⟩;unfold ixN;rw [dC ‹23›,dC ‹23›];rfl
end
def bins:LS:=["plus","minus","less","alike","or"]
def ones:LS:=["tell","do","give","throw"]
inductive Ex where
 | num (i:Int) | non | me | name (x:Str) | new (k:Str) | get (e:Ex) (f:Str)
 | ask (e:Ex) (d:Str) (as:List Ex) | up (d:Str) (as:List Ex) | bin (w:Str) (a b:Ex)
inductive St where
 | one (w:Str) (e:Ex) | let_ (x:Str) (e:Ex) | put (e:Ex) (f:Str) (v:Ex) | drop (e:Ex) (f:Str) | become (e:Ex) (k:Str)
 | turn (a b c d:Str) | strip (a b:Str) | cT (k:Str) (es:LS)
 | if_ (e:Ex) (a b:List St) | while_ (e:Ex) (a:List St) | repeat_ (e:Ex) (a:List St) | try_ (a:List St) (x:Str) (b:List St)
mutual
def Ex.t:Ex->T
 | .num i=>.int i
 | .non=>.non
 | .me=>.tup [.str "me"]
 | .name x=>.tup [.str "name",.str x]
 | .new k=>.tup [.str "new",.str k]
 | .get e f=>.tup [.str "get",e.t,.str f]
 | .ask e d as=>.tup [.str "ask",e.t,.str d,.tup (tL as)]
 | .up d as=>.tup [.str "up",.str d,.tup (tL as)]
 | .bin w a b=>.tup [.str w,a.t,b.t]
def tL:List Ex->List T
 | []=>[]
 | e::es=>e.t::tL es
end
end
mutual
def Ex.it:Ex->List (Option Str)
 | .num _=>[]
 | .non=>[]
 | .me=>[none]
 | .name x=>[some x]
 | .new _=>[]
 | .get e _=>e.it
 | .ask e _ as=>e.it++itL as
 | .up _ as=>none::itL as
 | .bin _ a b=>a.it++b.it
def itL:List Ex->List (Option Str)
 | []=>[]
 | e::es=>e.it++itL es
end
mutual
def Ex.tr(f:Str->Int):Ex->List (Option Int)
 | .num _=>[none]
 | .non=>[none]
 | .me=>[some 0]
 | .name x=>[some (f x)]
 | .new _=>[none]
 | .get e _=>e.tr f++[none]
 | .ask e _ as=>e.tr f++(trL f as++[none])
 | .up _ as=>some 0::(trL f as++[none])
 | .bin w a b=>if w = "or" then a.tr f++none::b.tr f else a.tr f++(b.tr f++[none])
def trL(f:Str->Int):List Ex->List (Option Int)
 | []=>[]
 | e::es=>e.tr f++trL f es
end
mutual
def Ex.dp:Ex->Nat
 | .num _=>1
 | .non=>1
 | .me=>1
 | .name _=>1
 | .new _=>1
 | .get e _=>e.dp+1
 | .ask e _ as=>max e.dp (dpL as)+1
 | .up _ as=>dpL as+1
 | .bin _ a b=>max a.dp b.dp+1
def dpL:List Ex->Nat
 | []=>1
 | e::es=>max e.dp (dpL es)
end
mutual
def Ex.wf:Ex->Prop
 | .num _=>True
 | .non=>True
 | .me=>True
 | .name _=>True
 | .new _=>True
 | .get e _=>e.wf
 | .ask e _ as=>e.wf/\as.length<=3/\wfL as
 | .up _ as=>as.length<=3/\wfL as
 | .bin w a b=>w∈bins/\a.wf/\b.wf
def wfL:List Ex->Prop
 | []=>True
 | e::es=>e.wf/\wfL es
end
def Av(f:Str->Int):Option Str->Int
 | none=>0
 | some x=>f x
theorem bJ(xs ys:List (Option α)):(xs++ys).filterMap id=xs.filterMap id++ys.filterMap id:=List.filterMap_append
theorem cU(xs:List (Option α)):(none::xs).filterMap id=xs.filterMap id:=rfl
theorem eF(x:α)(xs:List (Option α)):(some x::xs).filterMap id=x::xs.filterMap id:=rfl
theorem d9:([]:List (Option α)).filterMap id=[]:=rfl
mutual
theorem Ex.jr(f:Str->Int):∀ e:Ex,(e.tr f).filterMap id=e.it.map (Av f)
 | .num _=>by rw [Ex.tr,Ex.it]; rfl
 | .non=>by rw [Ex.tr,Ex.it]; rfl
 | .me=>by rw [Ex.tr,Ex.it]; rfl
 | .name x=>by rw [Ex.tr,Ex.it]; rfl
 | .new _=>by rw [Ex.tr,Ex.it]; rfl
 | .get e _=>by rw [Ex.tr,Ex.it,bJ,Ex.jr f e,cU,d9,av]
 | .ask e _ as=>by rw [Ex.tr,Ex.it,bJ,bJ,Ex.jr f e,CW f as,cU,d9,av,az]
 | .up _ as=>by rw [Ex.tr,Ex.it,eF,bJ,CW f as,cU,d9,av]; rfl
 | .bin w a b=>by
  rw [Ex.tr,Ex.it,az];split
  ·rw [bJ,cU,Ex.jr f a,Ex.jr f b]
  ·rw [bJ,bJ,cU,d9,av,Ex.jr f a,Ex.jr f b]
theorem CW(f:Str->Int):∀ es:List Ex,(trL f es).filterMap id=(itL es).map (Av f)
 | []=>by rw [trL,itL]; rfl
 | e::es=>by rw [trL,itL,bJ,Ex.jr f e,CW f es,az]
end
mutual
def St.t:St->T
 | .one w e=>.tup [.str w,e.t]
 | .let_ x e=>.tup [.str "let",.str x,e.t]
 | .put e f v=>.tup [.str "put",e.t,.str f,v.t]
 | .drop e f=>.tup [.str "drop",e.t,.str f]
 | .become e k=>.tup [.str "become",e.t,.str k]
 | .turn a b c d=>.tup [.str "turn",.str a,.str b,.str c,.str d]
 | .strip a b=>.tup [.str "strip",.str a,.str b]
 | .cT k es=>.tup [.str "elders",.str k,.tup (es.map T.str)]
 | .if_ e a b=>.tup [.str "if",e.t,.tup (sL a),.tup (sL b)]
 | .while_ e a=>.tup [.str "while",e.t,.tup (sL a)]
 | .repeat_ e a=>.tup [.str "repeat",e.t,.tup (sL a)]
 | .try_ a x b=>.tup [.str "try",.tup (sL a),.str x,.tup (sL b)]
def sL:List St->List T
 | []=>[]
 | s::r=>s.t::sL r
end
mutual
def St.it(l:Bool):St->List (Option Str)
 | .one _ e=>e.it
 | .let_ x e=>if l=true then e.it++[some x] else some x::e.it
 | .put e _ v=>e.it++v.it
 | .drop e _=>e.it
 | .become e _=>e.it
 | .turn _ _ _ _=>[]
 | .strip _ _=>[]
 | .cT _ _=>[]
 | .if_ e a b=>e.it++(siL l a++siL l b)
 | .while_ e a=>e.it++siL l a
 | .repeat_ e a=>e.it++siL l a
 | .try_ a x b=>siL l a++some x::siL l b
def siL(l:Bool):List St->List (Option Str)
 | []=>[]
 | s::r=>s.it l++siL l r
end
mutual
def St.tr(f:Str->Int):St->List (Option Int)
 | .one _ e=>e.tr f++[none]
 | .let_ x e=>e.tr f++[some (f x)]
 | .put e _ v=>e.tr f++(v.tr f++[none])
 | .drop e _=>e.tr f++[none]
 | .become e _=>e.tr f++[none]
 | .turn _ _ _ _=>[none]
 | .strip _ _=>[none]
 | .cT _ _=>[none]
 | .if_ e a b=>e.tr f++none::(stL f a++none::stL f b)
 | .while_ e a=>e.tr f++none::(stL f a++[none])
 | .repeat_ e a=>e.tr f++none::none::none::(stL f a++[none])
 | .try_ a x b=>stL f a++none::some (f x)::stL f b
def stL(f:Str->Int):List St->List (Option Int)
 | []=>[]
 | s::r=>none::(s.tr f++stL f r)
end
mutual
theorem St.jr(f:Str->Int):∀ s:St,(s.tr f).filterMap id=(s.it true).map (Av f)
 | .one _ e=>by rw [St.tr,St.it,bJ,cU,d9,av,Ex.jr]
 | .let_ x e=>by rw [St.tr,St.it,dC rfl,bJ,eF,d9,Ex.jr,az]; rfl
 | .put e _ v=>by rw [St.tr,St.it,bJ,bJ,cU,d9,av,Ex.jr,Ex.jr,az]
 | .drop e _=>by rw [St.tr,St.it,bJ,cU,d9,av,Ex.jr]
 | .become e _=>by rw [St.tr,St.it,bJ,cU,d9,av,Ex.jr]
 | .turn _ _ _ _=>by rw [St.tr,St.it]; rfl
 | .strip _ _=>by rw [St.tr,St.it]; rfl
 | .cT _ _=>by rw [St.tr,St.it]; rfl
 | .if_ e a b=>by rw [St.tr,St.it,bJ,cU,bJ,cU,Ex.jr,oY f a,oY f b,az,az]
 | .while_ e a=>by rw [St.tr,St.it,bJ,cU,bJ,cU,d9,av,Ex.jr,oY f a,az]
 | .repeat_ e a=>by rw [St.tr,St.it,bJ,cU,cU,cU,bJ,cU,d9,av,Ex.jr,oY f a,az]
 | .try_ a x b=>by rw [St.tr,St.it,bJ,cU,eF,oY f a,oY f b,az]; rfl
theorem oY(f:Str->Int):∀ ss:List St,(stL f ss).filterMap id=(siL true ss).map (Av f)
 | []=>by rw [stL,siL]; rfl
 | s::r=>by rw [stL,siL,cU,bJ,St.jr f s,oY f r,az]
end
def nmE(e:Ex):LS:=e.it.filterMap id
def nmL(es:List Ex):LS:=(itL es).filterMap id
def nmS(s:St):LS:=(s.it false).filterMap id
def nmB(b:List St):LS:=(siL false b).filterMap id
theorem uI:∀ es:List Ex,nmL es=(es.map nmE).flatten
 | []=>by unfold nmL; rw [itL]; rfl
 | e::es=>by
  unfold nmL;rw [itL,bJ,eB,bz,<- uI es];rfl
theorem uK:∀ b:List St,nmB b=(b.map nmS).flatten
 | []=>by unfold nmB; rw [siL]; rfl
 | s::b=>by
  unfold nmB;rw [siL,bJ,eB,bz,<- uK b];rfl
theorem jW:∀ es:List Ex,tL es=es.map Ex.t
 | []=>by rw [tL]; rfl
 | e::es=>by rw [tL,jW es]; rfl
theorem nW:∀ b:List St,sL b=b.map St.t
 | []=>by rw [sL]; rfl
 | s::b=>by rw [sL,nW b]; rfl
theorem rP:∀ {es:List Ex} {e:Ex},e∈es->e.dp<=dpL es
 | x::es,e,h=>by
  rw [dpL];rcases bc.mp h with rfl | h
  ·exact pE _ _
  ·exact eR (rP h) (n9 _ _)
theorem Ex.uZ(e:Ex):1<=e.dp:=by
 cases e <;> rw [Ex.dp] <;> omega
theorem Ey:∀ es:List Ex,1<=dpL es
 | []=>by rw [dpL]; exact am _
 | e::es=>by
  have:=e.uZ;rw [dpL];omega
theorem rT:∀ {es:List Ex} {e:Ex},wfL es->e∈es->e.wf
 | x::es,e,w,h=>by
  rw [wfL] at w;rcases bc.mp h with rfl | h
  ·exact w.1
  ·exact rT w.2 h
variable {B:List St->Prop}
def PN(B:List St->Prop)(n:Nat)(f:Str)(t:T)(ns:LS):Prop:=
 (f = "x" /\ ∃ x:Str,t=.str x/\ns=[x])\/(f = "block" /\ ∃ b:List St,t=.tup (sL b)/\B b/\ns=nmB b)\/
 (f = "args" /\ ∃ as:List Ex,t=.tup (tL as)/\dpL as<=n/\wfL as/\as.length<=3/\ns=nmL as)\/(f = "e" /\ ∃ e:Ex,t=e.t/\e.dp<=n/\e.wf/\ns=nmE e)\/
 (¬ f = "x" /\ ¬ f = "block" /\ ¬ f = "args" /\ ¬ f = "e" /\ ns=[])
inductive PsN (B:List St->Prop) (n:Nat):LS->List T->LL->Prop
 | nil:PsN B n [] [] []
 | cons {f:Str} {t:T} {ns:LS} {fs:LS} {ts:List T} {nss:LL}:PN B n f t ns->PsN B n fs ts nss->PsN B n (f::fs) (t::ts) (ns::nss)
theorem PsN.len{fs:LS}{nss:LL}(h:PsN B n fs ts nss):fs.length=ts.length/\nss.length=ts.length:=by
 induction h with
 | nil=>exact⟨rfl,rfl⟩
 | cons _ _ ih=>exact⟨by rw [ar,ar,ih.1],by rw [ar,ar,ih.2]⟩
theorem PsN.get{B:List St->Prop}{n:Nat}{fs:LS}{ts:List T}{nss:LL}(h:PsN B n fs ts nss):∀(i:Nat) (h1:i < fs.length) (h2:i < ts.length) (h3:i < nss.length),PN B n fs[i] ts[i] nss[i]:=by
 induction h with
 | nil=>exact fun i h=>absurd h (pM _)
 | cons a _ ih=>
  intro i h1 h2 h3;cases i with
  | zero=>exact a
  | succ i=>exact ih i (by simpa using h1) (by simpa using h2) (by simpa using h3)
section
variable {B:List St->Prop}{n:Nat}
theorem tO{e:Ex}(h:e.dp<=n)(w:e.wf):PN B n "e" e.t (nmE e):=.inr (.inr (.inr (.inl ⟨rfl,e,rfl,h,w,rfl⟩)))
theorem Qw{x:Str}:PN B n "x" (.str x) [x]:=.inl ⟨rfl,x,rfl,rfl⟩
theorem Rb{as:List Ex}(h:dpL as<=n)(w:wfL as)(l:as.length<=3):PN B n "args" (.tup (tL as)) (nmL as):=.inr (.inr (.inl ⟨rfl,as,rfl,h,w,l,rfl⟩))
theorem Ho{b:List St}(h:B b):PN B n "block" (.tup (sL b)) (nmB b):=.inr (.inl ⟨rfl,b,rfl,h,rfl⟩)
theorem qD{f:Str}{t:T}(h:¬ f = "x" /\ ¬ f = "block" /\ ¬ f = "args" /\ ¬ f = "e"):PN B n f t []:=.inr (.inr (.inr (.inr ⟨h.1,h.2.1,h.2.2.1,h.2.2.2,rfl⟩)))
theorem fK:¬ (("name" : Str) = "x")/\¬ (("name" : Str) = "block")/\¬ (("name" : Str) = "args")/\¬ (("name" : Str) = "e"):=by decide +kernel
theorem iT:¬ (("kind" : Str) = "x")/\¬ (("kind" : Str) = "block")/\¬ (("kind" : Str) = "args")/\¬ (("kind" : Str) = "e"):=by decide +kernel
theorem xO:¬ (("elders" : Str) = "x")/\¬ (("elders" : Str) = "block")/\¬ (("elders" : Str) = "args")/\¬ (("elders" : Str) = "e"):=by decide +kernel
theorem Ft:∀ w∈bins,(w,(["e","e"]:LS))∈exprs:=by decide +kernel
theorem Dv:∀ w∈ones,(w,(["e"]:LS))∈stats:=by decide +kernel
theorem Ex.parts{e:Ex}(h:e.dp<=n+1)(w:e.wf):((e=.non\/∃ i,e=.num i)/\nmE e=[])\/∃(x:Str) (fs:LS) (ts:List T) (nss:LL),e.t=.tup (.str x::ts)/\(x,fs)∈exprs/\PsN B n fs ts nss/\nss.flatten=nmE e/\ts.length<=3:=by
 cases e with
 | num i=>exact .inl ⟨.inr ⟨i,rfl⟩,by unfold nmE; rw [Ex.it]; rfl⟩
 | non=>exact .inl ⟨.inl rfl,by unfold nmE; rw [Ex.it]; rfl⟩
 | me=>exact .inr ⟨"me",[],[],[],by rw [Ex.t],by decide +kernel,.nil,by unfold nmE; rw [Ex.it]; rfl,bn _⟩
 | name x=>exact .inr ⟨"name",["x"],[.str x],[[x]],by rw [Ex.t],by decide +kernel,.cons Qw .nil,by unfold nmE; rw [Ex.it]; rfl,by show 1<=3; decide⟩
 | new k=>exact .inr ⟨"new",["kind"],[.str k],[[]],by rw [Ex.t],by decide +kernel,.cons (qD iT) .nil,by unfold nmE; rw [Ex.it]; rfl,by show 1<=3; decide⟩
 | get e f=>
  rw [Ex.dp] at h;rw [Ex.wf] at w;exact .inr ⟨"get",["e","name"],[e.t,.str f],[nmE e,[]],by rw [Ex.t],by decide +kernel,.cons (tO ‹23› w) (.cons (qD fK) .nil),by unfold nmE; rw [Ex.it]; show _++([]++[])=_; rw [av,av],by show 2<=3; decide⟩
 | ask e d as=>
  rw [Ex.dp] at h;rw [Ex.wf] at w;refine .inr ⟨"ask",["e","name","args"],[e.t,.str d,.tup (tL as)],[nmE e,[],nmL as],by rw [Ex.t],by decide +kernel,.cons (tO ‹23› w.1) (.cons (qD fK) (.cons (Rb ‹23› w.2.2 w.2.1) .nil)),?_,by show 3<=3; decide⟩;unfold nmE nmL;rw [Ex.it,bJ];show _++([]++(_++[]))=_;rw [av,cS]
 | up d as=>
  rw [Ex.dp] at h;rw [Ex.wf] at w;refine .inr ⟨"up",["name","args"],[.str d,.tup (tL as)],[[],nmL as],by rw [Ex.t],by decide +kernel,.cons (qD fK) (.cons (Rb ‹23› w.2 w.1) .nil),?_,by show 2<=3; decide⟩;unfold nmE nmL;rw [Ex.it,cU];show []++(_++[])=_;rw [av,cS]
 | bin x a b=>
  rw [Ex.dp] at h;rw [Ex.wf] at w;refine .inr ⟨x,["e","e"],[a.t,b.t],[nmE a,nmE b],by rw [Ex.t],Ft x w.1,.cons (tO ‹23› w.2.1) (.cons (tO ‹23› w.2.2) .nil),?_,by show 2<=3; decide⟩;unfold nmE;rw [Ex.it,bJ];show _++(_++[])=_;rw [av]
def EOk(e:Ex):Prop:=e.dp<=4/\e.wf
def SOk(B:List St->Prop):St->Prop
 | .one x e=>x∈ones/\EOk e
 | .let_ _ e=>EOk e
 | .put e _ v=>EOk e/\EOk v
 | .drop e _=>EOk e
 | .become e _=>EOk e
 | .turn _ _ _ _=>True
 | .strip _ _=>True
 | .cT _ _=>True
 | .if_ e a b=>EOk e/\B a/\B b
 | .while_ e a=>EOk e/\B a
 | .repeat_ e a=>EOk e/\B a
 | .try_ a _ b=>B a/\B b
def BOk:Nat->List St->Prop
 | 0,_=>False
 | m+1,b=>b.length<=15/\∀ s∈b,SOk (BOk m) s
theorem St.parts{s:St}(h:SOk B s):∃(x:Str) (fs:LS) (ts:List T) (nss:LL),s.t=.tup (.str x::ts)/\(x,fs)∈stats/\PsN B 4 fs ts nss/\nss.flatten=nmS s/\ts.length<=4:=by
 cases s with
 | one x e=>
  rw [SOk] at h;refine⟨x,["e"],[e.t],[nmE e],by rw [St.t],Dv x h.1,.cons (tO h.2.1 h.2.2) .nil,?_,by show 1<=4; decide⟩;unfold nmS nmE;simp only [St.it,bJ,eF,d9,bz,dq,av,cS,cE,eI,ir,aI]
 | let_ x e=>
  rw [SOk] at h;refine⟨"let",["x","e"],[.str x,e.t],[[x],nmE e],by rw [St.t],by decide +kernel,.cons Qw (.cons (tO h.1 h.2) .nil),?_,by show 2<=4; decide⟩;unfold nmS nmE;simp only [St.it,bJ,eF,d9,bz,dq,av,cS,cE,eI,ir,aI]
 | put e f v=>
  rw [SOk] at h;refine⟨"put",["e","name","e"],[e.t,.str f,v.t],[nmE e,[],nmE v],by rw [St.t],by decide +kernel,.cons (tO h.1.1 h.1.2) (.cons (qD fK) (.cons (tO h.2.1 h.2.2) .nil)),?_,by show 3<=4; decide⟩;unfold nmS nmE;simp only [St.it,bJ,eF,d9,bz,dq,av,cS,cE,eI,ir,aI]
 | drop e f=>
  rw [SOk] at h;refine⟨"drop",["e","name"],[e.t,.str f],[nmE e,[]],by rw [St.t],by decide +kernel,.cons (tO h.1 h.2) (.cons (qD fK) .nil),?_,by show 2<=4; decide⟩;unfold nmS nmE;simp only [St.it,bJ,eF,d9,bz,dq,av,cS,cE,eI,ir,aI]
 | become e k=>
  rw [SOk] at h;refine⟨"become",["e","kind"],[e.t,.str k],[nmE e,[]],by rw [St.t],by decide +kernel,.cons (tO h.1 h.2) (.cons (qD iT) .nil),?_,by show 2<=4; decide⟩;unfold nmS nmE;simp only [St.it,bJ,eF,d9,bz,dq,av,cS,cE,eI,ir,aI]
 | turn a b c d=>
  refine⟨"turn",["kind","name","kind","name"],[.str a,.str b,.str c,.str d],[[],[],[],[]],by rw [St.t],by decide +kernel,.cons (qD iT) (.cons (qD fK) (.cons (qD iT) (.cons (qD fK) .nil))),?_,by show 4<=4; decide⟩;unfold nmS;simp only [St.it,bJ,eF,d9,bz,dq,av,cS,cE,eI,ir,aI]
 | strip a b=>
  refine⟨"strip",["kind","name"],[.str a,.str b],[[],[]],by rw [St.t],by decide +kernel,.cons (qD iT) (.cons (qD fK) .nil),?_,by show 2<=4; decide⟩;unfold nmS;simp only [St.it,bJ,eF,d9,bz,dq,av,cS,cE,eI,ir,aI]
 | cT k es=>
  refine⟨"elders",["kind","elders"],[.str k,.tup (es.map T.str)],[[],[]],by rw [St.t],by decide +kernel,.cons (qD iT) (.cons (qD xO) .nil),?_,by show 2<=4; decide⟩;unfold nmS;simp only [St.it,bJ,eF,d9,bz,dq,av,cS,cE,eI,ir,aI]
 | if_ e a b=>
  rw [SOk] at h;refine⟨"if",["e","block","block"],[e.t,.tup (sL a),.tup (sL b)],[nmE e,nmB a,nmB b],by rw [St.t],by decide +kernel,.cons (tO h.1.1 h.1.2) (.cons (Ho h.2.1) (.cons (Ho h.2.2) .nil)),?_,by show 3<=4; decide⟩;unfold nmS nmE nmB;simp only [St.it,bJ,eF,d9,bz,dq,av,cS,cE,eI,ir,aI]
 | while_ e a=>
  rw [SOk] at h;refine⟨"while",["e","block"],[e.t,.tup (sL a)],[nmE e,nmB a],by rw [St.t],by decide +kernel,.cons (tO h.1.1 h.1.2) (.cons (Ho h.2) .nil),?_,by show 2<=4; decide⟩;unfold nmS nmE nmB;simp only [St.it,bJ,eF,d9,bz,dq,av,cS,cE,eI,ir,aI]
 | repeat_ e a=>
  rw [SOk] at h;refine⟨"repeat",["e","block"],[e.t,.tup (sL a)],[nmE e,nmB a],by rw [St.t],by decide +kernel,.cons (tO h.1.1 h.1.2) (.cons (Ho h.2) .nil),?_,by show 2<=4; decide⟩;unfold nmS nmE nmB;simp only [St.it,bJ,eF,d9,bz,dq,av,cS,cE,eI,ir,aI]
 | try_ a x b=>
  rw [SOk] at h;refine⟨"try",["block","x","block"],[.tup (sL a),.str x,.tup (sL b)],[nmB a,[x],nmB b],by rw [St.t],by decide +kernel,.cons (Ho h.1) (.cons Qw (.cons (Ho h.2) .nil)),?_,by show 3<=4; decide⟩;unfold nmS nmB;simp only [St.it,bJ,eF,d9,bz,dq,av,cS,cE,eI,ir,aI]
end
structure Tls (H:Hp) (tl kl dl fl nl:Addr) (ks ds fs ns:LS):Prop where
 t:H tl=some (.tup [.ref kl,.ref dl,.ref fl,.ref nl])
 k:H kl=some (.tup (ks.map V.str))
 d:H dl=some (.tup (ds.map V.str))
 f:H fl=some (.tup (fs.map V.str))
 n:H nl=some (.tup ‹17›)
 kl1:1<=ks.length/\ks.length<=100
 dl1:1<=ds.length/\ds.length<=100
 fl1:1<=fs.length/\fs.length<=100
 nl1:1<=ns.length/\ns.length<=100
theorem Tls.mono{tl kl dl fl nl:Addr}{ks ds fs:LS}(h:Tls H tl kl dl fl nl ks ds fs ns)(s:fB H H'):Tls H' tl kl dl fl nl ks ds fs ns:=⟨s _ _ h.t,s _ _ h.k,s _ _ h.d,s _ _ h.f,s _ _ h.n,h.kl1,h.dl1,h.fl1,h.nl1⟩
theorem dR(hp:Pu H p)(o:Off p H H'):fB H H':=fun c zs e=>by
 obtain ⟨x1,x2,x3,ep⟩:=hp;exact o c _ (bI e ep ‹8›) e
section
variable {P:uv}{w:xf}{K:PySem.W.Frag}{mg:MG}{base:Heap}{t:Adr}
inductive RT (vs:LV) (H:Hp) (Q:VK) (E_:XK):Prop
 | mk (p:Addr) (n:Int):vs=[.ref p,.int n]->Pu H p->0 < n->n < 1606938044258990275541962092341162602522202993782792835301376->(∀(r:Int) H',0<=r->r < n->Off p H H'->Pu H' p->Q (.int r) H')->RT vs H Q E_
theorem rH(D:Defs K mg t):bw P w K mg base CX0 1 t.aO.1 t.aO.2 ["_law_purse_here","_law_many"] RT:=(uM D).imp fun _ _ _ _ ⟨p,n,e,hp,h0,h1,q⟩=>⟨p,n,e,hp,h0,h1,fun r a b c l u=>q r _ l u Uk Up⟩
def Drawn(p:Addr)(H:Hp)(n:Nat)(Q:VK):Prop:=∀(v:V) (e:Ex) H',Dp H' e.t v->e.dp<=n->e.wf->Off p H H'->Pu H' p->Q v H'
inductive Dg (vs:LV) (H:Hp) (Q:VK) (E_:XK):Prop
 | mk (p tl kl dl fl nl:Addr) (ks ds fs ns:LS):vs=[.ref p,.ref tl]->Pu H p->Tls H tl kl dl fl nl ks ds fs ns->Drawn p H 1 Q->Dg vs H Q E_
theorem Du(D:Defs K mg t):bw P w K mg base CX0 2 t.jh.1 t.jh.2 ["_law_purse_here","_law_tools"] Dg:=by
 have Ga:=@rH P w K mg base t D;have hz:sizeLine=16777216:=ci;refine D.jh.fn.ok ig ‹5› ‹2›
 ·obtain ⟨p,tl,kl,dl,fl,nl,ks,ds,fs,ns,rfl,_⟩:=h;rfl
 ·obtain ⟨p,tl,kl,dl,fl,nl,ks,ds,fs,ns,rfl,hp,ht,q⟩:=h;obtain ⟨k1,k2⟩:=ht.kl1;obtain ⟨n1,n2⟩:=ht.nl1
  refine⟨_,(aA (jx (pv 1) (fL rfl (aY (aJ (i:=2) ig.nd rfl (ue rfl)) (aY (aJ (i:=3) ig.nd rfl (ue rfl)) (aY (aJ (i:=4) ig.nd rfl (ue rfl)) (aY (aJ (i:=5) ig.nd rfl (ue rfl)) eV))))))
   (aA (aK (i:=6) ig.nd rfl (ue rfl) ‹20›)
   (aA (bD (aL ju (pv 6) aC (aQ _))
   (aD (aR (bh (aj aM (aj (aV aU (pv 5) (aF D.aO Ga ‹1› (by rfl) (aj (pv 0) (aj (aW bC (by rfl) D.dg bY (aj (pv 5) aq)) aq))) ‹4›) aq)))))
   aX)
   (aA (bD (aL ju (pv 6) aC (aQ _))
   (aD (aR (aV bO (bB (aj aC (aj aC (aj aC (aj aC (aj aC (aj aC aq))))))) ‹20› ‹4›)))
   aX)
   (aA (bD (aL ju (pv 6) aC (aQ _))
   (aD (aR (aV bO (bB (aj (bh (aj aM aq)) (aj mq aq))) (bH iW (pv 6) aC) ‹4›)))
   aX)
   (aD (aR (bh (aj aM (aj (aV aU (pv 2) (aF D.aO Ga ‹1› (by rfl) (aj (pv 0) (aj (aW bC (by rfl) D.dg bY (aj (pv 2) aq)) aq))) ‹4›) aq)))))))))),?_⟩
  refine⟨_,rfl,tl,_,rfl,Ui ht.t,rfl,_,_,rfl,_,_,rfl,_,_,rfl,_,_,rfl,rfl,?_⟩;refine⟨_,rfl,p,9,rfl,hp,by decide,by decide,fun pick H1 l1 u1 o1 p1=>?_⟩;have t1:=ht.mono (dR hp o1);refine⟨_,rfl,_,_,rfl,rfl,_,rfl,fO ‹14› ‹14›⟩
  ·refine⟨_,rfl,_,rfl,_,rfl,nl,_,rfl,.inr (Ui t1.n),p,_,rfl,p1,by rw [aa]; omega,by rw [aa]; omega,fun r H2 l2 u2 o2 p2=>?_⟩;rw [aa] at u2;obtain ⟨x,hx,_,_⟩:=dM (ns:=ns) l2 u2;refine⟨nl,_,_,_,rfl,rfl,Ui (t1.mono (dR p1 o2)).n,hx,by show 2<=sizeLine; decide,fun z hz=>?_⟩;exact q _ (.name x) _ (by rw [Ex.t]; exact L2.Dp.tup ak (.cons (.str _) ‹13›)) (by rw [Ex.dp]; exact am _) (by rw [Ex.wf]; trivial) ((o1.trans o2).trans (Ul hz)) (p2.au (p2.neN hz))
  refine⟨_,rfl,_,_,rfl,rfl,_,rfl,fO (fun hb2=>?_) (fun hb2=>?_)⟩
  ·refine⟨by show 6<=sizeLine; decide,fun m hm=>?_⟩;have mp:m≠p:=(p1.neN hm).symm;have p2:Pu (upd H1 m (.lst [.int 0,.int 1,.int 2,.int 3,.int 5,.int 999999999])) p:=p1.au (p1.neN hm);have o2:Off p H1 (upd H1 m (.lst [.int 0,.int 1,.int 2,.int 3,.int 5,.int 999999999])):=Ul hm;have hm2:(upd H1 m (.lst [.int 0,.int 1,.int 2,.int 3,.int 5,.int 999999999])) m=some (.lst (([0,1,2,3,5,999999999]:List Int).map V.int)):=ak;generalize upd H1 m (.lst [.int 0,.int 1,.int 2,.int 3,.int 5,.int 999999999])=H2 at p2 o2 hm2;refine⟨_,rfl,p,6,rfl,p2,by decide,by decide,fun r H3 l3 u3 o3 p3=>?_⟩;obtain ⟨v,hv,hvm,_⟩:=sX (xs:=([0,1,2,3,5,999999999]:List Int).map V.int) l3 u3;obtain ⟨i,_,rfl⟩:=eA.mp hvm;refine⟨m,_,_,_,rfl,rfl,Uh (o3 m _ mp hm2),hv,?_⟩;exact q _ (.num i) _ (by rw [Ex.t]; exact L2.Dp.int _) (by rw [Ex.dp]; exact am _) (by rw [Ex.wf]; trivial) ((o1.trans o2).trans o3) p3
  refine⟨_,rfl,_,_,rfl,rfl,_,rfl,fO (fun hb3=>?_) (fun hb3=>?_)⟩
  ·have h6:pick=6\/pick=7:=by
    have:=eJ hb3;have hb2:¬ decide (pick < 6)=true:=hb2;rw [fg] at hb2;omega
   refine⟨by show 1<=sizeLine; decide,fun z hz=>?_⟩;have p2:=p1.au (o:=.tup [.str "me"]) (p1.neN hz);have o2:Off p H1 (upd H1 z (.tup [.str "me"])):=Ul hz;have hz2:(upd H1 z (.tup [.str "me"])) z=some (.tup [.str "me"]):=ak;generalize upd H1 z (.tup [.str "me"])=H2 at p2 o2 hz2;refine⟨by show 2<=sizeLine; decide,fun m hm=>?_⟩;have p3:=p2.au (o:=.lst [.ref z,.non]) (p2.neN hm);have o3:Off p H2 (upd H2 m (.lst [.ref z,.non])):=Ul hm;have hm3:(upd H2 m (.lst [.ref z,.non])) m=some (.lst [.ref z,.non]):=ak;have hz3:(upd H2 m (.lst [.ref z,.non])) z=some (.tup [.str "me"]):=by rw [au (aB hz2 hm)]; exact hz2
   generalize upd H2 m (.lst [.ref z,.non])=H3 at p3 o3 hm3 hz3;have o03:=(o1.trans o2).trans o3;rcases h6 with rfl | rfl
   ·refine⟨_,rfl,_,_,rfl,rfl,m,_,_,_,rfl,rfl,Uh hm3,aH (j:=0) rfl,?_⟩;exact q _ .me _ (by rw [Ex.t]; exact L2.Dp.tup hz3 ‹13›) (by rw [Ex.dp]; exact am _) (by rw [Ex.wf]; trivial) o03 p3
   ·refine⟨_,rfl,_,_,rfl,rfl,m,_,_,_,rfl,rfl,Uh hm3,aH (j:=1) rfl,?_⟩;exact q _ .non _ (by rw [Ex.t,Dp]) (by rw [Ex.dp]; exact am _) (by rw [Ex.wf]; trivial) o03 p3
  ·refine⟨_,rfl,_,rfl,_,rfl,kl,_,rfl,.inr (Ui t1.k),p,_,rfl,p1,by rw [aa]; omega,by rw [aa]; omega,fun r H2 l2 u2 o2 p2=>?_⟩;rw [aa] at u2;obtain ⟨x,hx,_,_⟩:=dM (ns:=ks) l2 u2;refine⟨kl,_,_,_,rfl,rfl,Ui (t1.mono (dR p1 o2)).k,hx,by show 2<=sizeLine; decide,fun z hz=>?_⟩;exact q _ (.new x) _ (by rw [Ex.t]; exact L2.Dp.tup ak (.cons (.str _) ‹13›)) (by rw [Ex.dp]; exact am _) (by rw [Ex.wf]; trivial) ((o1.trans o2).trans (Ul hz)) (p2.au (p2.neN hz))
inductive DP (vs:LV) (H:Hp) (Q:VK) (E_:XK):Prop
 | mk (p tl kl dl fl nl:Addr) (ks ds fs ns:LS) (h:Int):vs=[.ref p,.ref tl,.int h]->(h=0\/h=1)->Pu H p->Tls H tl kl dl fl nl ks ds fs ns->Drawn p H 1 Q->DP vs H Q E_
theorem Ay(D:Defs K mg t):bw P w K mg base CX0 3 t.gb.1 t.gb.2 ["_law_purse_here","_law_tools","_law_home"] DP:=by
 have Ga:=@rH P w K mg base t D;have Gaq:=Du (P:=P) (w:=w) (base:=base) D;have hz:sizeLine=16777216:=ci;refine D.gb.fn.ok qC ‹5› ‹2›
 ·obtain ⟨p,tl,kl,dl,fl,nl,ks,ds,fs,ns,h,rfl,_⟩:=h;rfl
 ·obtain ⟨p,tl,kl,dl,fl,nl,ks,ds,fs,ns,h,rfl,h01,hp,ht,q⟩:=h;obtain ⟨n1,n2⟩:=ht.nl1
  refine⟨_,(aA (aK (i:=3) qC.nd rfl (ue rfl) ‹24›)
   (aA (bD (aL uX ‹20› aC (aQ _))
   (aD (aR (aV bO (bB (aj (bh (aj aM (aj (aV aU (pv 3) aC ‹4›) aq))) (aj (bh (aj aM aq)) aq))) (pv 2) ‹4›)))
   aX)
   (aD (aR (aF D.jh Gaq ‹1› (by rfl) (aj (pv 0) (aj (pv 1) aq))))))),?_⟩
  refine⟨_,rfl,tl,_,_,_,rfl,rfl,Ui ht.t,aH (j:=3) rfl,?_⟩;refine⟨_,rfl,p,4,rfl,hp,by decide,by decide,fun r H1 l1 u1 o1 p1=>?_⟩;have t1:=ht.mono (dR hp o1);refine⟨_,_,rfl,rfl,_,rfl,fO ‹14› ‹14›⟩
  ·obtain ⟨x,hx,_,_⟩:=dM (ns:=ns) (i:=0) ‹23› ‹23›;refine⟨_,rfl,nl,_,_,_,rfl,rfl,Ui t1.n,hx,by show 2<=sizeLine; decide,fun z hz=>?_⟩;have p2:=p1.au (o:=.tup [.str "name",.str x]) (p1.neN hz);have o2:Off p H1 (upd H1 z (.tup [.str "name",.str x])):=Ul hz;have hz2:(upd H1 z (.tup [.str "name",.str x])) z=some (.tup [.str "name",.str x]):=ak;generalize upd H1 z (.tup [.str "name",.str x])=H2 at p2 o2 hz2;refine⟨by show 1<=sizeLine; decide,fun y hy=>?_⟩;have p3:=p2.au (o:=.tup [.str "me"]) (p2.neN hy);have s3:Same H2 (upd H2 y (.tup [.str "me"])):=Um hy;have hy3:(upd H2 y (.tup [.str "me"])) y=some (.tup [.str "me"]):=ak;generalize upd H2 y (.tup [.str "me"])=H3 at p3 s3 hy3;refine⟨by show 2<=sizeLine; decide,fun m hm=>?_⟩;have p4:=p3.au (o:=.lst [.ref z,.ref y]) (p3.neN hm);have s4:Same H3 (upd H3 m (.lst [.ref z,.ref y])):=Um hm;have hm4:(upd H3 m (.lst [.ref z,.ref y])) m=some (.lst [.ref z,.ref y]):=ak;generalize upd H3 m (.lst [.ref z,.ref y])=H4 at p4 s4 hm4;have o04:=(o1.trans o2).trans (s3.trans s4).off;rcases h01 with rfl | rfl
   ·refine⟨_,rfl,m,_,_,_,rfl,rfl,Uh hm4,aH (j:=0) rfl,?_⟩;exact q _ (.name x) _ (by rw [Ex.t]; exact L2.Dp.tup (s4 _ _ (s3 _ _ hz2)) (.cons (.str _) ‹13›)) (by rw [Ex.dp]; exact am _) (by rw [Ex.wf]; trivial) o04 p4
   ·refine⟨_,rfl,m,_,_,_,rfl,rfl,Uh hm4,aH (j:=1) rfl,?_⟩;exact q _ .me _ (by rw [Ex.t]; exact L2.Dp.tup (s4 _ _ hy3) ‹13›) (by rw [Ex.dp]; exact am _) (by rw [Ex.wf]; trivial) o04 p4
  ·refine⟨_,rfl,_,rfl,p,tl,kl,dl,fl,nl,ks,ds,fs,ns,rfl,p1,t1,fun v e H2 d2 h2 w2 o2 p2=>q v e H2 d2 h2 w2 (o1.trans o2) p2⟩
end
end K37
end
section
namespace L2
open PySem PySem.Spec PyProof.Rows
variable {a b i1 i2 t1 t2 z:Addr}{E Q:ES}{P prog:uv}{w:xf}{K:PySem.W.Frag}{elts:List Expr}{x1:Nat}{pos tpos:Pos}{A:xn}{s:sr}{ta:TA}{xs ys:LV}{σ:St}{H:Hp}
section
variable {prog:uv}{w:xf}{A:xn}{E:ES}{s:sr}
theorem GX{TI TO:Addr}{k:Nat}{xs ys:AV}{x y a b:rn}(D:ZA z TI TO i1 i2 t1 t2)
  (hz:Hd s.heap z TI TO .none) (hTI:zz s.heap TI (.ref i1) (.ref i2)) (hTO:zz s.heap TO a b) (h1:s.heap.IsListIter i1 t1 k) (h2:s.heap.IsTupleIter i2 t2 k)
  (hl1:s.heap.IsList t1 xs) (hl2:s.heap.IsTuple t2 ys) (hx:xs[k]?=some x) (hy:ys[k]?=some y)
  (hQ:∀ h',Hd h' z TI TO (rawInt s.heap.objs.size)->zz h' TO x y->h'.IsListIter i1 t1 (k+1)->h'.IsTupleIter i2 t2 (k+1)->zz h' s.heap.objs.size x y->
   (∀ c o,c≠z->c≠TO->c≠i1->c≠i2->s.heap.get? c=some o->h'.get? c=some o)->Q (.ref s.heap.objs.size) { s with heap:=h' }) :
  ut ‹18› A (uA.«zip.__next__» ⟨[.ref z],[]⟩) (fun fin s'=>∃ v,fin=.done (.ret v)/\Q v s') E s:=by
 show ut _ _ (O3 (.ref z) 2 >>= _) _ _ _; refine ac (eQ hz rfl (x:=.bool false) rfl ?_);show ut _ _ (O3 (.ref z) 3 >>= _) _ _ _; refine ac (eQ hz rfl (x:=.ref TI) rfl (ac (gN hTI rfl ?_)));show ut _ _ (vz (.ref z) >>= _) _ _ _;unfold vz;refine ac (ac (eQ hz rfl (x:=.none) rfl (ay ?_)));simp only [ku];refine ac (jS (ac (eQ hz rfl (x:=.ref TO) rfl (ac (eW hz (by simp) fun g1 z1 q1=>?_)))))
 replace z1:Hd g1 z TI TO .ellipsis:=z1
 simp only [ly,mE,kT,lw];refine ac (ac (ac (kG ?_)));show ut _ _ (xj (.ref i1) >>= _) _ _ _;refine ac (wpAny_nextOf_list_item (h1.extBut q1.extBut D.a3) (hl1.extBut q1.extBut D.b2) hx fun g2 j2 q2=>ay ?_);have p2:zz g2 TO a b:=q2.extBut _ _ D.a8 (q1.extBut _ _ D.a2 hTO);refine ac (gN p2 rfl (ac (kC p2 fun g3 p3 q3=>ac (lx (ay ?_)))))
 replace p3:zz g3 TO x b:=p3
 refine ac (ac (kG ?_));show ut _ _ (xj (.ref i2) >>= _) _ _ _;refine ac (kJ (((h2.extBut q1.extBut D.a4).extBut q2.extBut D.b1.symm).extBut q3.extBut D.a9.symm) (((hl2.extBut q1.extBut D.b6).extBut q2.extBut D.b8).extBut q3.extBut D.b7) hy fun g4 j4 q4=>ay ?_);have p4:zz g4 TO x b:=q4.extBut _ _ D.a9 p3;refine ac (gN p4 rfl (ac (kC p4 fun g5 p5 q5=>ac (lx (ay (ay ?_))))))
 replace p5:zz g5 TO x y:=p5
 refine ac (gN p5 rfl (ac (nz ?_)));have sz:g5.objs.size=s.heap.objs.size:=by rw [q5.1,q4.1,q3.1,q2.1,q1.1]
 have z5:Hd g5 z TI TO .ellipsis:=q5.extBut _ _ D.a2.symm (q4.extBut _ _ D.a4.symm (q3.extBut _ _ D.a2.symm (q2.extBut _ _ D.a3.symm z1)));have k5:∀ c o,c≠z->c≠TO->c≠i1->c≠i2->s.heap.get? c=some o->g5.get? c=some o:=fun c o c1 c2 c3 c4 e=>q5.extBut _ _ c2 (q4.extBut _ _ c4 (q3.extBut _ _ c2 (q2.extBut _ _ c3 (q1.extBut _ _ c1 e))));have j5:g5.IsListIter i1 t1 (k+1):=((j2.extBut q3.extBut D.a8.symm).extBut q4.extBut D.b1).extBut q5.extBut D.a8.symm;have l5:g5.IsTupleIter i2 t2 (k+1):=j4.extBut q5.extBut D.a9.symm;have zl:z < g5.objs.size:=bu z5;show ut _ _ (xN (.ref z) (.ref g5.objs.size) >>= _) _ _ _;refine ac ?_;unfold xN;have z6:Hd (g5.push { cls:=.type "tuple",data:=.seq #[x,y] }) z TI TO .ellipsis:=ai _ z5;refine ac (eW z6 (by simp) fun g7 z7 q7=>?_)
 replace z7:Hd g7 z TI TO (rawInt g5.objs.size):=z7
 refine eW z7 (by simp) fun g8 z8 q8=>?_
 replace z8:Hd g8 z TI TO (rawInt g5.objs.size):=z8
 have up:∀ c o,c≠z->g5.get? c=some o->g8.get? c=some o:=fun c o c1 e=>q8.extBut _ _ c1 (q7.extBut _ _ c1 (ai _ e));have n8:zz g8 g5.objs.size x y:=q8.extBut _ _ (fz zl) (q7.extBut _ _ (fz zl) (aS _ rfl));rw [sz] at z8 n8;refine ay ⟨_,rfl,?_⟩;show Q (.ref g5.objs.size) _;rw [sz];refine hQ g8 z8 (up _ _ D.a2 p5) ?_ ?_ n8 fun c o c1 c2 c3 c4 e=>up c o c1 (k5 c o c1 c2 c3 c4 e)
 ·obtain ⟨o,e,r⟩:=j5; exact⟨o,up _ o D.a3 e,r⟩
 ·obtain ⟨o,e,r⟩:=l5; exact⟨o,up _ o D.a4 e,r⟩
theorem KC{TI TO:Addr}{k:Nat}{xs:AV}{a b:rn}{Q:Fin->sr->Prop}(hh:A.handled=none)(D:ZA z TI TO i1 i2 t1 t2)
  (hz:Hd s.heap z TI TO .none) (hTI:zz s.heap TI (.ref i1) (.ref i2)) (hTO:zz s.heap TO a b) (h1:s.heap.IsListIter i1 t1 k) (hl1:s.heap.IsList t1 xs) (hx:xs[k]?=none)
  (hE:∀ h' e,(∀ c o,c≠z->c≠TO->c≠i1->c≠i2->s.heap.get? c=some o->h'.get? c=some o)->(∃ o,h'.get? e=some o/\o.cls=.type "StopIteration")->E (.ref e) { s with heap:=h' }) :
  ut ‹18› A (uA.«zip.__next__» ⟨[.ref z],[]⟩) Q E s:=by
 show ut _ _ (O3 (.ref z) 2 >>= _) _ _ _; refine ac (eQ hz rfl (x:=.bool false) rfl ?_);show ut _ _ (O3 (.ref z) 3 >>= _) _ _ _; refine ac (eQ hz rfl (x:=.ref TI) rfl (ac (gN hTI rfl ?_)));show ut _ _ (vz (.ref z) >>= _) _ _ _;unfold vz;refine ac (ac (eQ hz rfl (x:=.none) rfl (ay ?_)));simp only [ku];refine ac (jS (ac (eQ hz rfl (x:=.ref TO) rfl (ac (eW hz (by simp) fun g1 z1 q1=>?_)))))
 replace z1:Hd g1 z TI TO .ellipsis:=z1
 simp only [ly,mE,kT,lw];refine ac (ac (ac (kG ?_)));show ut _ _ (xj (.ref i1) >>= _) _ _ _;refine ac (wpAny_nextOf_list_end hh (h1.extBut q1.extBut D.a3) (hl1.extBut q1.extBut D.b2) hx fun g2 e q2 ⟨oe,e1,e2⟩=>?_);have z2:Hd g2 z TI TO .ellipsis:=q2 _ _ D.a3.symm z1;have hez:e≠z:=fun x=>by subst x; rw [z2] at e1; cases e1; simp at e2
 exact eW z2 (by simp) fun g3 _ q3=>hE g3 e (fun c o c1 _ c3 _ x=>q3.extBut _ _ c1 (q2 _ _ c3 (q1.extBut _ _ c1 x))) ⟨oe,q3.extBut _ _ hez e1,e2⟩
end
def Gd(K:PySem.W.Frag)(t1 t2:Addr):It:=
 ⟨fun i H=>∃ xs ys x y,SqL K H t1 xs/\SqT K H t2 ys/\xs[i]?=some x/\ys[i]?=some y,fun i H v H'=>∃ p,H p=none/\v=.ref p/\∀ xs ys x y,SqL K H t1 xs->SqT K H t2 ys->xs[i]?=some x->ys[i]?=some y->H'=upd H p (.tup [x,y]),
  fun i H=>∃ xs,SqL K H t1 xs/\xs.length<=i⟩
theorem GF{TI TO:Addr}(D:ZA z TI TO i1 i2 t1 t2):Turn P w K (.Tuple elts x1 tpos) (Gd K t1 t2) [z,TI,TO,i1,i2] z
  (fun i h=>Hd h z TI TO .none/\zz h TI (.ref i1) (.ref i2)/\(∃ a b,zz h TO a b)/\h.IsListIter i1 t1 i/\h.IsTupleIter i2 t2 i) where
 mem:=by simp
 obj:=fun i h st b hb=>by
  obtain ⟨hz,hTI,⟨a,c,hTO⟩,⟨o1,e1,_,d1⟩,⟨o2,e2,_,d2⟩⟩:=st;simp only [bc,eL,iP] at hb;rcases hb with rfl | rfl | rfl | rfl | rfl
  ·exact⟨_,hz,fun v q=>nomatch q⟩
  ·exact⟨_,hTI,fun v q=>nomatch q⟩
  ·exact⟨_,hTO,fun v q=>nomatch q⟩
  ·exact⟨_,e1,fun v q=>by rw [d1] at q; cases q⟩
  ·exact⟨_,e2,fun v q=>by rw [d2] at q; cases q⟩
 keep:=fun i h h' st k=>by
  obtain ⟨hz,hTI,⟨a,c,hTO⟩,⟨o1,e1,r1⟩,⟨o2,e2,r2⟩⟩:=st;exact⟨k z (by simp) _ hz,k TI (by simp) _ hTI,⟨a,c,k TO (by simp) _ hTO⟩,⟨o1,k i1 (by simp) _ e1,r1⟩,⟨o2,k i2 (by simp) _ e2,r2⟩⟩
 item:=by
  intro X hP hw hK hc i pins s σ H E I hf st hg;subst hP hw hK;obtain ⟨xs,ys,x,y,q1,q2,e1,e2⟩:=hg;obtain ⟨its,rv,p,hz'⟩:=I.list q1;obtain ⟨jts,rw',p',hz''⟩:=I.tuple q2;obtain ⟨u,hu,ru⟩:=rv.get e1;obtain ⟨u',hu',ru'⟩:=rw'.get e2;obtain ⟨hz,hTI,⟨a,c,hTO⟩,h1,h2⟩:=st;have hT:s.TypeIs (.ref z) "zip" := ⟨_,hz,rfl⟩;unfold Hn
  refine ac (kH (fk (name:=Str.ofString "__next__") hT iS (hU iS hT lz
   (GX D hz hTI hTO h1 h2 p.isList (show s.heap.IsTuple t2 jts.toArray from p') (x:=u) (y:=u') (by simpa using hu) (by simpa using hu') fun h' a1 a2 a3 a4 a5 a6=>ay ?_) (kX _))))
  refine⟨_,rfl,wpAny_letOwnedTupleGo_zip a1 fun h2' a1' q'=>?_⟩;have hn:H s.heap.objs.size=none:=I.hok.fresh (am _);have zlt:z < s.heap.objs.size:=bu hz;have tlt:TO < s.heap.objs.size:=bu hTO;have i1lt:i1 < s.heap.objs.size:=by obtain ⟨_,e,_⟩:=h1; exact bu e
  have i2lt:i2 < s.heap.objs.size:=by obtain ⟨_,e,_⟩:=h2; exact bu e
  have kk:∀ b ob,b ∉ [z,TI,TO,i1,i2]->s.heap.get? b=some ob->h2'.get? b=some ob:=fun b ob hb e=>by
   simp only [bc,eL,iP,qB] at hb;exact q'.extBut _ _ hb.1 (a6 b ob hb.1 hb.2.2.1 hb.2.2.2.1 hb.2.2.2.2 e)
  have I1:Inv X pins σ (upd H s.heap.objs.size (.tup [x,y])) { s with heap:=h2' }:=I.sy (t':=s.toks) hf kk (am _)
   ⟨⟨by show 2<=sizeLine; decide,fun o e=>by rw [q'.extBut _ _ (fz zlt) a5] at e; cases e; rfl⟩,[u,u'],.cons ru (.cons ru' .nil),⟨_,q'.extBut _ _ (fz zlt) a5,rfl,_,rfl⟩⟩
  refine⟨.ref s.heap.objs.size,_,I1,rfl,⟨_,hn,rfl,fun xs' ys' x' y' k1 k2 k3 k4=>?_⟩,⟨a1',q'.extBut _ _ D.a1 (a6 _ _ D.a1 D.a5 D.a6 D.a7 hTI),⟨_,_,q'.extBut _ _ D.a2 a2⟩,a3.extBut q'.extBut D.a3,a4.extBut q'.extBut D.a4⟩,fun b hb=>?_⟩
  ·rw [I.vM k1 q1,e1] at k3;rw [I.mV k2 q2,e2] at k4;cases k3;cases k4;rfl
  ·have hb':=hb;simp only [bc,eL,iP] at hb'
   have hlt:b < s.heap.objs.size:=by
    rcases hb' with rfl | rfl | rfl | rfl | rfl
    ·exact zlt
    ·exact bu hTI
    ·exact tlt
    ·exact i1lt
    ·exact i2lt
   rw [au (dE hlt)];exact(hf b hb).1
 done:=by
  intro X hP hw hK hc i pins s σ H E I hf st hg;subst hP hw hK;obtain ⟨xs,q1,e1⟩:=hg;obtain ⟨its,rv,p,hz'⟩:=I.list q1;obtain ⟨hz,hTI,⟨a,c,hTO⟩,h1,h2⟩:=st;have hT:s.TypeIs (.ref z) "zip" := ⟨_,hz,rfl⟩;have hl:=rv.length;unfold Hn
  refine ac (kH (fk (name:=Str.ofString "__next__") hT iS (hU iS hT lz
   (KC (I.ok.hd hc) D hz hTI hTO h1 p.isList (by simp; omega) fun h' e kk ⟨o,ho,hcl⟩=>?_) (kX _))))
  refine ac (nX (T:= "StopIteration") (b:=true) ⟨o,ho,hcl⟩ qv (ay ⟨rfl,I.sO (t':=s.toks) hf fun b u hb q=>?_⟩));simp only [bc,eL,iP,qB] at hb;exact kk b u hb.1 hb.2.2.1 hb.2.2.2.1 hb.2.2.2.2 q
 self:=fun _ _ _ _ _ st h=>n0 st.1 h
abbrev zr1(h:Heap)(l1:Addr):Heap:=h.push { cls:=.type "list_iterator",data:=.fields #[.ref l1,.int 0 0] }
abbrev zr2(h:Heap)(l1 l2:Addr):Heap:=(zr1 h l1).push { cls:=.type "tuple_iterator",data:=.fields #[.ref l2,.int 0 0] }
abbrev zr3(h:Heap)(l1 l2:Addr):Heap:=(zr2 h l1 l2).push { cls:=.type "tuple",data:=.seq #[.ref h.objs.size,.ref (zr1 h l1).objs.size] }
abbrev zr4(h:Heap)(l1 l2:Addr):Heap:=(zr3 h l1 l2).push { cls:=.type "tuple",data:=.seq #[.none,.none] }
abbrev zr5(h:Heap)(l1 l2:Addr):Heap:=(zr4 h l1 l2).push { cls:=.type "zip",data:=.fields #[.none,.bool false,.bool false,.ref (zr2 h l1 l2).objs.size,.ref (zr3 h l1 l2).objs.size] }
theorem Ol(l1 l2:Addr)(xs ys:AV):Meets (uA.«zip.__new__» ⟨[.type "zip",.ref l1,.ref l2],[]⟩) (fun _ R s=>s.heap.IsList l1 xs/\s.heap.IsTuple l2 ys/\R (.ok (.ret (.ref (zr4 s.heap l1 l2).objs.size))) { s with heap:=zr5 s.heap l1 l2 }):=
 .of_wp fun prog w A R s h=>by
  obtain ⟨hp,g,d,tk,os⟩:=s;obtain ⟨hl1,hl2,h⟩:=h;have hsub:=sub_zip;have hL1:Heap.IsList (R1 ⟨hp,g,d,tk,os⟩) l1 xs:=hl1;have hL2:Heap.IsTuple (R1 ⟨hp.push { cls:=.type "list_iterator",data:=.fields #[.ref l1,.int 0 0] },g,d,tk,os⟩) l2 ys:=Heap.IsTuple.push hl2 _
  wp_walk using wpAny_pyIter_list hL1,wpAny_pyIter_tuple hL2
  exact⟨_,rfl,h⟩
theorem Ml{l1 l2:Addr}{xs ys:AV}(hl1:s.heap.IsList l1 xs)(hl2:s.heap.IsTuple l2 ys)
  (h:Q (.ref (zr4 s.heap l1 l2).objs.size) { s with heap:=zr5 s.heap l1 l2 }):ut ‹18› A (call (.type "zip") [.ref l1,.ref l2]) Q E s:=by
 refine callType_new F.called_zip (by decide) (F.typeCall_zip_2 _ _) (F.newCall_zip_2 _ _) (fun obj=>F.args_object_init_3 obj _ _) F.entry_zip_new (Ol l1 l2 xs ys) ⟨hl1,hl2,?_⟩;show _/\_;exact⟨⟨_,aS _ rfl,rfl⟩,h⟩
section
variable {X:Cx}
inductive Lf (K:PySem.W.Frag) (R:It->Hp->Prop) (vs:LV) (H1:Hp):Prop
 | mk (a b xs ys:_):vs=[.ref a,.ref b]->SqL K H1 a xs->SqT K H1 b ys->R (Gd K a b) H1->Lf K R vs H1
def Q5(K:PySem.W.Frag)(ta:TA):TI:=fun σ H R=>ta σ H fun vs H1=>Lf K R vs H1
theorem Fe{a b:Expr}{p:Pos}(hg:Gl X "zip")(hm:X.mg "zip" = none)(ha:PA X [a,b] ta)
  (he:uC [a,b] X.env=(false,eval a X.env)::uC [b] X.env:=by rfl) (hpl:(zg pos (uC [b] X.env)).any (·.1)=false:=by rfl):PI X (.Tuple elts x1 tpos) (.Call (.Name "zip" p) [a,b] [] pos) (Q5 X.K ta):=by
 intro pins s σ H R I h;refine ib (oA I hg hm boot_zip ?_);refine i4 (thn (ha pos pins s σ H _ I h) fun us s1 ⟨vs,H1,I1,r1,t1,t2,xs,ys,e,q1,q2,q⟩=>?_) he hpl;subst e;obtain ⟨u,w',rfl,ru,rw'⟩:=vals2 r1;cases ru;cases rw';obtain ⟨its,rv,p1,hz1⟩:=I1.list q1;obtain ⟨jts,rv2,p2,hz2⟩:=I1.tuple q2;refine Ml p1.isList (show s1.heap.IsTuple t2 jts.toArray from p2) ?_;have b1:(zr1 s1.heap t1).objs.size=s1.heap.objs.size+1:=fS ..;have b2:(zr2 s1.heap t1 t2).objs.size=s1.heap.objs.size+2:=by rw [fS,b1]
 have b3:(zr3 s1.heap t1 t2).objs.size=s1.heap.objs.size+3:=by rw [fS,b2]
 have b4:(zr4 s1.heap t1 t2).objs.size=s1.heap.objs.size+4:=by rw [fS,b3]
 have c1:t1 < s1.heap.objs.size:=by obtain ⟨o,ho,_⟩:=p1.isList; exact bu ho
 have c2:t2 < s1.heap.objs.size:=p2.lt;have hz:Hd (zr5 s1.heap t1 t2) (zr4 s1.heap t1 t2).objs.size (zr2 s1.heap t1 t2).objs.size (zr3 s1.heap t1 t2).objs.size .none:=aS _ rfl
 have DD:ZA (zr4 s1.heap t1 t2).objs.size (zr2 s1.heap t1 t2).objs.size (zr3 s1.heap t1 t2).objs.size s1.heap.objs.size (zr1 s1.heap t1).objs.size t1 t2:=by
  rw [b4,b2,b3,b1];exact N5 c1 c2
 refine n0 hz ?_;have I2:Inv X pins σ H1 { s1 with heap:=zr5 s1.heap t1 t2 }:=I1.kept (t':=s1.toks) fun b o e=>ai _ (ai _ (ai _ (ai _ (ai _ e))))
 refine⟨(zr4 s1.heap t1 t2).objs.size,[(zr4 s1.heap t1 t2).objs.size,(zr2 s1.heap t1 t2).objs.size,(zr3 s1.heap t1 t2).objs.size,s1.heap.objs.size,(zr1 s1.heap t1).objs.size],_,Gd X.K t1 t2,H1,rfl,I2,
  GF DD,⟨hz,?_,⟨.none,.none,?_⟩,?_,?_⟩,fun b hb=>?_,q⟩
 ·exact ai _ (ai _ (aS _ rfl))
 ·exact ai _ (aS _ rfl)
 ·exact⟨_,ai _ (ai _ (ai _ (ai _ (aS _ rfl)))),rfl,rfl⟩
 ·exact⟨_,ai _ (ai _ (ai _ (aS _ rfl))),rfl,rfl⟩
 ·have hle:s1.heap.objs.size<=b:=by
   rw [b4,b2,b3,b1] at hb;simp only [bc,eL,iP] at hb;rcases hb with h | h | h | h | h <;> rw [h] <;> first | exact am _ | exact lI _ _
  exact I1.nZ hle (I1.hok.fresh hle)
end
theorem Ax{g:TG}{tb:TS}{D:Ends}(hn:xs.length=ys.length)(Pv:Nat->St->Hp->Prop)(h0:Pv 0 σ H)(hl:∀ i σ H,i<=xs.length->Pv i σ H->SqL K H a xs/\SqT K H b ys)
  (hs:∀ i x y σ H p,xs[i]?=some x->ys[i]?=some y->Pv i σ H->H p=none->g (.ref p) σ (upd H p (.tup [x,y])) fun σ2 H2=>tb { D with nx:=Pv (i+1),ct:=Pv (i+1),bk:=D.nx } σ2 H2) (hd:∀ σ H,Pv xs.length σ H->D.nx σ H) :
  ∃ W:Nat->Nat->St->Hp->Prop,(∃ m,W 0 m σ H)/\∀ i m σ H,W i m σ H->
   ((Gd K a b).stop i H/\D.nx σ H)\/((Gd K a b).go i H/\∃ N:St->Hp->Prop,(∀ σ' H',N σ' H'->∃ m',m' < m/\W (i+1) m' σ' H')/\∀ x H',(Gd K a b).yld i H x H'->g x σ H' fun σ2 H2=>tb { D with nx:=N,ct:=N,bk:=D.nx } σ2 H2):=by
 refine⟨fun i m σ H=>m=xs.length - i/\i<=xs.length/\Pv i σ H,⟨xs.length,by simp,bn _,h0⟩,?_⟩;rintro i m σ H ⟨rfl,hi,p⟩;obtain ⟨q1,q2⟩:=hl i σ H hi p
 by_cases hlt:i < xs.length
 ·have hy:i < ys.length:=by omega
  refine .inr ⟨⟨xs,ys,xs[i],ys[i],q1,q2,af hlt,af hy⟩,Pv (i+1),fun σ' H' p'=>⟨xs.length - (i+1),by omega,rfl,hlt,p'⟩,fun x H' y=>?_⟩;obtain ⟨r,hr,rfl,y⟩:=y;have e:=y xs ys xs[i] ys[i] q1 q2 (af hlt) (af hy);subst e;exact hs i xs[i] ys[i] σ _ r (af hlt) (af hy) p hr
 ·have e:i=xs.length:=by omega
  subst e;exact .inl ⟨⟨xs,q1,am _⟩,hd σ H p⟩
end L2
end
section
namespace K37
open PySem PyProof.Rows L2
variable {P:uv}{w:xf}{K:PySem.W.Frag}{C a c p r z:Addr}{ad:Str->Addr}{tb:List (Str × LS)}{fd:vy}{ns ps:LS}{sp:Sp}{mg:MG}{d i j n:Nat}{B:List St->Prop}{H H' H1 H2:Hp}{cs vs xs ys:LV}{v:V}{ts:List T}
theorem rJ(_T:Tab P w K c ad tb){p:Str × LS}(h:p∈tb):cZ (tb.map fun p=>((.inr p.1:Key),V.ref (ad p.1))) (.inr p.1)=some (.ref (ad p.1)):=by
 clear _T
 induction tb with
 | nil=>cases h
 | cons q tb ih=>
  rw [eB]
  by_cases e:q.1=p.1
  ·rw [dF (p:=((.inr q.1:Key),V.ref (ad q.1))) (by rw [e]),e]
  ·rw [bZ (p:=((.inr q.1:Key),V.ref (ad q.1))) (by intro z; injection z with z; exact e z)];rcases bc.mp h with rfl | h'
   ·exact absurd rfl e
   ·exact ih h'
theorem Bs(K:PySem.W.Frag):PySem.W.kitOne K (.type "int") (.type "tuple")=some false:=by rfl
theorem qw{f:Addr}{base:Heap}(F:∀ vs H Q E,sp vs H Q E->False):bw P w K mg base CX0 0 f fd ps sp:=⟨fun _ _ _ _ h=>(F _ _ _ _ h).elim,fun _ _ _ _ _ _ _ _ _ _ _ _ _ h=>(F _ _ _ _ h).elim⟩
theorem ne_str{a b:Str}(h:¬ a=b):¬ decide (V.str a=V.str b)=true:=by
 rw [ff (by intro z; injection z with z; exact h z)];exact bo
inductive Az (n:Nat) (vs:LV) (H:Hp) (Q:VK) (E_:XK):Prop
 | mk (a b:Addr) (ys:LV) (as:List Ex):vs=[.ref a,.ref b]->H a=some (.lst (List.replicate as.length (.str "e")))->H b=some (.tup ys)->DpL H (tL as) ys->dpL as<=n->wfL as->as.length<=3->(nmL as).length<=100000->(∀(l:Addr) H',H l=none->H' l=some (.lst ((nmL as).map V.str))->Same H H'->Q (.ref l) H')->Az n vs H Q E_
inductive wR (K:PySem.W.Frag) (B:List St->Prop) (n:Nat) (vs:LV) (H:Hp) (Q:VK) (E_:XK):Prop
 | mk (a b:Addr) (ys:LV) (fs:LS) (ts:List T) (nss:LL):vs=[.ref a,.ref b]->(∀ H:Hp,SqT K H a (fs.map V.str))->H b=some (.tup ys)->DpL H ts ys->PsN B n fs ts nss->ts.length<=4->(nss.flatten).length<=100000->(∀(l:Addr) H',H l=none->H' l=some (.lst ((nss.flatten).map V.str))->Same H H'->Q (.ref l) H')->wR K B n vs H Q E_
inductive J7 (B:List St->Prop) (vs:LV) (H:Hp) (Q:VK) (E_:XK):Prop
 | mk (v:V) (b:List St):vs=[v]->Dp H (.tup (sL b)) v->B b->(nmB b).length<=100000->(∀(l:Addr) H',H l=none->H' l=some (.lst ((nmB b).map V.str))->Same H H'->Q (.ref l) H')->J7 B vs H Q E_
section
variable {P:uv}{w:xf}{K:PySem.W.Frag}{mg:MG}{base:Heap}{t:Adr}
theorem Jp(D:Defs K mg t)(GL:Glb P w K mg t){k:Nat}(Gai:bw P w K mg base CX0 k t.bA.1 t.bA.2 ["forms","parts"] (wR K (fun _=>False) n)):bw P w K mg base CX0 (k+1) t.bA.1 t.bA.2 ["forms","parts"] (Az (n+1)):=by
 have hz:sizeLine=16777216:=ci;have Gam:bw P w K mg base CX0 0 t.eE.1 t.eE.2 ["block"] (fun _ _ _ _=>False):=qw fun _ _ _ _ h=>h;refine D.bA.fn.ok dO ‹5› ‹2›
 ·obtain ⟨a,b,ys,as,rfl,_⟩:=h;rfl
 ·obtain ⟨a,b,ys,as,rfl,ha,hb,dl,hd,hw,hl3,hn,q⟩:=h;rw [jW] at dl;have hyl:ys.length=as.length:=by rw [dl.length,aa]
  refine⟨_,(aA (aK (i:=2) dO.nd rfl (ue rfl) (bB aq))
   (aA (dB dQ rfl (Fe rfl D.Ab (aj (pv 0) (aj (pv 1) aq))) (fL rfl (aY (aJ (i:=3) dO.nd rfl (ue rfl)) (aY (aJ (i:=4) dO.nd rfl (ue rfl)) eV)))
   (aD (bD (aL dH (pv 3) aM (aQ _))
   (aD (aP (eO br cw cy bT (pv 2) (aj (pv 4) aq))))
   (aD (bD (aL dH (pv 3) aM (aQ _))
   (aD (aP (eO br ie ii jw (pv 2) (aj (aF D.eE Gam ‹1› (by rfl) (aj (pv 4) aq)) aq))))
   (aD (bD (aL dH (pv 3) aM (aQ _))
   (aD (aP (eO br ie ii jw (pv 2) (aj (aF D.bA Gai ‹1› (by rfl) (aj (bH yF (bB (aj aM aq)) (aW bC (by rfl) D.dg bY (aj (pv 4) aq))) (aj (pv 4) aq))) aq))))
   (aD (bD (Ug (sZ (aL dH (pv 3) aM (aQ _)) (pO (lA (aW jk (by rfl) D.gY gC (aj (pv 4) (aj (pR (v:=V.ty "tuple") rfl D.cJ bR rfl) aq)))))))
   (aD (aP (eO br ie ii jw (pv 2) (aj (aF D.bA Gai ‹1› (by rfl) (aj (pW (lZ (v:=V.ref t.cA) (by rfl) GL.mF rfl) (aV aU (pv 4) aC ‹4›) ‹4›) (aj (cX iH (pv 4) (cW aC) fW) aq))) aq))))
   aX)))))))))
   (aD (aR (pv 2))))),?_⟩
  refine⟨bn _,fun l hl=>?_⟩;have s1:∀ o,Same H (upd H l o):=fun o=>Um hl
  refine⟨_,rfl,_,rfl,a,b,_,ys,rfl,Uh (s1 _ a _ ha),Ui (s1 _ b _ hb),Ax (K:=K) (a:=a) (b:=b) (xs:=List.replicate as.length (.str "e")) (ys:=ys) (by rw [ij,hyl]) (fun i σ H2=>∃(v3 v4:OV),σ=[some (.ref a),some (.ref b),some (.ref l),v3,v4]/\H2 l=some (.lst ((((as.take i).map nmE).flatten).map V.str))/\Same H H2)
   ⟨_,_,rfl,ak,s1 _⟩ (fun i σ H2 _ ⟨_,_,_,_,s⟩=>⟨Uh (s a _ ha),Ui (s b _ hb)⟩) ?_ ?_⟩
  ·rintro i x y σ H2 p hx hy ⟨v3,v4,rfl,hl2,s2⟩ hp
   have hit:i < as.length:=by
    have:=(aT.mp hy).1;omega
   have ex':x=.str "e" := by
    have:=gh hx;exact(List.mem_replicate.mp this).2
   subst ex';obtain ⟨y',ey,dy⟩:=dl.get (t:=as[i].t) (i:=i) (by rw [bj,af hit]; rfl);rw [hy] at ey;cases ey;have s3:Same H2 (upd H2 p (.tup [.str "e",y])):=Um hp;refine⟨p,_,rfl,Ui ak,rfl,_,_,rfl,_,_,rfl,rfl,?_⟩;generalize upd H2 p (.tup [.str "e",y])=H3 at s3;have hl3':=s3 l _ hl2;refine‹21›;refine‹21›;refine‹21›;have hai:as[i]∈as:=dm hit;have di:as[i].dp<=n+1:=eR (rP hai) hd;have wi:as[i].wf:=rT hw hai
   have tk:((as.take (i+1)).map nmE).flatten=((as.take i).map nmE).flatten++nmE as[i]:=by
    rw [take_snoc hit,az,iL];show _++(nmE as[i]++[])=_;rw [av]
   have bd:(((as.take i).map nmE).flatten).length+(nmE as[i]).length<=100000:=by
    have e:nmL as=((as.take (i+1)).map nmE).flatten++((as.drop (i+1)).map nmE).flatten:=by
     rw [uI,<- iL,<- az,gu]
    rw [e,tk,ae,ae] at hn;omega
   rcases Ex.parts (B:=fun _=>False) di wi with ⟨hv,e0⟩ | ⟨x,fs,ts,nss,et,hm,ps,ef,htl⟩
   ·have fin:∃(v3 v4:OV),[some (.ref a),some (.ref b),some (.ref l),some (.str "e"),some y]=[some (.ref a),some (.ref b),some (.ref l),v3,v4]/\H3 l=some (.lst ((((as.take (i+1)).map nmE).flatten).map V.str))/\Same H H3:=⟨_,_,rfl,by rw [tk,e0,av]; exact hl3',s2.trans s3⟩;rcases hv with hv | ⟨j,hv⟩
    ·rw [hv,Ex.t,Dp] at dy;subst dy;exact⟨_,rfl,rfl,_,rfl,cG (bg rfl) ⟨_,rfl,_,_,_,false,rfl,.non,rfl,_,rfl,iG fin⟩⟩
    ·rw [hv,Ex.t,Dp] at dy;subst dy;exact⟨_,rfl,rfl,_,rfl,cG (bg rfl) ⟨_,rfl,_,_,_,false,rfl,.int j,Bs N0,_,rfl,iG fin⟩⟩
   ·rw [et] at dy;obtain ⟨c,xs,rfl,hc,dl2⟩:=L2.Dp.bG dy;obtain ⟨x1,ys',rfl,d1,dl'⟩:=dl2.cases;have e1:=L2.Dp.cQ d1;subst e1;have hc3:=(s2.trans s3) c _ hc;refine⟨_,rfl,rfl,_,rfl,cG (bg rfl) ⟨_,rfl,_,_,_,true,rfl,.tup hc3,lM N0 "tuple",_,rfl,jQ ?_⟩⟩;refine⟨_,rfl,.inl ⟨rfl,_,Uh hl3'⟩,_,rfl,c,_,_,_,rfl,rfl,Ui hc3,aH (j:=0) rfl,t.cA,_,.inr x,_,rfl,GL.dI.d,rfl,rJ GL.dI hm,?_⟩;refine⟨_,rfl,_,rfl,c,_,rfl,hc3,fun b2 H4 hb2 s4=>?_⟩;rw [jE] at hb2;refine⟨t.ad "e" x,b2,ys',fs,ts,nss,rfl,GL.dI.s (x,fs) hm,hb2,dl'.mono (Uj ((s2.trans s3).trans s4)),ps,by omega,by rw [ef]; omega,fun l2 H5 hn2 hl2' s5=>?_⟩;refine⟨l,l2,_,_,rfl,rfl,s5 l _ (s4 l _ hl3'),hl2',by rw [aa,aa,ef]; omega,?_⟩;refine⟨_,_,rfl,by rw [ak,tk,ef,az],fun c o e=>?_⟩;rw [au (aB e hl)];exact s5 c o (s4 c o (s3 c o (s2 c o e)))
  ·rintro σ H2 ⟨v3,v4,rfl,hl2,s2⟩;rw [ij,aE (am _),<- uI] at hl2;exact⟨_,rfl,q l H2 hl hl2 s2⟩
end
section
variable {P:uv}{w:xf}{K:PySem.W.Frag}{mg:MG}{base:Heap}{t:Adr}
inductive Bh (n:Nat) (vs:LV) (H:Hp) (Q:VK) (E_:XK):Prop
 | mk (p tl kl dl fl nl:Addr) (ks ds fs ns:LS) (h:Int):vs=[.ref p,.int n,.ref tl,.int h]->1<=n->(h=0\/h=1)->Pu H p->Tls H tl kl dl fl nl ks ds fs ns->Drawn p H n Q->Bh n vs H Q E_
inductive Cu (n:Nat) (vs:LV) (H:Hp) (Q:VK) (E_:XK):Prop
 | mk (p tl kl dl fl nl:Addr) (ks ds fs ns:LS) (h:Int) (x:Str):vs=[.ref p,.int (n+1:Nat),.ref tl,.int h,.str x]->1<=n->x∈ds->(h=0\/h=1)->Pu H p->Tls H tl kl dl fl nl ks ds fs ns->(∀(v:V) (as:List Ex) H',Dp H' (.tup (tL as)) v->dpL as<=n->wfL as->as.length<=3->Off p H H'->Pu H' p->Q v H')->Cu n vs H Q E_
theorem Jg(as:List Ex)(e:Ex):dpL (as++[e])=max (dpL as) e.dp:=by
 have:=e.uZ
 induction as with
 | nil=>show dpL [e]=_; rw [dpL,dpL]; exact Nat.max_comm _ _
 | cons a as ih=>rw [cE,dpL,dpL,ih]; omega
theorem IK(as:List Ex)(e:Ex):wfL (as++[e])↔wfL as/\e.wf:=by
 induction as with
 | nil=>show wfL [e]↔wfL []/\_; rw [wfL,wfL]; exact⟨fun h=>⟨trivial,h.1⟩,fun h=>⟨h.2,trivial⟩⟩
 | cons a as ih=>rw [cE,wfL,wfL,ih,and_assoc]
theorem wO{x:Str}:∀ {ds:LS},x∈ds->∃ j,j < ds.length/\(ds.map T.str)[j]?=some (.str x)/\∀ m,m < j->(ds.map T.str)[m]?≠some (.str x)
 | d::ds,h=>by
  by_cases e:d=x
  ·exact⟨0,Nat.zero_lt_succ _,by rw [e]; rfl,fun m hm=>absurd hm (pM _)⟩
  ·obtain ⟨j,h1,h2,h3⟩:=wO ((bc.mp h).resolve_left fun z=>e z.symm);refine⟨j+1,Nat.succ_lt_succ h1,h2,fun m hm=>?_⟩;cases m with
   | zero=>intro z; injection z with z; injection z with z; exact e z
   | succ m=>exact h3 m ‹23›
theorem uQ{H:Hp}:∀ ns:LS,DpL H (ns.map T.str) ‹17›
 | []=>.nil
 | n::ns=>.cons (.str _) (uQ ns)
theorem Mj:∀ t∈ns.map T.str,Lv 6 t:=fun t ht=>by
 obtain ⟨x,_,rfl⟩:=eA.mp ht;trivial
theorem MP(D:Defs K mg t){k:Nat}(hk:1<=k)(Gaf:bw P w K mg base CX0 k t.cu.1 t.cu.2 ["_law_purse_here","_law_deep","_law_tools","_law_home"] (Bh n)):bw P w K mg base CX0 (k+1) t.gB.1 t.gB.2 ["_law_purse_here","_law_deep","_law_tools","_law_home","_law_deed"] (Cu n):=by
 have Ga:=@rH P w K mg base t D;have hz:sizeLine=16777216:=ci;refine D.gB.fn.ok ji ‹5› ‹2›
 ·obtain ⟨p,tl,kl,dl,fl,nl,ks,ds,fs,ns,h,x,rfl,_⟩:=h;rfl
 ·obtain ⟨p,tl,kl,dl,fl,nl,ks,ds,fs,ns,h,x,rfl,hn,hx,h01,hp,ht,q⟩:=h
  refine⟨_,(aA (aK (i:=5) ji.nd rfl (ue rfl) (bH qW (Om PySem.F.slot_tuple_index PySem.F.type_tuple_index (BR (R6 hr)) (aV aU (pv 2) aC ‹4›) (aj (pv 4) aq)) aC))
   (gw (bD (aL dH ‹20› aC (aQ _))
   (aD (aK (i:=5) ji.nd rfl (ue rfl) ‹20›))
   aX)
   (aA (aK (i:=6) ji.nd rfl (ue rfl) (bB aq))
   (aA (dB dQ rfl (mQ rfl D.rD (aj (pv 5) aq)) (aJ (i:=7) ji.nd rfl (ue rfl))
   (aD (aP (eO br cw cy bT (pv 6) (aj (aF D.cu Gaf ‹1› (by rfl) (aj (pv 0) (aj (bH iW (pv 1) aC) (aj (pv 2) (aj (pv 3) aq))))) aq)))))
   (aD (aR (bK bM (by rfl) D.cJ bR (aj (pv 6) aq)))))))),?_⟩
  refine⟨_,rfl,tl,_,_,_,rfl,rfl,Ui ht.t,aH (j:=1) rfl,?_⟩;obtain ⟨j,hj,hj1,hj2⟩:=wO hx;have d100:=ht.dl1;refine⟨⟨dl,_,rfl,ht.d⟩,_,rfl,dl,_,_,.str x,ds.map T.str,j,rfl,rfl,ht.d,.str x,uQ ds,Mj,hj1,hj2,?_⟩;refine⟨_,_,rfl,rfl,(by show (0:Int) < 4; decide),?_⟩;refine⟨fun σ H1=>∃ m:Nat,σ=[some (.ref p),some (.int (n+1:Nat)),some (.ref tl),some (.int h),some (.str x),some (.int m),none,none]/\m<=3/\Off p H H1/\Pu H1 p,?_,?_⟩
  ·refine⟨_,rfl,p,12,rfl,hp,by decide,by decide,fun r H1 l1 u1 o1 p1=>⟨rfl,_,rfl,fO ‹14› ‹14›⟩⟩
   ·refine⟨_,rfl,p,4,rfl,p1,by decide,by decide,fun r2 H2 l2 u2 o2 p2=>?_⟩;exact⟨r2.toNat,by rw [mf l2]; rfl,by omega,o1.trans o2,p2⟩
   ·refine⟨j % 4,?_,by omega,o1,p1⟩;rw [show ((j % 4:Nat):Int)=(j:Int) % 4 from rfl];rfl
  rintro _ H1 ⟨m,rfl,hm,o1,p1⟩;refine⟨bn _,fun l hl=>?_⟩;have p2:=p1.au (o:=.lst []) (p1.neN hl);have lp:l≠p:=(p1.neN hl).symm;have o2:Off p H (upd H1 l (.lst [])):=o1.trans (Ul hl);have hl2:(upd H1 l (.lst [])) l=some (.lst []):=ak
  have lH:H l=none:=by
   cases e:H l with
   | none=>rfl
   | some o=>rw [o1 l o lp e] at hl; cases hl
  generalize upd H1 l (.lst [])=H2 at p2 o2 hl2;refine⟨_,rfl,m,rfl,by omega,by omega,?_⟩
  refine ni (lo:=0) (n:=m) (fun i σ H3=>∃(as:List Ex) (ys:LV) (v7:OV),σ=[some (.ref p),some (.int (n+1:Nat)),some (.ref tl),some (.int h),some (.str x),some (.int m),some (.ref l),v7]/\H3 l=some (.lst ys)/\DpL H3 (tL as) ys/\dpL as<=n/\wfL as/\as.length=i/\Off p H H3/\Pu H3 p)
   ⟨[],[],_,rfl,hl2,by rw [tL]; exact .nil,by rw [dpL]; exact hn,by rw [wfL]; trivial,rfl,o2,p2⟩ ?_ ?_
  ·rintro i σ H3 hi ⟨as,ys,v7,rfl,hl3,dys,hd,hw,hal,o3,p3⟩;refine⟨_,rfl,.inl ⟨rfl,_,Uh hl3⟩,_,rfl,_,rfl,_,_,rfl,rfl,_,rfl,_,rfl,p,tl,kl,dl,fl,nl,ks,ds,fs,ns,h,?_,hn,h01,p3,ht.mono (dR hp o3),fun v e H4 dv hv wv o4 p4=>?_⟩
   ·show [V.ref p,V.int (((n+1:Nat):Int) - 1),V.ref tl,V.int h]=_;rw [show ((n+1:Nat):Int) - 1=(n:Int) by omega]
   ·have yl:=dys.length;rw [jW,aa] at yl;have hl4:=o4 l _ lp hl3;refine⟨l,ys,v,rfl,rfl,hl4,by omega,as++[e],ys++[v],_,rfl,ak,?_,by rw [Jg]; omega,(IK as e).mpr ⟨hw,wv⟩,by rw [ae,hal]; rfl,fun b o nb eb=>by rw [au (aB eb lH)]; exact o4 b o nb (o3 b o nb eb),p4.au lp.symm⟩;have tu:fB H4 (upd H4 l (.lst (ys++[v]))):=fun c zs e=>by rw [au (bI e hl4 fun z=>nomatch z)]; exact e
    rw [jW,az,<- jW];exact(dys.mono ((dR p3 o4).trans tu)).append (.cons (dv.mono tu) .nil)
  ·rintro σ H3 ⟨as,ys,v7,rfl,hl3,dys,hd,hw,hal,o3,p3⟩;refine⟨_,rfl,l,_,rfl,.inl ⟨Uh hl3,fun z hz=>?_⟩⟩;exact q _ as _ (L2.Dp.tup ak (dys.mono (Uj (Um hz)))) hd hw ‹23› (o3.trans (Ul hz)) (p3.au (p3.neN hz))
theorem zF(D:Defs K mg t){k:Nat}(hk:3<=k)(Gaf:bw P w K mg base CX0 k t.cu.1 t.cu.2 ["_law_purse_here","_law_deep","_law_tools","_law_home"] (Bh n))(Gar:bw P w K mg base CX0 (k+1) t.gB.1 t.gB.2 ["_law_purse_here","_law_deep","_law_tools","_law_home","_law_deed"] (Cu n)):bw P w K mg base CX0 (k+2) t.cu.1 t.cu.2 ["_law_purse_here","_law_deep","_law_tools","_law_home"] (Bh (n+1)):=by
 have Ga:=@rH P w K mg base t D;have Gaq:=Du (P:=P) (w:=w) (base:=base) D;have Gao:=Ay (P:=P) (w:=w) (base:=base) D;have hz:sizeLine=16777216:=ci;refine D.cu.fn.ok cM ‹5› ‹2›
 ·obtain ⟨p,tl,kl,dl,fl,nl,ks,ds,fs,ns,h,rfl,_⟩:=h;rfl
 ·obtain ⟨p,tl,kl,dl,fl,nl,ks,ds,fs,ns,h,rfl,hn,h01,hp,ht,q⟩:=h;obtain ⟨d1,d2⟩:=ht.dl1;obtain ⟨f1,f2⟩:=ht.fl1;have e1:((n+1:Nat):Int) - 1=(n:Int):=by omega
  refine⟨_,(aA (jx (pv 2) (fL rfl (aY (aJ (i:=4) cM.nd rfl (ue rfl)) (aY (aJ (i:=5) cM.nd rfl (ue rfl)) (aY (aJ (i:=6) cM.nd rfl (ue rfl)) (aY (aJ (i:=7) cM.nd rfl (ue rfl)) eV))))))
   (aA (aK (i:=8) cM.nd rfl (ue rfl) ‹20›)
   (aA (bD (Ug (ug (aL ju (pv 1) aC (aQ _)) (pB (aL ju (pv 8) aC (aQ _)))))
   (aD (aR (aF D.jh Gaq ‹1› (by rfl) (aj (pv 0) (aj (pv 2) aq)))))
   aX)
   (aA (bD (aL ju (pv 8) aC (aQ _))
   (aD (aR (bh (aj aM (aj (aF D.gb Gao ‹1› (by rfl) (aj (pv 0) (aj (pv 2) (aj (pv 3) aq)))) (aj (aV aU (pv 6) (aF D.aO Ga ‹1› (by rfl) (aj (pv 0) (aj (aW bC (by rfl) D.dg bY (aj (pv 6) aq)) aq))) ‹4›) aq))))))
   aX)
   (aA (bD (aL ju (pv 8) aC (aQ _))
   (aA (aK (i:=9) cM.nd rfl (ue rfl) (aV aU (pv 5) (aF D.aO Ga ‹1› (by rfl) (aj (pv 0) (aj (aW bC (by rfl) D.dg bY (aj (pv 5) aq)) aq))) ‹4›))
   (aA (aK (i:=10) cM.nd rfl (ue rfl) (aF D.gb Gao ‹1› (by rfl) (aj (pv 0) (aj (pv 2) (aj (pv 3) aq)))))
   (aD (aR (bh (aj aM (aj (pv 10) (aj (pv 9) (aj (aF D.gB Gar ‹1› (by rfl) (aj (pv 0) (aj (pv 1) (aj (pv 2) (aj (pv 3) (aj (pv 9) aq)))))) aq)))))))))
   aX)
   (aA (bD (aL ju (pv 8) aC (aQ _))
   (aA (aK (i:=9) cM.nd rfl (ue rfl) (aV aU (pv 5) (aF D.aO Ga ‹1› (by rfl) (aj (pv 0) (aj (aW bC (by rfl) D.dg bY (aj (pv 5) aq)) aq))) ‹4›))
   (aD (aR (bh (aj aM (aj (pv 9) (aj (aF D.gB Gar ‹1› (by rfl) (aj (pv 0) (aj (pv 1) (aj (pv 2) (aj (pv 3) (aj (pv 9) aq)))))) aq)))))))
   aX)
   (aA (aK (i:=11) cM.nd rfl (ue rfl) (aV bO (bB (yN ["plus","minus","less","alike","or"] (by rfl))) ‹20› ‹4›))
   (aA (aK (i:=12) cM.nd rfl (ue rfl) (aF D.cu Gaf ‹1› (by rfl) (aj (pv 0) (aj (bH iW (pv 1) aC) (aj (pv 2) (aj (pv 3) aq))))))
   (aD (aR (bh (aj (pv 11) (aj (pv 12) (aj (aF D.cu Gaf ‹1› (by rfl) (aj (pv 0) (aj (bH iW (pv 1) aC) (aj (pv 2) (aj (pv 3) aq))))) aq)))))))))))))),?_⟩
  refine⟨_,rfl,tl,_,rfl,Ui ht.t,rfl,_,_,rfl,_,_,rfl,_,_,rfl,_,_,rfl,rfl,?_⟩;refine⟨_,rfl,p,13,rfl,hp,by decide,by decide,fun pick H1 l1 u1 o1 p1=>?_⟩;have t1:=ht.mono (dR hp o1);have leaf:Dg [.ref p,.ref tl] H1 Q E0:=⟨p,tl,kl,dl,fl,nl,ks,ds,fs,ns,rfl,p1,t1,fun v e H2 d2 h2 w2 o2 p2=>q v e H2 d2 ‹23› w2 (o1.trans o2) p2⟩
  by_cases hlf:((n+1:Nat):Int) < 2
  ·exact⟨_,rfl,_,_,rfl,rfl,_,rfl,cG (bg hlf) (jQ ⟨_,rfl,_,rfl,leaf⟩)⟩
  have hn1:1<=n:=by omega
  refine⟨_,rfl,_,_,rfl,rfl,_,rfl,bF (by rw [fg]; exact hlf) ?_⟩;refine⟨_,rfl,_,_,rfl,rfl,_,rfl,fO ‹14› ‹14›⟩
  ·exact⟨_,rfl,_,rfl,leaf⟩
  refine⟨_,rfl,_,_,rfl,rfl,_,rfl,fO ‹14› ‹14›⟩
  ·refine⟨_,rfl,_,rfl,_,rfl,p,tl,kl,dl,fl,nl,ks,ds,fs,ns,h,rfl,h01,p1,t1,fun v e H2 dv hv wv o2 p2=>?_⟩;have t2:=t1.mono (dR p1 o2);refine⟨_,rfl,_,rfl,_,rfl,fl,_,rfl,.inr (Ui t2.f),p,_,rfl,p2,by rw [aa]; omega,by rw [aa]; omega,fun r H3 l3 u3 o3 p3=>?_⟩;rw [aa] at u3;obtain ⟨x,hx,_,_⟩:=dM (ns:=fs) l3 u3;refine⟨fl,_,_,_,rfl,rfl,Ui (t2.mono (dR p2 o3)).f,hx,by show 3<=sizeLine; decide,fun z hz=>?_⟩;refine q _ (.get e x) _ ?_ (by rw [Ex.dp]; omega) (by rw [Ex.wf]; exact wv) (((o1.trans o2).trans o3).trans (Ul hz)) (p3.au (p3.neN hz));rw [Ex.t];exact L2.Dp.tup ak (.cons (.str _) (.cons (dv.mono ((dR p2 o3).trans (Uj (Um hz)))) ‹13›))
  refine⟨_,rfl,_,_,rfl,rfl,_,rfl,fO ‹14› ‹14›⟩
  ·refine⟨_,rfl,_,rfl,_,rfl,dl,_,rfl,.inr (Ui t1.d),p,_,rfl,p1,by rw [aa]; omega,by rw [aa]; omega,fun r H2 l2 u2 o2 p2=>?_⟩;rw [aa] at u2;obtain ⟨x,hx,hxm,_⟩:=dM (ns:=ds) l2 u2;have t2:=t1.mono (dR p1 o2);refine⟨dl,_,_,_,rfl,rfl,Ui t2.d,hx,?_⟩;refine⟨_,rfl,_,rfl,_,rfl,p,tl,kl,dl,fl,nl,ks,ds,fs,ns,h,rfl,h01,p2,t2,fun v e H3 dv hv wv o3 p3=>?_⟩;have t3:=t2.mono (dR p2 o3);refine⟨_,rfl,_,rfl,_,rfl,_,rfl,_,rfl,_,rfl,_,rfl,p,tl,kl,dl,fl,nl,ks,ds,fs,ns,h,x,rfl,hn1,hxm,h01,p3,t3,fun va as H4 da ha wa la o4 p4=>?_⟩;refine⟨by show 4<=sizeLine; decide,fun z hz=>?_⟩;refine q _ (.ask e x as) _ ?_ (by rw [Ex.dp]; omega) (by rw [Ex.wf]; exact⟨wv,la,wa⟩) ((((o1.trans o2).trans o3).trans o4).trans (Ul hz)) (p4.au (p4.neN hz));rw [Ex.t];have tz:=Uj (Um (o:=.tup [.str "ask",v,.str x,va]) hz);exact L2.Dp.tup ak (.cons (.str _) (.cons (dv.mono ((dR p3 o4).trans tz)) (.cons (.str _) (.cons (da.mono tz) .nil))))
  refine⟨_,rfl,_,_,rfl,rfl,_,rfl,fO ‹14› ‹14›⟩
  ·refine⟨_,rfl,_,rfl,_,rfl,dl,_,rfl,.inr (Ui t1.d),p,_,rfl,p1,by rw [aa]; omega,by rw [aa]; omega,fun r H2 l2 u2 o2 p2=>?_⟩;rw [aa] at u2;obtain ⟨x,hx,hxm,_⟩:=dM (ns:=ds) l2 u2;have t2:=t1.mono (dR p1 o2);refine⟨dl,_,_,_,rfl,rfl,Ui t2.d,hx,?_⟩;refine⟨_,rfl,_,rfl,_,rfl,_,rfl,_,rfl,_,rfl,p,tl,kl,dl,fl,nl,ks,ds,fs,ns,h,x,rfl,hn1,hxm,h01,p2,t2,fun va as H4 da ha wa la o4 p4=>?_⟩;refine⟨by show 3<=sizeLine; decide,fun z hz=>?_⟩;refine q _ (.up x as) _ ?_ (by rw [Ex.dp]; omega) (by rw [Ex.wf]; exact⟨la,wa⟩) (((o1.trans o2).trans o4).trans (Ul hz)) (p4.au (p4.neN hz));rw [Ex.t];exact L2.Dp.tup ak (.cons (.str _) (.cons (.str _) (.cons (da.mono (Uj (Um hz))) .nil)))
  refine⟨by show 5<=sizeLine; decide,fun m hm=>?_⟩;have mp:m≠p:=(p1.neN hm).symm;have p2:Pu (upd H1 m (.lst (List.map V.str ["plus","minus","less","alike","or"]))) p:=p1.au (p1.neN hm);have o2:Off p H1 (upd H1 m (.lst (List.map V.str ["plus","minus","less","alike","or"]))):=Ul hm;have hm2:(upd H1 m (.lst (List.map V.str ["plus","minus","less","alike","or"]))) m=some (.lst (bins.map V.str)):=ak;generalize upd H1 m (.lst (List.map V.str ["plus","minus","less","alike","or"]))=H2 at p2 o2 hm2;refine⟨_,rfl,p,5,rfl,p2,by decide,by decide,fun r H3 l3 u3 o3 p3=>?_⟩;obtain ⟨x,hx,hxm,_⟩:=dM (ns:=bins) l3 u3;refine⟨m,_,_,_,rfl,rfl,Uh (o3 m _ mp hm2),hx,?_⟩;have o03:=(o1.trans o2).trans o3;have t3:=ht.mono (dR hp o03);refine⟨_,rfl,_,rfl,_,_,rfl,rfl,_,rfl,_,rfl,p,tl,kl,dl,fl,nl,ks,ds,fs,ns,h,(by show [V.ref p,V.int (((n+1:Nat):Int) - 1),V.ref tl,V.int h]=_; rw [e1]),hn1,h01,p3,t3,fun v e H4 dv hv wv o4 p4=>?_⟩;have t4:=t3.mono (dR p3 o4);refine⟨_,rfl,_,rfl,_,rfl,_,rfl,_,_,rfl,rfl,_,rfl,_,rfl,p,tl,kl,dl,fl,nl,ks,ds,fs,ns,h,(by show [V.ref p,V.int (((n+1:Nat):Int) - 1),V.ref tl,V.int h]=_; rw [e1]),hn1,h01,p4,t4,fun v' e' H5 dv' hv' wv' o5 p5=>?_⟩;refine⟨by show 3<=sizeLine; decide,fun z hz=>?_⟩;refine q _ (.bin x e e') _ ?_ (by rw [Ex.dp]; omega) (by rw [Ex.wf]; exact⟨hxm,wv,wv'⟩) (((o03.trans o4).trans o5).trans (Ul hz)) (p5.au (p5.neN hz));rw [Ex.t];have tz:=Uj (Um (o:=.tup [.str x,v,v']) hz);exact L2.Dp.tup ak (.cons (.str _) (.cons (dv.mono ((dR p4 o5).trans tz)) (.cons (dv'.mono tz) .nil)))
theorem yC(D:Defs K mg t):∀ n:Nat,bw P w K mg base CX0 (2 * n+3) t.cu.1 t.cu.2 ["_law_purse_here","_law_deep","_law_tools","_law_home"] (Bh n)
 | 0=>(qw fun _ _ _ _ h=>by obtain ⟨_,_,_,_,_,_,_,_,_,_,_,_,h,_⟩:=h; exact absurd h (by decide)).mono (bn _)
 | n+1=>by
  have h:=yC D n;exact zF D ‹23› h (MP D ‹23› h)
end
section
variable {P:uv}{w:xf}{K:PySem.W.Frag}{mg:MG}{base:Heap}{t:Adr}
theorem zM(n:Nat)(v:V):(List.replicate n [v]).flatten=List.replicate n v:=by
 induction n with
 | zero=>rfl
 | succ n ih=>rw [ja,bz,ih,ja]; rfl
theorem Cd(D:Defs K mg t)(GL:Glb P w K mg t){k:Nat}(hj:j<=k)(Gam:bw P w K mg base CX0 j t.eE.1 t.eE.2 ["block"] (J7 B))
  (Gai:bw P w K mg base CX0 k t.bA.1 t.bA.2 ["forms","parts"] (fun vs H Q E=>0 < n/\(Az n vs H Q E\/wR K (fun _=>False) (n - 1) vs H Q E))):bw P w K mg base CX0 (k+1) t.bA.1 t.bA.2 ["forms","parts"] (wR K B n):=by
 have hz:sizeLine=16777216:=ci;refine D.bA.fn.ok dO ‹5› ‹2›
 ·obtain ⟨a,b,ys,fs,ts,nss,rfl,_⟩:=h;rfl
 ·obtain ⟨a,b,ys,fs,ts,nss,rfl,ha,hb,dl,pw,hl4,hn,q⟩:=h;have hyl:ys.length=ts.length:=dl.length;obtain ⟨pl1,pl2⟩:=pw.len
  refine⟨_,(aA (aK (i:=2) dO.nd rfl (ue rfl) (bB aq))
   (aA (dB dQ rfl (yL rfl D.Ab (aj (pv 0) (aj (pv 1) aq))) (fL rfl (aY (aJ (i:=3) dO.nd rfl (ue rfl)) (aY (aJ (i:=4) dO.nd rfl (ue rfl)) eV)))
   (aD (bD (aL dH (pv 3) aM (aQ _))
   (aD (aP (eO br cw cy bT (pv 2) (aj (pv 4) aq))))
   (aD (bD (aL dH (pv 3) aM (aQ _))
   (aD (aP (eO br ie ii jw (pv 2) (aj (aF D.eE Gam ‹1› (by rfl) (aj (pv 4) aq)) aq))))
   (aD (bD (aL dH (pv 3) aM (aQ _))
   (aD (aP (eO br ie ii jw (pv 2) (aj (aF D.bA Gai ‹1› (by rfl) (aj (bH yF (bB (aj aM aq)) (aW bC (by rfl) D.dg bY (aj (pv 4) aq))) (aj (pv 4) aq))) aq))))
   (aD (bD (Ug (sZ (aL dH (pv 3) aM (aQ _)) (pO (lA (aW jk (by rfl) D.gY gC (aj (pv 4) (aj (pR (v:=V.ty "tuple") rfl D.cJ bR rfl) aq)))))))
   (aD (aP (eO br ie ii jw (pv 2) (aj (aF D.bA Gai ‹1› (by rfl) (aj (pW (lZ (v:=V.ref t.cA) (by rfl) GL.mF rfl) (aV aU (pv 4) aC ‹4›) ‹4›) (aj (cX iH (pv 4) (cW aC) fW) aq))) aq))))
   aX)))))))))
   (aD (aR (pv 2))))),?_⟩
  refine⟨bn _,fun l hl=>?_⟩;have s1:∀ o,Same H (upd H l o):=fun o=>Um hl
  refine⟨_,rfl,_,rfl,a,b,_,ys,rfl,ha _,Ui (s1 _ b _ hb),uP (K:=K) (a:=a) (b:=b) (xs:=fs.map V.str) (ys:=ys) (n:=ts.length) (by rw [aa]; omega) (fun i σ H2=>∃(v3 v4:OV),σ=[some (.ref a),some (.ref b),some (.ref l),v3,v4]/\H2 l=some (.lst (((nss.take i).flatten).map V.str))/\Same H H2)
   ⟨_,_,rfl,ak,s1 _⟩ (fun i σ H2 _ ⟨_,_,_,_,s⟩=>⟨ha _,Ui (s b _ hb)⟩) ?_ ?_⟩
  ·rintro i x y σ H2 p hx hy ⟨v3,v4,rfl,hl2,s2⟩ hp
   have hit:i < ts.length:=by
    have:=(aT.mp hy).1;omega
   have hif:i < fs.length:=by omega
   have hiw:i < nss.length:=by omega
   have ex':x=.str fs[i]:=by
    rw [bj,af hif] at hx;exact(dL hx).symm
   subst ex';obtain ⟨y',ey,dy⟩:=dl.get (af hit);rw [hy] at ey;cases ey;have pwi:=pw.get i hif hit hiw
   have tk:(nss.take (i+1)).flatten=(nss.take i).flatten++nss[i]:=by
    rw [take_snoc hiw,iL];show _++(nss[i]++[])=_;rw [av]
   have bd:((nss.take i).flatten).length+(nss[i]).length<=100000:=by
    have e:nss.flatten=(nss.take (i+1)).flatten++(nss.drop (i+1)).flatten:=by
     rw [<- iL,gu]
    rw [e,tk,ae,ae] at hn;omega
   have s3:Same H2 (upd H2 p (.tup [.str fs[i],y])):=Um hp;refine⟨p,_,rfl,Ui ak,rfl,_,_,rfl,_,_,rfl,rfl,?_⟩;generalize upd H2 p (.tup [.str fs[i],y])=H3 at s3;generalize fs[i]=f at pwi;generalize ts[i]=u at pwi dy;generalize nss[i]=ns at pwi tk bd;have hl3':=s3 l _ hl2;have s23:=s2.trans s3;have fin:∀(H5:Hp) (v3 v4:OV) (l2:Addr),H5 l=some (.lst (((nss.take i).flatten).map V.str++ns.map V.str))->(∀ c o,c≠l->H3 c=some o->H5 c=some o)->∃ (v3' v4':OV),[some (.ref a),some (.ref b),some (.ref l),v3,v4]=[some (.ref a),some (.ref b),some (.ref l),v3',v4']/\H5 l=some (.lst (((nss.take (i+1)).flatten).map V.str))/\Same H H5:=fun H5 v3 v4 l2 h5 k5=>⟨_,_,rfl,by rw [tk,az]; exact h5,fun c o e=>k5 c o (aB e hl) (s23 c o e)⟩;rcases pwi with ⟨rfl,x,rfl,rfl⟩ | ⟨rfl,bk,rfl,hB,rfl⟩ | ⟨rfl,as,rfl,hd,hw,hl3,rfl⟩ | ⟨rfl,e,rfl,hd,hw,rfl⟩ | ⟨n1,n2,n3,n4,rfl⟩
   ·have e1:=L2.Dp.cQ dy;subst e1;refine‹9›;refine⟨_,rfl,.inl ⟨rfl,_,Uh hl3'⟩,_,rfl,l,_,_,rfl,rfl,hl3',by rw [aa]; omega,?_⟩;exact fin _ _ _ l ak fun c o ne e=>by rw [au ne]; exact e
   ·refine‹21›;refine‹9›;refine⟨_,rfl,.inl ⟨rfl,_,Uh hl3'⟩,_,rfl,y,bk,rfl,dy.mono (Uj s23),hB,by omega,fun l2 H5 hn2 hl2' s5=>?_⟩;refine⟨l,l2,_,_,rfl,rfl,s5 l _ hl3',hl2',by rw [aa,aa]; omega,?_⟩;exact fin _ _ _ l ak fun c o ne e=>by rw [au ne]; exact s5 c o e
   ·obtain ⟨c,zs,rfl,hc,dl2⟩:=L2.Dp.bG dy;have hzl:zs.length=as.length:=by rw [dl2.length,jW,aa]
    have hc3:=s23 c _ hc;refine‹21›;refine‹21›;refine‹9›;refine⟨_,rfl,.inl ⟨rfl,_,Uh hl3'⟩,by show 1<=sizeLine; decide,fun l2 hl2n=>?_⟩;have s4:Same H3 (upd H3 l2 (.lst [.str "e"])):=Um hl2n;refine⟨_,rfl,c,_,rfl,.inr (Ui (s4 c _ hc3)),?_⟩;refine⟨l2,_,_,rfl,rfl,ak,by omega,by omega,by show 1 * ((zs.length:Nat):Int).toNat<=sizeLine; omega,fun l3 hl3n=>?_⟩
    have e3:(List.replicate ((zs.length:Nat):Int).toNat [V.str "e"]).flatten=List.replicate as.length (V.str "e"):=by
     rw [show ((zs.length:Nat):Int).toNat=as.length by omega];exact zM _ _
    rw [e3];have s5:=s4.trans (Um (o:=.lst (List.replicate as.length (V.str "e"))) hl3n);have hl33:(upd (upd H3 l2 (.lst [.str "e"])) l3 (.lst (List.replicate as.length (V.str "e")))) l3=some (.lst (List.replicate as.length (V.str "e"))):=ak;generalize upd (upd H3 l2 (.lst [.str "e"])) l3 (.lst (List.replicate as.length (V.str "e")))=H4 at s5 hl33;refine⟨_,rfl,(by have:=Ey as; omega),.inl ⟨l3,c,zs,as,rfl,hl33,s5 c _ hc3,dl2.mono (Uj (s23.trans s5)),hd,hw,hl3,by omega,fun l4 H5 hn4 hl4' s6=>?_⟩⟩;refine⟨l,l4,_,_,rfl,rfl,s6 l _ (s5 l _ hl3'),hl4',by rw [aa,aa]; omega,?_⟩;exact fin _ _ _ l ak fun c o ne e=>by rw [au ne]; exact s6 c o (s5 c o e)
   ·refine‹21›;refine‹21›;refine‹21›;have hp0:0 < n:=by have:=e.uZ; omega
    rcases Ex.parts (B:=fun _=>False) (n:=n - 1) ‹23› hw with ⟨hv,e0⟩ | ⟨x,fs',ts',nss',et,hm,ps,ef,htl⟩
    ·have fin0:=fun v3 v4=>fin H3 v3 v4 l (by rw [e0]; exact hl3'.trans (by rw [List.map_nil,av])) fun c o _ e=>e;rcases hv with rfl | ⟨z,rfl⟩
     ·rw [Ex.t,Dp] at dy;subst dy;exact⟨_,rfl,rfl,_,rfl,cG (bg rfl) ⟨_,rfl,_,_,_,false,rfl,.non,rfl,_,rfl,iG (fin0 _ _)⟩⟩
     ·rw [Ex.t,Dp] at dy;subst dy;exact⟨_,rfl,rfl,_,rfl,cG (bg rfl) ⟨_,rfl,_,_,_,false,rfl,.int z,Bs N0,_,rfl,iG (fin0 _ _)⟩⟩
    ·rw [et] at dy;obtain ⟨c,xs,rfl,hc,dl2⟩:=L2.Dp.bG dy;obtain ⟨x1,ys',rfl,d1,dl'⟩:=dl2.cases;have e1:=L2.Dp.cQ d1;subst e1;have hc3:=s23 c _ hc;refine⟨_,rfl,rfl,_,rfl,cG (bg rfl) ⟨_,rfl,_,_,_,true,rfl,.tup hc3,lM N0 "tuple",_,rfl,jQ ?_⟩⟩;refine⟨_,rfl,.inl ⟨rfl,_,Uh hl3'⟩,_,rfl,c,_,_,_,rfl,rfl,Ui hc3,aH (j:=0) rfl,t.cA,_,.inr x,_,rfl,GL.dI.d,rfl,rJ GL.dI hm,?_⟩;refine⟨_,rfl,_,rfl,c,_,rfl,hc3,fun b2 H4 hb2 s4=>?_⟩;rw [jE] at hb2;refine⟨hp0,.inr ⟨t.ad "e" x,b2,ys',fs',ts',nss',rfl,GL.dI.s (x,fs') hm,hb2,dl'.mono (Uj (s23.trans s4)),ps,by omega,by rw [ef]; omega,fun l2 H5 hn2 hl2' s5=>?_⟩⟩;refine⟨l,l2,_,_,rfl,rfl,s5 l _ (s4 l _ hl3'),hl2',by rw [aa,aa,ef]; omega,?_⟩;rw [ef];exact fin _ _ _ l ak fun c o ne e=>by rw [au ne]; exact s5 c o (s4 c o e)
   ·refine⟨_,rfl,rfl,_,rfl,bF (ne_str n1) ?_⟩;refine⟨_,rfl,rfl,_,rfl,bF (ne_str n2) ?_⟩;refine⟨_,rfl,rfl,_,rfl,bF (ne_str n3) ?_⟩;refine⟨_,rfl,rfl,_,rfl,bF (ne_str n4) ?_⟩;exact iG (fin H3 _ _ l (hl3'.trans (by rw [List.map_nil,av])) fun c o _ e=>e)
  ·rintro σ H2 ⟨v3,v4,rfl,hl2,s2⟩;rw [aE ‹23›] at hl2;exact⟨_,rfl,q l H2 hl hl2 s2⟩
end
section
variable {P:uv}{w:xf}{K:PySem.W.Frag}{mg:MG}{base:Heap}{t:Adr}
theorem Dr{CX:CXT}{k:Nat}{f:Addr}{sp':Sp}(F:bw P w K mg base CX k f fd ps sp)(F':bw P w K mg base CX k f fd ps sp'):bw P w K mg base CX k f fd ps (fun vs H Q E=>sp vs H Q E\/sp' vs H Q E):=
 ⟨fun vs H Q E h=>h.elim (F.len vs H Q E) (F'.len vs H Q E),fun A outer s H args us vs Q E hr e0 b r h=>h.elim (F.run A outer s H args us vs Q E hr e0 b r) (F'.run A outer s H args us vs Q E hr e0 b r)⟩
theorem Q6(D:Defs K mg t)(GL:Glb P w K mg t){k:Nat}(Gai:bw P w K mg base CX0 k t.bA.1 t.bA.2 ["forms","parts"] (wR K B 4)):bw P w K mg base CX0 (k+1) t.eE.1 t.eE.2 ["block"] (J7 fun b=>b.length<=15/\∀ s∈b,SOk B s):=by
 have hz:sizeLine=16777216:=ci;refine D.eE.fn.ok pL ‹5› ‹2›
 ·obtain ⟨v,b,rfl,_⟩:=h;rfl
 ·obtain ⟨v,b,rfl,dv,⟨hbl,hB⟩,hn,q⟩:=h;rw [nW] at dv;obtain ⟨a,ys,rfl,ha,dl⟩:=L2.Dp.bG dv;have hyl:ys.length=b.length:=by rw [dl.length,aa]
  refine⟨_,(aA (aK (i:=1) pL.nd rfl (ue rfl) (bB aq))
   (aA (dB dQ rfl (eY (pv 0)) (aJ (i:=2) pL.nd rfl (ue rfl))
   (aD (aP (eO br ie ii jw (pv 1) (aj (aF D.bA Gai ‹1› (by rfl) (aj (pW (lZ (v:=V.ref t.dh) (by rfl) GL.rQ rfl) (aV aU (pv 2) aC ‹4›) ‹4›) (aj (cX iH (pv 2) (cW aC) fW) aq))) aq)))))
   (aD (aR (pv 1))))),?_⟩
  refine⟨bn _,fun l hl=>?_⟩;have s1:∀ o,Same H (upd H l o):=fun o=>Um hl
  refine⟨_,rfl,a,rfl,⟨_,Ui (s1 _ a _ ha)⟩,kj (K:=N0) (a:=a) (xs:=ys) (fun i σ H2=>∃(v3:OV),σ=[some (.ref a),some (.ref l),v3]/\H2 l=some (.lst ((((b.take i).map nmS).flatten).map V.str))/\Same H H2)
   ⟨_,rfl,ak,s1 _⟩ (fun i σ H2 _ ⟨_,_,_,s⟩=>Ui (s a _ ha)) ?_ ?_⟩
  ·rintro i y σ H2 hy ⟨v3,rfl,hl2,s2⟩
   have hit:i < b.length:=by
    have:=(aT.mp hy).1;omega
   obtain ⟨y',ey,dy⟩:=dl.get (t:=b[i].t) (i:=i) (by rw [bj,af hit]; rfl);rw [hy] at ey;cases ey
   have tk:((b.take (i+1)).map nmS).flatten=((b.take i).map nmS).flatten++nmS b[i]:=by
    rw [take_snoc hit,az,iL];show _++(nmS b[i]++[])=_;rw [av]
   have bd:(((b.take i).map nmS).flatten).length+(nmS b[i]).length<=100000:=by
    have e:nmB b=((b.take (i+1)).map nmS).flatten++((b.drop (i+1)).map nmS).flatten:=by
     rw [uK,<- iL,<- az,gu]
    rw [e,tk,ae,ae] at hn;omega
   obtain ⟨x,fs,ts,nss,et,hm,ps,ef,htl⟩:=St.parts (hB _ (dm hit));rw [et] at dy;obtain ⟨c,xs,rfl,hc,dl2⟩:=L2.Dp.bG dy;obtain ⟨x1,ys',rfl,d1,dl'⟩:=dl2.cases;have e1:=L2.Dp.cQ d1;subst e1;have hc3:=s2 c _ hc;refine⟨_,rfl,.inl ⟨rfl,_,Uh hl2⟩,_,rfl,c,_,_,_,rfl,rfl,Ui hc3,aH (j:=0) rfl,t.dh,_,.inr x,_,rfl,GL.gU.d,rfl,rJ GL.gU hm,?_⟩;refine⟨_,rfl,_,rfl,c,_,rfl,hc3,fun b2 H4 hb2 s4=>?_⟩;rw [jE] at hb2;refine⟨t.ad "s" x,b2,ys',fs,ts,nss,rfl,GL.gU.s (x,fs) hm,hb2,dl'.mono (Uj (s2.trans s4)),ps,htl,by rw [ef]; omega,fun l2 H5 hn2 hl2' s5=>?_⟩;refine⟨l,l2,_,_,rfl,rfl,s5 l _ (s4 l _ hl2),hl2',by rw [aa,aa,ef]; omega,?_⟩;refine⟨_,rfl,by rw [ak,tk,ef,az],fun c o e=>?_⟩;rw [au (aB e hl)];exact s5 c o (s4 c o (s2 c o e))
  ·rintro σ H2 ⟨v3,rfl,hl2,s2⟩;rw [hyl,aE (am _),<- uK] at hl2;exact⟨_,rfl,q l H2 hl hl2 s2⟩
theorem J3(f:Addr)(fd:vy):bw P w K mg base CX0 0 f fd ["block"] (J7 fun _=>False):=qw fun _ _ _ _ h=>by
 obtain ⟨_,_,_,_,h,_⟩:=h;exact h
theorem JC(D:Defs K mg t)(GL:Glb P w K mg t):∀ n:Nat,bw P w K mg base CX0 (2 * n+1) t.bA.1 t.bA.2 ["forms","parts"] (wR K (fun _=>False) n)
 | 0=>Cd D GL (bn _) (J3 _ _) (qw fun _ _ _ _ h=>absurd h.1 (iN _))
 | n+1=>by
  have h:=JC D GL n;have hL:bw P w K mg base CX0 (2 * n+2) t.bA.1 t.bA.2 ["forms","parts"] (Az (n+1)):=Jp D GL h;exact Cd D GL (bn _) (J3 _ _) ((Dr hL (h.mono ‹23›)).imp fun _ _ _ _ h=>h.2)
theorem uo(D:Defs K mg t)(GL:Glb P w K mg t):∀ m:Nat,bw P w K mg base CX0 (2 * m+8) t.eE.1 t.eE.2 ["block"] (J7 (BOk m))
 | 0=>(J3 _ _).mono (bn _)
 | m+1=>by
  have h:=uo D GL m;have h3:=JC (P:=P) (w:=w) (base:=base) D GL 3;have hL:bw P w K mg base CX0 (2 * 3+2) t.bA.1 t.bA.2 ["forms","parts"] (Az (3+1)):=Jp D GL h3;have hT:=Cd D GL (n:=4) (k:=2 * m+8) (am _) h ((Dr (hL.mono ‹23›) (h3.mono ‹23›)).imp fun _ _ _ _ h=>h.2);exact Q6 D GL hT
mutual
def St.cnt:St->Nat
 | .one _ _=>1
 | .let_ _ _=>1
 | .put _ _ _=>1
 | .drop _ _=>1
 | .become _ _=>1
 | .turn _ _ _ _=>1
 | .strip _ _=>1
 | .cT _ _=>1
 | .if_ _ a b=>1+(gF a+gF b)
 | .while_ _ a=>1+gF a
 | .repeat_ _ a=>1+gF a
 | .try_ a _ b=>1+(gF a+gF b)
def gF:List St->Nat
 | []=>0
 | s::r=>s.cnt+gF r
end
end
theorem xH(h:H a=some (.tup ‹17›)):Dp H (.tup (ns.map T.str)) (.ref a):=L2.Dp.tup h (uQ ns)
section
variable {P:uv}{w:xf}{K:PySem.W.Frag}{mg:MG}{base:Heap}{t:Adr}
def Ir(p:Addr)(H:Hp)(Q:VK):Prop:=∀(v:V) (s:St) H',Dp H' s.t v->(∀ B,SOk B s)->s.cnt=1->Off p H H'->Pu H' p->Q v H'
inductive zR (vs:LV) (H:Hp) (Q:VK) (E_:XK):Prop
 | mk (p tl kl dl fl nl:Addr) (ks ds fs ns:LS):vs=[.ref p,.ref tl]->Pu H p->Tls H tl kl dl fl nl ks ds fs ns->Ir p H Q->zR vs H Q E_
theorem G4(D:Defs K mg t):bw P w K mg base CX0 3 t.gG.1 t.gG.2 ["_law_purse_here","_law_tools"] zR:=by
 have Ga:=@rH P w K mg base t D;have Gap:=FN (P:=P) (w:=w) (base:=base) D;have hz:sizeLine=16777216:=ci;refine D.gG.fn.ok cY ‹5› ‹2›
 ·obtain ⟨p,tl,kl,dl,fl,nl,ks,ds,fs,ns,rfl,_⟩:=h;rfl
 ·obtain ⟨p,tl,kl,dl,fl,nl,ks,ds,fs,ns,rfl,hp,ht,q⟩:=h;obtain ⟨k1,k2⟩:=ht.kl1;obtain ⟨d1,d2⟩:=ht.dl1
  refine⟨_,(aA (jx (pv 1) (fL rfl (aY (aJ (i:=2) cY.nd rfl (ue rfl)) (aY (aJ (i:=3) cY.nd rfl (ue rfl)) (aY (aJ (i:=4) cY.nd rfl (ue rfl)) (aY (aJ (i:=5) cY.nd rfl (ue rfl)) eV))))))
   (aA (aK (i:=6) cY.nd rfl (ue rfl) ‹20›)
   (aA (aK (i:=7) cY.nd rfl (ue rfl) (aV aU (pv 2) (aF D.aO Ga ‹1› (by rfl) (aj (pv 0) (aj (aW bC (by rfl) D.dg bY (aj (pv 2) aq)) aq))) ‹4›))
   (aA (aK (i:=8) cY.nd rfl (ue rfl) (aV aU (pv 3) (aF D.aO Ga ‹1› (by rfl) (aj (pv 0) (aj (aW bC (by rfl) D.dg bY (aj (pv 3) aq)) aq))) ‹4›))
   (aA (aK (i:=9) cY.nd rfl (ue rfl) (aV aU (pv 2) (aF D.aO Ga ‹1› (by rfl) (aj (pv 0) (aj (aW bC (by rfl) D.dg bY (aj (pv 2) aq)) aq))) ‹4›))
   (aA (bD (aL ju (pv 6) aC (aQ _))
   (aD (aR (bh (aj aM (aj (pv 7) (aj (pv 8) (aj (pv 9) (aj (aV aU (pv 3) (aF D.aO Ga ‹1› (by rfl) (aj (pv 0) (aj (aW bC (by rfl) D.dg bY (aj (pv 3) aq)) aq))) ‹4›) aq))))))))
   aX)
   (aA (bD (aL dH (pv 6) aC (aQ _))
   (aD (aR (bh (aj aM (aj (pv 7) (aj (pv 8) aq))))))
   aX)
   (aD (aR (bh (aj aM (aj (pv 7) (aj (aF D.gV Gap ‹1› (by rfl) (aj (pv 0) (aj (pv 2) (aj (aV bO (bB (aj aC (aj aC aq))) ‹20› ‹4›) aq)))) aq))))))))))))),?_⟩
  refine⟨_,rfl,tl,_,rfl,Ui ht.t,rfl,_,_,rfl,_,_,rfl,_,_,rfl,_,_,rfl,rfl,?_⟩;refine⟨_,rfl,p,4,rfl,hp,by decide,by decide,fun pick H1 l1 u1 o1 p1=>?_⟩;have t1:=ht.mono (dR hp o1);refine⟨_,rfl,_,rfl,_,rfl,kl,_,rfl,.inr (Ui t1.k),p,_,rfl,p1,by rw [aa]; omega,by rw [aa]; omega,fun r2 H2 l2 u2 o2 p2=>?_⟩;rw [aa] at u2;obtain ⟨x,hx,hxm,_⟩:=dM (ns:=ks) l2 u2;have t2:=t1.mono (dR p1 o2);refine⟨kl,_,_,_,rfl,rfl,Ui t2.k,hx,?_⟩;refine⟨_,rfl,_,rfl,_,rfl,dl,_,rfl,.inr (Ui t2.d),p,_,rfl,p2,by rw [aa]; omega,by rw [aa]; omega,fun r3 H3 l3 u3 o3 p3=>?_⟩;rw [aa] at u3;obtain ⟨y,hy,hym,_⟩:=dM (ns:=ds) l3 u3;have t3:=t2.mono (dR p2 o3);refine⟨dl,_,_,_,rfl,rfl,Ui t3.d,hy,?_⟩;refine⟨_,rfl,_,rfl,_,rfl,kl,_,rfl,.inr (Ui t3.k),p,_,rfl,p3,by rw [aa]; omega,by rw [aa]; omega,fun r4 H4 l4 u4 o4 p4=>?_⟩;rw [aa] at u4;obtain ⟨z,hz',hzm,_⟩:=dM (ns:=ks) l4 u4;have t4:=t3.mono (dR p3 o4);refine⟨kl,_,_,_,rfl,rfl,Ui t4.k,hz',?_⟩;have o04:=((o1.trans o2).trans o3).trans o4;refine⟨_,rfl,_,_,rfl,rfl,_,rfl,fO ‹14› ‹14›⟩
  ·refine⟨_,rfl,_,rfl,_,rfl,_,rfl,_,rfl,_,rfl,dl,_,rfl,.inr (Ui t4.d),p,_,rfl,p4,by rw [aa]; omega,by rw [aa]; omega,fun r5 H5 l5 u5 o5 p5=>?_⟩;rw [aa] at u5;obtain ⟨y',hy',_,_⟩:=dM (ns:=ds) l5 u5;refine⟨dl,_,_,_,rfl,rfl,Ui (t4.mono (dR p4 o5)).d,hy',by show 5<=sizeLine; decide,fun a ha=>?_⟩;refine q _ (.turn x y z y') _ ?_ (fun B=>by rw [SOk]; trivial) (by rw [St.cnt]) ((o04.trans o5).trans (Ul ha)) (p5.au (p5.neN ha));rw [St.t];exact L2.Dp.tup ak (.cons (.str _) (.cons (.str _) (.cons (.str _) (.cons (.str _) ‹13›))))
  refine⟨_,rfl,rfl,_,rfl,fO ‹14› ‹14›⟩
  ·refine⟨_,rfl,_,rfl,by show 3<=sizeLine; decide,fun a ha=>?_⟩;refine q _ (.strip x y) _ ?_ (fun B=>by rw [SOk]; trivial) (by rw [St.cnt]) (o04.trans (Ul ha)) (p4.au (p4.neN ha));rw [St.t];exact L2.Dp.tup ak (.cons (.str _) (.cons (.str _) ‹13›))
  refine⟨_,rfl,_,rfl,_,rfl,by show 2<=sizeLine; decide,fun m hm=>?_⟩;have p5:=p4.au (o:=.lst [.int 3,.int 12]) (p4.neN hm);have mp:m≠p:=(p4.neN hm).symm;have o5:Off p H4 (upd H4 m (.lst [.int 3,.int 12])):=Ul hm;have hm5:(upd H4 m (.lst [.int 3,.int 12])) m=some (.lst [.int 3,.int 12]):=ak;generalize upd H4 m (.lst [.int 3,.int 12])=H5 at p5 o5 hm5;refine⟨_,rfl,p,2,rfl,p5,by decide,by decide,fun r6 H6 l6 u6 o6 p6=>?_⟩;have o06:=(o04.trans o5).trans o6;have t6:=ht.mono (dR hp o06)
  obtain ⟨nm,hnm,n12⟩:∃ nm:Nat,atI [V.int 3,V.int 12] r6=some (.int nm)/\nm<=12:=by
   rcases (by omega:r6=0\/r6=1) with rfl | rfl
   ·exact⟨3,aH (j:=0) rfl,by decide⟩
   ·exact⟨12,aH (j:=1) rfl,by decide⟩
  refine⟨m,_,_,_,rfl,rfl,Uh (o6 m _ mp hm5),hnm,?_⟩;refine⟨p,kl,ks,nm,rfl,p6,.inr t6.k,by omega,by omega,fun qe es H7 hq _ _ _ o7 p7=>?_⟩;refine⟨by show 3<=sizeLine; decide,fun a ha=>?_⟩;refine q _ (.cT x es) _ ?_ (fun B=>by rw [SOk]; trivial) (by rw [St.cnt]) ((o06.trans o7).trans (Ul ha)) (p7.au (p7.neN ha));rw [St.t];exact L2.Dp.tup ak (.cons (.str _) (.cons (.str _) (.cons (xH ((Um ha) _ _ hq)) .nil)))
inductive DQ (vs:LV) (H:Hp) (Q:VK) (E_:XK):Prop
 | mk (p tl kl dl fl nl:Addr) (ks ds fs ns:LS) (h:Int) (pk:Nat):vs=[.ref p,.ref tl,.int h,.int pk]->(h=0\/h=1)->pk<=10->Pu H p->Tls H tl kl dl fl nl ks ds fs ns->Ir p H Q->DQ vs H Q E_
theorem HD:("tell" : Str)∈ones/\("do" : Str)∈ones/\("give" : Str)∈ones/\("throw" : Str)∈ones:=by decide +kernel
theorem K7(D:Defs K mg t):bw P w K mg base CX0 12 t.jd.1 t.jd.2 ["_law_purse_here","_law_tools","_law_home","_law_pick"] DQ:=by
 have Ga:=@rH P w K mg base t D;have V4:=yC (P:=P) (w:=w) (base:=base) D 4;have V3:=yC (P:=P) (w:=w) (base:=base) D 3;have Gaf:=Dr V4 (V3.mono (show 2 * 3+3<=2 * 4+3 by decide));have Gao:=Ay (P:=P) (w:=w) (base:=base) D;have hz:sizeLine=16777216:=ci;refine D.jd.fn.ok dZ ‹5› ‹2›
 ·obtain ⟨p,tl,kl,dl,fl,nl,ks,ds,fs,ns,h,pk,rfl,_⟩:=h;rfl
 ·obtain ⟨p,tl,kl,dl,fl,nl,ks,ds,fs,ns,h,pk,rfl,h01,hpk,hp,ht,q⟩:=h;obtain ⟨k1,k2⟩:=ht.kl1;obtain ⟨f1,f2⟩:=ht.fl1;obtain ⟨n1,n2⟩:=ht.nl1
  refine⟨_,(aA (jx (pv 1) (fL rfl (aY (aJ (i:=4) dZ.nd rfl (ue rfl)) (aY (aJ (i:=5) dZ.nd rfl (ue rfl)) (aY (aJ (i:=6) dZ.nd rfl (ue rfl)) (aY (aJ (i:=7) dZ.nd rfl (ue rfl)) eV))))))
   (aA (aK (i:=8) dZ.nd rfl (ue rfl) (aF D.cu Gaf ‹1› (by rfl) (aj (pv 0) (aj aC (aj (pv 1) (aj (pv 2) aq))))))
   (aA (aK (i:=9) dZ.nd rfl (ue rfl) (aF D.gb Gao ‹1› (by rfl) (aj (pv 0) (aj (pv 1) (aj (pv 2) aq)))))
   (aA (aK (i:=10) dZ.nd rfl (ue rfl) (aV aU (pv 6) (aF D.aO Ga ‹1› (by rfl) (aj (pv 0) (aj (aW bC (by rfl) D.dg bY (aj (pv 6) aq)) aq))) ‹4›))
   (aA (bD (aL ju (pv 3) aC (aQ _))
   (aD (aR (aV bO (bB (aj (bh (aj aM (aj (pv 8) aq))) (aj (bh (aj aM (aj (bh (aj aM (aj (pv 9) (aj (pv 10) aq)))) aq))) (aj (bh (aj aM (aj (pv 8) aq))) aq)))) (pv 3) ‹4›)))
   aX)
   (aA (bD (aL ju (pv 3) aC (aQ _))
   (aD (aR (bh (aj aM (aj (aV aU (pv 7) (aF D.aO Ga ‹1› (by rfl) (aj (pv 0) (aj (aW bC (by rfl) D.dg bY (aj (pv 7) aq)) aq))) ‹4›) (aj (pv 8) aq))))))
   aX)
   (aA (bD (aL ju (pv 3) aC (aQ _))
   (aD (aR (bh (aj aM (aj (pv 9) (aj (pv 10) (aj (aF D.cu Gaf ‹1› (by rfl) (aj (pv 0) (aj aC (aj (pv 1) (aj (pv 2) aq))))) aq)))))))
   aX)
   (aA (bD (aL ju (pv 3) aC (aQ _))
   (aD (aR (aV bO (bB (aj (bh (aj aM (aj (pv 8) aq))) (aj (bh (aj aM (aj (pv 8) aq))) aq))) (bH iW (pv 3) aC) ‹4›)))
   aX)
   (aA (bD (aL dH (pv 3) aC (aQ _))
   (aD (aR (bh (aj aM (aj (pv 9) (aj (pv 10) aq))))))
   aX)
   (aD (aR (bh (aj aM (aj (pv 9) (aj (aV aU (pv 4) (aF D.aO Ga ‹1› (by rfl) (aj (pv 0) (aj (aW bC (by rfl) D.dg bY (aj (pv 4) aq)) aq))) ‹4›) aq))))))))))))))),?_⟩
  refine⟨_,rfl,tl,_,rfl,Ui ht.t,rfl,_,_,rfl,_,_,rfl,_,_,rfl,_,_,rfl,rfl,?_⟩;refine⟨_,rfl,_,rfl,_,rfl,.inl ⟨p,tl,kl,dl,fl,nl,ks,ds,fs,ns,h,rfl,by decide,h01,hp,ht,fun v e H1 dv hv wv o1 p1=>?_⟩⟩;have t1:=ht.mono (dR hp o1);refine⟨_,rfl,_,rfl,_,rfl,p,tl,kl,dl,fl,nl,ks,ds,fs,ns,h,rfl,h01,p1,t1,fun vt et H2 dt hvt wt o2 p2=>?_⟩;have t2:=t1.mono (dR p1 o2);refine⟨_,rfl,_,rfl,_,rfl,fl,_,rfl,.inr (Ui t2.f),p,_,rfl,p2,by rw [aa]; omega,by rw [aa]; omega,fun r3 H3 l3 u3 o3 p3=>?_⟩;rw [aa] at u3;obtain ⟨x,hx,_,_⟩:=dM (ns:=fs) l3 u3;have t3:=t2.mono (dR p2 o3);refine⟨fl,_,_,_,rfl,rfl,Ui t3.f,hx,?_⟩;have o03:=(o1.trans o2).trans o3;have dv3:=dv.mono ((dR p1 o2).trans (dR p2 o3));have dt3:=dt.mono (dR p2 o3);obtain ⟨m1,m2,m3,m4⟩:=HD;have ev:EOk e:=⟨hv,wv⟩;have et4:EOk et:=⟨by omega,wt⟩;clear hp ht o1 o2 o3 p1 p2 t1 t2 dv dt;refine⟨_,rfl,_,_,rfl,rfl,_,rfl,fO ‹14› ‹14›⟩
  ·have hk:pk=0\/pk=1\/pk=2:=by
    have:=eJ hb;omega
   refine⟨_,rfl,by show 2<=sizeLine; decide,fun a4 ha4=>?_⟩;have s4:Same H3 (upd H3 a4 (.tup [.str "tell",v])):=Um ha4;have g4:(upd H3 a4 (.tup [.str "tell",v])) a4=some (.tup [.str "tell",v]):=ak;have q4:=p3.au (o:=.tup [.str "tell",v]) (p3.neN ha4);generalize upd H3 a4 (.tup [.str "tell",v])=H4 at s4 g4 q4;refine⟨_,rfl,_,rfl,by show 3<=sizeLine; decide,fun a5 ha5=>?_⟩;have s5:Same H4 (upd H4 a5 (.tup [.str "get",vt,.str x])):=Um ha5;have g5:(upd H4 a5 (.tup [.str "get",vt,.str x])) a5=some (.tup [.str "get",vt,.str x]):=ak;have q5:=q4.au (o:=.tup [.str "get",vt,.str x]) (q4.neN ha5);generalize upd H4 a5 (.tup [.str "get",vt,.str x])=H5 at s5 g5 q5;refine⟨by show 2<=sizeLine; decide,fun a6 ha6=>?_⟩;have s6:Same H5 (upd H5 a6 (.tup [.str "tell",.ref a5])):=Um ha6;have g6:(upd H5 a6 (.tup [.str "tell",.ref a5])) a6=some (.tup [.str "tell",.ref a5]):=ak;have q6:=q5.au (o:=.tup [.str "tell",.ref a5]) (q5.neN ha6);generalize upd H5 a6 (.tup [.str "tell",.ref a5])=H6 at s6 g6 q6;refine⟨_,rfl,by show 2<=sizeLine; decide,fun a7 ha7=>?_⟩;have s7:Same H6 (upd H6 a7 (.tup [.str "do",v])):=Um ha7;have g7:(upd H6 a7 (.tup [.str "do",v])) a7=some (.tup [.str "do",v]):=ak;have q7:=q6.au (o:=.tup [.str "do",v]) (q6.neN ha7);generalize upd H6 a7 (.tup [.str "do",v])=H7 at s7 g7 q7;refine⟨by show 3<=sizeLine; decide,fun m hm=>?_⟩;have s8:Same H7 (upd H7 m (.lst [.ref a4,.ref a6,.ref a7])):=Um hm;have g8:(upd H7 m (.lst [.ref a4,.ref a6,.ref a7])) m=some (.lst [.ref a4,.ref a6,.ref a7]):=ak;have q8:=q7.au (o:=.lst [.ref a4,.ref a6,.ref a7]) (q7.neN hm);generalize upd H7 m (.lst [.ref a4,.ref a6,.ref a7])=H8 at s8 g8 q8;have s78:=s7.trans s8;have s58:=(s6.trans s78);have s48:=s5.trans s58;have s38:=s4.trans s48;have o08:=o03.trans s38.off;rcases hk with rfl | rfl | rfl
   ·refine⟨_,rfl,m,_,_,_,rfl,rfl,Uh g8,aH (j:=0) rfl,?_⟩;refine q _ (.one "tell" e) _ ?_ (fun B=>by rw [SOk]; exact⟨m1,ev⟩) (by rw [St.cnt]) o08 q8;rw [St.t];exact L2.Dp.tup (s48 _ _ g4) (.cons (.str _) (.cons (dv3.mono (Uj s38)) .nil))
   ·refine⟨_,rfl,m,_,_,_,rfl,rfl,Uh g8,aH (j:=1) rfl,?_⟩;refine q _ (.one "tell" (.get et x)) _ ?_ (fun B=>by rw [SOk]; exact⟨m1,by rw [Ex.dp]; omega,by rw [Ex.wf]; exact wt⟩) (by rw [St.cnt]) o08 q8;rw [St.t,Ex.t];exact L2.Dp.tup (s78 _ _ g6) (.cons (.str _) (.cons (L2.Dp.tup (s58 _ _ g5) (.cons (.str _) (.cons (dt3.mono (Uj s38)) ‹13›))) .nil))
   ·refine⟨_,rfl,m,_,_,_,rfl,rfl,Uh g8,aH (j:=2) rfl,?_⟩;refine q _ (.one "do" e) _ ?_ (fun B=>by rw [SOk]; exact⟨m2,ev⟩) (by rw [St.cnt]) o08 q8;rw [St.t];exact L2.Dp.tup (s8 _ _ g7) (.cons (.str _) (.cons (dv3.mono (Uj s38)) .nil))
  refine⟨_,rfl,_,_,rfl,rfl,_,rfl,fO (fun hb2=>?_) (fun hb2=>?_)⟩
  ·refine⟨_,rfl,_,rfl,_,rfl,nl,_,rfl,.inr (Ui t3.n),p,_,rfl,p3,by rw [aa]; omega,by rw [aa]; omega,fun r4 H4 l4 u4 o4 p4=>?_⟩;rw [aa] at u4;obtain ⟨y,hy,_,_⟩:=dM (ns:=ns) l4 u4;refine⟨nl,_,_,_,rfl,rfl,Ui (t3.mono (dR p3 o4)).n,hy,_,rfl,by show 3<=sizeLine; decide,fun a ha=>?_⟩;refine q _ (.let_ y e) _ ?_ (fun B=>by rw [SOk]; exact ev) (by rw [St.cnt]) ((o03.trans o4).trans (Ul ha)) (p4.au (p4.neN ha));rw [St.t];exact L2.Dp.tup ak (.cons (.str _) (.cons (.str _) (.cons (dv3.mono ((dR p3 o4).trans (Uj (Um ha)))) .nil)))
  refine⟨_,rfl,_,_,rfl,rfl,_,rfl,fO (fun hb3=>?_) (fun hb3=>?_)⟩
  ·refine⟨_,rfl,_,rfl,_,rfl,_,rfl,_,rfl,.inr ⟨p,tl,kl,dl,fl,nl,ks,ds,fs,ns,h,rfl,by decide,h01,p3,t3,fun v' e' H4 dv' hv' wv' o4 p4=>?_⟩⟩;refine⟨by show 4<=sizeLine; decide,fun a ha=>?_⟩;refine q _ (.put et x e') _ ?_ (fun B=>by rw [SOk]; exact⟨et4,by omega,wv'⟩) (by rw [St.cnt]) ((o03.trans o4).trans (Ul ha)) (p4.au (p4.neN ha));rw [St.t];have ta:=Uj (Um (o:=.tup [.str "put",vt,.str x,v']) ha);exact L2.Dp.tup ak (.cons (.str _) (.cons (dt3.mono ((dR p3 o4).trans ta)) (.cons (.str _) (.cons (dv'.mono ta) .nil))))
  refine⟨_,rfl,_,_,rfl,rfl,_,rfl,fO (fun hb4=>?_) (fun hb4=>?_)⟩
  ·have hk:pk=7\/pk=8:=by
    have:=eJ hb4;have hb3:¬ decide ((pk:Int) < 7)=true:=hb3;rw [fg] at hb3;omega
   refine⟨_,rfl,by show 2<=sizeLine; decide,fun a4 ha4=>?_⟩;have s4:Same H3 (upd H3 a4 (.tup [.str "give",v])):=Um ha4;have g4:(upd H3 a4 (.tup [.str "give",v])) a4=some (.tup [.str "give",v]):=ak;have q4:=p3.au (o:=.tup [.str "give",v]) (p3.neN ha4);generalize upd H3 a4 (.tup [.str "give",v])=H4 at s4 g4 q4;refine⟨_,rfl,by show 2<=sizeLine; decide,fun a5 ha5=>?_⟩;have s5:Same H4 (upd H4 a5 (.tup [.str "throw",v])):=Um ha5;have g5:(upd H4 a5 (.tup [.str "throw",v])) a5=some (.tup [.str "throw",v]):=ak;have q5:=q4.au (o:=.tup [.str "throw",v]) (q4.neN ha5);generalize upd H4 a5 (.tup [.str "throw",v])=H5 at s5 g5 q5;refine⟨by show 2<=sizeLine; decide,fun m hm=>?_⟩;have s6:Same H5 (upd H5 m (.lst [.ref a4,.ref a5])):=Um hm;have g6:(upd H5 m (.lst [.ref a4,.ref a5])) m=some (.lst [.ref a4,.ref a5]):=ak;have q6:=q5.au (o:=.lst [.ref a4,.ref a5]) (q5.neN hm);generalize upd H5 m (.lst [.ref a4,.ref a5])=H6 at s6 g6 q6;have s46:=s5.trans s6;have s36:=s4.trans s46;have o06:=o03.trans s36.off;rcases hk with rfl | rfl
   ·refine⟨_,rfl,_,_,rfl,rfl,m,_,_,_,rfl,rfl,Uh g6,aH (j:=0) rfl,?_⟩;refine q _ (.one "give" e) _ ?_ (fun B=>by rw [SOk]; exact⟨m3,ev⟩) (by rw [St.cnt]) o06 q6;rw [St.t];exact L2.Dp.tup (s46 _ _ g4) (.cons (.str _) (.cons (dv3.mono (Uj s36)) .nil))
   ·refine⟨_,rfl,_,_,rfl,rfl,m,_,_,_,rfl,rfl,Uh g6,aH (j:=1) rfl,?_⟩;refine q _ (.one "throw" e) _ ?_ (fun B=>by rw [SOk]; exact⟨m4,ev⟩) (by rw [St.cnt]) o06 q6;rw [St.t];exact L2.Dp.tup (s6 _ _ g5) (.cons (.str _) (.cons (dv3.mono (Uj s36)) .nil))
  refine⟨_,rfl,rfl,_,rfl,fO (fun hb5=>?_) (fun hb5=>?_)⟩
  ·refine⟨_,rfl,_,rfl,by show 3<=sizeLine; decide,fun a ha=>?_⟩;refine q _ (.drop et x) _ ?_ (fun B=>by rw [SOk]; exact et4) (by rw [St.cnt]) (o03.trans (Ul ha)) (p3.au (p3.neN ha));rw [St.t];exact L2.Dp.tup ak (.cons (.str _) (.cons (dt3.mono (Uj (Um ha))) ‹13›))
  ·refine⟨_,rfl,_,rfl,_,rfl,_,rfl,kl,_,rfl,.inr (Ui t3.k),p,_,rfl,p3,by rw [aa]; omega,by rw [aa]; omega,fun r4 H4 l4 u4 o4 p4=>?_⟩;rw [aa] at u4;obtain ⟨y,hy,_,_⟩:=dM (ns:=ks) l4 u4;refine⟨kl,_,_,_,rfl,rfl,Ui (t3.mono (dR p3 o4)).k,hy,by show 3<=sizeLine; decide,fun a ha=>?_⟩;refine q _ (.become et y) _ ?_ (fun B=>by rw [SOk]; exact et4) (by rw [St.cnt]) ((o03.trans o4).trans (Ul ha)) (p4.au (p4.neN ha));rw [St.t];exact L2.Dp.tup ak (.cons (.str _) (.cons (dt3.mono ((dR p3 o4).trans (Uj (Um ha)))) ‹13›))
def lO(p r:Addr)(H H':Hp):Prop:=∀ b o,b≠p->b≠r->H b=some o->H' b=some o
theorem lO.trans(a:lO p r H H1)(b:lO p r H1 H2):lO p r H H2:=fun c o n1 n2 e=>b c o n1 n2 (a c o n1 n2 e)
theorem Off.two(o:L2.Off p H H'):lO p r H H':=fun c u n _ e=>o c u n e
theorem lO.tups{k:Int}(o:lO p r H H')(hp:Pu H p)(hr:H r=some (.lst [.int k])):fB H H':=fun c zs e=>by
 obtain ⟨x1,x2,x3,ep⟩:=hp;exact o c _ (bI e ep ‹8›) (bI e hr ‹8›) e
theorem Oi{k:Int}(hp:Pu H p)(hr:H r=some (.lst [.int k])):r≠p:=by
 obtain ⟨x1,x2,x3,ep⟩:=hp;exact bI hr ep (by intro z; cases z)
inductive Eb (d:Nat) (vs:LV) (H:Hp) (Q:VK) (E_:XK):Prop
 | mk (p tl kl dl fl nl rm:Addr) (ks ds fs ns:LS) (h:Int) (k:Nat):vs=[.ref p,.ref tl,.int h,.int d,.ref rm]->d<=2->(h=0\/h=1)->Pu H p->Tls H tl kl dl fl nl ks ds fs ns->H rm=some (.lst [.int k])->(∀(v:V) (b:List St) H' (k':Nat),Dp H' (.tup (sL b)) v->BOk (d+1) b->gF b+k'<=k->H' rm=some (.lst [.int k'])->lO p rm H H'->Pu H' p->Q v H')->Eb d vs H Q E_
inductive Bq (d:Nat) (vs:LV) (H:Hp) (Q:VK) (E_:XK):Prop
 | mk (p tl kl dl fl nl rm:Addr) (ks ds fs ns:LS) (h:Int) (k pk:Nat):vs=[.ref p,.ref tl,.int h,.int (d+1:Nat),.ref rm,.int pk]->d+1<=2->(h=0\/h=1)->pk<=3->Pu H p->Tls H tl kl dl fl nl ks ds fs ns->H rm=some (.lst [.int k])->(∀(v:V) (st:St) H' (k':Nat),Dp H' st.t v->SOk (BOk (d+1)) st->st.cnt+k'<=k+1->H' rm=some (.lst [.int k'])->lO p rm H H'->Pu H' p->Q v H')->Bq d vs H Q E_
theorem Lz(D:Defs K mg t){k:Nat}(hk:11<=k)(Gaj:bw P w K mg base CX0 k t.cN.1 t.cN.2 ["_law_purse_here","_law_tools","_law_home","_law_deep","_law_room"] (Eb d)):bw P w K mg base CX0 (k+1) t.eX.1 t.eX.2 ["_law_purse_here","_law_tools","_law_home","_law_deep","_law_room","_law_pick"] (Bq d):=by
 have Ga:=@rH P w K mg base t D;have Gaf:=yC (P:=P) (w:=w) (base:=base) D 4;have hz:sizeLine=16777216:=ci;refine D.eX.fn.ok gO ‹5› ‹2›
 ·obtain ⟨p,tl,kl,dl,fl,nl,rm,ks,ds,fs,ns,h,k,pk,rfl,_⟩:=h;rfl
 ·obtain ⟨p,tl,kl,dl,fl,nl,rm,ks,ds,fs,ns,h,k,pk,rfl,hd2,h01,hpk,hp,ht,hrm,q⟩:=h;obtain ⟨n1,n2⟩:=ht.nl1;have e1:((d+1:Nat):Int) - 1=(d:Int):=by omega
  have rp:=Oi hp hrm
  refine⟨_,(aA (aK (i:=6) gO.nd rfl (ue rfl) ‹24›)
   (aA (aK (i:=7) gO.nd rfl (ue rfl) (aF D.cu Gaf ‹1› (by rfl) (aj (pv 0) (aj aC (aj (pv 1) (aj (pv 2) aq))))))
   (aA (aK (i:=8) gO.nd rfl (ue rfl) (aV aU (pv 6) (aF D.aO Ga ‹1› (by rfl) (aj (pv 0) (aj (aW bC (by rfl) D.dg bY (aj (pv 6) aq)) aq))) ‹4›))
   (aA (aK (i:=9) gO.nd rfl (ue rfl) (aF D.cN Gaj ‹1› (by rfl) (aj (pv 0) (aj (pv 1) (aj (pv 2) (aj (bH iW (pv 3) aC) (aj (pv 4) aq)))))))
   (aA (bD (aL dH (pv 5) aC (aQ _))
   (aD (aR (bh (aj aM (aj (pv 7) (aj (pv 9) (aj (aF D.cN Gaj ‹1› (by rfl) (aj (pv 0) (aj (pv 1) (aj (pv 2) (aj (bH iW (pv 3) aC) (aj (pv 4) aq)))))) aq)))))))
   aX)
   (aA (bD (aL dH (pv 5) aC (aQ _))
   (aD (aR (bh (aj aM (aj (aV bO (bB (aj (pv 7) (aj aC aq))) ‹20› ‹4›) (aj (pv 9) aq))))))
   aX)
   (aA (bD (aL dH (pv 5) aC (aQ _))
   (aD (aR (bh (aj aM (aj (aV bO (bB (aj (pv 7) (aj ‹20› aq))) (bK tH (by rfl) D.Dy yX (aj (su uX ‹20› aC (aQ _)) aq)) ‹4›) (aj (pv 9) aq))))))
   aX)
   (aD (aR (bh (aj aM (aj (pv 9) (aj (pv 8) (aj (aF D.cN Gaj ‹1› (by rfl) (aj (pv 0) (aj (pv 1) (aj (pv 2) (aj (bH iW (pv 3) aC) (aj (pv 4) aq)))))) aq)))))))))))))),?_⟩
  refine⟨_,rfl,tl,_,_,_,rfl,rfl,Ui ht.t,aH (j:=3) rfl,?_⟩;refine⟨_,rfl,_,rfl,_,rfl,p,tl,kl,dl,fl,nl,ks,ds,fs,ns,h,rfl,by decide,h01,hp,ht,fun v e H1 dv hv wv o1 p1=>?_⟩;have t1:=ht.mono (dR hp o1);refine⟨_,rfl,_,rfl,_,rfl,nl,_,rfl,.inr (Ui t1.n),p,_,rfl,p1,by rw [aa]; omega,by rw [aa]; omega,fun r2 H2 l2 u2 o2 p2=>?_⟩;rw [aa] at u2;obtain ⟨x,hx,_,_⟩:=dM (ns:=ns) l2 u2;have t2:=t1.mono (dR p1 o2);refine⟨nl,_,_,_,rfl,rfl,Ui t2.n,hx,?_⟩;have rm2:=(o1.trans o2) rm _ rp hrm;refine⟨_,rfl,_,rfl,_,rfl,_,rfl,_,_,rfl,rfl,_,rfl,p,tl,kl,dl,fl,nl,rm,ks,ds,fs,ns,h,k,(by show [V.ref p,V.ref tl,V.int h,V.int (((d+1:Nat):Int) - 1),V.ref rm]=_; rw [e1]),by omega,h01,p2,t2,rm2,fun va a H3 k3 da oka ca rm3 o3 p3=>?_⟩;have tt3:=o3.tups p2 rm2;have t3:=t2.mono tt3;have dv3:=dv.mono ((dR p1 o2).trans tt3);have o03:lO p rm H H3:=(Off.two (o1.trans o2)).trans o3;have ev:EOk e:=⟨hv,wv⟩;clear t1 t2 o1 o2 o3 p1 p2 rm2 tt3 dv hp hrm ht;refine⟨_,rfl,rfl,_,rfl,fO ‹14› ‹14›⟩
  ·refine⟨_,rfl,_,rfl,_,rfl,_,rfl,_,rfl,_,rfl,_,_,rfl,rfl,_,rfl,p,tl,kl,dl,fl,nl,rm,ks,ds,fs,ns,h,k3,(by show [V.ref p,V.ref tl,V.int h,V.int (((d+1:Nat):Int) - 1),V.ref rm]=_; rw [e1]),by omega,h01,p3,t3,rm3,fun vb b H4 k4 db okb cb rm4 o4 p4=>?_⟩;have tt4:=o4.tups p3 rm3;refine⟨by show 4<=sizeLine; decide,fun z hz=>?_⟩;have sz:=Um (o:=.tup [.str "if",v,va,vb]) hz;refine q _ (.if_ e a b) _ k4 ?_ (by rw [SOk]; exact⟨ev,oka,okb⟩) (by rw [St.cnt]; omega) (sz _ _ rm4) ((o03.trans o4).trans (Off.two (Ul hz))) (p4.au (p4.neN hz));rw [St.t];exact L2.Dp.tup ak (.cons (.str _) (.cons (dv3.mono (tt4.trans (Uj sz))) (.cons (da.mono (tt4.trans (Uj sz))) (.cons (db.mono (Uj sz)) .nil))))
  refine⟨_,rfl,rfl,_,rfl,fO (fun hb1=>?_) (fun hb1=>?_)⟩
  ·refine⟨_,rfl,by show 2<=sizeLine; decide,fun m hm=>?_⟩;have s4:Same H3 (upd H3 m (.lst [v,.int 1])):=Um hm;have g4:(upd H3 m (.lst [v,.int 1])) m=some (.lst [v,.int 1]):=ak;have p4:=p3.au (o:=.lst [v,.int 1]) (p3.neN hm);have mp:m≠p:=(p3.neN hm).symm;generalize upd H3 m (.lst [v,.int 1])=H4 at s4 g4 p4;refine⟨_,rfl,p,2,rfl,p4,by decide,by decide,fun r5 H5 l5 u5 o5 p5=>?_⟩;have t35:=(Uj s4).trans (dR p4 o5);have rm5:=o5 rm _ rp (s4 _ _ rm3);have o05:lO p rm H H5:=(o03.trans (Off.two s4.off)).trans (Off.two o5)
   obtain ⟨v',e',hv',dv',ev'⟩:∃ v' e',atI [v,V.int 1] r5=some v'/\Dp H5 (Ex.t e') v'/\EOk e':=by
    rcases (by omega:r5=0\/r5=1) with rfl | rfl
    ·exact⟨v,e,aH (j:=0) rfl,dv3.mono t35,ev⟩
    ·exact⟨.int 1,.num 1,aH (j:=1) rfl,by rw [Ex.t]; exact L2.Dp.int _,by rw [Ex.dp]; decide,by rw [Ex.wf]; trivial⟩
   refine⟨m,_,_,_,rfl,rfl,Uh (o5 m _ mp g4),hv',_,rfl,by show 3<=sizeLine; decide,fun z hz=>?_⟩;have sz:=Um (o:=.tup [.str "while",v',va]) hz;refine q _ (.while_ e' a) _ k3 ?_ (by rw [SOk]; exact⟨ev',oka⟩) (by rw [St.cnt]; omega) (sz _ _ rm5) (o05.trans (Off.two (Ul hz))) (p5.au (p5.neN hz));rw [St.t];exact L2.Dp.tup ak (.cons (.str _) (.cons (dv'.mono (Uj sz)) (.cons (da.mono (t35.trans (Uj sz))) .nil)))
  refine⟨_,rfl,rfl,_,rfl,fO (fun hb2=>?_) (fun hb2=>?_)⟩
  ·refine⟨_,rfl,_,rfl,p,4,rfl,p3,by decide,by decide,fun r4 H4 l4 u4 o4 p4=>?_⟩;refine⟨by show 2<=sizeLine; decide,fun m hm=>?_⟩;have s5:Same H4 (upd H4 m (.lst [v,.int r4])):=Um hm;have g5:(upd H4 m (.lst [v,.int r4])) m=some (.lst [v,.int r4]):=ak;have p5:=p4.au (o:=.lst [v,.int r4]) (p4.neN hm);have mp:m≠p:=(p4.neN hm).symm;generalize upd H4 m (.lst [v,.int r4])=H5 at s5 g5 p5;refine⟨_,rfl,p,3,rfl,p5,by decide,by decide,fun r6 H6 l6 u6 o6 p6=>?_⟩;have t36:=(dR p3 o4).trans ((Uj s5).trans (dR p5 o6));have rm6:=o6 rm _ rp (s5 _ _ (o4 rm _ rp rm3));have o06:lO p rm H H6:=((o03.trans (Off.two o4)).trans (Off.two s5.off)).trans (Off.two o6);have hm6:=o6 m _ mp g5
   obtain ⟨v',e',hv',dv',ev'⟩:∃ v' e',atI [v,V.int r4] (if decide (0 < r6)=true then 1 else 0)=some v'/\Dp H6 (Ex.t e') v'/\EOk e':=by
    by_cases hc:0 < r6
    ·rw [dC (bg hc)];exact⟨.int r4,.num r4,aH (j:=1) rfl,by rw [Ex.t]; exact L2.Dp.int _,by rw [Ex.dp]; decide,by rw [Ex.wf]; trivial⟩
    ·rw [cK (by rw [fg]; exact hc)];exact⟨v,e,aH (j:=0) rfl,dv3.mono t36,ev⟩
   refine⟨_,_,rfl,rfl,.inr ⟨decide (0 < r6),rfl,?_⟩⟩;refine⟨m,_,_,_,rfl,rfl,Uh hm6,hv',_,rfl,by show 3<=sizeLine; decide,fun z hz=>?_⟩;have sz:=Um (o:=.tup [.str "repeat",v',va]) hz;refine q _ (.repeat_ e' a) _ k3 ?_ (by rw [SOk]; exact⟨ev',oka⟩) (by rw [St.cnt]; omega) (sz _ _ rm6) (o06.trans (Off.two (Ul hz))) (p6.au (p6.neN hz));rw [St.t];exact L2.Dp.tup ak (.cons (.str _) (.cons (dv'.mono (Uj sz)) (.cons (da.mono (t36.trans (Uj sz))) .nil)))
  ·refine⟨_,rfl,_,rfl,_,rfl,_,rfl,_,rfl,_,rfl,_,_,rfl,rfl,_,rfl,p,tl,kl,dl,fl,nl,rm,ks,ds,fs,ns,h,k3,(by show [V.ref p,V.ref tl,V.int h,V.int (((d+1:Nat):Int) - 1),V.ref rm]=_; rw [e1]),by omega,h01,p3,t3,rm3,fun vb b H4 k4 db okb cb rm4 o4 p4=>?_⟩;have tt4:=o4.tups p3 rm3;refine⟨by show 4<=sizeLine; decide,fun z hz=>?_⟩;have sz:=Um (o:=.tup [.str "try",va,.str x,vb]) hz;refine q _ (.try_ a x b) _ k4 ?_ (by rw [SOk]; exact⟨oka,okb⟩) (by rw [St.cnt]; omega) (sz _ _ rm4) ((o03.trans o4).trans (Off.two (Ul hz))) (p4.au (p4.neN hz));rw [St.t];exact L2.Dp.tup ak (.cons (.str _) (.cons (da.mono (tt4.trans (Uj sz))) (.cons (.str _) (.cons (db.mono (Uj sz)) .nil))))
theorem Ba(b:List St):∀ a:List St,gF (a++b)=gF a+gF b
 | []=>by rw [gF,qi]; rfl
 | s::a=>by rw [cE,gF,gF,Ba b a,Nat.add_assoc]
theorem Ii(s:St):gF [s]=s.cnt:=by rw [gF,gF]; rfl
theorem LQ{G:Prop}(S:Hp->Prop){NX:Hp->Prop}(use:(∀ H3,S H3->NX H3)->G)(rest:∀ H3,S H3->NX H3):G:=use rest
def MdS(H:Hp)(p tl rm l:Addr)(h:Int)(d k i:Nat)(pick:Int)(c:Prop)(σ:L2.St)(H6:Hp):Prop:=∃(e:Nat) (b:List St) (ys:LV) (k':Nat) (v6:OV),e<=1/\(e=1->c)/\σ=[some (.ref p),some (.ref tl),some (.int h),some (.int d),some (.ref rm),some (.ref l),v6,some (.int pick)]/\H6 l=some (.lst ys)/\DpL H6 (sL b) ys/\(∀ s∈b,SOk (BOk d) s)/\b.length<=i+e/\gF b+k'+1<=k+e/\H6 rm=some (.lst [.int k'])/\lO p rm H H6/\Pu H6 p
theorem Bl{H6 H7:Hp}{tl rm l:Addr}{h:Int}{k k' k'':Nat}{pick:Int}{c:Prop}{b:List St}{st:St}{v6:OV}(lp:l≠p)(lr:l≠rm)(lH:H l=none)(g6:H6 l=some (.lst ys))(dys:DpL H6 (sL b) ys)(okb:∀ s∈b,SOk (BOk d) s)(hbl:b.length<=i)(hcn:gF b+k'+1<=k)(rm6:H6 rm=some (.lst [.int k']))(o06:lO p rm H H6)(p6:Pu H6 p)
  (dv:Dp H7 st.t v) (oks:SOk (BOk d) st) (hc:st.cnt+k''<=k'+1) (rm7:H7 rm=some (.lst [.int k''])) (o7:lO p rm H6 H7) (p7:Pu H7 p) (hcc:c):MdS H p tl rm l h d k i pick c [some (.ref p),some (.ref tl),some (.int h),some (.int d),some (.ref rm),some (.ref l),v6,some (.int pick)] (upd H7 l (.lst (ys++[v]))):=by
 have g7:=o7 l _ lp lr g6;have tu:fB H7 (upd H7 l (.lst (ys++[v]))):=fun c zs e=>by rw [au (bI e g7 fun z=>nomatch z)]; exact e
 refine⟨1,b++[st],ys++[v],k'',v6,am _,fun _=>hcc,rfl,ak,?_,fun s hs=>?_,by rw [ae]; show _+1<=_; omega,by rw [Ba,Ii]; omega,by rw [au lr.symm]; exact rm7,fun b o n1 n2 e=>by rw [au (aB e lH)]; exact(o06.trans o7) b o n1 n2 e,p7.au lp.symm⟩
 ·rw [nW,az,<- nW];exact(dys.mono ((o7.tups p6 rm6).trans tu)).append (.cons (dv.mono tu) .nil)
 ·rcases dP.mp hs with hs | hs
  ·exact okb s hs
  ·rw [bS.mp hs]; exact oks
theorem Jd(D:Defs K mg t){k:Nat}(hk:12<=k)(Gbk:bw P w K mg base CX0 k t.eX.1 t.eX.2 ["_law_purse_here","_law_tools","_law_home","_law_deep","_law_room","_law_pick"] (fun vs H Q E=>0 < d/\Bq (d - 1) vs H Q E)):bw P w K mg base CX0 (k+1) t.cN.1 t.cN.2 ["_law_purse_here","_law_tools","_law_home","_law_deep","_law_room"] (Eb d):=by
 have Ga:=@rH P w K mg base t D;have Gbl:=G4 (P:=P) (w:=w) (base:=base) D;have Gax:=K7 (P:=P) (w:=w) (base:=base) D;have hz:sizeLine=16777216:=ci;refine D.cN.fn.ok jN ‹5› ‹2›
 ·obtain ⟨p,tl,kl,dl,fl,nl,rm,ks,ds,fs,ns,h,k,rfl,_⟩:=h;rfl
 ·obtain ⟨p,tl,kl,dl,fl,nl,rm,ks,ds,fs,ns,h,k,rfl,hd2,h01,hp,ht,hrm,q⟩:=h;have rp:=Oi hp hrm
  refine⟨_,(aA (aK (i:=5) jN.nd rfl (ue rfl) (bB aq))
   (aA (dB dQ rfl (mQ rfl D.rD (aj (aF D.aO Ga ‹1› (by rfl) (aj (pv 0) (aj (aV bO (bB (aj aC (aj aC (aj aC aq)))) (bH iW aC (pv 3)) ‹4›) aq))) aq)) (aJ (i:=6) jN.nd rfl (ue rfl))
   (aA (aK (i:=7) jN.nd rfl (ue rfl) ‹20›)
   (aD (bD (aL uX (aV bO (pv 4) aC ‹4›) aC (aQ _))
   (aA (jx (bH iW (aV bO (pv 4) aC ‹4›) aC) (sY (pv 4) aC set_list))
   (gw (bD (aL ju (pv 7) aC (aQ _))
   (aD (aP (eO br cw cy bT (pv 5) (aj (aF D.gG Gbl ‹1› (by rfl) (aj (pv 0) (aj (pv 1) aq))) aq))))
   aX)
   (gw (bD (Ug (sZ (K4 Nu ju aC (pv 7) aC) (pO (aL uX (pv 3) aC (aQ _)))))
   (aD (aP (eO br cw cy bT (pv 5) (aj (aF D.eX Gbk ‹1› (by rfl) (aj (pv 0) (aj (pv 1) (aj (pv 2) (aj (pv 3) (aj (pv 4) (aj (aV bO (bB (aj aC (aj aC (aj aC (aj aC (aj aC (aj aC (aj aC aq)))))))) (bH iW (pv 7) aC) ‹4›) aq))))))) aq))))
   aX)
   (aD (bD (Ug (ug (aL Nt (pv 7) aC (aQ _)) (pB (Ug (sZ (aL Nu aC (pv 7) (aQ _)) (pO (aL dH (pv 3) aC (aQ _))))))))
   (aD (aP (eO br cw cy bT (pv 5) (aj (aF D.jd Gax ‹1› (by rfl) (aj (pv 0) (aj (pv 1) (aj (pv 2) (aj (aV bO (bB (aj (bH iW (pv 7) aC) (aj (bH iW (pv 7) aC) aq))) (bK tH (by rfl) D.Dy yX (aj (su ju (pv 7) aC (aQ _)) aq)) ‹4›) aq))))) aq))))
   aX)))))
   aX))))
   (aD (aR (bK bM (by rfl) D.cJ bR (aj (pv 5) aq)))))),?_⟩
  refine⟨bn _,fun l hl=>?_⟩;have lp:l≠p:=(hp.neN hl).symm;have lr:l≠rm:=(aB hrm hl).symm;have s1:Same H (upd H l (.lst [])):=Um hl;have g1:(upd H l (.lst [])) l=some (.lst []):=ak;have p1:=hp.au (o:=.lst []) (hp.neN hl);generalize upd H l (.lst [])=H1 at s1 g1 p1;refine⟨_,rfl,by show 3<=sizeLine; decide,fun m hm=>?_⟩;have mp:m≠p:=(p1.neN hm).symm;have s2:=s1.trans (Um (o:=.lst [.int 6,.int 5,.int 4]) hm);have g2:=(Um (o:=.lst [.int 6,.int 5,.int 4]) hm) l _ g1;have m2:(upd H1 m (.lst [.int 6,.int 5,.int 4])) m=some (.lst [.int 6,.int 5,.int 4]):=ak;have p2:=p1.au (o:=.lst [.int 6,.int 5,.int 4]) (p1.neN hm);generalize upd H1 m (.lst [.int 6,.int 5,.int 4])=H2 at s2 g2 p2 m2
  obtain ⟨c,hc,hc6⟩:∃ c:Nat,atI [V.int 6,V.int 5,V.int 4] (2 - (d:Int))=some (.int c)/\1<=c/\c<=6:=by
   rcases (by omega:d=0\/d=1\/d=2) with rfl | rfl | rfl
   ·exact⟨4,aH (j:=2) rfl,by decide⟩
   ·exact⟨5,aH (j:=1) rfl,by decide⟩
   ·exact⟨6,aH (j:=0) rfl,by decide⟩
  refine⟨_,rfl,_,_,rfl,rfl,m,_,_,_,rfl,rfl,Uh m2,hc,p,c,rfl,p2,by omega,by omega,fun r3 H3 l3 u3 o3 p3=>?_⟩;refine⟨r3,rfl,by omega,by omega,?_⟩;have g3:=o3 l _ lp g2;have o03:lO p rm H H3:=(Off.two s2.off).trans (Off.two o3);have rm3:=o3 rm _ rp (s2 _ _ hrm)
  refine ni (lo:=0) (n:=r3.toNat) (fun i σ H4=>∃(b:List St) (ys:LV) (k':Nat) (v6 v7:OV),σ=[some (.ref p),some (.ref tl),some (.int h),some (.int d),some (.ref rm),some (.ref l),v6,v7]/\H4 l=some (.lst ys)/\DpL H4 (sL b) ys/\(∀ s∈b,SOk (BOk d) s)/\b.length<=i/\gF b+k'<=k/\H4 rm=some (.lst [.int k'])/\lO p rm H H4/\Pu H4 p)
   ⟨[],[],k,_,_,rfl,g3,by rw [sL]; exact .nil,(fun s hs=>nomatch hs),am _,by rw [gF]; omega,rm3,o03,p3⟩ ?_ ?_
  ·rintro i σ H4 hi ⟨b,ys,k',v6,v7,rfl,g4,dys,okb,hbl,hcn,rm4,o04,p4⟩;refine⟨_,rfl,p,23,rfl,p4,by decide,by decide,fun pick H5 l5 u5 o5 p5=>?_⟩;have g5:=o5 l _ lp g4;have rm5:=o5 rm _ rp rm4;have o05:lO p rm H H5:=o04.trans (Off.two o5);have dys5:=dys.mono (dR p4 o5);have yl:=dys.length;rw [nW,aa] at yl;refine⟨_,rfl,rm,_,_,_,rfl,rfl,Uh rm5,aH (j:=0) rfl,_,_,rfl,rfl,_,rfl,fO ‹14› ‹14›⟩;rotate_left
   ·exact⟨b,ys,k',_,_,rfl,g5,dys5,okb,by omega,hcn,rm5,o05,p5⟩
   have hb0:0 < k':=by
    have:=eJ hb;omega
   refine⟨_,rfl,rm,_,_,_,rfl,rfl,Uh rm5,aH (j:=0) rfl,_,_,rfl,rfl,_,rfl,rm,_,0,0,rfl,rfl,rm5,rfl,?_⟩
   have e6:(upd H5 rm (.lst (List.set [V.int (k':Int)] 0 (V.int ((k':Int) - 1)))))=upd H5 rm (.lst [.int ((k' - 1:Nat):Int)]):=by
    rw [show ((k' - 1:Nat):Int)=(k':Int) - 1 by omega];rfl
   have g6:(upd H5 rm (.lst [.int ((k' - 1:Nat):Int)])) l=some (.lst ys):=by rw [au lr]; exact g5
   have rm6:(upd H5 rm (.lst [.int ((k' - 1:Nat):Int)])) rm=some (.lst [.int ((k' - 1:Nat):Int)]):=ak;have p6:Pu (upd H5 rm (.lst [.int ((k' - 1:Nat):Int)])) p:=p5.au rp.symm;have o56:lO p rm H5 (upd H5 rm (.lst [.int ((k' - 1:Nat):Int)])):=fun c o _ n e=>by rw [au n]; exact e
   show JX _ _ _ _ (upd H5 rm (.lst (List.set [V.int (k':Int)] 0 (V.int ((k':Int) - 1)))));rw [e6];generalize upd H5 rm (.lst [.int ((k' - 1:Nat):Int)])=H6 at g6 rm6 p6 o56;have o06:=o05.trans o56;have dys6:=dys5.mono (o56.tups p5 rm5);have t6:=ht.mono (o06.tups hp hrm);clear e6 o56 o05 dys5 dys g5 rm5 p5 o5 g4 rm4 p4 o04;refine⟨MdS H p tl rm l h d k i pick (pick < 5),?_,?_⟩
   ·refine⟨_,rfl,_,_,rfl,rfl,_,rfl,fO (fun hc=>?_) (fun hc=>?_)⟩
    ·have hc:pick < 5:=eJ hc;refine⟨_,rfl,.inl ⟨rfl,_,Uh g6⟩,_,rfl,_,rfl,p,tl,kl,dl,fl,nl,ks,ds,fs,ns,rfl,p6,t6,fun v st H7 dv oks cn o7 p7=>?_⟩;refine⟨l,ys,v,rfl,rfl,o7 l _ lp g6,by omega,?_⟩;exact Bl lp lr hl g6 dys6 okb hbl ‹23› rm6 o06 p6 dv (oks _) ‹23› (o7 rm _ rp rm6) (Off.two o7) p7 hc
    ·exact⟨0,b,ys,k' - 1,_,by decide,‹8›,rfl,g6,dys6,okb,by omega,by omega,rm6,o06,p6⟩
   clear g6 dys6 okb hbl hcn rm6 o06 p6 t6 hb hb0 yl;rintro _ H7 ⟨e,b,ys,k',v6,he,hec,rfl,g7,dys7,okb,hbl,hcn,rm7,o07,p7⟩;have t7:=ht.mono (o07.tups hp hrm);have yl:=dys7.length;rw [nW,aa] at yl;refine⟨MdS H p tl rm l h d k i pick (pick < 5\/(pick < 12/\0 < d)),?_,?_⟩
   ·have skip:MdS H p tl rm l h d k i pick (pick < 5\/(pick < 12/\0 < d)) [some (.ref p),some (.ref tl),some (.int h),some (.int d),some (.ref rm),some (.ref l),v6,some (.int pick)] H7:=⟨e,b,ys,k',v6,he,fun z=>.inl (hec z),rfl,g7,dys7,okb,hbl,hcn,rm7,o07,p7⟩;refine⟨_,rfl,_,_,rfl,rfl,_,rfl,fO (fun h5=>?_) (fun h5=>⟨_,rfl,iG (iG skip)⟩)⟩;refine⟨_,_,rfl,rfl,_,rfl,fO (fun h12=>?_) (fun h12=>iG skip)⟩;refine⟨_,rfl,_,_,rfl,rfl,_,rfl,fO (fun hd=>?_) (fun hd=>skip)⟩;have h5:5<=pick:=eJ h5;have h12:pick < 12:=eJ h12
    have hd:0 < d:=by
     have:=eJ hd;omega
    have e0:e=0:=by
     rcases Nat.le_one_iff_eq_zero_or_eq_one.mp he with h | h
     ·exact h
     ·have:=hec h;omega
    subst e0;refine⟨_,rfl,.inl ⟨rfl,_,Uh g7⟩,_,rfl,_,rfl,_,rfl,_,rfl,_,rfl,by show 7<=sizeLine; decide,fun m hm=>?_⟩;have s8:Same H7 (upd H7 m (.lst [.int 3,.int 3,.int 2,.int 0,.int 2,.int 1,.int 3])):=Um hm;have m8:(upd H7 m (.lst [.int 3,.int 3,.int 2,.int 0,.int 2,.int 1,.int 3])) m=some (.lst (([3,3,2,0,2,1,3]:List Nat).map (fun z:Nat=>V.int (z:Int)))):=ak;have p8:=p7.au (o:=.lst [.int 3,.int 3,.int 2,.int 0,.int 2,.int 1,.int 3]) (p7.neN hm);generalize upd H7 m (.lst [.int 3,.int 3,.int 2,.int 0,.int 2,.int 1,.int 3])=H8 at s8 m8 p8;obtain ⟨pv,hpv,hpm,_⟩:=sX (xs:=([3,3,2,0,2,1,3]:List Nat).map (fun z:Nat=>V.int (z:Int))) (i:=pick - 5) ‹23› (by show pick - 5 < 7; omega);obtain ⟨pk,pkm,rfl⟩:=eA.mp hpm
    have pk3:pk<=3:=by
     have:∀ z∈([3,3,2,0,2,1,3]:List Nat),z<=3:=by decide
     exact this pk pkm
    refine⟨_,rfl,_,_,rfl,rfl,m,_,_,_,rfl,rfl,Uh m8,hpv,?_⟩;refine⟨hd,p,tl,kl,dl,fl,nl,rm,ks,ds,fs,ns,h,k',pk,(by rw [show d - 1+1=d by omega]; rfl),by omega,h01,pk3,p8,t7.mono (Uj s8),s8 _ _ rm7,fun v st H9 k9 dv oks cn rm9 o9 p9=>?_⟩;have o79:lO p rm H7 H9:=(Off.two s8.off).trans o9;rw [show d - 1+1=d by omega] at oks;refine⟨l,ys,v,rfl,rfl,o79 l _ lp lr g7,by omega,?_⟩;exact Bl lp lr hl g7 dys7 okb ‹23› ‹23› rm7 o07 p7 dv oks cn rm9 o79 p9 (.inr ⟨h12,hd⟩)
   clear dys7 okb hbl hcn t7 yl hec g7 rm7 o07 p7 he;clear b ys k' v6 e;rintro _ H8 ⟨e,b,ys,k',v6,he,hec,rfl,g8,dys8,okb,hbl,hcn,rm8,o08,p8⟩;have t8:=ht.mono (o08.tups hp hrm);have yl:=dys8.length;rw [nW,aa] at yl;have skip:∃(b:List St) (ys:LV) (k':Nat) (v6' v7':OV),[some (.ref p),some (.ref tl),some (.int h),some (.int d),some (.ref rm),some (.ref l),v6,some (.int pick)]=[some (.ref p),some (.ref tl),some (.int h),some (.int d),some (.ref rm),some (.ref l),v6',v7']/\H8 l=some (.lst ys)/\DpL H8 (sL b) ys/\(∀ s∈b,SOk (BOk d) s)/\b.length<=i+1/\gF b+k'<=k/\H8 rm=some (.lst [.int k'])/\lO p rm H H8/\Pu H8 p:=⟨b,ys,k',_,_,rfl,g8,dys8,okb,by omega,by omega,rm8,o08,p8⟩
   by_cases hpl:12<=pick\/(5<=pick/\d=0)
   rotate_left
   ·refine⟨_,rfl,_,_,rfl,rfl,_,rfl,bF (by rw [fg]; omega) ?_⟩;refine⟨_,rfl,_,_,rfl,rfl,_,rfl,fO (fun h5=>?_) (fun h5=>iG skip)⟩;have h5:5<=pick:=eJ h5;refine⟨_,rfl,rfl,_,rfl,bF (by rw [fg]; intro z; injection z with z; omega) skip⟩
   have e0:e=0:=by
    rcases Nat.le_one_iff_eq_zero_or_eq_one.mp he with h | h
    ·exact h
    ·have:=hec h;omega
   subst e0;apply LQ (fun H'=>H8=H')
   case use=>
    intro rest
    by_cases h12:12<=pick
    ·refine⟨_,rfl,_,_,rfl,rfl,_,rfl,cG (bg h12) (jQ ?_)⟩;exact rest H8 rfl
    ·refine⟨_,rfl,_,_,rfl,rfl,_,rfl,bF (by rw [fg]; exact h12) ?_⟩;refine⟨_,rfl,_,_,rfl,rfl,_,rfl,cG (bg ‹23›) ?_⟩;refine⟨_,rfl,rfl,_,rfl,cG (bg (by rw [show d=0 by omega]; rfl)) ?_⟩;exact rest H8 rfl
   case rest=>
   rintro _ rfl;refine⟨_,rfl,.inl ⟨rfl,_,Uh g8⟩,_,rfl,_,rfl,_,rfl,_,rfl,_,_,rfl,rfl,_,rfl,_,_,rfl,rfl,by show 2<=sizeLine; decide,fun m hm=>?_⟩;have s9:Same H8 (upd H8 m (.lst [.int (pick - 12),.int (pick - 5)])):=Um hm;have m9:(upd H8 m (.lst [.int (pick - 12),.int (pick - 5)])) m=some (.lst [.int (pick - 12),.int (pick - 5)]):=ak;have p9:=p8.au (o:=.lst [.int (pick - 12),.int (pick - 5)]) (p8.neN hm);generalize upd H8 m (.lst [.int (pick - 12),.int (pick - 5)])=H9 at s9 m9 p9
   obtain ⟨pk,hpk,pk10⟩:∃ pk:Nat,atI [V.int (pick - 12),V.int (pick - 5)] (if decide (pick < 12)=true then 1 else 0)=some (.int pk)/\pk<=10:=by
    by_cases hc:pick < 12
    ·rw [dC (bg hc)];exact⟨(pick - 5).toNat,by rw [mf ‹23›]; exact aH (j:=1) rfl,by omega⟩
    ·rw [cK (by rw [fg]; exact hc)];exact⟨(pick - 12).toNat,by rw [mf ‹23›]; exact aH (j:=0) rfl,by omega⟩
   refine⟨_,rfl,_,_,rfl,rfl,.inr ⟨_,rfl,m,_,_,_,rfl,rfl,Uh m9,hpk,?_⟩⟩;refine⟨p,tl,kl,dl,fl,nl,ks,ds,fs,ns,h,pk,rfl,h01,pk10,p9,t8.mono (Uj s9),fun v st H10 dv oks cn o10 p10=>?_⟩;have o810:lO p rm H8 H10:=(Off.two s9.off).trans (Off.two o10);have rm10:=o10 rm _ rp (s9 _ _ rm8);refine⟨l,ys,v,rfl,rfl,o810 l _ lp lr g8,by omega,?_⟩;obtain ⟨e,b',ys',k'',v6',he',_,ee,g',d',ok',bl',cn',r',o',p'⟩:=Bl (tl:=tl) (h:=h) (i:=i) (pick:=pick) (v6:=v6) (c:=True) lp lr hl g8 dys8 okb ‹23› ‹23› rm8 o08 p8 dv (oks _) ‹23› rm10 o810 p10 trivial;exact⟨b',ys',k'',_,_,rfl,g',d',ok',by omega,by omega,r',o',p'⟩
  ·rintro σ H4 ⟨b,ys,k',v6,v7,rfl,g4,dys,okb,hbl,hcn,rm4,o04,p4⟩;refine⟨_,rfl,l,_,rfl,.inl ⟨Uh g4,fun z hz=>?_⟩⟩;have sz:=Um (o:=.tup ys) hz;exact q _ b _ k' (L2.Dp.tup ak (dys.mono (Uj sz))) (by rw [BOk]; exact⟨by omega,okb⟩) hcn (sz _ _ rm4) (o04.trans (Off.two (Ul hz))) (p4.au (p4.neN hz))
theorem zE(D:Defs K mg t):∀ d:Nat,bw P w K mg base CX0 (2 * d+13) t.cN.1 t.cN.2 ["_law_purse_here","_law_tools","_law_home","_law_deep","_law_room"] (Eb d)
 | 0=>Jd D (am _) ((qw fun _ _ _ _ h=>absurd h.1 (iN _)).mono (bn _))
 | d+1=>by
  have h:=zE D d;exact Jd D (k:=2 * d+14) ‹23› ((Lz D ‹23› h).imp fun _ _ _ _ h=>h.2)
def qN(ds:LS)(x:Str):LS:=if x∈ds then ds else ds++[x]
def firsts(xs:LS):LS:=xs.foldl qN []
theorem pI(xs:LS)(x:Str):firsts (xs++[x])=qN (firsts xs) x:=by
 unfold firsts;rw [List.foldl_append];rfl
theorem Jf{ds:LS}{x y:Str}:y∈qN ds x↔y∈ds\/y=x:=by
 unfold qN;split
 ·constructor
  ·exact .inl
  ·rintro (h | rfl)
   ·exact h
   ·assumption
 ·rw [dP,bS]
theorem wK(y:Str):∀(xs ds:LS),y∈xs.foldl qN ds↔y∈ds\/y∈xs
 | [],ds=>by
  constructor
  ·exact .inl
  ·rintro (h | h)
   ·exact h
   ·cases h
 | x::xs,ds=>by
  rw [List.foldl_cons,wK y xs,Jf,bc,or_assoc]
theorem nq{xs:LS}{y:Str}:y∈firsts xs↔y∈xs:=by
 unfold firsts;rw [wK];constructor
 ·rintro (h | h)
  ·cases h
  ·exact h
 ·exact .inr
theorem zT(ds:LS)(x:Str):(qN ds x).length<=ds.length+1:=by
 unfold qN;split
 ·omega
 ·rw [ae]; exact am _
def j6:Nat->LS->LK0
 | _,[]=>[]
 | i,x::r=>(.inr x,.int ((i:Int)+1))::j6 (i+1) r
theorem mG:∀(i:Nat) (ds:LS),(j6 i ds).length=ds.length
 | _,[]=>rfl
 | i,x::r=>by rw [j6,ar,ar,mG]
theorem qY(x:Str):∀(i:Nat) (ds:LS),j6 i (ds++[x])=j6 i ds++[(.inr x,.int (1+((i+ds.length:Nat):Int)))]
 | i,[]=>by
  show [((.inr x:Key),V.int ((i:Int)+1))]=[((.inr x:Key),V.int (1+((i+0:Nat):Int)))];rw [Nat.add_zero,Int.add_comm]
 | i,y::r=>by
  rw [cE,j6,j6,qY x (i+1) r,cE,ar];rw [show i+1+r.length=i+(r.length+1) by omega]
theorem ou{x:Str}:∀(i:Nat) (ds:LS),x ∉ ds->cZ (j6 i ds) (.inr x)=none
 | _,[],_=>rfl
 | i,y::r,h=>by
  rw [bc,qB] at h;rw [j6,bZ (p:=((.inr y:Key),V.int ((i:Int)+1))) (by intro z; injection z with z; exact h.1 z.symm)];exact ou (i+1) r h.2
theorem qH{x:Str}:∀(i:Nat) (ds:LS),x∈ds->cZ (j6 i ds) (.inr x)=some (.int (1+((i+ds.idxOf x:Nat):Int)))
 | i,y::r,h=>by
  by_cases e:y=x
  ·subst e;rw [j6,dF (p:=((.inr y:Key),V.int ((i:Int)+1))) rfl,List.idxOf_cons_self,Nat.add_zero,Int.add_comm]
  ·have h':x∈r:=(bc.mp h).resolve_left fun z=>e z.symm;rw [j6,bZ (p:=((.inr y:Key),V.int ((i:Int)+1))) (by intro z; injection z with z; exact e z),qH (i+1) r h',List.idxOf_cons,show (y == x)=false from i9.mpr e];show _=some (V.int (1+((i+(r.idxOf x+1):Nat):Int)));rw [show i+1+r.idxOf x=i+(r.idxOf x+1) by omega]
def fN(names:LS)(x:Str):Int:=1+(((firsts names).idxOf x:Nat):Int)
theorem Ep{names:LS}{x:Str}(h:x∈names):cZ (j6 0 (firsts names)) (.inr x)=some (.int (fN names x)):=by
 rw [qH 0 _ (nq.mpr h),qi];rfl
inductive Oc (m:Nat) (vs:LV) (H:Hp) (Q:VK) (E_:XK):Prop
 | mk (a:Addr) (v:V) (ps:LS) (b:List St):vs=[.ref a,v]->H a=some (.tup (ps.map V.str))->Dp H (.tup (sL b)) v->BOk m b->ps.length<=100->(nmB b).length<=100000->(∀(d:Addr) H',H d=none->H' d=some (.dK (j6 0 (firsts (ps++nmB b))))->Same H H'->Q (.ref d) H')->Oc m vs H Q E_
theorem PJ(D:Defs K mg t)(GL:Glb P w K mg t)(m:Nat):bw P w K mg base CX0 (2 * m+9) t.fY.1 t.fY.2 ["params","block"] (Oc m):=by
 have hz:sizeLine=16777216:=ci;have Gam:=uo (P:=P) (w:=w) (base:=base) D GL m;refine D.fY.fn.ok jX ‹5› ‹2›
 ·obtain ⟨a,v,ps,b,rfl,_⟩:=h;rfl
 ·obtain ⟨a,v,ps,b,rfl,ha,dv,hB,hpl,hbl,q⟩:=h
  refine⟨_,(aA (aK (i:=2) jX.nd rfl (ue rfl) pG)
   (aA (dB dQ rfl (fM (bH iC (bK qT (by rfl) D.Bo yQ (aj (pv 0) aq)) (aF D.eE Gam ‹1› (by rfl) (aj (pv 1) aq)))) (aJ (i:=3) jX.nd rfl (ue rfl))
   (aD (bD (vq (pU (gD hr) (pv 3) (pv 2)))
   (aD (nU (gD hr) (pv 2) (pv 3) (bH jz aC (aW xq (by rfl) D.dg bY (aj (pv 2) aq))) rfl))
   aX)))
   (aD (aR (pv 2))))),?_⟩
  intro d hd;have sd:∀ o,Same H (upd H d o):=fun o=>Um hd;have hdd:(upd H d (.dK [])) d=some (.dK []):=ak;refine⟨_,rfl,a,_,rfl,.inr (Ui (sd _ a _ ha)),fun l1 hl1=>?_⟩;have s1:=(sd (.dK [])).trans (Um (o:=.lst (ps.map V.str)) hl1);have hd1:=(Um (o:=.lst (ps.map V.str)) hl1) d _ hdd;have hl11:(upd (upd H d (.dK [])) l1 (.lst (ps.map V.str))) l1=some (.lst (ps.map V.str)):=ak;generalize upd (upd H d (.dK [])) l1 (.lst (ps.map V.str))=H1 at s1 hd1 hl11;refine⟨_,rfl,v,b,rfl,dv.mono (Uj s1),hB,hbl,fun l2 H2 hn2 hl2 s2=>?_⟩;refine⟨l1,l2,_,_,rfl,rfl,s2 l1 _ hl11,hl2,by rw [aa,aa]; omega,fun l3 hl3=>?_⟩;rw [<- az];have s3:=Um (o:=.lst ((ps++nmB b).map V.str)) hl3;have hl33:(upd H2 l3 (.lst ((ps++nmB b).map V.str))) l3=some (.lst ((ps++nmB b).map V.str)):=ak;have hd3:=s3 d _ (s2 d _ hd1);have sH:=(s1.trans s2).trans s3;have ld:l3≠d:=fun z=>by subst z; rw [s2 l3 _ hd1] at hl3; cases hl3
  have hnl:(ps++nmB b).length<=100100:=by rw [ae]; omega
  generalize upd H2 l3 (.lst ((ps++nmB b).map V.str))=H3 at s3 hl33 hd3 sH;generalize ps++nmB b=ns at hl33 hnl q
  refine⟨l3,rfl,⟨_,Uh hl33⟩,lC (K:=N0) (a:=l3) (xs:=ns.map V.str) (fun i σ H4=>∃(v3:OV),σ=[some (.ref a),some v,some (.ref d),v3]/\H4 d=some (.dK (j6 0 (firsts (ns.take i))))/\(firsts (ns.take i)).length<=i/\∀ c o,c≠d->H3 c=some o->H4 c=some o)
   ⟨_,rfl,hd3,am _,fun c o _ e=>e⟩ (fun i σ H4 _ ⟨_,_,_,_,s⟩=>Uh (s l3 _ ld hl33)) ?_ ?_⟩
  ·rintro i y σ H4 hy ⟨v3,rfl,hd4,hi4,k4⟩
   have hit:i < ns.length:=by
    have:=(aT.mp hy).1;rw [aa] at this;exact this
   have ey:y=.str ns[i]:=by
    rw [bj,af hit] at hy;exact(dL hy).symm
   subst ey;have tk:firsts (ns.take (i+1))=qN (firsts (ns.take i)) ns[i]:=by rw [take_snoc hit,pI]
   have al:=zT (firsts (ns.take i)) ns[i];rw [tk];generalize ns[i]=x at al;generalize firsts (ns.take i)=fs at hd4 hi4 al
   by_cases hx:x∈fs
   ·refine⟨_,rfl,_,rfl,d,_,rfl,lR.k (k:=.inr x) hd4,_,rfl,?_⟩;rw [qH 0 fs hx];refine iG ⟨_,rfl,?_,?_,k4⟩
    ·unfold qN; rw [dC hx]; exact hd4
    ·unfold qN; rw [dC hx]; omega
   ·refine⟨_,rfl,_,rfl,d,_,rfl,lR.k (k:=.inr x) hd4,_,rfl,?_⟩;rw [ou 0 fs hx];refine jQ ?_;refine⟨_,rfl,d,_,rfl,hd4,_,_,rfl,rfl,_,rfl,_,rfl,d,_,rfl,.inl ⟨_,.inr x,hd4,rfl,by rw [mG]; omega,rfl⟩,_,rfl,?_,by omega,fun c o ne e=>by rw [au ne]; exact k4 c o ne e⟩;rw [ak,rE _ (ou 0 fs hx),mG];unfold qN;rw [cK hx,qY,qi]
  ·rintro σ H4 ⟨v3,rfl,hd4,hi4,k4⟩;rw [aa,aE (am _)] at hd4;exact⟨_,rfl,q d H4 hd hd4 fun c o e=>k4 c o (aB e hd) (sH c o e)⟩
def iy(H:Hp)(v:V)(o:Option Int):Prop:=∃(a:Addr) (x:Str) (r:LV),v=.ref a/\H a=some (.tup (.str x::r))/\(((x = "name" \/ x = "set")/\∃ k:Int,r=[.int k]/\o=some k)\/(¬ x = "name" /\ ¬ x = "set" /\ o=none))
theorem iy.mono{o:Option Int}(s:fB H H')(h:iy H v o):iy H' v o:=by
 obtain ⟨a,x,r,e,ha,z⟩:=h;exact⟨a,x,r,e,s a _ ha,z⟩
theorem iy.num{x:Str}{k:Int}(h:H a=some (.tup [.str x,.int k]))(hx:x = "name" \/ x = "set"):iy H (.ref a) (some k):=⟨a,x,_,rfl,h,.inl ⟨hx,k,rfl,rfl⟩⟩
theorem iy.no{x:Str}{r:LV}(h:H a=some (.tup (.str x::r)))(h1:¬ x = "name")(h2:¬ x = "set"):iy H (.ref a) none:=⟨a,x,r,rfl,h,.inr ⟨h1,h2,rfl⟩⟩
def Rws(H:Hp)(vs:LV)(os:List (Option Int)):Prop:=Paired (iy H) vs os
theorem pF{α β:Type}{R R':α->β->Prop}(s:∀ a b,R a b->R' a b){xs:List α}{ys:List β}(h:Paired R xs ys):Paired R' xs ys:=by
 induction h with
 | nil=>exact .nil
 | cons r _ ih=>exact .cons (s _ _ r) ih
theorem Rws.mono{os:List (Option Int)}(s:fB H H')(h:Rws H vs os):Rws H' vs os:=pF (fun _ _=>iy.mono s) h
theorem Rws.app{ws:LV}{os ps:List (Option Int)}(h:Rws H vs os)(h':Rws H ws ps):Rws H (vs++ws) (os++ps):=by
 unfold Rws at h h' ⊢
 induction h with
 | nil=>exact h'
 | cons r _ ih=>exact .cons r ih
theorem Rws.one{o:Option Int}(h:iy H v o):Rws H [v] [o]:=.cons h .nil
theorem Rws.len{os:List (Option Int)}(h:Rws H vs os):vs.length=os.length:=eM h
structure dW (C:Addr) (H:Hp) (p n r c:Addr) (s q:Int) (xs cs:LV):Prop where
 ob:∃ dx,H p=some (.ins C dx (lQ n r c s q))
 rw_:H r=some (.lst xs)
 ct:H c=some (.lst cs)
def Off3(p r c:Addr)(H H':Hp):Prop:=∀ b o,b≠p->b≠r->b≠c->H b=some o->H' b=some o
theorem Off3.refl:Off3 p r c H H:=fun _ _ _ _ _ e=>e
theorem Off3.trans(a:Off3 p r c H H1)(b:Off3 p r c H1 H2):Off3 p r c H H2:=fun x o h1 h2 h3 e=>b x o h1 h2 h3 (a x o h1 h2 h3 e)
theorem Same.off3(s:Same H H'):Off3 p r c H H':=fun b o _ _ _ e=>s b o e
section
variable {C p n r c:Addr}{s q:Int}{xs cs:LV}{H H':Hp}
theorem dW.ne(S:dW C H p n r c s q xs cs):p≠r/\p≠c:=by
 obtain ⟨⟨dx,h⟩,h1,h2⟩:=S;exact⟨bI h h1 (by intro z; cases z),bI h h2 (by intro z; cases z)⟩
theorem Off3.tups(S:dW C H p n r c s q xs cs)(o:Off3 p r c H H'):fB H H':=fun a ys e=>by
 obtain ⟨⟨dx,h⟩,h1,h2⟩:=S;exact o a _ (bI e h (by intro z; cases z)) (bI e h1 (by intro z; cases z)) (bI e h2 (by intro z; cases z)) e
theorem dW.same(S:dW C H p n r c s q xs cs)(m:Same H H'):dW C H' p n r c s q xs cs:=by
 obtain ⟨⟨dx,h⟩,h1,h2⟩:=S;exact⟨⟨dx,m _ _ h⟩,m _ _ h1,m _ _ h2⟩
theorem dW.lay(S:dW C H p n r c s q xs cs)(rc:r≠c)(ys:LV):dW C (upd H r (.lst ys)) p n r c s q ys cs/\Off3 p r c H (upd H r (.lst ys)):=by
 obtain ⟨pr,_⟩:=S.ne;obtain ⟨⟨dx,h⟩,h1,h2⟩:=S;exact⟨⟨⟨dx,by rw [au pr]; exact h⟩,ak,by rw [au rc.symm]; exact h2⟩,fun b o _ h3 _ e=>by rw [au h3]; exact e⟩
end
def mR(H:Hp)(n:Addr)(f:Str->Int)(ns:LS):Prop:=∃ kvs,H n=some (.dK kvs)/\∀ x∈ns,cZ kvs (.inr x)=some (.int (f x))
theorem mR.sub{n:Addr}{f:Str->Int}{ms:LS}(h:mR H n f ns)(s:∀ x∈ms,x∈ns):mR H n f ms:=by
 obtain ⟨kvs,h1,h2⟩:=h;exact⟨kvs,h1,fun x hx=>h2 x (s x hx)⟩
theorem mR.off{n:Addr}{s q:Int}{f:Str->Int}(h:mR H n f ns)(S:dW C H p n r c s q xs cs)(o:Off3 p r c H H'):mR H' n f ns:=by
 obtain ⟨kvs,h1,h2⟩:=h;obtain ⟨⟨dx,g⟩,g1,g2⟩:=S;exact⟨kvs,o n _ (bI h1 g (by intro z; cases z)) (bI h1 g1 (by intro z; cases z)) (bI h1 g2 (by intro z; cases z)) h1,h2⟩
inductive vX (C:Addr) (f:Str->Int) (d:Nat) (vs:LV) (H:Hp) (Q:VK) (E_:XK):Prop
 | mk (p n r c:Addr) (s q:Int) (xs cs:LV) (v:V) (e:Ex):vs=[.ref p,v]->dW C H p n r c s q xs cs->r≠c->mR H n f (nmE e)->Dp H e.t v->e.dp<=d->e.wf->xs.length+(e.tr f).length<=1000000->(∀ H' ys,dW C H' p n r c s q (xs++ys) cs->Rws H' ys (e.tr f)->Off3 p r c H H'->Q .non H')->vX C f d vs H Q E_
inductive JR (C:Addr) (f:Str->Int) (d:Nat) (vs:LV) (H:Hp) (Q:VK) (E_:XK):Prop
 | mk (p n r c:Addr) (s q:Int) (xs cs:LV) (v:V) (a b:Ex):vs=[.ref p,v]->dW C H p n r c s q xs cs->r≠c->mR H n f (nmE (.bin "or" a b))->Dp H (Ex.t (.bin "or" a b)) v->a.dp<=d->b.dp<=d->a.wf->b.wf->xs.length+((Ex.bin "or" a b).tr f).length<=1000000->(∀ H' ys,dW C H' p n r c s q (xs++ys) cs->Rws H' ys ((Ex.bin "or" a b).tr f)->Off3 p r c H H'->Q .non H')->JR C f d vs H Q E_
section
variable {P:uv}{w:xf}{K:PySem.W.Frag}{mg:MG}{base:Heap}{t:Adr}{ca:lW}
theorem QW(D:Defs K mg t)(S:Sht K mg ca){f:Str->Int}{k:Nat}(hk:1<=k)(Gab:bw P w K mg base CX0 k t.aN.1 t.aN.2 ["sheet","expression"] (vX ca.C f d)):bw P w K mg base CX0 (k+1) t.nF.1 t.nF.2 ["sheet","expression"] (JR ca.C f d):=by
 have hz:sizeLine=16777216:=ci;have Gac:=gH (P:=P) (w:=w) (base:=base) D S;have Gae:=iQ (P:=P) (w:=w) (base:=base) D S;refine D.nF.fn.ok w6 ‹5› ‹2›
 ·obtain ⟨p,n,r,c,s,q,xs,cs,v,a,b,rfl,_⟩:=h;rfl
 ·obtain ⟨p,n,r,c,s,q,xs,cs,v,a,b,rfl,sh,rc,na,dv,ha,hb,wa,wb,hl,k⟩:=h;have eT:(Ex.bin "or" a b).tr f=a.tr f++none::b.tr f:=by rw [Ex.tr,dC rfl]
  have eN:nmE (.bin "or" a b)=nmE a++nmE b:=by unfold nmE; rw [Ex.it,bJ]
  rw [eT] at hl k;rw [eN] at na;rw [Ex.t] at dv;obtain ⟨e,zs,rfl,he,dl⟩:=L2.Dp.bG dv;obtain ⟨z0,zs1,rfl,d0,dl1⟩:=dl.cases;obtain ⟨z1,zs2,rfl,d1,dl2⟩:=dl1.cases;obtain ⟨z2,zs3,rfl,d2,dl3⟩:=dl2.cases;rw [ae,ar] at hl
  refine⟨_,(aA (aP (aF D.aN Gab ‹1› (by rfl) (aj (pv 0) (aj ‹24› aq))))
   (aA (aK (i:=2) w6.nd rfl (ue rfl) (lB (pv 0) S.cl S.nG Gac ‹1› S.oE .nil eZ))
   (aA (aP (aF D.aN Gab ‹1› (by rfl) (aj (pv 0) (aj ‹24› aq))))
   (aD (aP (dX (pv 0) S.cl S.qF Gae ‹1› S.qP .nil eZ (aj (pv 2) (aj aM aq)))))))),?_⟩
  refine⟨_,rfl,_,rfl,e,_,_,_,rfl,rfl,Ui he,aH (j:=1) rfl,p,n,r,c,s,q,xs,cs,z1,a,rfl,sh,rc,na.sub (fun x hx=>fh _ hx),d1,ha,wa,by omega,fun H1 ys sh1 rw1 o1=>?_⟩;obtain ⟨⟨dx1,ob1⟩,rr1,ct1⟩:=id sh1;have yl:=rw1.len;refine⟨_,rfl,p,dx1,_,rfl,ob1,lE _ _ _ _ _,p,n,r,c,dx1,s,q,xs++ys,rfl,ob1,rr1,by rw [ae]; omega,?_⟩;obtain ⟨sh2,o2⟩:=sh1.lay rc (xs++ys++[.non]);have rw2:=rw1.mono (o2.tups sh1);have o12:=o1.trans o2;generalize upd H1 r (.lst (xs++ys++[.non]))=H2 at sh2 o2 rw2 o12;have t2:=o12.tups sh;refine⟨_,rfl,_,rfl,e,_,_,_,rfl,rfl,Ui (t2 e _ he),aH (j:=2) rfl,p,n,r,c,s,q,_,cs,z2,b,rfl,sh2,rc,(na.off sh o12).sub (fun x hx=>bX _ hx),d2.mono t2,hb,wb,by rw [ae,ae]; show _+1+_<=_; omega,fun H3 ys3 sh3 rw3 o3=>?_⟩;obtain ⟨⟨dx3,ob3⟩,rr3,ct3⟩:=id sh3;refine⟨_,rfl,p,dx3,_,rfl,ob3,nY _ _ _ _ _,_,rfl,p,n,r,c,dx3,s,q,(xs++ys).length,"keep",_,rfl,ob3,rr3,by simp only [ae,ar,de]; omega,fun z hz=>?_⟩
  have es:((xs++ys++[V.non])++ys3).set (xs++ys).length (V.ref z)=xs++(ys++V.ref z::ys3):=by
   rw [aI (xs++ys),List.set_append_right _ _ (am _),Nat.sub_self,aI];rfl
  rw [es];exists 1,s4,hz4,H3,z,(.tup [.str "keep",.int ((xs++ys++[V.non])++ys3).length]),hz,H4;have sh4:=sh3.same s4;obtain ⟨sh5,o5⟩:=sh4.lay rc (xs++(ys++V.ref z::ys3));have t5:=o5.tups sh4;have t35:=(Uj s4).trans t5;refine k _ _ sh5 ((rw2.mono ((o3.tups sh2).trans t35)).app (.cons (iy.no (t5 z _ hz4) ‹3› ‹3›) (rw3.mono t35))) ?_;exact(o12.trans o3).trans ((Same.off3 s4).trans o5)
end
theorem dW.out{n:Addr}{s q:Int}(S:dW C H p n r c s q xs cs){l:Addr}(h:H l=none):l≠p/\l≠r/\l≠c:=by
 obtain ⟨⟨dx,h0⟩,h1,h2⟩:=S;refine⟨fun z=>?_,fun z=>?_,fun z=>?_⟩
 ·subst z; rw [h] at h0; cases h0
 ·subst z; rw [h] at h1; cases h1
 ·subst z; rw [h] at h2; cases h2
def LkV(v:V)(o:Option Int):Prop:=∀ k,o=some k->v=.int k
def PL(f:Str->Int)(n:Nat)(fm:Str)(t:T)(ns:LS)(os:List (Option Int))(lk:List (Option Int)):Prop:=
 (fm = "e" /\ ∃ e:Ex,t=e.t/\e.dp<=n/\e.wf/\ns=nmE e/\os=e.tr f/\lk=[])\/
 (fm = "args" /\ ∃ as:List Ex,t=.tup (tL as)/\dpL as<=n/\wfL as/\as.length<=3/\ns=nmL as/\os=trL f as/\lk=[none])\/
 (fm = "x" /\ ∃ x:Str,t=.str x/\ns=[x]/\os=[]/\lk=[some (f x)])\/
 (¬ fm = "e" /\ ¬ fm = "args" /\ ¬ fm = "x" /\ ns=[]/\os=[]/\lk=[none])
inductive PsL (f:Str->Int) (n:Nat):LS->List T->LL->List (List (Option Int))->List (List (Option Int))->Prop
 | nil:PsL f n [] [] [] [] []
 | cons {fm:Str} {t:T} {ns:LS} {os lk:List (Option Int)} {fs:LS} {ts:List T} {nss:LL} {oss lks:List (List (Option Int))}:PL f n fm t ns os lk->PsL f n fs ts nss oss lks->PsL f n (fm::fs) (t::ts) (ns::nss) (os::oss) (lk::lks)
section
variable {f:Str->Int}{n:Nat}
theorem PsL.len{fs:LS}{nss:LL}{oss lks:List (List (Option Int))}(h:PsL f n fs ts nss oss lks):fs.length=ts.length/\nss.length=ts.length/\oss.length=ts.length/\lks.length=ts.length:=by
 induction h with
 | nil=>exact⟨rfl,rfl,rfl,rfl⟩
 | cons _ _ ih=>simp only [ar]; omega
theorem PsL.get{fs:LS}{ts:List T}{nss:LL}{oss lks:List (List (Option Int))}(h:PsL f n fs ts nss oss lks):∀(i:Nat) (h1:i < fs.length) (h2:i < ts.length) (h3:i < nss.length) (h4:i < oss.length) (h5:i < lks.length),PL f n fs[i] ts[i] nss[i] oss[i] lks[i]:=by
 induction h with
 | nil=>exact fun i h=>absurd h (pM _)
 | cons a _ ih=>
  intro i h1 h2 h3 h4 h5;cases i with
  | zero=>exact a
  | succ i=>exact ih i (by simpa using h1) (by simpa using h2) (by simpa using h3) (by simpa using h4) (by simpa using h5)
theorem wg{e:Ex}(h:e.dp<=n)(w:e.wf):PL f n "e" e.t (nmE e) (e.tr f) []:=.inl ⟨rfl,e,rfl,h,w,rfl,rfl,rfl⟩
theorem Rz{as:List Ex}(h:dpL as<=n)(w:wfL as)(l:as.length<=3):PL f n "args" (.tup (tL as)) (nmL as) (trL f as) [none]:=.inr (.inl ⟨rfl,as,rfl,h,w,l,rfl,rfl,rfl⟩)
theorem RG{x:Str}:PL f n "x" (.str x) [x] [] [some (f x)]:=.inr (.inr (.inl ⟨rfl,x,rfl,rfl,rfl,rfl⟩))
theorem qO{fm:Str}{t:T}(h:¬ fm = "x" /\ ¬ fm = "block" /\ ¬ fm = "args" /\ ¬ fm = "e"):PL f n fm t [] [] [none]:=.inr (.inr (.inr ⟨h.2.2.2,h.2.2.1,h.1,rfl,rfl,rfl⟩))
end
theorem yS(f:Str->Int):∀ es:List Ex,trL f es=(es.map (Ex.tr f)).flatten
 | []=>by rw [trL]; rfl
 | e::es=>by rw [trL,yS f es]; rfl
theorem oJ{α β:Type}{R:α->β->Prop}{xs xs':List α}{ys ys':List β}(h:Paired R xs ys)(h':Paired R xs' ys'):Paired R (xs++xs') (ys++ys'):=by
 induction h with
 | nil=>exact h'
 | cons r _ ih=>exact .cons r ih
theorem jH{α:Type}{xss:List (List α)}(h:i < xss.length):(xss.take (i+1)).flatten=(xss.take i).flatten++xss[i]:=by
 rw [take_snoc h,iL];show _++(xss[i]++[])=_;rw [av]
theorem lg{α:Type}{xss:List (List α)}(h:i < xss.length):((xss.take i).flatten).length+(xss[i]).length<=(xss.flatten).length:=by
 have e:xss.flatten=(xss.take (i+1)).flatten++(xss.drop (i+1)).flatten:=by rw [<- iL,gu]
 rw [e,jH h,ae,ae];omega
theorem Js{α:Type}{xss:List (List α)}(h:i < xss.length){x:α}(hx:x∈xss[i]):x∈xss.flatten:=lS.mpr ⟨_,dm h,hx⟩
inductive Kq (C:Addr) (f:Str->Int) (d:Nat) (vs:LV) (H:Hp) (Q:VK) (E_:XK):Prop
 | mk (p n r c:Addr) (s q:Int) (xs cs:LV) (a b:Addr) (ys:LV) (as:List Ex):vs=[.ref p,.ref a,.ref b]->dW C H p n r c s q xs cs->r≠c->a≠r->a≠c->mR H n f (nmL as)->H a=some (.lst (List.replicate as.length (.str "e")))->H b=some (.tup ys)->DpL H (tL as) ys->dpL as<=d->wfL as->as.length<=3->xs.length+(trL f as).length<=1000000->(∀(l:Addr) H' zs,dW C H' p n r c s q (xs++zs) cs->Rws H' zs (trL f as)->Off3 p r c H H'->Q (.ref l) H')->Kq C f d vs H Q E_
inductive Fj (K:PySem.W.Frag) (C:Addr) (f:Str->Int) (d:Nat) (vs:LV) (H:Hp) (Q:VK) (E_:XK):Prop
 | mk (p n r c:Addr) (s q:Int) (xs cs:LV) (a b:Addr) (ys:LV) (fs:LS) (ts:List T) (nss:LL) (oss lks:List (List (Option Int))):vs=[.ref p,.ref a,.ref b]->dW C H p n r c s q xs cs->r≠c->mR H n f nss.flatten->(∀ H:Hp,SqT K H a (fs.map V.str))->H b=some (.tup ys)->DpL H ts ys->PsL f d fs ts nss oss lks->ts.length<=4->xs.length+oss.flatten.length<=1000000->(∀(l:Addr) H' zs lv,dW C H' p n r c s q (xs++zs) cs->Rws H' zs oss.flatten->Off3 p r c H H'->H' l=some (.tup lv)->Paired LkV lv lks.flatten->lv.length<=4->Q (.ref l) H')->Fj K C f d vs H Q E_
section
variable {P:uv}{w:xf}{K:PySem.W.Frag}{mg:MG}{base:Heap}{t:Adr}{ca:lW}
theorem Jk(D:Defs K mg t)(S:Sht K mg ca){f:Str->Int}{k:Nat}(Gab:bw P w K mg base CX0 k t.aN.1 t.aN.2 ["sheet","expression"] (vX ca.C f d)):bw P w K mg base CX0 (k+1) t.cg.1 t.cg.2 ["sheet","forms","parts"] (Kq ca.C f d):=by
 have hz:sizeLine=16777216:=ci;have Gah:bw P w K mg base CX0 0 t.cg.1 t.cg.2 ["sheet","forms","parts"] (fun _ _ _ _=>False):=qw fun _ _ _ _ h=>h;refine D.cg.fn.ok eG ‹5› ‹2›
 ·obtain ⟨p,n,r,c,s,q,xs,cs,a,b,ys,as,rfl,_⟩:=h;rfl
 ·obtain ⟨p,n,r,c,s,q,xs,cs,a,b,ys,as,rfl,sh,rc,nar,nac,na,ha,hb,dl,hd,hw,hl3,hn,k⟩:=h;rw [jW] at dl;have hyl:ys.length=as.length:=by rw [dl.length,aa]
  have nap:a≠p:=by
   obtain ⟨⟨dx,h⟩,_⟩:=sh;exact bI ha h (by intro z; cases z)
  refine⟨_,(aA (aK (i:=3) eG.nd rfl (ue rfl) (bB aq))
   (aA (dB dQ rfl (Fe rfl D.Ab (aj (pv 1) (aj (pv 2) aq))) (fL rfl (aY (aJ (i:=4) eG.nd rfl (ue rfl)) (aY (aJ (i:=5) eG.nd rfl (ue rfl)) eV)))
   (aD (bD (aL dH (pv 4) aM (aQ _))
   (aD (aP (aF D.aN Gab ‹1› (by rfl) (aj (pv 0) (aj (pv 5) aq)))))
   (aD (bD (aL dH (pv 4) aM (aQ _))
   (aA (aP (aF D.cg Gah ‹1› (by rfl) (aj (pv 0) (aj (bH yF (bB (aj aM aq)) (aW bC (by rfl) D.dg bY (aj (pv 5) aq))) (aj (pv 5) aq)))))
   (aD (aP (eO br cw cy bT (pv 3) (aj (aW bC (by rfl) D.dg bY (aj (pv 5) aq)) aq)))))
   (aD (bD (aL dH (pv 4) aM (aQ _))
   (aD (aP (eO br cw cy bT (pv 3) (aj (iR (gD hr) (fX (pv 0) rfl) (pv 5) ‹4›) aq))))
   (aD (aP (eO br cw cy bT (pv 3) (aj (pv 5) aq)))))))))))
   (aD (aR (bK bM (by rfl) D.cJ bR (aj (pv 3) aq)))))),?_⟩
  refine⟨bn _,fun l hl=>?_⟩;have s1:∀ o,Same H (upd H l o):=fun o=>Um hl
  refine⟨_,rfl,_,rfl,a,b,_,ys,rfl,Uh (s1 _ a _ ha),Ui (s1 _ b _ hb),Ax (K:=K) (a:=a) (b:=b) (xs:=List.replicate as.length (.str "e")) (ys:=ys) (by rw [ij,hyl]) (fun i σ H2=>∃(v4 v5:OV) (zs:LV),σ=[some (.ref p),some (.ref a),some (.ref b),some (.ref l),v4,v5]/\H2 l=some (.lst [])/\dW ca.C H2 p n r c s q (xs++zs) cs/\Rws H2 zs (((as.take i).map (Ex.tr f)).flatten)/\Off3 p r c H H2)
   ⟨_,_,[],rfl,ak,by rw [av]; exact sh.same (s1 _),.nil,Same.off3 (s1 _)⟩ (fun i σ H2 _ ⟨_,_,_,_,_,_,_,o⟩=>⟨Uh (o a _ nap nar nac ha),Ui (o.tups sh b _ hb)⟩) ?_ ?_⟩
  ·rintro i x y σ H2 pp hx hy ⟨v4,v5,zs,rfl,hl2,sh2,rw2,o2⟩ hp
   have hit:i < as.length:=by
    have:=(aT.mp hy).1;omega
   have ex':x=.str "e" := by
    have:=gh hx;exact(List.mem_replicate.mp this).2
   subst ex';obtain ⟨y',ey,dy⟩:=dl.get (t:=as[i].t) (i:=i) (by rw [bj,af hit]; rfl);rw [hy] at ey;cases ey;have s3:Same H2 (upd H2 pp (.tup [.str "e",y])):=Um hp;refine⟨pp,_,rfl,Ui ak,rfl,_,_,rfl,_,_,rfl,rfl,?_⟩;generalize upd H2 pp (.tup [.str "e",y])=H3 at s3;have o3:=o2.trans (Same.off3 s3);have sh3:=sh2.same s3;have zl:=rw2.len;have hai:as[i]∈as:=dm hit;have hil:i < (as.map (Ex.tr f)).length:=by rw [aa]; exact hit
   have fs1:=lg hil;have tk:=jH hil;rw [<- gy,<- gy,iE] at tk;rw [<- gy,iE] at fs1;rw [yS] at hn;refine‹9›
   have nmi:∀ x∈nmE as[i],x∈nmL as:=fun x hx=>by
    rw [uI];exact lS.mpr ⟨_,eA.mpr ⟨_,hai,rfl⟩,hx⟩
   refine⟨_,rfl,_,rfl,p,n,r,c,s,q,_,cs,y,as[i],rfl,sh3,rc,(na.off sh o3).sub nmi,dy.mono (o3.tups sh),eR (rP hai) hd,rT hw hai,by rw [ae]; omega,fun H4 ys4 sh4 rw4 o4=>?_⟩;refine⟨_,_,zs++ys4,rfl,?_,by rw [<- aI]; exact sh4,by rw [tk]; exact(rw2.mono ((Uj s3).trans (o4.tups sh3))).app rw4,o3.trans o4⟩;have hl3:=s3 l _ hl2;obtain ⟨lp,lr,lc⟩:=sh.out hl;exact o4 l _ lp lr lc hl3
  ·rintro σ H2 ⟨v4,v5,zs,rfl,hl2,sh2,rw2,o2⟩;rw [ij,aE (am _),<- yS] at rw2;refine⟨_,rfl,l,_,rfl,.inl ⟨Uh hl2,fun l5 hl5=>?_⟩⟩;have s5:Same H2 (upd H2 l5 (.tup [])):=Um hl5;exact k l5 _ zs (sh2.same s5) (rw2.mono (Uj s5)) (o2.trans (Same.off3 s5))
end
end
section
variable {P:uv}{w:xf}{K:PySem.W.Frag}{mg:MG}{base:Heap}{t:Adr}{ca:lW}
theorem JL(D:Defs K mg t)(S:Sht K mg ca){f:Str->Int}{k:Nat}(hj:j<=k)(Gab:bw P w K mg base CX0 j t.aN.1 t.aN.2 ["sheet","expression"] (vX ca.C f d))
  (Gah:bw P w K mg base CX0 k t.cg.1 t.cg.2 ["sheet","forms","parts"] (Kq ca.C f d)):bw P w K mg base CX0 (k+1) t.cg.1 t.cg.2 ["sheet","forms","parts"] (Fj K ca.C f d):=by
 have hz:sizeLine=16777216:=ci;refine D.cg.fn.ok eG ‹5› ‹2›
 ·obtain ⟨p,n,r,c,s,q,xs,cs,a,b,ys,fs,ts,nss,oss,lks,rfl,_⟩:=h;rfl
 ·obtain ⟨p,n,r,c,s,q,xs,cs,a,b,ys,fs,ts,nss,oss,lks,rfl,sh,rc,na,ha,hb,dl,pw,hl4,hn,k⟩:=h;have hyl:ys.length=ts.length:=dl.length;obtain ⟨pl1,pl2,pl3,pl4⟩:=pw.len
  refine⟨_,(aA (aK (i:=3) eG.nd rfl (ue rfl) (bB aq))
   (aA (dB dQ rfl (yL rfl D.Ab (aj (pv 1) (aj (pv 2) aq))) (fL rfl (aY (aJ (i:=4) eG.nd rfl (ue rfl)) (aY (aJ (i:=5) eG.nd rfl (ue rfl)) eV)))
   (aD (bD (aL dH (pv 4) aM (aQ _))
   (aD (aP (aF D.aN Gab ‹1› (by rfl) (aj (pv 0) (aj (pv 5) aq)))))
   (aD (bD (aL dH (pv 4) aM (aQ _))
   (aA (aP (aF D.cg Gah ‹1› (by rfl) (aj (pv 0) (aj (bH yF (bB (aj aM aq)) (aW bC (by rfl) D.dg bY (aj (pv 5) aq))) (aj (pv 5) aq)))))
   (aD (aP (eO br cw cy bT (pv 3) (aj (aW bC (by rfl) D.dg bY (aj (pv 5) aq)) aq)))))
   (aD (bD (aL dH (pv 4) aM (aQ _))
   (aD (aP (eO br cw cy bT (pv 3) (aj (iR (gD hr) (fX (pv 0) rfl) (pv 5) ‹4›) aq))))
   (aD (aP (eO br cw cy bT (pv 3) (aj (pv 5) aq)))))))))))
   (aD (aR (bK bM (by rfl) D.cJ bR (aj (pv 3) aq)))))),?_⟩
  refine⟨bn _,fun l hl=>?_⟩;obtain ⟨lp,lr,lc⟩:=sh.out hl;have s1:∀ o,Same H (upd H l o):=fun o=>Um hl
  refine⟨_,rfl,_,rfl,a,b,_,ys,rfl,ha _,Ui (s1 _ b _ hb),uP (K:=K) (a:=a) (b:=b) (xs:=fs.map V.str) (ys:=ys) (n:=ts.length) (by rw [aa]; omega) (fun i σ H2=>∃(v4 v5:OV) (zs lv:LV),σ=[some (.ref p),some (.ref a),some (.ref b),some (.ref l),v4,v5]/\H2 l=some (.lst lv)/\Paired LkV lv ((lks.take i).flatten)/\lv.length<=i/\dW ca.C H2 p n r c s q (xs++zs) cs/\Rws H2 zs ((oss.take i).flatten)/\Off3 p r c H H2)
   ⟨_,_,[],[],rfl,ak,.nil,bn _,by rw [av]; exact sh.same (s1 _),.nil,Same.off3 (s1 _)⟩ (fun i σ H2 _ ⟨_,_,_,_,_,_,_,_,_,_,o⟩=>⟨ha _,Ui (o.tups sh b _ hb)⟩) ?_ ?_⟩
  ·rintro i x y σ H2 pp hx hy ⟨v4,v5,zs,lv,rfl,hl2,lk2,lvl,sh2,rw2,o2⟩ hp
   have hit:i < ts.length:=by
    have:=(aT.mp hy).1;omega
   have hif:i < fs.length:=by omega
   have hin:i < nss.length:=by omega
   have hio:i < oss.length:=by omega
   have hik:i < lks.length:=by omega
   have ex':x=.str fs[i]:=by
    rw [bj,af hif] at hx;exact(dL hx).symm
   subst ex';obtain ⟨y',ey,dy⟩:=dl.get (af hit);rw [hy] at ey;cases ey;have pwi:=pw.get i hif hit hin hio hik;have tko:=jH hio;have tkk:=jH hik;have fso:=lg hio;have nmi:∀ x∈nss[i],x∈nss.flatten:=fun x hx=>Js hin hx;have s3:Same H2 (upd H2 pp (.tup [.str fs[i],y])):=Um hp;refine⟨pp,_,rfl,Ui ak,rfl,_,_,rfl,_,_,rfl,rfl,?_⟩;generalize upd H2 pp (.tup [.str fs[i],y])=H3 at s3;generalize fs[i]=fm at pwi;generalize ts[i]=u at pwi dy;generalize nss[i]=ns at pwi nmi;generalize oss[i]=os at pwi tko fso;generalize lks[i]=lk at pwi tkk;have o3:=o2.trans (Same.off3 s3);have sh3:=sh2.same s3;have zl:=rw2.len;have rw3:=rw2.mono (Uj s3);have hl3:=s3 l _ hl2;have na3:=na.off sh o3;rw [tko,tkk];clear tko tkk
   have fin:∀(H5:Hp) (us:LV) (u5:V) (v5:OV),dW ca.C H5 p n r c s q (xs++zs++us) cs->Rws H5 (zs++us) ((oss.take i).flatten++os)->Off3 p r c H H5->H5 l=some (.lst (lv++[u5]))->lk=[none]\/(∃ z,lk=[some z]/\u5=.int z)->∃ (v4' v5':OV) (zs' lv':LV),[some (.ref p),some (.ref a),some (.ref b),some (.ref l),some (V.str fm),v5]=[some (.ref p),some (.ref a),some (.ref b),some (.ref l),v4',v5']/\H5 l=some (.lst lv')/\Paired LkV lv' ((lks.take i).flatten++lk)/\lv'.length<=i+1/\dW ca.C H5 p n r c s q (xs++zs') cs/\Rws H5 zs' ((oss.take i).flatten++os)/\Off3 p r c H H5:=by
    intro H5 us u5 v5 sh5 rw5 o5 h5 hk;refine⟨_,_,zs++us,lv++[u5],rfl,h5,?_,by rw [ae]; show _+1<=_; omega,by rw [<- aI]; exact sh5,rw5,o5⟩;rcases hk with rfl | ⟨z,rfl,rfl⟩
    ·exact oJ lk2 (.cons (fun k e=>nomatch e) .nil)
    ·exact oJ lk2 (.cons (fun k e=>by cases e; rfl) .nil)
   rcases pwi with ⟨rfl,e,rfl,hd,hw,rfl,rfl,rfl⟩ | ⟨rfl,as,rfl,hd,hw,hl3',rfl,rfl,rfl⟩ | ⟨rfl,x,rfl,rfl,rfl,rfl⟩ | ⟨n1,n2,n3,rfl,rfl,rfl⟩
   ·refine‹9›;refine⟨_,rfl,_,rfl,p,n,r,c,s,q,_,cs,y,e,rfl,sh3,rc,na3.sub nmi,dy.mono (o3.tups sh),hd,hw,by rw [ae]; omega,fun H4 ys4 sh4 rw4 o4=>?_⟩;exact⟨_,_,zs++ys4,lv,rfl,o4 l _ lp lr lc hl3,by rw [av]; exact lk2,nL lvl,by rw [<- aI]; exact sh4,(rw3.mono (o4.tups sh3)).app rw4,o3.trans o4⟩
   ·obtain ⟨g,gs,rfl,hg,dl2⟩:=L2.Dp.bG dy;have hgl:gs.length=as.length:=by rw [dl2.length,jW,aa]
    have hg3:=o3.tups sh g _ hg;refine‹21›;refine‹9›;refine⟨_,rfl,by show 1<=sizeLine; decide,fun l2 hl2n=>?_⟩;have s4:Same H3 (upd H3 l2 (.lst [.str "e"])):=Um hl2n;refine⟨_,rfl,g,_,rfl,.inr (Ui (s4 g _ hg3)),?_⟩;refine⟨l2,_,_,rfl,rfl,ak,by omega,by omega,by show 1 * ((gs.length:Nat):Int).toNat<=sizeLine; omega,fun l3 hl3n=>?_⟩
    have e3:(List.replicate ((gs.length:Nat):Int).toNat [V.str "e"]).flatten=List.replicate as.length (V.str "e"):=by
     rw [show ((gs.length:Nat):Int).toNat=as.length by omega];exact zM _ _
    rw [e3];have s5:=s4.trans (Um (o:=.lst (List.replicate as.length (V.str "e"))) hl3n);have hl33:(upd (upd H3 l2 (.lst [.str "e"])) l3 (.lst (List.replicate as.length (V.str "e")))) l3=some (.lst (List.replicate as.length (V.str "e"))):=ak;obtain ⟨_,n2,n3⟩:=(sh3.same s4).out hl3n;generalize upd (upd H3 l2 (.lst [.str "e"])) l3 (.lst (List.replicate as.length (V.str "e")))=H4 at s5 hl33;have sh4:=sh3.same s5;have o4:=o3.trans (Same.off3 s5);refine⟨_,rfl,p,n,r,c,s,q,_,cs,l3,g,gs,as,rfl,sh4,rc,n2,n3,(na.off sh o4).sub nmi,hl33,s5 g _ hg3,dl2.mono (o4.tups sh),hd,hw,hl3',by rw [ae]; omega,fun l6 H6 zs6 sh6 rw6 o6=>?_⟩;have hl6:=o6 l _ lp lr lc (s5 l _ hl3);have hg6:=o6.tups sh4 g _ (s5 g _ hg3);refine⟨_,rfl,.inl ⟨rfl,_,Uh hl6⟩,_,rfl,?_⟩;refine⟨g,_,rfl,.inr (Ui hg6),l,lv,_,rfl,rfl,hl6,by omega,?_⟩;have n46:=sh6;refine fin _ zs6 _ _ ?_ ?_ ?_ ak (.inl rfl)
    ·exact⟨by obtain ⟨⟨dx,h⟩,_⟩:=sh6; exact⟨dx,by rw [au lp.symm]; exact h⟩,by rw [au lr.symm]; exact sh6.rw_,by rw [au lc.symm]; exact sh6.ct⟩
    ·have tt:fB H6 (upd H6 l (.lst (lv++[V.int ↑gs.length]))):=fun b ys e=>by rw [au (bI e hl6 (by intro z; cases z))]; exact e
     exact((rw3.mono (Uj s5)).mono ((o6.tups sh4).trans tt)).app (rw6.mono tt)
    ·exact fun b o h1 h2 h3 e=>by
      have nbl:b≠l:=aB e hl;rw [au nbl];exact(o4.trans o6) b o h1 h2 h3 e
   ·have e1:=L2.Dp.cQ dy;subst e1;obtain ⟨⟨dx3,ob3⟩,_,_⟩:=id sh3;obtain ⟨kvs,hn3,hk3⟩:=na3;refine‹21›;refine‹21›;refine‹9›;refine⟨_,rfl,.inl ⟨rfl,_,Uh hl3⟩,_,rfl,p,ca.C,dx3,_,_,rfl,ob3,S.cl,S.nN,QJ _ _ _ _ _,_,rfl,n,.int (f x),rfl,?_,?_⟩
    ·rw [<- hk3 x (nmi x (bS.mpr rfl))];exact lR.k (k:=.inr x) hn3
    refine⟨l,lv,_,rfl,rfl,hl3,by omega,?_⟩;refine fin _ [] _ _ ?_ ?_ ?_ ak (.inr ⟨_,rfl,rfl⟩)
    ·rw [av];exact⟨⟨dx3,by rw [au lp.symm]; exact ob3⟩,by rw [au lr.symm]; exact sh3.rw_,by rw [au lc.symm]; exact sh3.ct⟩
    ·rw [av,av];exact rw3.mono fun b ys e=>by rw [au (bI e hl3 (by intro z; cases z))]; exact e
    ·exact fun b o h1 h2 h3 e=>by
      rw [au (aB e hl)];exact o3 b o h1 h2 h3 e
   ·obtain ⟨⟨dx3,ob3⟩,_,_⟩:=id sh3;refine⟨_,rfl,rfl,_,rfl,bF (ne_str n1) ?_⟩;refine⟨_,rfl,rfl,_,rfl,bF (ne_str n2) ?_⟩;refine⟨_,rfl,rfl,_,rfl,bF (ne_str n3) ?_⟩;refine⟨_,rfl,.inl ⟨rfl,_,Uh hl3⟩,_,rfl,l,lv,_,rfl,rfl,hl3,by omega,?_⟩;refine fin _ [] _ _ ?_ ?_ ?_ ak (.inl rfl)
    ·rw [av];exact⟨⟨dx3,by rw [au lp.symm]; exact ob3⟩,by rw [au lr.symm]; exact sh3.rw_,by rw [au lc.symm]; exact sh3.ct⟩
    ·rw [av,av];exact rw3.mono fun b ys e=>by rw [au (bI e hl3 (by intro z; cases z))]; exact e
    ·exact fun b o h1 h2 h3 e=>by
      rw [au (aB e hl)];exact o3 b o h1 h2 h3 e
  ·rintro σ H2 ⟨v4,v5,zs,lv,rfl,hl2,lk2,lvl,sh2,rw2,o2⟩;rw [aE ‹23›] at rw2 lk2;refine⟨_,rfl,l,_,rfl,.inl ⟨Uh hl2,fun l5 hl5=>?_⟩⟩;have s5:Same H2 (upd H2 l5 (.tup lv)):=Um hl5;exact k l5 _ zs lv (sh2.same s5) (rw2.mono (Uj s5)) (o2.trans (Same.off3 s5)) ak lk2 ‹23›
end
def rO(x:Str):List (Option Int):=if x = "me" \/ x = "up" then [some 0] else []
theorem Jt:∀ w∈bins,¬ (w = "me" \/ w = "up")/\¬ w = "name" /\ ¬ w = "set" := by decide +kernel
theorem Ex.CZ(f:Str->Int){e:Ex}(h:e.dp<=n+1)(w:e.wf):(e=.non\/∃ i,e=.num i)\/(∃ a b,e=.bin "or" a b)\/∃(x:Str) (fs:LS) (ts:List T) (nss:LL) (oss lks:List (List (Option Int))) (o:Option Int),e.t=.tup (.str x::ts)/\(x,fs)∈exprs/\PsL f n fs ts nss oss lks/\nss.flatten=nmE e/\ts.length<=3/\¬ x = "or" /\
  e.tr f=rO x++(oss.flatten++(if x = "me" then [] else [o]))/\((x = "name" /\ ∃ k,lks.flatten=[some k]/\o=some k)\/(¬ x = "name" /\ ¬ x = "set" /\ o=none)):=by
 cases e with
 | num i=>exact .inl (.inr ⟨i,rfl⟩)
 | non=>exact .inl (.inl rfl)
 | me=>exact .inr (.inr ⟨"me",[],[],[],[],[],none,by rw [Ex.t],by decide +kernel,.nil,by unfold nmE; rw [Ex.it]; rfl,bn _,by decide +kernel,by rw [Ex.tr,dC rfl]; unfold rO; rw [dC (.inl rfl)]; rfl,.inr ⟨by decide +kernel,by decide +kernel,rfl⟩⟩)
 | name x=>exact .inr (.inr ⟨"name",["x"],[.str x],[[x]],[[]],[[some (f x)]],some (f x),by rw [Ex.t],by decide +kernel,.cons RG .nil,by unfold nmE; rw [Ex.it]; rfl,by show 1<=3; decide,by decide +kernel,by rw [Ex.tr,cK ‹3›]; unfold rO; rw [cK ‹3›]; rfl,.inl ⟨rfl,_,rfl,rfl⟩⟩)
 | new k=>exact .inr (.inr ⟨"new",["kind"],[.str k],[[]],[[]],[[none]],none,by rw [Ex.t],by decide +kernel,.cons (qO iT) .nil,by unfold nmE; rw [Ex.it]; rfl,by show 1<=3; decide,by decide +kernel,by rw [Ex.tr,cK ‹3›]; unfold rO; rw [cK ‹3›]; rfl,.inr ⟨by decide +kernel,by decide +kernel,rfl⟩⟩)
 | get e g=>
  rw [Ex.dp] at h;rw [Ex.wf] at w;refine .inr (.inr ⟨"get",["e","name"],[e.t,.str g],[nmE e,[]],[e.tr f,[]],[[],[none]],none,by rw [Ex.t],by decide +kernel,.cons (wg ‹23› w) (.cons (qO fK) .nil),?_,by show 2<=3; decide,by decide +kernel,?_,.inr ⟨by decide +kernel,by decide +kernel,rfl⟩⟩)
  ·unfold nmE;simp only [Ex.it,bz,dq,av]
  ·unfold rO;rw [Ex.tr,cK ‹3›,cK ‹3›];simp only [bz,dq,av,cS,aI]
 | ask e d as=>
  rw [Ex.dp] at h;rw [Ex.wf] at w;refine .inr (.inr ⟨"ask",["e","name","args"],[e.t,.str d,.tup (tL as)],[nmE e,[],nmL as],[e.tr f,[],trL f as],[[],[none],[none]],none,by rw [Ex.t],by decide +kernel,.cons (wg ‹23› w.1) (.cons (qO fK) (.cons (Rz ‹23› w.2.2 w.2.1) .nil)),?_,by show 3<=3; decide,by decide +kernel,?_,.inr ⟨by decide +kernel,by decide +kernel,rfl⟩⟩)
  ·unfold nmE nmL;simp only [Ex.it,bJ,bz,dq,av,cS]
  ·unfold rO;rw [Ex.tr,cK ‹3›,cK ‹3›];simp only [bz,dq,av,cS,aI]
 | up d as=>
  rw [Ex.dp] at h;rw [Ex.wf] at w;refine .inr (.inr ⟨"up",["name","args"],[.str d,.tup (tL as)],[[],nmL as],[[],trL f as],[[none],[none]],none,by rw [Ex.t],by decide +kernel,.cons (qO fK) (.cons (Rz ‹23› w.2 w.1) .nil),?_,by show 2<=3; decide,by decide +kernel,?_,.inr ⟨by decide +kernel,by decide +kernel,rfl⟩⟩)
  ·unfold nmE nmL;simp only [Ex.it,cU,bz,dq,av,cS]
  ·unfold rO;rw [Ex.tr,dC (.inr rfl),cK ‹3›];simp only [bz,dq,av,cS,aI,cE]
 | bin x a b=>
  rw [Ex.dp] at h;rw [Ex.wf] at w
  by_cases hx:x = "or"
  ·subst hx;exact .inr (.inl ⟨a,b,rfl⟩)
  ·obtain ⟨b1,b2,b3⟩:=Jt x w.1;refine .inr (.inr ⟨x,["e","e"],[a.t,b.t],[nmE a,nmE b],[a.tr f,b.tr f],[[],[]],none,by rw [Ex.t],Ft x w.1,.cons (wg ‹23› w.2.1) (.cons (wg ‹23› w.2.2) .nil),?_,by show 2<=3; decide,hx,?_,.inr ⟨b2,b3,rfl⟩⟩)
   ·unfold nmE;simp only [Ex.it,bJ,bz,dq,av]
   ·unfold rO;rw [Ex.tr,cK hx,cK b1,cK (fun z=>b1 (.inl z))];simp only [bz,dq,av,cS,aI]
section
variable {C p n r c:Addr}{s q:Int}{xs cs:LV}{H:Hp}
theorem dW.zj(S:dW C H p n r c s q xs cs)(rc:r≠c)(hz:H z=none)(ts:LV):dW C (upd (upd H z (.tup ts)) r (.lst (xs++[.ref z]))) p n r c s q (xs++[.ref z]) cs/\Off3 p r c H (upd (upd H z (.tup ts)) r (.lst (xs++[.ref z])))/\(upd (upd H z (.tup ts)) r (.lst (xs++[.ref z]))) z=some (.tup ts)/\fB H (upd (upd H z (.tup ts)) r (.lst (xs++[.ref z]))):=by
 exists 1,s1,h1,H,z,(.tup ts),hz,H1;have S1:=S.same s1;obtain ⟨S2,o2⟩:=S1.lay rc (xs++[.ref z]);have o3:=(Same.off3 s1).trans o2;exact⟨S2,o3,o2.tups S1 z _ h1,o3.tups S⟩
theorem iy.of{x:Str}{lv:LV}{lk:List (Option Int)}{o:Option Int}(h:H a=some (.tup (.str x::lv)))(pl:Paired LkV lv lk)(ho:((x = "name" \/ x = "set")/\∃ k,lk=[some k]/\o=some k)\/(¬ x = "name" /\ ¬ x = "set" /\ o=none)):iy H (.ref a) o:=by
 rcases ho with ⟨hx,k,rfl,rfl⟩ | ⟨h1,h2,rfl⟩
 ·cases pl with
  | cons h0 hr=>
   cases hr;rw [h0 k rfl] at h;exact iy.num h hx
 ·exact iy.no h h1 h2
end
section
variable {P:uv}{w:xf}{K:PySem.W.Frag}{mg:MG}{base:Heap}{t:Adr}{ca:lW}
theorem Mh(D:Defs K mg t)(GL:Glb P w K mg t)(S:Sht K mg ca){f:Str->Int}{k:Nat}(hk:1<=k)(Gbp:bw P w K mg base CX0 k t.nF.1 t.nF.2 ["sheet","expression"] (JR ca.C f d))
  (Gah:bw P w K mg base CX0 k t.cg.1 t.cg.2 ["sheet","forms","parts"] (Fj K ca.C f d)):bw P w K mg base CX0 (k+1) t.aN.1 t.aN.2 ["sheet","expression"] (vX ca.C f (d+1)):=by
 have hz:sizeLine=16777216:=ci;have Gaa:=gZ (P:=P) (w:=w) (base:=base) D S;refine D.aN.fn.ok jo ‹5› ‹2›
 ·obtain ⟨p,n,r,c,s,q,xs,cs,v,e,rfl,_⟩:=h;rfl
 ·obtain ⟨p,n,r,c,s,q,xs,cs,v,e,rfl,sh,rc,na,dv,hd,hw,hn,k⟩:=h
  refine⟨_,(aA (bD (sS (lA (aW jk (by rfl) D.gY gC (aj (pv 1) (aj (pR (v:=V.ty "tuple") rfl D.cJ bR rfl) aq)))))
   (aA (aP (dX (pv 0) S.cl S.oO Gaa ‹1› S.oN .nil eZ (aj (bh (aj aM (aj (pv 1) aq))) aq)))
   (aD Ew))
   aX)
   (aA (aK (i:=2) jo.nd rfl (ue rfl) ‹24›)
   (aA (bD (aL dH (pv 2) aM (aQ _))
   (aA (aP (aF D.nF Gbp ‹1› (by rfl) (aj (pv 0) (aj (pv 1) aq))))
   (aD Ew))
   aX)
   (gw (bD (aL uV (pv 2) (bh (aj aM (aj aM aq))) (by with_unfolding_all rfl))
   (aD (aP (dX (pv 0) S.cl S.oO Gaa ‹1› S.oN .nil eZ (aj (bh (aj aM (aj aC aq))) aq))))
   aX)
   (aA (aK (i:=3) jo.nd rfl (ue rfl) (aF D.cg Gah ‹1› (by rfl) (aj (pv 0) (aj (pW (lZ (v:=V.ref t.cA) (by rfl) GL.mF rfl) (pv 2) ‹4›) (aj (cX iH (pv 1) (cW aC) fW) aq)))))
   (aD (bD (aL vV (pv 2) aM (aQ _))
   (aD (aP (dX (pv 0) S.cl S.oO Gaa ‹1› S.oN .nil eZ (aj (bH sJ (bh (aj (pv 2) aq)) (pv 3)) aq))))
   aX))))))),?_⟩
  obtain ⟨⟨dx,ob⟩,rr,ct⟩:=id sh;rcases Ex.CZ f hd hw with hv | ⟨a,b,rfl⟩ | ⟨x,fs,ts,nss,oss,lks,o,et,hm,ps,ef,htl,nor,etr,ho⟩
  ·have lv:e.tr f=[none]:=by rcases hv with rfl | ⟨i,rfl⟩ <;> rw [Ex.tr]
   rw [lv] at hn k
   have fin:∀ z (H1:Hp) (w:V),H z=none->H1=upd H z (.tup [.str "push",w])->Q .non (upd H1 r (.lst (xs++[.ref z]))):=by
    rintro z _ w hz rfl;obtain ⟨sh1,o1,h1,_⟩:=sh.zj rc hz [.str "push",w];exact k _ _ sh1 (Rws.one (iy.no h1 ‹3› ‹3›)) o1
   have hn':xs.length+1<=1000000:=hn;rcases hv with rfl | ⟨i,rfl⟩
   ·rw [Ex.t,Dp] at dv;subst dv;refine⟨_,rfl,_,_,_,false,rfl,.non,rfl,_,rfl,jQ ?_⟩;refine⟨_,rfl,p,dx,_,rfl,ob,jJ _ _ _ _ _,_,rfl,by show 2<=sizeLine; decide,fun z hz=>?_⟩;exact⟨p,n,r,c,dx,s,q,.ref z,xs,rfl,(Um hz) p _ ob,(Um hz) r _ rr,by omega,fin z _ _ hz rfl⟩
   ·rw [Ex.t,Dp] at dv;subst dv;refine⟨_,rfl,_,_,_,false,rfl,.int i,Bs N0,_,rfl,jQ ?_⟩;refine⟨_,rfl,p,dx,_,rfl,ob,jJ _ _ _ _ _,_,rfl,by show 2<=sizeLine; decide,fun z hz=>?_⟩;exact⟨p,n,r,c,dx,s,q,.ref z,xs,rfl,(Um hz) p _ ob,(Um hz) r _ rr,by omega,fin z _ _ hz rfl⟩
  ·rw [Ex.dp] at hd;rw [Ex.wf] at hw;have dv0:=dv;rw [Ex.t] at dv;obtain ⟨g,gs,rfl,hg,dl⟩:=L2.Dp.bG dv;obtain ⟨x1,ys,rfl,d1,dl'⟩:=dl.cases;have e1:=L2.Dp.cQ d1;subst e1;refine⟨_,rfl,_,_,_,true,rfl,.tup hg,lM N0 "tuple",_,rfl,iG ?_⟩;refine⟨_,rfl,g,_,_,_,rfl,rfl,Ui hg,aH (j:=0) rfl,?_⟩;refine‹9›;refine⟨_,rfl,_,rfl,p,n,r,c,s,q,xs,cs,_,a,b,rfl,sh,rc,na,dv0,by omega,by omega,hw.2.1,hw.2.2,hn,k⟩
  ·rw [et] at dv;rw [etr] at hn k;simp only [ae] at hn;obtain ⟨g,gs,rfl,hg,dl⟩:=L2.Dp.bG dv;obtain ⟨x1,ys,rfl,d1,dl'⟩:=dl.cases;have e1:=L2.Dp.cQ d1;subst e1;refine⟨_,rfl,_,_,_,true,rfl,.tup hg,lM N0 "tuple",_,rfl,iG ?_⟩;refine⟨_,rfl,g,_,_,_,rfl,rfl,Ui hg,aH (j:=0) rfl,?_⟩;refine⟨_,rfl,rfl,_,rfl,bF (ne_str nor) ?_⟩;refine⟨fun σ H1=>∃ zs,σ=[some (.ref p),some (.ref g),some (.str x),none]/\dW ca.C H1 p n r c s q (xs++zs) cs/\Rws H1 zs (rO x)/\Off3 p r c H H1,?_,?_⟩
   ·refine⟨_,rfl,by show 2<=sizeLine; decide,fun z hz=>⟨z,_,rfl,.inr (Ui ak),rfl,rfl,?_⟩⟩;have ei:inV (V.str x) [V.str "me",V.str "up"]=decide (x∈(["me","up"]:LS)):=jP (ns:=["me","up"]);have s1:Same H (upd H z (.tup [.str "me",.str "up"])):=Um hz;generalize upd H z (.tup [.str "me",.str "up"])=H1 at s1;have sh1:=sh.same s1
    by_cases hx:x = "me" \/ x = "up"
    ·have pr:rO x=[some 0]:=by unfold rO; rw [dC hx]
     rw [pr] at hn ⊢;have hn':xs.length+(1+(oss.flatten.length+(if x = "me" then [] else [o]).length))<=1000000:=hn;refine⟨_,rfl,cG (ei.trans (bg (by rcases hx with rfl | rfl <;> decide +kernel))) ?_⟩;refine⟨_,rfl,p,dx,_,rfl,s1 p _ ob,jJ _ _ _ _ _,by show 2<=sizeLine; decide,fun z2 hz2=>?_⟩;obtain ⟨sh2,o2,h2,_⟩:=sh1.zj rc hz2 [.str "name",.int 0];exact⟨p,n,r,c,dx,s,q,.ref z2,xs,rfl,(Um hz2) p _ (s1 p _ ob),(Um hz2) r _ (s1 r _ rr),by omega,_,rfl,sh2,Rws.one (iy.num h2 (.inl rfl)),(Same.off3 s1).trans o2⟩
    ·have pr:rO x=[]:=by unfold rO; rw [cK hx]
     rw [pr];refine⟨_,rfl,bF (by rw [show (if false=true then !inV (V.str x) [V.str "me",V.str "up"] else inV (V.str x) [V.str "me",V.str "up"])=decide (x∈(["me","up"]:LS)) from ei,fg,bc,bS]; exact hx) ?_⟩;exact⟨[],rfl,by rw [av]; exact sh1,.nil,Same.off3 s1⟩
   ·rintro _ H1 ⟨zs,rfl,sh1,rw1,o1⟩;refine⟨_,rfl,_,rfl,t.cA,_,.inr x,_,rfl,GL.dI.d,rfl,rJ GL.dI hm,?_⟩;have hg1:=o1.tups sh g _ hg;have zl:=rw1.len;refine⟨_,rfl,_,rfl,g,_,rfl,hg1,fun b2 H2 hb2 s2=>?_⟩;rw [jE] at hb2;have sh2:=sh1.same s2;have o2:=o1.trans (Same.off3 s2);refine⟨p,n,r,c,s,q,_,cs,t.ad "e" x,b2,ys,fs,ts,nss,oss,lks,rfl,sh2,rc,by rw [ef]; exact na.off sh o2,GL.dI.s (x,fs) hm,hb2,dl'.mono (o2.tups sh),ps,by omega,by rw [ae]; omega,fun l H3 zs3 lv sh3 rw3 o3 hl3 lk3 lvl=>?_⟩;have o23:=o2.trans o3;have rw13:=(rw1.mono ((Uj s2).trans (o3.tups sh2))).app rw3;have zl3:=rw3.len
    by_cases hme:x = "me"
    ·rw [dC hme,av] at k;refine⟨_,rfl,rfl,_,rfl,bF (by rw [hme]; decide +kernel) ?_⟩;exact k H3 _ (by rw [<- aI]; exact sh3) rw13 o23
    ·rw [cK hme] at k hn;have hn':xs.length+((rO x).length+(oss.flatten.length+1))<=1000000:=hn;refine⟨_,rfl,rfl,_,rfl,cG (by rw [ff (by intro z; injection z with z; exact hme z)]; rfl) ?_⟩;obtain ⟨⟨dx3,ob3⟩,rr3,ct3⟩:=id sh3;refine⟨_,rfl,p,dx3,_,rfl,ob3,jJ _ _ _ _ _,_,rfl,by show 1<=sizeLine; decide,fun z hz=>?_⟩;exists 1,s4,hz4,H3,z,(.tup [.str x]),hz,H4
     have fin:∀(H5:Hp) (y:Addr),Same H3 H5->H5 y=some (.tup (.str x::lv))->Fz ca.C [.ref p,.ref y] H5 (fun _ H'=>Q .non H') E0:=by
      intro H5 y s5 hy;have sh5:=sh3.same s5;obtain ⟨sh6,o6⟩:=sh5.lay rc (xs++zs++zs3++[.ref y]);have t6:=o6.tups sh5;refine⟨p,n,r,c,dx3,s,q,.ref y,_,rfl,s5 p _ ob3,s5 r _ rr3,by rw [ae,ae]; omega,?_⟩;refine k _ (zs++(zs3++[.ref y])) (by rw [<- aI,<- aI]; exact sh6) ?_ (o23.trans ((Same.off3 s5).trans o6));rw [<- aI,<- aI];exact(rw13.mono ((Uj s5).trans t6)).app (Rws.one (iy.of (t6 y _ hy) lk3 (ho.imp (fun h=>⟨.inl h.1,h.2⟩) id)))
     refine⟨_,rfl,z,l,_,lv,rfl,rfl,Ui hz4,Ui (s4 l _ hl3),(by intro z; cases z),by show 1+lv.length<=sizeLine; omega,fun e0=>?_,fun _ y hy=>?_⟩
     ·subst e0;exact fin _ z s4 hz4
     ·exact fin _ y (s4.trans (Um hy)) ak
theorem Lk(f:Str->Int):bw P w K mg base CX0 0 t.aN.1 t.aN.2 ["sheet","expression"] (vX ca.C f 0):=qw fun vs H Q E h=>by
 obtain ⟨_,_,_,_,_,_,_,_,_,e,_,_,_,_,_,h,_⟩:=h;have:=e.uZ;omega
theorem vm(D:Defs K mg t)(GL:Glb P w K mg t)(S:Sht K mg ca)(f:Str->Int):∀ d:Nat,bw P w K mg base CX0 (3 * d+1) t.aN.1 t.aN.2 ["sheet","expression"] (vX ca.C f d)
 | 0=>(Lk f).mono ‹23›
 | d+1=>by
  have h:=vm D GL S f d;have hL:=Jk D S h;have hT:=JL D S (oz _) h hL;exact Mh D GL S ‹23› ((QW D S ‹23› h).mono ‹23›) hT
theorem Kf(D:Defs K mg t)(GL:Glb P w K mg t)(S:Sht K mg ca)(f:Str->Int):bw P w K mg base CX0 15 t.cg.1 t.cg.2 ["sheet","forms","parts"] (Fj K ca.C f 4):=by
 have h:=vm (P:=P) (w:=w) (base:=base) D GL S f 4;exact JL D S (oz _) h (Jk D S h)
end
end K37
end
section
namespace L2
open PySem PySem.Spec PyProof.Rows
variable {X:Cx}{pos:Pos}{td ty:TE}
inductive Fy (X:Cx) (t:TA) (σ:St) (Q:VK) (v:V) (H1:Hp):Prop
 | mk (f:Addr) (fd:vy) (ps:LS) (k:Nat) (sp:Sp):v=.ref f->bw X.prog X.w X.K X.mg X.base CX0 k f fd ps sp->iD k X.A->PySem.W.keepIn X.K (.ref f)=true->Binds X.K fd ps []->(t σ H1 fun vs H2=>sp vs H2 Q E0)->Fy X t σ Q v H1
def QD(X:Cx)(tx:TE)(t:TA):TE:=fun σ H Q=>tx σ H fun v H1=>Fy X t σ Q v H1
theorem J2{x:Str}{e:Expr}{es:List Expr}{tx:TE}{t:TA}{p:Pos}(hx:PE X (.Name x p) tx)(ha:PA X (e::es) t)
  (he:uC (e::es) X.env=(false,eval e X.env)::uC es X.env:=by rfl) (hpl:(zg pos (uC es X.env)).any (·.1)=false:=by rfl):PE X (.Call (.Name x p) (e::es) [] pos) (QD X tx t):=by
 intro pins s σ H Q I h;refine ib (thn (hx pins s σ H _ I h) fun u s1 hs=>?_);obtain ⟨v,H1,I1,r1,f,fd,ps,k,sp,rfl,F,hr,hk,hb,q⟩:=hs;cases (show u=wy f from r1);refine mI (h₀:=X.base) I1.ok.mod.kin hk (thn (ha pos pins s1 σ H1 _ I1 q) fun us s2 ⟨vs,H2,I2,r2,q2⟩=>⟨I2.kIn,?_⟩) he hpl;exact yV F hr hb .nil eZ I2 r2 (by rw [av]; exact q2)
section
variable {X:Cx}
inductive N6 (P:uv) (w:xf) (K:PySem.W.Frag) (Q:VK) (y:V) (x:V) (H2:Hp):Prop
 | mk (a kvs k:_):x=.ref a->tU P w K a kvs->y=kV k->Q (.bl (cZ kvs k).isSome) H2->N6 P w K Q y x H2
def S7(P:uv)(w:xf)(K:PySem.W.Frag)(ty td:TE):TE:=fun σ H Q=>ty σ H fun y H1=>td σ H1 fun x H2=>N6 P w K Q y x H2
theorem Pk{i o:Expr}(hi:PE X i ty)(ho:PE X o td):PC X .In i o (S7 X.prog X.w X.K ty td):=by
 intro pins s σ H Q I h;refine thn (hi pins s σ H _ I h) fun iv s1 ⟨y,H1,I1,ry,q1⟩=>thn (ho pins s1 σ H1 _ I1 q1) fun u s2 ⟨x,H2,I2,rx,a,kvs,k,ex,kd,ey,q2⟩=>?_;subst ex ey;obtain rfl:u=wy a:=rx;obtain ⟨hd,⟨vs,rel,dd⟩,_⟩:=tU.at I2 kd;refine wpAny_in_of (rY ry) hd dd.mapOf ?_;rw [<- (rel.val k).kI];exact⟨.bl (cZ kvs k).isSome,H2,I2.tok _,rfl,q2⟩
end
end L2
end
section
namespace K37
open PySem PyProof.Rows L2
variable {H H':Hp}{v:V}{z:Addr}{i:Nat}{B:List St->Prop}
def CtV(H:Hp)(v:V)(k:Int):Prop:=∃(a:Addr) (x y z:Int),v=.ref a/\H a=some (.tup [.int x,.int k,.int y,.int z])
theorem CtV.mono{k:Int}(s:fB H H')(h:CtV H v k):CtV H' v k:=by
 obtain ⟨a,x,y,z,e,ha⟩:=h;exact⟨a,x,y,z,e,s a _ ha⟩
def Cts(H:Hp)(m:Nat)(ds:LV):Prop:=∃ ks:List Int,Paired (CtV H) ds ks/\ks.length<=m
section
variable {H H':Hp}{m:Nat}{ds:LV}
theorem Cts.mono(s:fB H H')(h:Cts H m ds):Cts H' m ds:=by
 obtain ⟨ks,h1,h2⟩:=h;exact⟨ks,pF (fun _ _=>CtV.mono s) h1,h2⟩
theorem Cts.nil:Cts H m []:=⟨[],.nil,bn _⟩
theorem Cts.app{m':Nat}{es:LV}(h:Cts H m ds)(h':Cts H m' es):Cts H (m+m') (ds++es):=by
 obtain ⟨ks,a,b⟩:=h;obtain ⟨ls,a',b'⟩:=h';exact⟨ks++ls,oJ a a',by rw [ae]; omega⟩
theorem Cts.one{k:Int}(h:CtV H v k):Cts H 1 [v]:=⟨[k],.cons h .nil,am _⟩
theorem Cts.len(h:Cts H m ds):ds.length<=m:=by
 obtain ⟨ks,a,d⟩:=h;rw [a.length];exact d
end
mutual
def St.ct:St->Nat
 | .one _ _=>0
 | .let_ _ _=>0
 | .put _ _ _=>0
 | .drop _ _=>0
 | .become _ _=>0
 | .turn _ _ _ _=>0
 | .strip _ _=>0
 | .cT _ _=>0
 | .if_ _ a b=>ctL a+ctL b
 | .while_ _ a=>ctL a
 | .repeat_ _ a=>ctL a
 | .try_ a _ b=>ctL a+1+ctL b
def ctL:List St->Nat
 | []=>0
 | s::r=>s.ct+ctL r
end
inductive Bw (C:Addr) (f:Str->Int) (B:List St->Prop) (vs:LV) (H:Hp) (Q:VK) (E_:XK):Prop
 | mk (p n r c:Addr) (s q:Int) (xs cs:LV) (v:V) (b:List St):vs=[.ref p,v]->dW C H p n r c s q xs cs->r≠c->mR H n f (nmB b)->Dp H (.tup (sL b)) v->B b->xs.length+(stL f b).length<=1000000->cs.length+ctL b<=1000->(∀ H' ys s' ds,dW C H' p n r c s' q (xs++ys) (cs++ds)->Rws H' ys (stL f b)->Cts H' (ctL b) ds->Off3 p r c H H'->Q .non H')->Bw C f B vs H Q E_
inductive yR (C:Addr) (f:Str->Int) (ok:St->Prop) (vs:LV) (H:Hp) (Q:VK) (E_:XK):Prop
 | mk (p n r c:Addr) (s q:Int) (xs cs:LV) (mk v:V) (st:St):vs=[.ref p,v]->dW C H p n r c s q (xs++[mk]) cs->iy H mk none->r≠c->mR H n f (nmS st)->Dp H st.t v->ok st->(xs++[mk]).length+(st.tr f).length<=1000000->cs.length+st.ct<=1000->(∀ H' ys s' ds,dW C H' p n r c s' q (xs++[mk]++ys) (cs++ds)->Rws H' ys (st.tr f)->Cts H' st.ct ds->Off3 p r c H H'->Q .non H')->yR C f ok vs H Q E_
section
variable {C p n r c:Addr}{s q:Int}{xs cs:LV}{H:Hp}
theorem dW.xP(S:dW C H p n r c s q xs cs)(rc:r≠c)(hz:H z=none)(ts:LV)(i:Nat):dW C (upd (upd H z (.tup ts)) r (.lst (xs.set i (.ref z)))) p n r c s q (xs.set i (.ref z)) cs/\Off3 p r c H (upd (upd H z (.tup ts)) r (.lst (xs.set i (.ref z))))/\(upd (upd H z (.tup ts)) r (.lst (xs.set i (.ref z)))) z=some (.tup ts):=by
 exists 1,s1,h1,H,z,(.tup ts),hz,H1;have S1:=S.same s1;obtain ⟨S2,o2⟩:=S1.lay rc (xs.set i (.ref z));exact⟨S2,(Same.off3 s1).trans o2,o2.tups S1 z _ h1⟩
theorem pX(xs ys:LV)(u v:V)(h:i=xs.length):(xs++u::ys).set i v=xs++v::ys:=by
 subst h;rw [List.set_append_right _ _ (am _),Nat.sub_self];rfl
end
section
variable {P:uv}{w:xf}{K:PySem.W.Frag}{mg:MG}{base:Heap}{t:Adr}{ca:lW}
theorem OJ(D:Defs K mg t)(S:Sht K mg ca){f:Str->Int}{k:Nat}(hk:13<=k)(Gab:bw P w K mg base CX0 13 t.aN.1 t.aN.2 ["sheet","expression"] (vX ca.C f 4))(Gad:bw P w K mg base CX0 k t.bU.1 t.bU.2 ["sheet","block"] (Bw ca.C f B)):bw P w K mg base CX0 (k+1) t.jA.1 t.jA.2 ["sheet","statement"] (yR ca.C f fun st=>∃ e a b,st=.if_ e a b/\EOk e/\B a/\B b):=by
 have hz:sizeLine=16777216:=ci;have Gac:=gH (P:=P) (w:=w) (base:=base) D S;have Gae:=iQ (P:=P) (w:=w) (base:=base) D S;refine D.jA.fn.ok tW ‹5› ‹2›
 ·obtain ⟨p,n,r,c,s,q,xs,cs,mk,v,st,rfl,_⟩:=h;rfl
 ·obtain ⟨p,n,r,c,s,q,xs,cs,mk,v,st,rfl,sh,hmk,rc,na,dv,⟨e,a,b,rfl,⟨ed,ew⟩,hA,hB⟩,hn,hc,k⟩:=h;generalize xs++[mk]=xs at sh hn k;have eN:nmS (.if_ e a b)=nmE e++(nmB a++nmB b):=by unfold nmS nmE nmB; rw [St.it,bJ,bJ]
  rw [eN] at na;rw [St.tr] at hn k;rw [St.ct] at hc k;rw [St.t] at dv;obtain ⟨g,zs,rfl,hg,dl⟩:=L2.Dp.bG dv;obtain ⟨z0,zs1,rfl,d0,dl1⟩:=dl.cases;obtain ⟨z1,zs2,rfl,d1,dl2⟩:=dl1.cases;obtain ⟨z2,zs3,rfl,d2,dl3⟩:=dl2.cases;obtain ⟨z3,zs4,rfl,d3,dl4⟩:=dl3.cases;simp only [ae,ar] at hn
  refine⟨_,(aA (aP (aF D.aN Gab ‹1› (by rfl) (aj (pv 0) (aj ‹24› aq))))
   (aA (aK (i:=2) tW.nd rfl (ue rfl) (lB (pv 0) S.cl S.nG Gac ‹1› S.oE .nil eZ))
   (aA (aP (aF D.bU Gad ‹1› (by rfl) (aj (pv 0) (aj ‹24› aq))))
   (aA (aK (i:=3) tW.nd rfl (ue rfl) (lB (pv 0) S.cl S.nG Gac ‹1› S.oE .nil eZ))
   (aA (aP (dX (pv 0) S.cl S.qF Gae ‹1› S.qP .nil eZ (aj (pv 2) (aj aM aq))))
   (aA (aP (aF D.bU Gad ‹1› (by rfl) (aj (pv 0) (aj ‹24› aq))))
   (aD (aP (dX (pv 0) S.cl S.qF Gae ‹1› S.qP .nil eZ (aj (pv 3) (aj aM aq))))))))))),?_⟩
  refine⟨_,rfl,_,rfl,g,_,_,_,rfl,rfl,Ui hg,aH (j:=1) rfl,p,n,r,c,s,q,xs,cs,z1,e,rfl,sh,rc,na.sub (fun x hx=>fh _ hx),d1,ed,ew,by omega,fun H1 ys1 sh1 rw1 o1=>?_⟩;obtain ⟨⟨dx1,ob1⟩,rr1,ct1⟩:=id sh1;have l1:=rw1.len;refine⟨_,rfl,p,dx1,_,rfl,ob1,lE _ _ _ _ _,p,n,r,c,dx1,s,q,xs++ys1,rfl,ob1,rr1,by rw [ae]; omega,?_⟩;obtain ⟨sh2,o2'⟩:=sh1.lay rc (xs++ys1++[V.non]);have rw2:=rw1.mono (o2'.tups sh1);have o2:=o1.trans o2';generalize upd H1 r (.lst (xs++ys1++[V.non]))=H2 at sh2 o2' rw2 o2;have t2:=o2.tups sh;refine⟨_,rfl,_,rfl,g,_,_,_,rfl,rfl,Ui (t2 g _ hg),aH (j:=2) rfl,p,n,r,c,s,q,_,cs,z2,a,rfl,sh2,rc,(na.off sh o2).sub (fun x hx=>bX _ (fh _ hx)),d2.mono t2,hA,by simp only [ae,ar,de]; omega,by omega,fun H3 ys3 s3 ds3 sh3 rw3 ct3 o3'=>?_⟩;have l3:=rw3.len;have o3:=o2.trans o3';obtain ⟨⟨dx3,ob3⟩,rr3,_⟩:=id sh3;refine⟨_,rfl,p,dx3,_,rfl,ob3,lE _ _ _ _ _,p,n,r,c,dx3,s3,q,_,rfl,ob3,rr3,by simp only [ae,ar,de]; omega,?_⟩;obtain ⟨sh4,o4'⟩:=sh3.lay rc (xs++ys1++[V.non]++ys3++[V.non]);have o4:=o3.trans o4';have t34:=o4'.tups sh3;generalize upd H3 r (.lst (xs++ys1++[V.non]++ys3++[V.non]))=H4 at sh4 o4' o4 t34;obtain ⟨⟨dx4,ob4⟩,rr4,_⟩:=id sh4;refine⟨_,rfl,p,dx4,_,rfl,ob4,nY _ _ _ _ _,_,rfl,p,n,r,c,dx4,s3,q,(xs++ys1).length,"unless",_,rfl,ob4,rr4,by simp only [ae,ar,de]; omega,fun z hz=>?_⟩;obtain ⟨sh5,o5',h5⟩:=sh4.xP rc hz [.str "unless",.int (xs++ys1++[V.non]++ys3++[V.non]).length] (xs++ys1).length;generalize upd (upd H4 z (.tup [.str "unless",.int (xs++ys1++[V.non]++ys3++[V.non]).length])) r (.lst ((xs++ys1++[V.non]++ys3++[V.non]).set (xs++ys1).length (.ref z)))=H5 at sh5 o5' h5;have t45:=o5'.tups sh4;have o5:=o4.trans o5';have t5:=o5.tups sh;rw [aI,aI (xs++ys1),show [V.non]++(ys3++[V.non])=V.non::(ys3++[V.non]) from rfl,pX _ _ _ _ rfl] at sh5;refine⟨_,rfl,_,rfl,g,_,_,_,rfl,rfl,Ui (t5 g _ hg),aH (j:=3) rfl,p,n,r,c,s3,q,_,_,z3,b,rfl,sh5,rc,(na.off sh o5).sub (fun x hx=>bX _ (bX _ hx)),d3.mono t5,hB,by simp only [ae,ar,de]; omega,by rw [ae]; have:=ct3.len; omega,fun H6 ys6 s6 ds6 sh6 rw6 ct6 o6'=>?_⟩;obtain ⟨⟨dx6,ob6⟩,rr6,_⟩:=id sh6;have l6:=rw6.len;have t56:=o6'.tups sh5;refine⟨_,rfl,p,dx6,_,rfl,ob6,nY _ _ _ _ _,_,rfl,p,n,r,c,dx6,s6,q,(xs++ys1++[V.non]++ys3).length,"go",_,rfl,ob6,rr6,by simp only [ae,ar,de]; omega,fun z7 hz7=>?_⟩;obtain ⟨sh7,o7',h7⟩:=sh6.xP rc hz7 [.str "go",.int (xs++ys1++V.ref z::(ys3++[V.non])++ys6).length] (xs++ys1++[V.non]++ys3).length;generalize upd (upd H6 z7 (.tup [.str "go",.int (xs++ys1++V.ref z::(ys3++[V.non])++ys6).length])) r (.lst ((xs++ys1++V.ref z::(ys3++[V.non])++ys6).set (xs++ys1++[V.non]++ys3).length (.ref z7)))=H7 at sh7 o7' h7;have t67:=o7'.tups sh6;have es:xs++ys1++V.ref z::(ys3++[V.non])++ys6=(xs++ys1++V.ref z::ys3)++V.non::ys6:=by simp only [aI,cE,cS]
  rw [es,pX _ _ _ _ (by simp only [ae,ar,de]; omega)] at sh7;have e7:xs++ys1++V.ref z::ys3++V.ref z7::ys6=xs++(ys1++V.ref z::(ys3++V.ref z7::ys6)):=by simp only [aI,cE,cS]
  rw [e7,aI cs] at sh7;have t57:=t56.trans t67;have t47:=t45.trans t57;refine k H7 _ s6 _ sh7 ((rw2.mono ((o3'.tups sh2).trans (t34.trans t47))).app (.cons (iy.no (t57 z _ h5) ‹3› ‹3›) ((rw3.mono (t34.trans t47)).app (.cons (iy.no h7 ‹3› ‹3›) (rw6.mono t67))))) ?_ (o5.trans (o6'.trans o7'));exact(ct3.mono (t34.trans t47)).app (ct6.mono t67)
end
section
variable {C p n r c:Addr}{s q:Int}{xs cs:LV}{H:Hp}
theorem dW.fld(S:dW C H p n r c s q xs cs)(dx:Addr)(s' q':Int):dW C (upd H p (.ins C dx (lQ n r c s' q'))) p n r c s' q' xs cs/\Off3 p r c H (upd H p (.ins C dx (lQ n r c s' q'))):=by
 obtain ⟨pr,pc⟩:=S.ne;exact⟨⟨⟨dx,ak⟩,by rw [au pr.symm]; exact S.rw_,by rw [au pc.symm]; exact S.ct⟩,fun b o h1 _ _ e=>by rw [au h1]; exact e⟩
end
section
variable {P:uv}{w:xf}{K:PySem.W.Frag}{mg:MG}{base:Heap}{t:Adr}{ca:lW}
theorem Dj(D:Defs K mg t)(S:Sht K mg ca){f:Str->Int}{k:Nat}(hk:13<=k)(Gab:bw P w K mg base CX0 13 t.aN.1 t.aN.2 ["sheet","expression"] (vX ca.C f 4))(Gad:bw P w K mg base CX0 k t.bU.1 t.bU.2 ["sheet","block"] (Bw ca.C f B)):bw P w K mg base CX0 (k+1) t.dG.1 t.dG.2 ["sheet","statement"] (yR ca.C f fun st=>∃ e a,st=.repeat_ e a/\EOk e/\B a):=by
 have hz:sizeLine=16777216:=ci;have Gaa:=gZ (P:=P) (w:=w) (base:=base) D S;have Gac:=gH (P:=P) (w:=w) (base:=base) D S;have Gae:=iQ (P:=P) (w:=w) (base:=base) D S;refine D.dG.fn.ok iM ‹5› ‹2›
 ·obtain ⟨p,n,r,c,s,q,xs,cs,mk,v,st,rfl,_⟩:=h;rfl
 ·obtain ⟨p,n,r,c,s,q,xs,cs,mk,v,st,rfl,sh,hmk,rc,na,dv,⟨e,a,rfl,⟨ed,ew⟩,hA⟩,hn,hc,k⟩:=h;have ea:atI (xs++[mk]) (-1)=some mk:=Ip _ _;generalize xs++[mk]=xs at sh hn k ea;have eN:nmS (.repeat_ e a)=nmE e++nmB a:=by unfold nmS nmE nmB; rw [St.it,bJ]
  rw [eN] at na;rw [St.tr] at hn k;rw [St.ct] at hc k;rw [St.t] at dv;obtain ⟨g,zs,rfl,hg,dl⟩:=L2.Dp.bG dv;obtain ⟨z0,zs1,rfl,d0,dl1⟩:=dl.cases;obtain ⟨z1,zs2,rfl,d1,dl2⟩:=dl1.cases;obtain ⟨z2,zs3,rfl,d2,dl3⟩:=dl2.cases;simp only [ae,ar,de] at hn;obtain ⟨⟨dx,ob⟩,rr,ct0⟩:=id sh
  refine⟨_,(aA (aK (i:=2) iM.nd rfl (ue rfl) (aV bO (fX (pv 0) rfl) (Ri Qi aC) ‹4›))
   (aA (aP (aF D.aN Gab ‹1› (by rfl) (aj (pv 0) (aj ‹24› aq))))
   (aA (aK (i:=3) iM.nd rfl (ue rfl) (lB (pv 0) S.cl S.nG Gac ‹1› S.oE .nil eZ))
   (aA (aK (i:=4) iM.nd rfl (ue rfl) (aW bC (by rfl) D.dg bY (aj (fX (pv 0) rfl) aq)))
   (aA (aP (dX (pv 0) S.cl S.oO Gaa ‹1› S.oN .nil eZ (aj (pv 2) aq)))
   (aA (aP (dX (pv 0) S.cl S.qF Gae ‹1› S.qP .nil eZ (aj (pv 3) (aj aM aq))))
   (aA (aK (i:=5) iM.nd rfl (ue rfl) (lB (pv 0) S.cl S.nG Gac ‹1› S.oE .nil eZ))
   (aA (sV (pv 0) aC Iv)
   (aA (aP (aF D.bU Gad ‹1› (by rfl) (aj (pv 0) (aj ‹24› aq))))
   (aA (sV (pv 0) aC O8)
   (aA (aP (dX (pv 0) S.cl S.oO Gaa ‹1› S.oN .nil eZ (aj (bh (aj aM (aj (pv 4) aq))) aq)))
   (aD (aP (dX (pv 0) S.cl S.qF Gae ‹1› S.qP .nil eZ (aj (pv 5) (aj aM aq)))))))))))))))),?_⟩
  refine⟨_,rfl,p,ca.C,dx,_,_,rfl,ob,S.cl,S.nR,vg _ _ _ _ _,_,rfl,r,xs,_,mk,rfl,rfl,Uh rr,ea,?_⟩;refine⟨_,rfl,_,rfl,g,_,_,_,rfl,rfl,Ui hg,aH (j:=1) rfl,p,n,r,c,s,q,xs,cs,z1,e,rfl,sh,rc,na.sub (fun x hx=>fh _ hx),d1,ed,ew,by omega,fun H1 ys1 sh1 rw1 o1=>?_⟩;obtain ⟨⟨dx1,ob1⟩,rr1,ct1⟩:=id sh1;have l1:=rw1.len;refine⟨_,rfl,p,dx1,_,rfl,ob1,lE _ _ _ _ _,p,n,r,c,dx1,s,q,xs++ys1,rfl,ob1,rr1,by rw [ae]; omega,?_⟩;obtain ⟨sh2,o2'⟩:=sh1.lay rc (xs++ys1++[V.non]);have rw2:=rw1.mono (o2'.tups sh1);have o2:=o1.trans o2';generalize upd H1 r (.lst (xs++ys1++[V.non]))=H2 at sh2 o2' rw2 o2;obtain ⟨⟨dx2,ob2⟩,rr2,_⟩:=id sh2;refine⟨_,rfl,p,ca.C,dx2,_,_,rfl,ob2,S.cl,S.nR,vg _ _ _ _ _,r,_,rfl,.inl (Uh rr2),?_⟩;refine⟨_,rfl,p,dx2,_,rfl,ob2,jJ _ _ _ _ _,_,rfl,p,n,r,c,dx2,s,q,mk,_,rfl,ob2,rr2,by simp only [ae,ar,de]; omega,?_⟩;obtain ⟨sh3,o3'⟩:=sh2.lay rc (xs++ys1++[V.non]++[mk]);have t23:=o3'.tups sh2;have o3:=o2.trans o3';generalize upd H2 r (.lst (xs++ys1++[V.non]++[mk]))=H3 at sh3 o3' t23 o3;obtain ⟨⟨dx3,ob3⟩,rr3,_⟩:=id sh3;refine⟨_,rfl,p,dx3,_,rfl,ob3,nY _ _ _ _ _,_,rfl,p,n,r,c,dx3,s,q,(xs++ys1).length,"go",_,rfl,ob3,rr3,by simp only [ae,ar,de]; omega,fun z4 hz4=>?_⟩;obtain ⟨sh4,o4',h4⟩:=sh3.xP rc hz4 [.str "go",.int (xs++ys1++[V.non]++[mk]).length] (xs++ys1).length;generalize upd (upd H3 z4 (.tup [.str "go",.int (xs++ys1++[V.non]++[mk]).length])) r (.lst ((xs++ys1++[V.non]++[mk]).set (xs++ys1).length (.ref z4)))=H4 at sh4 o4' h4;have t34:=o4'.tups sh3;have o4:=o3.trans o4';rw [aI,show [V.non]++([mk]:LV)=V.non::[mk] from rfl,pX _ _ _ _ rfl] at sh4;obtain ⟨⟨dx4,ob4⟩,rr4,_⟩:=id sh4;refine⟨_,rfl,p,dx4,_,rfl,ob4,lE _ _ _ _ _,p,n,r,c,dx4,s,q,_,rfl,ob4,rr4,by simp only [ae,ar,de]; omega,?_⟩;obtain ⟨sh5,o5'⟩:=sh4.lay rc (xs++ys1++V.ref z4::[mk]++[V.non]);have t45:=o5'.tups sh4;have o5:=o4.trans o5';generalize upd H4 r (.lst (xs++ys1++V.ref z4::[mk]++[V.non]))=H5 at sh5 o5' t45 o5;obtain ⟨⟨dx5,ob5⟩,rr5,_⟩:=id sh5;refine⟨_,rfl,p,ca.C,dx5,_,_,rfl,ob5,S.cl,S.nP,Pg _ _ _ _ _,_,_,rfl,rfl,dx5,_,ob5,by show 5 < 1000; decide,?_⟩;obtain ⟨sh6,o6'⟩:=sh5.fld dx5 s (q+1);have t56:=o6'.tups sh5;have o6:=o5.trans o6';rw [Fv];generalize upd H5 p (.ins ca.C dx5 (lQ n r c s (q+1)))=H6 at sh6 o6' t56 o6;have t6:=o6.tups sh;refine⟨_,rfl,_,rfl,g,_,_,_,rfl,rfl,Ui (t6 g _ hg),aH (j:=2) rfl,p,n,r,c,s,q+1,_,cs,z2,a,rfl,sh6,rc,(na.off sh o6).sub (fun x hx=>bX _ hx),d2.mono t6,hA,by simp only [ae,ar,de]; omega,by omega,fun H7 ys7 s7 ds7 sh7 rw7 ct7 o7'=>?_⟩;have l7:=rw7.len;have t67:=o7'.tups sh6;have o7:=o6.trans o7';obtain ⟨⟨dx7,ob7⟩,rr7,_⟩:=id sh7;refine⟨_,rfl,p,ca.C,dx7,_,_,rfl,ob7,S.cl,S.nP,Pg _ _ _ _ _,_,_,rfl,rfl,dx7,_,ob7,by show 5 < 1000; decide,?_⟩;obtain ⟨sh8,o8'⟩:=sh7.fld dx7 s7 (q+1 - 1);have t78:=o8'.tups sh7;have o8:=o7.trans o8';rw [Fv];generalize upd H7 p (.ins ca.C dx7 (lQ n r c s7 (q+1 - 1)))=H8 at sh8 o8' t78 o8;rw [show q+1 - 1=q by omega] at sh8;obtain ⟨⟨dx8,ob8⟩,rr8,_⟩:=id sh8;refine⟨_,rfl,p,dx8,_,rfl,ob8,jJ _ _ _ _ _,_,rfl,by show 2<=sizeLine; decide,fun z9 hz9=>?_⟩;refine⟨p,n,r,c,dx8,s7,q,.ref z9,_,rfl,(Um hz9) p _ ob8,(Um hz9) r _ rr8,by simp only [ae,ar,de]; omega,?_⟩;obtain ⟨sh9,o9',h9,t89⟩:=sh8.zj rc hz9 [.str "go",.int (xs++ys1++[V.non]).length];have o9:=o8.trans o9';generalize upd (upd H8 z9 (.tup [.str "go",.int (xs++ys1++[V.non]).length])) r (.lst (xs++ys1++V.ref z4::[mk]++[V.non]++ys7++[V.ref z9]))=H9 at sh9 o9' o9 t89 h9;obtain ⟨⟨dx9,ob9⟩,rr9,_⟩:=id sh9
  refine⟨_,rfl,p,dx9,_,rfl,ob9,nY _ _ _ _ _,_,rfl,p,n,r,c,dx9,s7,q,(xs++ys1++V.ref z4::[mk]).length,"round",_,rfl,ob9,rr9,by simp only [ae,ar,de]; omega,fun z hz=>?_⟩;obtain ⟨sh10,o10',h10⟩:=sh9.xP rc hz [.str "round",.int (xs++ys1++V.ref z4::[mk]++[V.non]++ys7++[V.ref z9]).length] (xs++ys1++V.ref z4::[mk]).length;generalize upd (upd H9 z (.tup [.str "round",.int (xs++ys1++V.ref z4::[mk]++[V.non]++ys7++[V.ref z9]).length])) r (.lst ((xs++ys1++V.ref z4::[mk]++[V.non]++ys7++[V.ref z9]).set (xs++ys1++V.ref z4::[mk]).length (.ref z)))=H10 at sh10 o10' h10;have t910:=o10'.tups sh9;have es:xs++ys1++V.ref z4::[mk]++[V.non]++ys7++[V.ref z9]=(xs++ys1++V.ref z4::[mk])++V.non::(ys7++[V.ref z9]):=by simp only [aI,cE,cS]
  have e10:xs++ys1++V.ref z4::[mk]++V.ref z::(ys7++[V.ref z9])=xs++(ys1++V.ref z4::mk::V.ref z::(ys7++[V.ref z9])):=by simp only [aI,cE,cS]
  rw [es,pX _ _ _ _ rfl,e10] at sh10;have t710:=t78.trans (t89.trans t910);have t410:=t45.trans (t56.trans (t67.trans t710));have t310:=t34.trans t410;refine k H10 _ s7 _ sh10 ((rw2.mono (t23.trans t310)).app (.cons (iy.no (t410 z4 _ h4) ‹3› ‹3›) (.cons (hmk.mono ((o9.trans o10').tups sh)) (.cons (iy.no h10 ‹3› ‹3›) ((rw7.mono t710).app (.cons (iy.no (t910 z9 _ h9) ‹3› ‹3›) .nil)))))) ?_ (o9.trans o10');exact ct7.mono t710
end
section
variable {C p n r c:Addr}{s q:Int}{xs cs:LV}{H:Hp}
theorem dW.cat(S:dW C H p n r c s q xs cs)(rc:r≠c)(hz:H z=none)(ts:LV):dW C (upd (upd H z (.tup ts)) c (.lst (cs++[.ref z]))) p n r c s q xs (cs++[.ref z])/\Off3 p r c H (upd (upd H z (.tup ts)) c (.lst (cs++[.ref z])))/\(upd (upd H z (.tup ts)) c (.lst (cs++[.ref z]))) z=some (.tup ts):=by
 exists 1,s1,h1,H,z,(.tup ts),hz,H1;have S1:=S.same s1;obtain ⟨_,pc⟩:=S1.ne;have o2:Off3 p r c H1 (upd H1 c (.lst (cs++[.ref z]))):=fun b o _ _ h3 e=>by rw [au h3]; exact e
 refine⟨?_,(Same.off3 s1).trans o2,o2.tups S1 z _ h1⟩;obtain ⟨⟨dx,h⟩,h1,h2⟩:=S1;exact⟨⟨dx,by rw [au pc]; exact h⟩,by rw [au rc]; exact h1,ak⟩
end
section
variable {P:uv}{w:xf}{K:PySem.W.Frag}{mg:MG}{base:Heap}{t:Adr}{ca:lW}
theorem Lq(D:Defs K mg t)(S:Sht K mg ca){f:Str->Int}{k:Nat}(hk:1<=k)(Gad:bw P w K mg base CX0 k t.bU.1 t.bU.2 ["sheet","block"] (Bw ca.C f B)):bw P w K mg base CX0 (k+1) t.iw.1 t.iw.2 ["sheet","statement"] (yR ca.C f fun st=>∃ a x b,st=.try_ a x b/\B a/\B b):=by
 have hz:sizeLine=16777216:=ci;have Gaa:=gZ (P:=P) (w:=w) (base:=base) D S;have Gac:=gH (P:=P) (w:=w) (base:=base) D S;have Gae:=iQ (P:=P) (w:=w) (base:=base) D S;refine D.iw.fn.ok qG ‹5› ‹2›
 ·obtain ⟨p,n,r,c,s,q,xs,cs,mk,v,st,rfl,_⟩:=h;rfl
 ·obtain ⟨p,n,r,c,s,q,xs,cs,mk,v,st,rfl,sh,hmk,rc,na,dv,⟨a,x,b,rfl,hA,hB⟩,hn,hc,k⟩:=h;generalize xs++[mk]=xs at sh hn k;have eN:nmS (.try_ a x b)=nmB a++x::nmB b:=by unfold nmS nmB; rw [St.it,bJ,eF]
  rw [eN] at na;rw [St.tr] at hn k;rw [St.ct] at hc k;rw [St.t] at dv;obtain ⟨g,zs,rfl,hg,dl⟩:=L2.Dp.bG dv;obtain ⟨z0,zs1,rfl,d0,dl1⟩:=dl.cases;obtain ⟨z1,zs2,rfl,d1,dl2⟩:=dl1.cases;obtain ⟨z2,zs3,rfl,d2,dl3⟩:=dl2.cases;obtain ⟨z3,zs4,rfl,d3,dl4⟩:=dl3.cases;have ex:=L2.Dp.cQ d2;subst ex;simp only [ae,ar,de] at hn;obtain ⟨⟨dx,ob⟩,rr,ct0⟩:=id sh
  refine⟨_,(aA (aK (i:=2) qG.nd rfl (ue rfl) (aW bC (by rfl) D.dg bY (aj (fX (pv 0) rfl) aq)))
   (aA (aP (aF D.bU Gad ‹1› (by rfl) (aj (pv 0) (aj ‹24› aq))))
   (aA (aK (i:=3) qG.nd rfl (ue rfl) (lB (pv 0) S.cl S.nG Gac ‹1› S.oE .nil eZ))
   (aA (aP (eO br cw cy bT (fX (pv 0) rfl) (aj (bh (aj (pv 2) (aj (pv 3) (aj (aW bC (by rfl) D.dg bY (aj (fX (pv 0) rfl) aq)) (aj (fX (pv 0) rfl) aq))))) aq)))
   (aA (aP (dX (pv 0) S.cl S.oO Gaa ‹1› S.oN .nil eZ (aj (bh (aj aM (aj (iR (gD hr) (fX (pv 0) rfl) ‹24› ‹4›) aq))) aq)))
   (aA (aP (aF D.bU Gad ‹1› (by rfl) (aj (pv 0) (aj ‹24› aq))))
   (aD (aP (dX (pv 0) S.cl S.qF Gae ‹1› S.qP .nil eZ (aj (pv 3) (aj aM aq))))))))))),?_⟩
  refine⟨_,rfl,p,ca.C,dx,_,_,rfl,ob,S.cl,S.nR,vg _ _ _ _ _,r,xs,rfl,.inl (Uh rr),?_⟩;refine⟨_,rfl,_,rfl,g,_,_,_,rfl,rfl,Ui hg,aH (j:=1) rfl,p,n,r,c,s,q,xs,cs,z1,a,rfl,sh,rc,na.sub (fun x hx=>fh _ hx),d1,hA,by omega,by omega,fun H1 ys1 s1 ds1 sh1 rw1 ct1 o1=>?_⟩;obtain ⟨⟨dx1,ob1⟩,rr1,_⟩:=id sh1;have l1:=rw1.len;refine⟨_,rfl,p,dx1,_,rfl,ob1,lE _ _ _ _ _,p,n,r,c,dx1,s1,q,xs++ys1,rfl,ob1,rr1,by rw [ae]; omega,?_⟩;obtain ⟨sh2,o2'⟩:=sh1.lay rc (xs++ys1++[V.non]);have t12:=o2'.tups sh1;have o2:=o1.trans o2';generalize upd H1 r (.lst (xs++ys1++[V.non]))=H2 at sh2 o2' t12 o2;obtain ⟨⟨dx2,ob2⟩,rr2,cc2⟩:=id sh2;refine⟨_,rfl,p,ca.C,dx2,_,_,rfl,ob2,S.cl,S.nC,Q7 _ _ _ _ _,.inl ⟨rfl,_,Uh cc2⟩,_,rfl,_,rfl,_,rfl,p,ca.C,dx2,_,_,rfl,ob2,S.cl,S.nR,vg _ _ _ _ _,r,_,rfl,.inl (Uh rr2),_,rfl,p,ca.C,dx2,_,_,rfl,ob2,S.cl,S.nP,Pg _ _ _ _ _,by show 4<=sizeLine; decide,fun z hz=>?_⟩;obtain ⟨sh3,o3',h3⟩:=sh2.cat rc hz [.int (xs.length:Int),.int ((xs++ys1).length:Int),.int ((xs++ys1++[V.non]).length:Int),.int q];refine⟨c,_,_,rfl,rfl,(Um hz) c _ cc2,by rw [ae]; have:=ct1.len; omega,?_⟩;generalize upd (upd H2 z (.tup [.int (xs.length:Int),.int ((xs++ys1).length:Int),.int ((xs++ys1++[V.non]).length:Int),.int q])) c (.lst (cs++ds1++[.ref z]))=H3 at sh3 o3' h3;have t23:=o3'.tups sh2;have o3:=o2.trans o3';obtain ⟨⟨dx3,ob3⟩,rr3,cc3⟩:=id sh3;obtain ⟨kvs,hn3,hk3⟩:=id (na.off sh o3);refine⟨_,rfl,p,dx3,_,rfl,ob3,jJ _ _ _ _ _,_,rfl,p,ca.C,dx3,_,_,rfl,ob3,S.cl,S.nN,QJ _ _ _ _ _,_,rfl,g,_,_,_,rfl,rfl,Ui (o3.tups sh g _ hg),aH (j:=2) rfl,n,.int (f x),rfl,?_,?_⟩
  ·rw [<- hk3 x (bX _ (bE ..))];exact lR.k (k:=.inr x) hn3
  refine⟨by show 2<=sizeLine; decide,fun z4 hz4=>?_⟩;refine⟨p,n,r,c,dx3,s1,q,.ref z4,_,rfl,(Um hz4) p _ ob3,(Um hz4) r _ rr3,by simp only [ae,ar,de]; omega,?_⟩;obtain ⟨sh4,o4',h4,t34⟩:=sh3.zj rc hz4 [.str "set",.int (f x)];have o4:=o3.trans o4';generalize upd (upd H3 z4 (.tup [.str "set",.int (f x)])) r (.lst (xs++ys1++[V.non]++[V.ref z4]))=H4 at sh4 o4' o4 t34 h4;have t4:=o4.tups sh;refine⟨_,rfl,_,rfl,g,_,_,_,rfl,rfl,Ui (t4 g _ hg),aH (j:=3) rfl,p,n,r,c,s1,q,_,_,z3,b,rfl,sh4,rc,(na.off sh o4).sub (fun y hy=>bX _ (cz _ hy)),d3.mono t4,hB,by simp only [ae,ar,de]; omega,by simp only [ae,ar,de]; have:=ct1.len; omega,fun H5 ys5 s5 ds5 sh5 rw5 ct5 o5'=>?_⟩;obtain ⟨⟨dx5,ob5⟩,rr5,_⟩:=id sh5;have l5:=rw5.len;have t45:=o5'.tups sh4;refine⟨_,rfl,p,dx5,_,rfl,ob5,nY _ _ _ _ _,_,rfl,p,n,r,c,dx5,s5,q,(xs++ys1).length,"go",_,rfl,ob5,rr5,by simp only [ae,ar,de]; omega,fun z6 hz6=>?_⟩;obtain ⟨sh6,o6',h6⟩:=sh5.xP rc hz6 [.str "go",.int (xs++ys1++[V.non]++[V.ref z4]++ys5).length] (xs++ys1).length;generalize upd (upd H5 z6 (.tup [.str "go",.int (xs++ys1++[V.non]++[V.ref z4]++ys5).length])) r (.lst ((xs++ys1++[V.non]++[V.ref z4]++ys5).set (xs++ys1).length (.ref z6)))=H6 at sh6 o6' h6;have t56:=o6'.tups sh5;have es:xs++ys1++[V.non]++[V.ref z4]++ys5=(xs++ys1)++V.non::V.ref z4::ys5:=by simp only [aI,cE,cS]
  rw [es,pX _ _ _ _ rfl,aI xs,aI,aI cs] at sh6;have t46:=t45.trans t56;have t36:=t34.trans t46;have t16:=t12.trans (t23.trans t36);refine k H6 _ s5 _ sh6 ((rw1.mono t16).app (.cons (iy.no h6 ‹3› ‹3›) (.cons (iy.num (t46 z4 _ h4) (.inr rfl)) (rw5.mono t56)))) ?_ (o4.trans (o5'.trans o6'));have c:=((ct1.mono t16).app (Cts.one ⟨z,_,_,_,rfl,t36 z _ h3⟩)).app (ct5.mono t56);rw [aI] at c;exact c
end
section
variable {P:uv}{w:xf}{K:PySem.W.Frag}{mg:MG}{base:Heap}{t:Adr}{ca:lW}
theorem GC(D:Defs K mg t)(S:Sht K mg ca){f:Str->Int}{k:Nat}(hk:13<=k)(Gab:bw P w K mg base CX0 13 t.aN.1 t.aN.2 ["sheet","expression"] (vX ca.C f 4))(Gad:bw P w K mg base CX0 k t.bU.1 t.bU.2 ["sheet","block"] (Bw ca.C f B)):bw P w K mg base CX0 (k+1) t.d8.1 t.d8.2 ["sheet","statement"] (yR ca.C f fun st=>∃ e a,st=.while_ e a/\EOk e/\B a):=by
 have hz:sizeLine=16777216:=ci;have Gaa:=gZ (P:=P) (w:=w) (base:=base) D S;have Gac:=gH (P:=P) (w:=w) (base:=base) D S;have Gae:=iQ (P:=P) (w:=w) (base:=base) D S;refine D.d8.fn.ok nQ ‹5› ‹2›
 ·obtain ⟨p,n,r,c,s,q,xs,cs,mk,v,st,rfl,_⟩:=h;rfl
 ·obtain ⟨p,n,r,c,s,q,xs,cs,mk,v,st,rfl,sh,hmk,rc,na,dv,⟨e,a,rfl,⟨ed,ew⟩,hA⟩,hn,hc,k⟩:=h;generalize xs++[mk]=xs at sh hn k;have eN:nmS (.while_ e a)=nmE e++nmB a:=by unfold nmS nmE nmB; rw [St.it,bJ]
  rw [eN] at na;rw [St.tr] at hn k;rw [St.ct] at hc k;rw [St.t] at dv;obtain ⟨g,zs,rfl,hg,dl⟩:=L2.Dp.bG dv;obtain ⟨z0,zs1,rfl,d0,dl1⟩:=dl.cases;obtain ⟨z1,zs2,rfl,d1,dl2⟩:=dl1.cases;obtain ⟨z2,zs3,rfl,d2,dl3⟩:=dl2.cases;simp only [ae,ar,de] at hn;obtain ⟨⟨dx,ob⟩,rr,ct0⟩:=id sh
  refine⟨_,(aA (aK (i:=2) nQ.nd rfl (ue rfl) (bH iW (aW bC (by rfl) D.dg bY (aj (fX (pv 0) rfl) aq)) aC))
   (aA (aP (aF D.aN Gab ‹1› (by rfl) (aj (pv 0) (aj ‹24› aq))))
   (aA (aK (i:=3) nQ.nd rfl (ue rfl) (lB (pv 0) S.cl S.nG Gac ‹1› S.oE .nil eZ))
   (aA (aP (aF D.bU Gad ‹1› (by rfl) (aj (pv 0) (aj ‹24› aq))))
   (aA (aP (dX (pv 0) S.cl S.oO Gaa ‹1› S.oN .nil eZ (aj (bh (aj aM (aj (pv 2) aq))) aq)))
   (aD (aP (dX (pv 0) S.cl S.qF Gae ‹1› S.qP .nil eZ (aj (pv 3) (aj aM aq)))))))))),?_⟩
  refine⟨_,rfl,p,ca.C,dx,_,_,rfl,ob,S.cl,S.nR,vg _ _ _ _ _,r,xs,rfl,.inl (Uh rr),_,_,rfl,rfl,?_⟩;refine⟨_,rfl,_,rfl,g,_,_,_,rfl,rfl,Ui hg,aH (j:=1) rfl,p,n,r,c,s,q,xs,cs,z1,e,rfl,sh,rc,na.sub (fun x hx=>fh _ hx),d1,ed,ew,by omega,fun H1 ys1 sh1 rw1 o1=>?_⟩;obtain ⟨⟨dx1,ob1⟩,rr1,ct1⟩:=id sh1;have l1:=rw1.len;refine⟨_,rfl,p,dx1,_,rfl,ob1,lE _ _ _ _ _,p,n,r,c,dx1,s,q,xs++ys1,rfl,ob1,rr1,by rw [ae]; omega,?_⟩;obtain ⟨sh2,o2'⟩:=sh1.lay rc (xs++ys1++[V.non]);have rw2:=rw1.mono (o2'.tups sh1);have o2:=o1.trans o2';generalize upd H1 r (.lst (xs++ys1++[V.non]))=H2 at sh2 o2' rw2 o2;have t2:=o2.tups sh;refine⟨_,rfl,_,rfl,g,_,_,_,rfl,rfl,Ui (t2 g _ hg),aH (j:=2) rfl,p,n,r,c,s,q,_,cs,z2,a,rfl,sh2,rc,(na.off sh o2).sub (fun x hx=>bX _ hx),d2.mono t2,hA,by simp only [ae,ar,de]; omega,by omega,fun H3 ys3 s3 ds3 sh3 rw3 ct3 o3'=>?_⟩;have l3:=rw3.len;have o3:=o2.trans o3';obtain ⟨⟨dx3,ob3⟩,rr3,_⟩:=id sh3;refine⟨_,rfl,p,dx3,_,rfl,ob3,jJ _ _ _ _ _,_,rfl,by show 2<=sizeLine; decide,fun z4 hz4=>?_⟩;refine⟨p,n,r,c,dx3,s3,q,.ref z4,_,rfl,(Um hz4) p _ ob3,(Um hz4) r _ rr3,by simp only [ae,ar,de]; omega,?_⟩;obtain ⟨sh4,o4',h4,t34⟩:=sh3.zj rc hz4 [.str "go",.int ((xs.length:Int) - 1)];have o4:=o3.trans o4';generalize upd (upd H3 z4 (.tup [.str "go",.int ((xs.length:Int) - 1)])) r (.lst (xs++ys1++[V.non]++ys3++[V.ref z4]))=H4 at sh4 o4' o4 t34 h4;obtain ⟨⟨dx4,ob4⟩,rr4,_⟩:=id sh4;refine⟨_,rfl,p,dx4,_,rfl,ob4,nY _ _ _ _ _,_,rfl,p,n,r,c,dx4,s3,q,(xs++ys1).length,"unless",_,rfl,ob4,rr4,by simp only [ae,ar,de]; omega,fun z hz=>?_⟩;obtain ⟨sh5,o5',h5⟩:=sh4.xP rc hz [.str "unless",.int (xs++ys1++[V.non]++ys3++[V.ref z4]).length] (xs++ys1).length;generalize upd (upd H4 z (.tup [.str "unless",.int (xs++ys1++[V.non]++ys3++[V.ref z4]).length])) r (.lst ((xs++ys1++[V.non]++ys3++[V.ref z4]).set (xs++ys1).length (.ref z)))=H5 at sh5 o5' h5;have t45:=o5'.tups sh4;rw [aI,aI (xs++ys1),show [V.non]++(ys3++[V.ref z4])=V.non::(ys3++[V.ref z4]) from rfl,pX _ _ _ _ rfl,aI] at sh5;have t35:=t34.trans t45;refine k H5 _ s3 _ sh5 ((rw2.mono ((o3'.tups sh2).trans t35)).app (.cons (iy.no h5 ‹3› ‹3›) ((rw3.mono t35).app (.cons (iy.no (t45 z4 _ h4) ‹3› ‹3›) .nil)))) ?_ (o4.trans o5');exact ct3.mono t35
end
theorem xW(f:Str->Int)(b:List St):∀ a:List St,stL f (a++b)=stL f a++stL f b
 | []=>by rw [stL]; rfl
 | s::a=>by rw [cE,stL,stL,xW f b a,cE,aI]
theorem yU(b:List St):∀ a:List St,ctL (a++b)=ctL a+ctL b
 | []=>by rw [ctL,qi]; rfl
 | s::a=>by rw [cE,ctL,ctL,yU b a,Nat.add_assoc]
theorem Nb(f:Str->Int)(s:St):stL f [s]=none::s.tr f:=by rw [stL,stL,av]
theorem Mp(s:St):ctL [s]=s.ct:=by rw [ctL,ctL]; rfl
theorem Io(f:Str->Int){b:List St}(h:i < b.length):stL f (b.take (i+1))=stL f (b.take i)++none::b[i].tr f/\(stL f (b.take i)).length+1+(b[i].tr f).length<=(stL f b).length/\ctL (b.take (i+1))=ctL (b.take i)+b[i].ct/\ctL (b.take i)+b[i].ct<=ctL b:=by
 have e1:stL f (b.take (i+1))=stL f (b.take i)++none::b[i].tr f:=by rw [take_snoc h,xW,Nb]
 have e2:ctL (b.take (i+1))=ctL (b.take i)+b[i].ct:=by rw [take_snoc h,yU,Mp]
 have e3:stL f b=stL f (b.take (i+1))++stL f (b.drop (i+1)):=by rw [<- xW,gu]
 have e4:ctL b=ctL (b.take (i+1))+ctL (b.drop (i+1)):=by rw [<- yU,gu]
 refine⟨e1,?_,e2,by omega⟩;rw [e3,e1,ae,ae,ar];omega
def nests:LS:=["if","while","repeat","try"]
def tR(x:Str):Str:=if x = "let" then "set" else if x = "do" then "pop" else x
theorem Mf(x:Str):(cZ ([(.inr "let",V.str "set"),(.inr "do",V.str "pop")]:LK0) (.inr x)).getD (V.str x)=V.str (tR x):=by
 unfold tR
 by_cases h1:x = "let"
 ·subst h1; rfl
 ·rw [bZ (p:=((.inr "let" : Key),V.str "set")) (by intro z; injection z with z; exact h1 z.symm),cK h1]
  by_cases h2:x = "do"
  ·subst h2; rfl
  ·rw [bZ (p:=((.inr "do" : Key),V.str "pop")) (by intro z; injection z with z; exact h2 z.symm),cK h2];rfl
theorem FW{x:Str}(h:¬ x∈nests)(a b c d:V):cZ ([(.inr "if",a),(.inr "while",b),(.inr "repeat",c),(.inr "try",d)]:LK0) (.inr x)=none:=by
 unfold nests at h;simp only [bc,eL,iP,qB] at h;rw [bZ (p:=((.inr "if" : Key),a)) (by intro z; injection z with z; exact h.1 z.symm),bZ (p:=((.inr "while" : Key),b)) (by intro z; injection z with z; exact h.2.1 z.symm),bZ (p:=((.inr "repeat" : Key),c)) (by intro z; injection z with z; exact h.2.2.1 z.symm),bZ (p:=((.inr "try" : Key),d)) (by intro z; injection z with z; exact h.2.2.2 z.symm)];rfl
theorem JV:∀ w∈ones,¬ w∈nests/\¬ tR w = "name" /\ ¬ tR w = "set" := by decide +kernel
theorem St.CZ(f:Str->Int){s:St}(h:SOk B s):(∃ e a b,s=.if_ e a b/\EOk e/\B a/\B b)\/(∃ e a,s=.while_ e a/\EOk e/\B a)\/(∃ e a,s=.repeat_ e a/\EOk e/\B a)\/(∃ a x b,s=.try_ a x b/\B a/\B b)\/
  ∃(x:Str) (fs:LS) (ts:List T) (nss:LL) (oss lks:List (List (Option Int))) (o:Option Int),s.t=.tup (.str x::ts)/\(x,fs)∈stats/\PsL f 4 fs ts nss oss lks/\nss.flatten=nmS s/\ts.length<=4/\¬ x∈nests/\s.tr f=oss.flatten++[o]/\s.ct=0/\
   (((tR x = "name" \/ tR x = "set")/\∃ k,lks.flatten=[some k]/\o=some k)\/(¬ tR x = "name" /\ ¬ tR x = "set" /\ o=none)):=by
 cases s with
 | if_ e a b=>rw [SOk] at h; exact .inl ⟨e,a,b,rfl,h⟩
 | while_ e a=>rw [SOk] at h; exact .inr (.inl ⟨e,a,rfl,h⟩)
 | repeat_ e a=>rw [SOk] at h; exact .inr (.inr (.inl ⟨e,a,rfl,h⟩))
 | try_ a x b=>rw [SOk] at h; exact .inr (.inr (.inr (.inl ⟨a,x,b,rfl,h⟩)))
 | one x e=>
  rw [SOk] at h;obtain ⟨o1,o2,o3⟩:=JV x h.1;refine .inr (.inr (.inr (.inr ⟨x,["e"],[e.t],[nmE e],[e.tr f],[[]],none,by rw [St.t],Dv x h.1,.cons (wg h.2.1 h.2.2) .nil,?_,by show 1<=4; decide,o1,?_,by rw [St.ct],.inr ⟨o2,o3,rfl⟩⟩)))
  ·unfold nmS nmE;simp only [St.it,bz,dq,av]
  ·rw [St.tr];simp only [bz,dq,av]
 | let_ x e=>
  rw [SOk] at h;refine .inr (.inr (.inr (.inr ⟨"let",["x","e"],[.str x,e.t],[[x],nmE e],[[],e.tr f],[[some (f x)],[]],some (f x),by rw [St.t],by decide +kernel,.cons RG (.cons (wg h.1 h.2) .nil),?_,by show 2<=4; decide,by decide +kernel,?_,by rw [St.ct],.inl ⟨.inr ‹3›,_,rfl,rfl⟩⟩)))
  ·unfold nmS nmE;simp only [St.it,eF,bz,dq,av,eI,ir,cE,cS]
  ·rw [St.tr];simp only [bz,dq,av,cS]
 | put e g v=>
  rw [SOk] at h;refine .inr (.inr (.inr (.inr ⟨"put",["e","name","e"],[e.t,.str g,v.t],[nmE e,[],nmE v],[e.tr f,[],v.tr f],[[],[none],[]],none,by rw [St.t],by decide +kernel,.cons (wg h.1.1 h.1.2) (.cons (qO fK) (.cons (wg h.2.1 h.2.2) .nil)),?_,by show 3<=4; decide,by decide +kernel,?_,by rw [St.ct],.inr ⟨by decide +kernel,by decide +kernel,rfl⟩⟩)))
  ·unfold nmS nmE;simp only [St.it,bJ,bz,dq,av,cS]
  ·rw [St.tr];simp only [bz,dq,av,cS,aI]
 | drop e g=>
  rw [SOk] at h;refine .inr (.inr (.inr (.inr ⟨"drop",["e","name"],[e.t,.str g],[nmE e,[]],[e.tr f,[]],[[],[none]],none,by rw [St.t],by decide +kernel,.cons (wg h.1 h.2) (.cons (qO fK) .nil),?_,by show 2<=4; decide,by decide +kernel,?_,by rw [St.ct],.inr ⟨by decide +kernel,by decide +kernel,rfl⟩⟩)))
  ·unfold nmS nmE;simp only [St.it,bz,dq,av]
  ·rw [St.tr];simp only [bz,dq,av]
 | become e k=>
  rw [SOk] at h;refine .inr (.inr (.inr (.inr ⟨"become",["e","kind"],[e.t,.str k],[nmE e,[]],[e.tr f,[]],[[],[none]],none,by rw [St.t],by decide +kernel,.cons (wg h.1 h.2) (.cons (qO iT) .nil),?_,by show 2<=4; decide,by decide +kernel,?_,by rw [St.ct],.inr ⟨by decide +kernel,by decide +kernel,rfl⟩⟩)))
  ·unfold nmS nmE;simp only [St.it,bz,dq,av]
  ·rw [St.tr];simp only [bz,dq,av]
 | turn a b c d=>
  refine .inr (.inr (.inr (.inr ⟨"turn",["kind","name","kind","name"],[.str a,.str b,.str c,.str d],[[],[],[],[]],[[],[],[],[]],[[none],[none],[none],[none]],none,by rw [St.t],by decide +kernel,.cons (qO iT) (.cons (qO fK) (.cons (qO iT) (.cons (qO fK) .nil))),?_,by show 4<=4; decide,by decide +kernel,by rw [St.tr]; rfl,by rw [St.ct],.inr ⟨by decide +kernel,by decide +kernel,rfl⟩⟩)));unfold nmS;rw [St.it];rfl
 | strip a b=>
  refine .inr (.inr (.inr (.inr ⟨"strip",["kind","name"],[.str a,.str b],[[],[]],[[],[]],[[none],[none]],none,by rw [St.t],by decide +kernel,.cons (qO iT) (.cons (qO fK) .nil),?_,by show 2<=4; decide,by decide +kernel,by rw [St.tr]; rfl,by rw [St.ct],.inr ⟨by decide +kernel,by decide +kernel,rfl⟩⟩)));unfold nmS;rw [St.it];rfl
 | cT k es=>
  refine .inr (.inr (.inr (.inr ⟨"elders",["kind","elders"],[.str k,.tup (es.map T.str)],[[],[]],[[],[]],[[none],[none]],none,by rw [St.t],by decide +kernel,.cons (qO iT) (.cons (qO xO) .nil),?_,by show 2<=4; decide,by decide +kernel,by rw [St.tr]; rfl,by rw [St.ct],.inr ⟨by decide +kernel,by decide +kernel,rfl⟩⟩)));unfold nmS;rw [St.it];rfl
section
variable {P:uv}{w:xf}{K:PySem.W.Frag}{mg:MG}{base:Heap}{t:Adr}{ca:lW}
theorem Hf(D:Defs K mg t)(GL:Glb P w K mg t)(S:Sht K mg ca){f:Str->Int}{k:Nat}(hk:15<=k)
  (F1:bw P w K mg base CX0 k t.jA.1 t.jA.2 ["sheet","statement"] (yR ca.C f fun st=>∃ e a b,st=.if_ e a b/\EOk e/\B a/\B b))
  (F2:bw P w K mg base CX0 k t.d8.1 t.d8.2 ["sheet","statement"] (yR ca.C f fun st=>∃ e a,st=.while_ e a/\EOk e/\B a))
  (F3:bw P w K mg base CX0 k t.dG.1 t.dG.2 ["sheet","statement"] (yR ca.C f fun st=>∃ e a,st=.repeat_ e a/\EOk e/\B a))
  (F4:bw P w K mg base CX0 k t.iw.1 t.iw.2 ["sheet","statement"] (yR ca.C f fun st=>∃ a x b,st=.try_ a x b/\B a/\B b)):bw P w K mg base CX0 (k+1) t.bU.1 t.bU.2 ["sheet","block"] (Bw ca.C f fun b=>b.length<=15/\∀ s∈b,SOk B s):=by
 have hz:sizeLine=16777216:=ci;have Gaa:=gZ (P:=P) (w:=w) (base:=base) D S;have Gah:=Kf (P:=P) (w:=w) (base:=base) D GL S f;refine D.bU.fn.ok jl ‹5› ‹2›
 ·obtain ⟨p,n,r,c,s,q,xs,cs,v,b,rfl,_⟩:=h;rfl
 ·obtain ⟨p,n,r,c,s,q,xs,cs,v,b,rfl,sh,rc,na,dv,⟨hbl,hB⟩,hn,hc,k⟩:=h;rw [nW] at dv;obtain ⟨a,ys,rfl,ha,dl⟩:=L2.Dp.bG dv;have hyl:ys.length=b.length:=by rw [dl.length,aa]
  refine⟨_,(aD (dB dQ rfl (eY (pv 1)) (aJ (i:=2) jl.nd rfl (ue rfl))
   (aA (sV (pv 0) aC Iv)
   (aA (aP (dX (pv 0) S.cl S.oO Gaa ‹1› S.oN .nil eZ (aj (bh (aj aM (aj (fX (pv 0) rfl) aq))) aq)))
   (aA (aK (i:=3) jl.nd rfl (ue rfl) (aV aU (pv 2) aC ‹4›))
   (aD (bD (vq (Pk (pv 3) (lZ (v:=V.ref t.fU) (by rfl) GL.Dw rfl)))
   (aA (aK (i:=4) jl.nd rfl (ue rfl) (pW (lZ (v:=V.ref t.fU) (by rfl) GL.Dw rfl) (pv 3) ‹4›))
   (aD (aP (J2 (pv 4) (aj (pv 0) (aj (pv 2) aq))))))
   (aA (aK (i:=5) jl.nd rfl (ue rfl) (aF D.cg Gah ‹1› (by rfl) (aj (pv 0) (aj (pW (lZ (v:=V.ref t.dh) (by rfl) GL.rQ rfl) (pv 3) ‹4›) (aj (cX iH (pv 2) (cW aC) fW) aq)))))
   (aD (aP (dX (pv 0) S.cl S.oO Gaa ‹1› S.oN .nil eZ (aj (bH sJ (bh (aj (HB (lZ (v:=V.ref t.fH) (by rfl) GL.Aj rfl) (pv 3) (pv 3) ⟨by rfl,by rfl,by rfl,by rfl⟩) aq)) (pv 5)) aq)))))))))))),?_⟩
  refine⟨_,rfl,a,rfl,⟨_,Ui ha⟩,kj (K:=N0) (a:=a) (xs:=ys) (fun i σ H2=>∃(v2 v3 v4 v5:OV) (s2:Int) (zs ds:LV),σ=[some (.ref p),some (.ref a),v2,v3,v4,v5]/\dW ca.C H2 p n r c s2 q (xs++zs) (cs++ds)/\Rws H2 zs (stL f (b.take i))/\Cts H2 (ctL (b.take i)) ds/\Off3 p r c H H2)
   ⟨_,_,_,_,s,[],[],rfl,by rw [av,av]; exact sh,.nil,Cts.nil,Off3.refl⟩ (fun i σ H2 _ ⟨_,_,_,_,_,_,_,_,_,_,_,o⟩=>Ui (o.tups sh a _ ha)) ?_ ?_⟩
  ·rintro i y σ H2 hy ⟨v2,v3,v4,v5,s2,zs,ds,rfl,sh2,rw2,ct2,o2⟩
   have hit:i < b.length:=by
    have:=(aT.mp hy).1;omega
   obtain ⟨y',ey,dy⟩:=dl.get (t:=b[i].t) (i:=i) (by rw [bj,af hit]; rfl);rw [hy] at ey;cases ey;obtain ⟨sp1,sp2,sp3,sp4⟩:=Io f hit
   have nmi:∀ x∈nmS b[i],x∈nmB b:=fun x hx=>by
    rw [uK];exact lS.mpr ⟨_,eA.mpr ⟨_,dm hit,rfl⟩,hx⟩
   have hst:=hB _ (dm hit);rw [sp1,sp3];clear sp1 sp3;generalize b[i]=st at dy sp2 sp4 nmi hst;have l2:=rw2.len;have cl2:=ct2.len;obtain ⟨⟨dx2,ob2⟩,rr2,_⟩:=id sh2;refine⟨_,rfl,p,ca.C,dx2,_,_,rfl,ob2,S.cl,S.nS,Rm _ _ _ _ _,_,_,rfl,rfl,dx2,_,ob2,by show 5 < 1000; decide,?_⟩;rw [Mz];obtain ⟨sh3,o3'⟩:=sh2.fld dx2 (s2+1) q;have t23:=o3'.tups sh2;have o3:=o2.trans o3';generalize upd H2 p (.ins ca.C dx2 (lQ n r c (s2+1) q))=H3 at sh3 o3' t23 o3;obtain ⟨⟨dx3,ob3⟩,rr3,_⟩:=id sh3;refine⟨_,rfl,p,dx3,_,rfl,ob3,jJ _ _ _ _ _,_,rfl,p,ca.C,dx3,_,_,rfl,ob3,S.cl,S.nS,Rm _ _ _ _ _,by show 2<=sizeLine; decide,fun z4 hz4=>?_⟩;refine⟨p,n,r,c,dx3,s2+1,q,.ref z4,_,rfl,(Um hz4) p _ ob3,(Um hz4) r _ rr3,by rw [ae]; omega,?_⟩;obtain ⟨sh4,o4',h4,t34⟩:=sh3.zj rc hz4 [.str "mark",.int (s2+1)];have o4:=o3.trans o4';generalize upd (upd H3 z4 (.tup [.str "mark",.int (s2+1)])) r (.lst (xs++zs++[V.ref z4]))=H4 at sh4 o4' o4 t34 h4;have mk4:iy H4 (.ref z4) none:=iy.no h4 ‹3› ‹3›;have t4:=o4.tups sh;have na4:=(na.off sh o4).sub nmi;have dy4:=dy.mono t4
   have fin:∀(H5:Hp) (ys5 ds5:LV) (s5:Int) (v2 v3 v4 v5:OV),dW ca.C H5 p n r c s5 q (xs++zs++[V.ref z4]++ys5) (cs++ds++ds5)->Rws H5 ys5 (st.tr f)->Cts H5 st.ct ds5->Off3 p r c H4 H5->
     ∃ (v2' v3' v4' v5':OV) (s2:Int) (zs' ds':LV),[some (.ref p),some (.ref a),v2,v3,v4,v5]=[some (.ref p),some (.ref a),v2',v3',v4',v5']/\dW ca.C H5 p n r c s2 q (xs++zs') (cs++ds')/\Rws H5 zs' (stL f (b.take i)++none::st.tr f)/\Cts H5 (ctL (b.take i)+st.ct) ds'/\Off3 p r c H H5:=by
    intro H5 ys5 ds5 s5 v2 v3 v4 v5 sh5 rw5 ct5 o5;have t45:=o5.tups sh4;have t25:=(t23.trans t34).trans t45;have e1:xs++zs++[V.ref z4]++ys5=xs++(zs++V.ref z4::ys5):=by simp only [aI,cE,cS]
    rw [e1,aI cs] at sh5;refine⟨v2,v3,v4,v5,s5,_,_,rfl,sh5,(rw2.mono t25).app (.cons (mk4.mono t45) rw5),?_,o4.trans o5⟩;exact(ct2.mono t25).app ct5
   have hl5:(xs++zs++[V.ref z4]).length+(st.tr f).length<=1000000:=by simp only [ae,ar,de]; omega
   have hc5:(cs++ds).length+st.ct<=1000:=by rw [ae]; omega
   rcases St.CZ f hst with h1 | h2 | h3 | h4 | ⟨x,fs,ts,nss,oss,lks,o,et,hm,ps,ef,htl,nn,etr,ect,ho⟩
   ·obtain ⟨e',a',b',rfl,hh⟩:=h1;have dy0:=dy;rw [St.t] at dy0;obtain ⟨g,gs,rfl,hg,dl2⟩:=L2.Dp.bG dy0;obtain ⟨x1,ys',rfl,d1,dl'⟩:=dl2.cases;have e1:=L2.Dp.cQ d1;subst e1;refine⟨_,rfl,g,_,_,_,rfl,rfl,Ui (t4 g _ hg),aH (j:=0) rfl,?_⟩;refine⟨_,rfl,t.fU,_,.inr "if",rfl,GL.j8,rfl,_,rfl,jQ ?_⟩;refine⟨_,rfl,t.fU,_,.inr "if",_,rfl,GL.j8,rfl,rfl,?_⟩;refine⟨_,rfl,t.jA.1,t.jA.2,_,_,_,rfl,F1,hr.mono ‹23›,D.jA.fn.kp,D.jA.b,_,rfl,_,rfl,?_⟩;exact⟨p,n,r,c,s2+1,q,xs++zs,cs++ds,.ref z4,_,_,rfl,sh4,mk4,rc,na4,dy4,⟨e',a',b',rfl,hh⟩,hl5,hc5,fun H5 ys5 s5 ds5 sh5 rw5 ct5 o5=>fin H5 ys5 ds5 s5 _ _ _ _ sh5 rw5 ct5 o5⟩
   ·obtain ⟨e',a',rfl,hh⟩:=h2;have dy0:=dy;rw [St.t] at dy0;obtain ⟨g,gs,rfl,hg,dl2⟩:=L2.Dp.bG dy0;obtain ⟨x1,ys',rfl,d1,dl'⟩:=dl2.cases;have e1:=L2.Dp.cQ d1;subst e1;refine⟨_,rfl,g,_,_,_,rfl,rfl,Ui (t4 g _ hg),aH (j:=0) rfl,?_⟩;refine⟨_,rfl,t.fU,_,.inr "while",rfl,GL.j8,rfl,_,rfl,jQ ?_⟩;refine⟨_,rfl,t.fU,_,.inr "while",_,rfl,GL.j8,rfl,rfl,?_⟩;refine⟨_,rfl,t.d8.1,t.d8.2,_,_,_,rfl,F2,hr.mono ‹23›,D.d8.fn.kp,D.d8.b,_,rfl,_,rfl,?_⟩;exact⟨p,n,r,c,s2+1,q,xs++zs,cs++ds,.ref z4,_,_,rfl,sh4,mk4,rc,na4,dy4,⟨e',a',rfl,hh⟩,hl5,hc5,fun H5 ys5 s5 ds5 sh5 rw5 ct5 o5=>fin H5 ys5 ds5 s5 _ _ _ _ sh5 rw5 ct5 o5⟩
   ·obtain ⟨e',a',rfl,hh⟩:=h3;have dy0:=dy;rw [St.t] at dy0;obtain ⟨g,gs,rfl,hg,dl2⟩:=L2.Dp.bG dy0;obtain ⟨x1,ys',rfl,d1,dl'⟩:=dl2.cases;have e1:=L2.Dp.cQ d1;subst e1;refine⟨_,rfl,g,_,_,_,rfl,rfl,Ui (t4 g _ hg),aH (j:=0) rfl,?_⟩;refine⟨_,rfl,t.fU,_,.inr "repeat",rfl,GL.j8,rfl,_,rfl,jQ ?_⟩;refine⟨_,rfl,t.fU,_,.inr "repeat",_,rfl,GL.j8,rfl,rfl,?_⟩;refine⟨_,rfl,t.dG.1,t.dG.2,_,_,_,rfl,F3,hr.mono ‹23›,D.dG.fn.kp,D.dG.b,_,rfl,_,rfl,?_⟩;exact⟨p,n,r,c,s2+1,q,xs++zs,cs++ds,.ref z4,_,_,rfl,sh4,mk4,rc,na4,dy4,⟨e',a',rfl,hh⟩,hl5,hc5,fun H5 ys5 s5 ds5 sh5 rw5 ct5 o5=>fin H5 ys5 ds5 s5 _ _ _ _ sh5 rw5 ct5 o5⟩
   ·obtain ⟨a',x',b',rfl,hh⟩:=h4;have dy0:=dy;rw [St.t] at dy0;obtain ⟨g,gs,rfl,hg,dl2⟩:=L2.Dp.bG dy0;obtain ⟨x1,ys',rfl,d1,dl'⟩:=dl2.cases;have e1:=L2.Dp.cQ d1;subst e1;refine⟨_,rfl,g,_,_,_,rfl,rfl,Ui (t4 g _ hg),aH (j:=0) rfl,?_⟩;refine⟨_,rfl,t.fU,_,.inr "try",rfl,GL.j8,rfl,_,rfl,jQ ?_⟩;refine⟨_,rfl,t.fU,_,.inr "try",_,rfl,GL.j8,rfl,rfl,?_⟩;refine⟨_,rfl,t.iw.1,t.iw.2,_,_,_,rfl,F4,hr.mono ‹23›,D.iw.fn.kp,D.iw.b,_,rfl,_,rfl,?_⟩;exact⟨p,n,r,c,s2+1,q,xs++zs,cs++ds,.ref z4,_,_,rfl,sh4,mk4,rc,na4,dy4,⟨a',x',b',rfl,hh⟩,hl5,hc5,fun H5 ys5 s5 ds5 sh5 rw5 ct5 o5=>fin H5 ys5 ds5 s5 _ _ _ _ sh5 rw5 ct5 o5⟩
   ·rw [et] at dy;simp only [etr,ae,ar,de] at hl5;obtain ⟨g,gs,rfl,hg,dl2⟩:=L2.Dp.bG dy;obtain ⟨x1,ys',rfl,d1,dl'⟩:=dl2.cases;have e1:=L2.Dp.cQ d1;subst e1;refine⟨_,rfl,g,_,_,_,rfl,rfl,Ui (t4 g _ hg),aH (j:=0) rfl,?_⟩;refine⟨_,rfl,t.fU,_,.inr x,rfl,GL.j8,rfl,_,rfl,?_⟩;rw [FW nn];refine iG ?_;refine⟨_,rfl,_,rfl,t.dh,_,.inr x,_,rfl,GL.gU.d,rfl,rJ GL.gU hm,?_⟩;refine⟨_,rfl,_,rfl,g,_,rfl,t4 g _ hg,fun b2 H5 hb2 s5=>?_⟩;rw [jE] at hb2;have sh5:=sh4.same s5;have o5:=o4.trans (Same.off3 s5);refine⟨p,n,r,c,s2+1,q,xs++zs++[V.ref z4],cs++ds,t.ad "s" x,b2,ys',fs,ts,nss,oss,lks,rfl,sh5,rc,by rw [ef]; exact(na.off sh o5).sub nmi,GL.gU.s (x,fs) hm,hb2,dl'.mono (o5.tups sh),ps,by omega,by simp only [ae,ar,de]; omega,fun l H6 zs6 lv sh6 rw6 o6 hl6 lk6 lvl=>?_⟩;have l6:=rw6.len;obtain ⟨⟨dx6,ob6⟩,rr6,_⟩:=id sh6;refine⟨_,rfl,p,dx6,_,rfl,ob6,jJ _ _ _ _ _,t.fH,_,rfl,GL.Ag,_,rfl,_,rfl,.inr x,rfl,?_⟩;rw [Mf x];refine⟨by show 1<=sizeLine; decide,fun z hz=>?_⟩;exists 1,s7,hz7,H6,z,(.tup [.str (tR x)]),hz,H7
    have fin2:∀(H8:Hp) (y:Addr) (v2 v3 v4 v5:OV),Same H6 H8->H8 y=some (.tup (.str (tR x)::lv))->Fz ca.C [.ref p,.ref y] H8 (fun _ H'=>∃ (v2' v3' v4' v5':OV) (s2:Int) (zs' ds':LV),[some (.ref p),some (.ref a),v2,v3,v4,v5]=[some (.ref p),some (.ref a),v2',v3',v4',v5']/\dW ca.C H' p n r c s2 q (xs++zs') (cs++ds')/\Rws H' zs' (stL f (b.take i)++none::st.tr f)/\Cts H' (ctL (b.take i)+st.ct) ds'/\Off3 p r c H H') E0:=by
     intro H8 y v2 v3 v4 v5 s8 hy;have sh8:=sh6.same s8;obtain ⟨sh9,o9⟩:=sh8.lay rc (xs++zs++[V.ref z4]++zs6++[.ref y]);have t9:=o9.tups sh8;refine⟨p,n,r,c,dx6,s2+1,q,.ref y,_,rfl,s8 p _ ob6,s8 r _ rr6,by simp only [ae,ar,de]; omega,?_⟩;refine fin _ (zs6++[.ref y]) [] (s2+1) _ _ _ _ (by rw [<- aI,av]; exact sh9) ?_ Cts.nil ((Same.off3 s5).trans (o6.trans ((Same.off3 s8).trans o9)));rw [etr];exact(rw6.mono ((Uj s8).trans t9)).app (Rws.one (iy.of (t9 y _ hy) lk6 ho))
    refine⟨_,rfl,z,l,_,lv,rfl,rfl,Ui hz7,Ui (s7 l _ hl6),(by intro z; cases z),by show 1+lv.length<=sizeLine; omega,fun e0=>?_,fun _ y hy=>?_⟩
    ·subst e0;exact fin2 _ z _ _ _ _ s7 hz7
    ·exact fin2 _ y _ _ _ _ (s7.trans (Um hy)) ak
  ·rintro σ H2 ⟨v2,v3,v4,v5,s2,zs,ds,rfl,sh2,rw2,ct2,o2⟩;rw [hyl,aE (am _)] at rw2 ct2;exact k H2 zs s2 ds sh2 rw2 ct2 o2
end
end K37
end
section
namespace L2
open PySem PySem.Spec PyProof.Rows
variable {c:Addr}{qual:Str}{cd pm u:rn}{v:V}{h h':Heap}{params:Arguments}{body:Expr}{P:uv}{w:xf}{H:Hp}{scope:Scope}{pos:Pos}
def Bc(X:Cx)(A:xn)(qual:Str)(scope:Scope)(f:Addr)(cd:rn)(cl:List ‹19›)(N:LS)(s:sr)(H:Hp):Cx where
 prog:=X.prog
 w:=X.w
 K:=X.K
 mg:=X.mg
 base:=X.base
 A:=A.deeper (PySem.W.envX qual scope s.heap.objs.size f cd cl)
 N:=N
 s₀:=s
 H₀:=H
 env:=PySem.W.envX qual scope s.heap.objs.size f cd cl
 outer:=X.stack
 stack:=PySem.W.envX qual scope s.heap.objs.size f cd cl::X.stack
 ex:=[]
 calm:=true
 fn:=fun x=>(cl.lookup x).isNone
 pn:=[]
 xe:=fun _ _=>False
structure gQ (X:Cx) (scope:Scope) (x:Str) (fr:List Nat) (N:LS):Prop where
 kind:scope.kind=.function
 co:scope.isCoroutine=false
 gen:scope.isGenerator=false
 Ko:∀ y∈scope.names,y.2≠.cell
 free:∀ y∈scope.names,y.2=.free->X.env.kindOf y.1=some .cell\/X.env.kindOf y.1=some .free
 len:N.length=fr.length+1
 Hx:∀(j i:Nat),fr[j]?=some i->∃ y,N[j+1]?=some y/\X.N[i]?=some y/\scope.names.lookup y=some .free
 par:scope.names.lookup x=some .local
 hd:N[0]?=some x
section
variable {X:Cx}{scope:Scope}{x:Str}{N:LS}{fr:List Nat}{pins:LO}{σ:St}{H:Hp}{s:sr}{A:xn}
theorem gQ.clo(S:gQ X scope x fr N)(ok:X.Ok):∀ y∈scope.names,y.2=.free->∃ c,X.env.cells.lookup y.1=some c:=fun y hy e=>ok.has y.1 (S.free y hy e)
theorem gQ.sub(S:gQ X scope x fr N)(ok:X.Ok){y:Str}(h:(L2.clo X.env.cells scope.names []).lookup y=some c):X.env.cells.lookup y=some c:=by
 rcases xX (S.clo ok) h with q | q
 ·exact q
 ·simp at q
theorem Lj{f:Addr}{tk:Nat}(S:gQ X scope x fr N)(I:Inv X pins σ H s)(hA:A.frames=some X.stack)(hd:A.handled=none)(r:RelV v u)
  (hn:h'.Ns s.heap.objs.size fun y=>List.lookup y [(x,u)]) (hk:∀ b o,s.heap.get? b=some o->h'.get? b=some o) :
  Inv (Bc X A qual scope f cd (L2.clo X.env.cells scope.names []) N s H) [] (some v::frv σ fr) H { s with heap:=h',toks:=tk }:=by
 have e0:=I.env0
 refine⟨⟨I.ok.mod,S.kind,rfl,rfl,am _,fun y z c h1 h2=>I.ok.inj y z c (S.sub I.ok h1) (S.sub I.ok h2),fun y hy=>?_,fun y c h1 h2=>?_,fun _=>hd,xn.frames_deeper hA,.inr ⟨rfl,rfl⟩,fun b z=>absurd (show b∈([]:LA) from z) (by simp),e0.bs,e0.bsz,fun b _ _ z=>absurd (show b∈([]:LA) from z) (by simp),fun b z=>absurd (show b∈([]:LA) from z) (by simp),e0.qL,e0.frf⟩,
  rfl,I.bare,Un.kept hk,⟨_,hn,fun i y v' h1 h2 h3=>?_⟩,fun y c h=>?_,e0.hok.fresh (am _),fun y c h=>I.oM y c (S.sub I.ok h),fun p hp=>absurd (show p∈([]:LO) from hp) (by simp),e0.hok.kept hk,?_⟩
 ·have hy:scope.names.lookup y=some .cell\/scope.names.lookup y=some .free:=hy;rcases hy with hy | hy
  ·exact absurd rfl (S.Ko _ (fb hy))
  ·exact pY (fb hy)
 ·have h1:((L2.clo X.env.cells scope.names []).lookup y).isNone=true:=h1;have h2:(L2.clo X.env.cells scope.names []).lookup y=some c:=h2;rw [h2] at h1;cases h1
 ·cases i with
  | zero=>
   have h1:N[0]?=some y:=h1;rw [S.hd] at h1;cases h1;cases h2;refine⟨u,r,.inl ⟨S.par,?_⟩⟩;simp [ic]
  | succ j=>
   have h2:(fr.map fun i=>(σ[i]?).join)[j]?=some (some v'):=h2;rw [bj] at h2;cases q:fr[j]? with
   | none=>rw [q] at h2; cases h2
   | some i=>
    rw [q] at h2;obtain ⟨y',e1,e2,e3⟩:=S.Hx j i q;have h1:N[j+1]?=some y:=h1;rw [e1] at h1;cases h1;have h2:(σ[i]?).join=some v':=by simpa using h2
    have h2:σ[i]?=some (some v'):=by
     cases z:σ[i]? with
     | none=>rw [z] at h2; cases h2
     | some o=>rw [z] at h2; rw [show o=some v' from h2]
    have kf:=S.free _ (fb e3) rfl;obtain ⟨m,_,hl⟩:=I.loc
    obtain ⟨u',r',l⟩:=hl i y v' e2 h2 (by
     rcases kf with z | z
     ·exact .inr (.inl z)
     ·exact .inr (.inr z))
    refine⟨u',r',?_⟩;rcases l with ⟨z,_⟩ | ⟨_,c,e,o,ho,hd⟩
    ·rcases kf with k | k
     ·rw [k] at z; cases z
     ·rw [k] at z; cases z
    ·obtain ⟨c',q'⟩:=pY (cells:=X.env.cells) (acc:=[]) (fb e3);have:=S.sub I.ok q';rw [e] at this;cases this;exact .inr ⟨.inr e3,c,q',o,hk c o ho,hd⟩
 ·obtain ⟨v,o,ho,hd⟩:=I.cell y c (S.sub I.ok h);exact⟨v,o,hk c o ho,hd⟩
 ·show (some v::frv σ fr).length=N.length;rw [S.len,ar];unfold frv;rw [aa]
theorem Mv{name:Str}{ctv:rn}{f c':Addr}{t:TE}{Q:VK}(S:gQ X scope x fr N)(I:Inv X pins σ H s)
  (ho:s.heap.get? f=some (PySem.W.kla_obj name qual params body scope (L2.clo X.env.cells scope.names []) pm c' ctv)) (hc:s.heap.CodeRec (.ref c') qual) (hA:A.frames=some X.stack) (hd:A.handled=none) (hdep:A.depth < recursionLimit)
  (hb:bindArgs (PySem.W.kla_fn name qual params body scope (L2.clo X.env.cells scope.names []) pm (.ref c') ctv) ⟨[u],[]⟩=Eg [(x,u)]) (r:RelV v u)
  (hbody:PE (Bc X A qual scope f (.ref c') (L2.clo X.env.cells scope.names []) N s H) body t) (ht:t (some v::frv σ fr) H Q) :
  HH ‹6› A (.call (.ref f) ⟨[u],[]⟩) (fun r s'=>∃ v' u' H',r=.ok (.ret u')/\Inv X pins σ H' s'/\RelV v' u'/\Q v' H') s:=by
 have lim:=I.nolimit;refine PySem.W.kla_callFunE hdep ho rfl S.co S.gen rfl hc ?_;rw [hb];refine ay ?_;refine PySem.wpAny_newFunctionEnv S.Ko (fun y hy=>?_) (fun h' hn hs=>?_) S.kind
 ·cases bS.mp hy;exact S.par
 ·have hk:∀ b o,s.heap.get? b=some o->h'.get? b=some o:=fun b o e=>by
   rw [hs.2 b (dE (bu e))];exact ai _ e
  refine⟨lim.keeps hk,PySem.W.kla_codeExpr ?_⟩;have I1:Inv (Bc X A qual scope f (.ref c') (L2.clo X.env.cells scope.names []) N s H) [] (some v::frv σ fr) H { s with heap:=h',toks:=s.toks+1 }:=Lj S I hA hd r hn hk;refine fT (hbody [] _ _ H Q I1 ht) (fun u' s' hs=>?_) (fun _ _ h=>(show False from h).elim);obtain ⟨v',H',I',r',q'⟩:=hs;refine⟨v',u',H',rfl,?_,r',q'⟩;have J:=I.call (t':=s'.toks) (d':=s'.drawn) I'.base I'.hok I'.bare (fun _ h=>nomatch h);have eo:s'.os=s.os:=I'.os;rw [<- eo] at J;exact J
end
def Bm(mg:MG)(base:Heap):Prop:=∃ bm ob,mg "__builtins__" = some (.ref bm)/\bm≠Tz/\base.get? bm=some ob/\ob.cls=.type "module" /\ ob.dict=some Tz/\ob.data=.plain
inductive Cdh (K:PySem.W.Frag) (cd:rn) (P:Addr):Prop
 | mk (c:_):cd=.ref c->(∀ h,K.In h->PySem.W.CodeHd h c P)->Cdh K cd P
def Tb1(H:Hp)(P:Addr)(pos:Pos)(qual:Str)(c:Addr):Prop:=H P=some (.tbl #[rawInt pos.line,rawInt pos.col,.ref c])/\H c=some (.ext fun h=>h.CodeRec (.ref c) qual)
def Nr(H:Hp)(f:Addr)(qual:Str)(params:Arguments)(body:Expr)(scope:Scope)(cl:List ‹19›):Prop:=
 ∃ pm c ctv,H f=some (.ext fun h=>h.get? f=some (PySem.W.kla_obj "<lambda>" qual params body scope cl pm c ctv))/\H c=some (.ext fun h=>h.CodeRec (.ref c) qual)
theorem KN{q:Str}(e:h.CodeRec (.ref c) q):dJ P w H h c (.ext fun h=>h.CodeRec (.ref c) q):=by
 obtain ⟨c',o,vs,t,z,h1,h2,h3⟩:=id e;cases z;refine⟨e,⟨o,h1⟩,fun g1 g2 ⟨c',o,vs,t,z,q1,q2,q3⟩ k=>?_⟩;cases z;exact⟨_,o,vs,t,rfl,k o q1,q2,q3⟩
theorem Em{f:Addr}{o:Obj}(e:h.get? f=some o):dJ P w H h f (.ext fun h=>h.get? f=some o):=
 ⟨e,⟨o,e⟩,fun _ _ q k=>k o q⟩
section
variable {X:Cx}{pins:LO}{σ:St}{H:Hp}{s:sr}
theorem Inv.table{P f:Addr}{ps more:AV}{q:Str}{fo:Obj}{tk:Nat}(I:Inv X pins σ H s)(hP:H P=some (.tbl ps))(k:∀ b o,b≠P->s.heap.get? b=some o->h'.get? b=some o)(hT:h'.get? P=some { cls:=.none,data:=.fields (ps++more) })
  (hc:s.heap.objs.size<=c) (cr:h'.CodeRec (.ref c) q) (hf:s.heap.objs.size<=f) (fe:h'.get? f=some fo) (ne:f≠c) :
  Inv X pins σ (upd (upd (upd H P (.tbl (ps++more))) c (.ext fun h=>h.CodeRec (.ref c) q)) f (.ext fun h=>h.get? f=some fo)) { s with heap:=h',toks:=tk }:=by
 have hcn:H c=none:=I.hok.fresh hc;have hfn:H f=none:=I.hok.fresh hf;have cP:c≠P:=fun e=>by rw [e,hP] at hcn; cases hcn
 have fP:f≠P:=fun e=>by rw [e,hP] at hfn; cases hfn
 have old:∀ b o,s.heap.get? b=some o->b≠c/\b≠f:=fun b o e=>⟨dE (dS (bu e) hc),dE (dS (bu e) hf)⟩;have H':∀ b,b≠P->b≠c->b≠f->upd (upd (upd H P (.tbl (ps++more))) c (.ext fun h=>h.CodeRec (.ref c) q)) f (.ext fun h=>h.get? f=some fo) b=H b:=fun b h1 h2 h3=>by rw [au h3,au h2,au h1]
 have keepH:∀ b u,H b=some u->b≠P->upd (upd (upd H P (.tbl (ps++more))) c (.ext fun h=>h.CodeRec (.ref c) q)) f (.ext fun h=>h.get? f=some fo) b=some u:=fun b u e h1=>by
  rw [H' b h1 (aB e hcn) (aB e hfn)];exact e
 have nP:∀ b o,s.heap.get? b=some o->H b=none->b≠P:=fun b o e n z=>by rw [z,hP] at n; cases n
 refine I.step (g':=s.gens) (d':=s.drawn) (ch:=[]) (fun _ z=>nomatch z) (fun b o _ _ _ e n=>k b o (nP b o e n) e) (fun b o _ _ _ e n=>⟨o.slots,k b o (nP b o e n) e⟩) (fun b o _ e n=>?_) (fun b o _ e=>?_) (fun b xs e=>keepH b _ e ?_) (fun b o u e=>keepH b _ e ?_) (fun b qs e=>?_) (fun m hm=>?_) (fun b u e=>?_) I.bare
 ·rw [H' b (nP b o e n) (old b o e).1 (old b o e).2];exact n
 ·by_cases hb:b=P
  ·rw [hb]; exact⟨_,hT⟩
  ·exact⟨o,k b o hb e⟩
 ·rintro rfl;rw [hP] at e;cases e
 ·rintro rfl;rw [hP] at e;cases e
 ·by_cases hb:b=P
  ·rw [hb,hP] at e;cases e;refine⟨more,?_⟩;rw [hb,au fP.symm,au cP.symm,ak]
  ·exact⟨#[],by rw [keepH b _ e hb]; simp⟩
 ·obtain ⟨o,es,ep,ho,r⟩:=hm;exact⟨o,es,ep,k _ o (nP _ o ho I.free) ho,r⟩
 ·by_cases hb:b=f
  ·subst hb;rw [ak] at e;cases e;exact Em fe
  ·rw [au hb] at e
   by_cases hb2:b=c
   ·subst hb2;rw [ak] at e;cases e;exact KN cr
   ·rw [au hb2] at e
    by_cases hb3:b=P
    ·subst hb3;rw [ak] at e;cases e;exact hT
    ·rw [au hb3] at e;refine(I.hok b u e).stay (fun d o hd q=>k d o ?_ q) (fun d q=>keepH d _ q ?_) fun d xs q=>keepH d _ q ?_
     ·rcases hd with rfl | hd
      ·exact hb3
      ·rintro rfl;rw [hP] at hd;cases hd
     ·rintro rfl;rw [hP] at q;cases q
     ·rintro rfl;rw [hP] at q;cases q
def QX(P:Addr)(pos:Pos)(qual:Str)(params:Arguments)(body:Expr)(scope:Scope)(cl:List ‹19›):TE:=fun σ H Q=>
 (H P=some (.tbl #[])\/∃ c,Tb1 H P pos qual c)/\∀ f H',Off P H H'->(∃ c,Tb1 H' P pos qual c)->Nr H' f qual params body scope cl->H f=none->Q (.ref f) H'
theorem Bm.at{P:Addr}{ps:AV}(B:Bm X.mg X.base)(I:Inv X pins σ H s)(hP:H P=some (.tbl ps)):s.heap.BuiltinsAt X.mg P:=by
 obtain ⟨bm,ob,h1,h2,h3,h4,h5,h6⟩:=B;obtain ⟨e1,e2⟩:=I.bs bm ob h3;refine⟨bm,ob,h1,h2,fun z=>?_,fun z=>?_,e1,h4,h5,h6⟩
 ·obtain ⟨o,es,ep,ho,hd,_⟩:=I.ok.mod.glob;rw [<- z,h3] at ho;cases ho;rw [h6] at hd;cases hd
 ·rw [z,hP] at e2;cases e2
theorem Qg{P:Addr}(B:Bm X.mg X.base)(C:Cdh X.K X.env.code P)(hf:∀ y∈scope.names,y.2=.free->X.env.kindOf y.1=some .cell\/X.env.kindOf y.1=some .free)
  (hdf:defaultsOf params X.env=([],[]):=by rfl) :
  PE X (.Lambda params body scope pos) (QX P pos (X.env.qual++Str.ofString "<lambda>") params body scope (clo X.env.cells scope.names [])):=by
 intro pins s σ H Q I h;obtain ⟨h1,h⟩:=h;obtain ⟨c0,ec,hcd⟩:=C;have cl:=qM (env:=X.env) (scope:=scope) fun y hy e=>I.ok.has y.1 (hf y hy e);have hns:s.heap.Ns ww X.mg:=I.ok.mod.glob.keeps I.bk;refine PySem.W.kla_eval hdf ?_;rcases h1 with hP | ⟨c,hP,hc⟩
 ·have hT:s.heap.get? P=some (PySem.W.tabObj #[]):=I.hok P _ hP;refine PySem.W.kla_makeFunction cl I.ok.glob hns ec (hcd _ I.kIn) hT trivial rfl (fun z=>?_) (B.at I hP) fun c' ctv h' tk ext hsz hlt hcr htab=>?_
  ·obtain ⟨o,es,ep,ho,hd,_⟩:=I.ok.mod.glob;have:=(I.bs _ _ ho).2;rw [z,hP] at this;cases this
  ·have hsz':s.heap.objs.size<=h'.objs.size:=eR hsz (pV hlt)
   have cr:(h'.push (PySem.W.kla_obj (Str.ofString "<lambda>") (X.env.qual++Str.ofString "<lambda>") params body scope (clo X.env.cells scope.names []) ((X.mg (Str.ofString "__name__")).getD yf) c' ctv)).CodeRec (.ref c') (X.env.qual++Str.ofString "<lambda>"):=by
    obtain ⟨c2,o,vs,t,z,q1,q2,q3⟩:=hcr;exact⟨c2,o,vs,t,z,ai _ q1,q2,q3⟩
   have J:=I.table (f:=h'.objs.size) (tk:=tk) (more:=#[rawInt ↑pos.line,rawInt ↑pos.col,wy c']) hP (fun b o hb e=>ai _ (ext b o hb e)) (ai _ htab) hsz cr hsz' (aS _ rfl) (fun z=>iN _ (by rw [z] at hlt; exact hlt));have hcn:H c'=none:=I.hok.fresh hsz;have hfn:H h'.objs.size=none:=I.hok.fresh hsz';have cP:c'≠P:=fun e=>by rw [e,hP] at hcn; cases hcn
   have fP:h'.objs.size≠P:=fun e=>by rw [e,hP] at hfn; cases hfn
   have fc:h'.objs.size≠c':=fun e=>by rw [<- e] at hlt; exact iN _ hlt
   refine⟨.ref h'.objs.size,_,J,rfl,h _ _ (fun b u hb e=>?_) ⟨c',?_,?_⟩ ⟨_,c',ctv,ak,?_⟩ hfn⟩
   ·rw [au (aB e hfn),au (aB e hcn),au hb];exact e
   ·rw [au fP.symm,au cP.symm,ak];simp
   ·rw [au fc.symm,ak]
   ·rw [au fc.symm,ak]
 ·have hT:s.heap.get? P=some (PySem.W.tabObj _):=I.hok P _ hP;refine PySem.W.kla_makeFunctionHit (cv:=.ref c) cl I.ok.glob hns ec (hcd _ I.kIn) hT ?_ ?_ (B.at I hP) fun ctv h' tk hk hsz=>?_
  ·show TriplesOk (yz _ _::yz _ _::_::[]);rw [TriplesOk.eq_2];trivial
  ·show codeAmong pos (yz _ _::yz _ _::_::[])=_;rw [codeAmong.eq_1];simp
  ·have J:=I.laid (a:=h'.objs.size) (t':=tk) (o:=.ext fun h=>h.get? h'.objs.size=some (PySem.W.kla_obj (Str.ofString "<lambda>") (X.env.qual++Str.ofString "<lambda>") params body scope (clo X.env.cells scope.names []) ((X.mg (Str.ofString "__name__")).getD yf) c ctv)) (fun b o e=>ai _ (hk b o e)) hsz (Em (aS _ rfl));have hfn:H h'.objs.size=none:=I.hok.fresh hsz;refine⟨.ref h'.objs.size,_,J,rfl,h _ _ (fun b u hb e=>?_) ⟨c,?_,?_⟩ ⟨_,c,ctv,ak,?_⟩ hfn⟩
   ·rw [au (aB e hfn)];exact e
   ·rw [au (aB hP hfn)];exact hP
   ·rw [au (aB hc hfn)];exact hc
   ·rw [au (aB hc hfn)];exact hc
end
end L2
end
section
namespace L2
open PySem PySem.Spec PyProof.Rows PySem.W
variable {xs:LV}{i t':Nat}{D:Addr}{o:HO}{h':Heap}{M:Model}{A:xn}{E Q:ES}{s:sr}{kp pos:Pos}{id:String}{env:Env}
theorem Ls{us:LU}(r:Vals xs us)(hi:i < xs.length):RelV (xs.getD i .non) (us.getD i .none):=by
 obtain ⟨u,e,q⟩:=r.get (af hi);rw [i8,i8,e,af hi];exact q
theorem Ai{xs:LV}{us:LU}(r:Vals xs us):∀ {l:List Nat},(∀ i∈l,i < xs.length)->Vals (l.map fun i=>xs.getD i .non) (l.map fun i=>us.getD i .none)
 | [],_=>.nil
 | i::l,h=>.cons (Ls r (h i bE)) (Ai r fun j hj=>h j (cz _ hj))
def Ks(kz:List Int)(ks:LU):Prop:=∀ i,i < ks.length->∃ t,ks[i]?=some (.int (kz.getD i 0) t)
section
variable {X:Cx}{pins:LO}{σ:St}{H:Hp}{s:sr}
theorem Inv.adopt{kS:Addr}(I:Inv X pins σ H s)(hD:X.s₀.heap.objs.size<=D)(hK:X.s₀.heap.objs.size<=kS)(nD:H D=none)(nK:H kS=none)(lD:D≠X.env.locals)(lK:kS≠X.env.locals)(cD:∀ x c,X.env.cells.lookup x=some c->c≠D/\c≠kS)
  (pD:∀ p∈X.pn++pins,p.1≠D/\p.1≠kS) (k:∀ b u,b≠D->b≠kS->s.heap.get? b=some u->h'.get? b=some u) (new:dJ X.prog X.w (upd H D o) h' D o):Inv X pins σ (upd H D o) { s with heap:=h',toks:=t' }:=by
 have inL:∀ {b:Addr},b ∉ [D,kS]->b≠D/\b≠kS:=fun h=>⟨fun e=>h (by simp [e]),fun e=>h (by simp [e])⟩
 refine I.step (g':=s.gens) (d':=s.drawn) (ch:=[D,kS]) (fun b hb=>?_) (fun b u _ _ hc e _=>k b u (inL hc).1 (inL hc).2 e) (fun b u _ _ hc e _=>⟨u.slots,k b u (inL hc).1 (inL hc).2 e⟩) (fun b u hc _ n=>by rw [au (inL hc).1]; exact n) (fun b u hc e=>⟨u,k b u (inL hc).1 (inL hc).2 e⟩)
  (fun b xs e=>by rw [au (aB e nD)]; exact e) (fun b q u e=>by rw [au (aB e nD)]; exact e) (fun b ps e=>⟨#[],by rw [au (aB e nD),e]; simp⟩) (fun m hm=>?_) (fun b u e=>?_) I.bare
 ·rcases bc.mp hb with rfl | hb
  ·exact⟨.inr hD,lD,fun x c e=>(cD x c e).1,fun p hp=>(pD p hp).1⟩
  ·cases bS.mp hb;exact⟨.inr hK,lK,fun x c e=>(cD x c e).2,fun p hp=>(pD p hp).2⟩
 ·obtain ⟨q,es,ep,hq,r⟩:=hm;exact⟨q,es,ep,k _ q lD.symm lK.symm hq,r⟩
 ·by_cases hb:b=D
  ·subst hb;rw [ak] at e;cases e;exact new
  ·rw [au hb] at e;refine(I.hok b u e).stay (fun c v hc q=>k c v ?_ ?_ q) (fun c q=>by rw [au (aB q nD)]; exact q) fun c xs q=>by rw [au (aB q nD)]; exact q
   ·rcases hc with rfl | hc
    ·exact hb
    ·exact aB hc nD
   ·rcases hc with rfl | hc
    ·exact aB e nK
    ·exact aB hc nK
theorem ints_of{kz:List Int}:∀ {ks:LU},Ks kz ks->ks.length=kz.length->Ub ks kz:=by
 intro ks
 induction ks generalizing kz with
 | nil=>intro _ e; cases kz with | nil=>exact .nil | cons=>cases e
 | cons v ks ih=>
  intro h e;cases kz with
  | nil=>cases e
  | cons z kz=>
   obtain ⟨t,q⟩:=h 0 (Nat.succ_pos _);cases (dL q);refine .cons _ _ (ih (fun i hi=>?_) (by simpa using e));obtain ⟨t,q⟩:=h (i+1) (Nat.succ_lt_succ hi);exact⟨t,by simpa using q⟩
end
theorem Qv{args:List (Bool × Sem rn)}{keywords:List (Option Str × Sem rn)}(hp:args.any (·.1)=false)(hk:keywords.any (·.1.isNone)=false)
  (h:ut M A (evalArgs (.builtin id) true args keywords) (fun a s₁=>ut M A (call (.builtin id) a.pos a.kw) Q E s₁) E s):ut M A (Q4 pos (.builtin id) [] args keywords) Q E s:=by
 unfold Q4;refine ac (gv (fT h (fun a s1 h1=>ac (mn ?_)) fun _ _ x=>x));simp only [hk,hp,Bool.or_false];exact ac (ay (ac (fT h1 (fun r s2 hr=>ac (gv (wpAny_point (ay hr)))) fun _ _ x=>x)))
theorem Nf{a v:Expr}{k:Str}
  (h:ut M A (spliced (zg pos (uC [a] env))) (fun vs s1=>ut M A (eval v env) (fun u s2=>ut M A (call (.builtin id) vs [(k,u)]) Q E s2) E s1) E s)
  (he:uC [a] env=(false,eval a env)::uC [] env) (hp:(zg pos (uC [a] env)).any (·.1)=false) :
  ut M A (Q4 pos (.builtin id) [] (zg pos (uC [a] env)) (Tt pos (JS [⟨some k,v,kp⟩] env))) Q E s:=by
 refine Qv hp rfl ?_;rw [he] at h ⊢;refine evalArgs_kwB rfl (thn h fun vs s1 h1=>kws_cons (thn h1 fun u s2 h2=>kws_nil ?_));exact h2
end L2
end
section
namespace L2
open PySem PySem.Spec PyProof.Rows
variable {X:Cx}{scope:Scope}{P:uv}{w:xf}{K:PySem.W.Frag}{mg:MG}{qual:Str}{st:Stmt}{fd:vy}{N ps:LS}{sp:Sp}
def LSc(scX:Scope)(N0:LS)(scope:Scope)(x:Str)(fr:List Nat)(N:LS):Prop:=
 CSc scX N0 scope [x] fr N/\scope.isCoroutine=false/\scope.isGenerator=false/\(∀ y∈scope.names,y.2≠.cell)/\scope.names.lookup x=some .local
instance (scX:Scope) (N0:LS) (scope:Scope) (x:Str) (fr:List Nat) (N:LS):Decidable (LSc scX N0 scope x fr N):=by
 unfold LSc
 infer_instance
theorem gQ.of(x:Str)(fr:List Nat)(N:LS)(scX:Scope)(N0:LS)(hsc:X.env.scope=scX)(hN:X.N=N0)(h:LSc scX N0 scope x fr N):gQ X scope x fr N:=by
 have C:=Uo [x] fr N scX N0 hsc hN h.1;refine⟨C.kind,h.2.1,h.2.2.1,h.2.2.2.1,C.free,by rw [C.len]; exact Nat.add_comm _ _,fun j i e=>?_,h.2.2.2.2,?_⟩
 ·obtain ⟨y,e1,e2,e3⟩:=C.Hx j i e;exact⟨y,by rw [show j+1=[x].length+j from Nat.add_comm _ _]; exact e1,e2,e3⟩
 ·have h0:0 < N.length:=by rw [C.len]; exact dS Nat.zero_lt_one (lI _ _)
  have:=C.frs 0 N[0] (af h0) Nat.zero_lt_one;rw [af h0,<- (show x=N[0] from by simpa using this)]
theorem Fun.okC{base:Heap}{x:Str}{f:Addr}{k:Nat}(F:Fun K x qual st f fd)(S:bf N ps (aG st))(len:∀ vs H Q E,sp vs H Q E->vs.length=ps.length)
  (hbody:∀(cdv:rn) (A:xn) (outer:List Env) (s:sr) (H:Hp) (vs:LV) (Q:VK) (E:XK),cdv=fd.code->iD k (A.deeper (Su qual (aG st) s.heap.objs.size f cdv))->sp vs H Q E->
   ∃ t,PSs (Aq CX0 P w K mg base N qual (aG st) f cdv A outer s H E).nox (j9 st) t/\t { nx:=fun _ H'=>Q .non H',rt:=Q } (start N vs) H):bw P w K mg base CX0 (k+1) f fd ps sp:=by
 obtain ⟨oc,od,kV,doc,pm,an,cdv,ct,osl,rfl,lk,hcd⟩:=F.ex;refine Oa lk hcd S len fun A outer s H vs Q E hr hsp=>?_;obtain ⟨t,h,q⟩:=hbody cdv A outer s H vs Q E rfl hr hsp;exact⟨t,h.nox,q⟩
end L2
end
section
namespace L2
open PySem PySem.Spec PyProof.Rows PySem.W
variable {xs:LV}{E:ES}{params:Arguments}{body:Expr}{scope:Scope}{kp pos:Pos}{tl:TE}{qual:Str}{fr:List Nat}{N:LS}
section
variable {X:Cx}{pins:LO}{σ:St}{H:Hp}{s:sr}
theorem map_range:(List.range xs.length).map (fun i=>xs.getD i .non)=xs:=by
 apply List.ext_getElem (by simp);intro i a b;simp [b]
theorem Aw{l f:Addr}{vs:LU}{kz:List Int}(I:Inv X pins σ H s)(hl:s.heap.IsList l vs.toArray)(rv:Vals xs vs)(h64:vs.length < 64)(hkz:kz.length=xs.length)
  (hkey:∀ (pins':LO) (H1:Hp) (s1:sr) (i:Nat) (u:rn) (v:V),Same H H1->Inv X pins' σ H1 s1->xs[i]?=some v->RelV v u->
   ut ‹6› X.A.in1.in1 (call (.ref f) [u]) (fun r s2=>∃ t H2,r=.int (kz.getD i 0) t/\Same H1 H2/\Inv X pins' σ H2 s2) (fun _ _=>False) s1) :
  ut ‹6› X.A (call (.builtin "sorted") [.ref l] [("key",.ref f)]) (fun r s'=>∃ D ys H1,r=.ref D/\ys.Perm xs/\Same H H1/\H1 D=none/\Inv X pins σ (upd H1 D (.lst ys)) s') E s:=by
 have hxv:xs.length=vs.length:=rv.length;have hz:vs.length<=sizeLine:=by rw [ci]; omega
 refine call_function_entry_kw kind_sorted plain_sorted entry_sorted (ksk_s1 _ _) ?_;unfold uA.«sorted»;refine ac (m:=checkCount "sorted" 1 1 _) (ay ?_);refine ac (collect_list hl ?_ ‹23›);refine ac (qE ?_ ‹23›)
 have hsz:((s.heap.push ‹11›).update s.heap.objs.size (xm (·++vs.toArray))).objs.size=s.heap.objs.size+1:=by
  rw [lL,size_push']
 have hoL:(((s.heap.push ‹11›).update s.heap.objs.size (xm (·++vs.toArray))).push (seqObj "list" vs.toArray 0)).get? ‹7›=some (seqObj "list" vs.toArray 0):=by
  rw [<- hsz]; exact aS _ rfl
 have keep:∀ b o,s.heap.get? b=some o->(((s.heap.push ‹11›).update s.heap.objs.size (xm (·++vs.toArray))).push (seqObj "list" vs.toArray 0)).get? b=some o/\b < s.heap.objs.size:=fun b o q=>by
  have hlt:b < s.heap.objs.size:=bu q;refine⟨?_,hlt⟩;rw [kF _ _ _ (by rw [hsz]; exact dE (li hlt)),Heap.get?_update_ne _ _ _ _ (dE hlt),kF _ _ _ (dE hlt)];exact q
 show ut _ _ _ _ _ { s with heap:=((s.heap.push ‹11›).update s.heap.objs.size (xm (·++vs.toArray))).push (seqObj "list" vs.toArray 0) };rw [hsz];have hszA:(((s.heap.push ‹11›).update s.heap.objs.size (xm (·++vs.toArray))).push (seqObj "list" vs.toArray 0)).objs.size=s.heap.objs.size+2:=by rw [size_push',hsz]
 generalize hA:(((s.heap.push ‹11›).update s.heap.objs.size (xm (·++vs.toArray))).push (seqObj "list" vs.toArray 0))=hpA at hoL keep hszA;refine ac (gv (wpAny_call_entry_kw slot_list_sort ⟨_,hoL,rfl⟩ entry_list_sort ?_ (ksk_l1 _ _)));rw [show ([("key",wy f)]:List (Str × rn))=[(Str.ofString "key",wy f)] from rfl,ksk_t1];unfold ksk_tree;refine ac (listItems_at hoL rfl ?_);refine ac (mB hoL rfl ?_ (by rw [bb]; omega) (bn _));obtain ⟨e1,ho1⟩:∃ e1,(hpA.update ‹7› (xm fun _=>#[])).get? ‹7›=some (seqObj "list" #[] e1):=⟨_,pe hoL (fun _=>#[])⟩;refine ac (seqEpoch_at ho1 rfl ?_);refine ac (nz ?_ (by show vs.length<=_; omega));refine ac (qE ?_ (bn _));refine gv ?_;have sz2:((hpA.update ‹7› (xm fun _=>#[])).push (seqObj "tuple" vs.toArray 0)).objs.size=s.heap.objs.size+3:=by rw [size_push',lL,hszA]
 have keepB:∀ b o,s.heap.get? b=some o->(((hpA.update ‹7› (xm fun _=>#[])).push (seqObj "tuple" vs.toArray 0)).push ‹11›).get? b=some o:=fun b o e=>by
  obtain ⟨e',lt⟩:=keep b o e;exact ai _ (ai _ ((gL _ _ (dE (li lt)).symm).trans e'))
 have hoD:(((hpA.update ‹7› (xm fun _=>#[])).push (seqObj "tuple" vs.toArray 0)).push ‹11›).get? ‹7›=some (seqObj "list" #[] e1):=ai _ (ai _ ho1)
 have hoK:(((hpA.update ‹7› (xm fun _=>#[])).push (seqObj "tuple" vs.toArray 0)).push ‹11›).get? (s.heap.objs.size+3)=some (seqObj "list" #[] 0):=by
  rw [<- sz2]; exact aS _ rfl
 show ut ‹6› X.A.in1.in1 (ksk_rest ‹7› (.ref f) false vs.toArray e1 (.ref ((hpA.update ‹7› (xm fun _=>#[])).push (seqObj "tuple" vs.toArray 0)).objs.size)) _ E { s with heap:=((hpA.update ‹7› (xm fun _=>#[])).push (seqObj "tuple" vs.toArray 0)).push ‹11› };rw [sz2];generalize (((hpA.update ‹7› (xm fun _=>#[])).push (seqObj "tuple" vs.toArray 0)).push ‹11›)=hB at keepB hoD hoK;obtain ⟨D,eD⟩:∃ D,D=s.heap.objs.size+1:=⟨_,rfl⟩;obtain ⟨kS,eK⟩:∃ k,k=s.heap.objs.size+3:=⟨_,rfl⟩;rw [<- eD] at hoD ⊢;rw [<- eK] at hoK ⊢;have nDK:D≠kS:=by omega
 have newA:∀ {b:Addr},s.heap.objs.size<=b->X.s₀.heap.objs.size<=b/\b≠X.env.locals/\(∀ x c,X.env.cells.lookup x=some c->c≠b)/\(∀ p∈X.pn++pins,p.1≠b)/\b ∉ X.fs:=fun {b} hb=>by
  refine⟨eR I.sz hb,(dE (dS I.lt hb)).symm,fun x c e=>?_,fun p hp=>?_,I.RL hb⟩
  ·obtain ⟨v,o,ho,_⟩:=I.cell x c e;exact dE (dS (bu ho) hb)
  ·exact dE (dS (bu (I.pin p hp).1) hb)
 obtain ⟨d1,d2,d3,d4,d5⟩:=newA (b:=D) ‹23›;obtain ⟨k1,k2,k3,k4,k5⟩:=newA (b:=kS) ‹23›
 let J:Nat->sr->Prop:=fun j s'=>∃(Hj:Hp) (ks:LU) (n:Nat),Same H Hj/\ks.length=j/\Ks kz ks/\Hj D=none/\Hj kS=none/\s'.heap.get? D=some (seqObj "list" #[] e1)/\s'.heap.get? kS=some (seqObj "list" ks.toArray n)/\Inv X pins σ Hj s'
 have hDn:H D=none:=I.hok.fresh ‹23›;have hKn:H kS=none:=I.hok.fresh ‹23›
 have pinned:∀ {Hj:Hp} {s':sr} {o1 o2:Obj},Hj D=none->Hj kS=none->s'.heap.get? D=some o1->s'.heap.get? kS=some o2->(∀ v,o1.data≠.cell v)->(∀ v,o2.data≠.cell v)->Inv X pins σ Hj s'->Inv X ((D,o1)::(kS,o2)::pins) σ Hj s':=fun {Hj s' o1 o2} h1 h2 h3 h4 h5 h6 J=>by
  refine J.uN fun p hp=>?_;rcases bc.mp hp with rfl | hp
  ·exact⟨h3,h1,d2,d5,h5⟩
  rcases bc.mp hp with rfl | hp
  ·exact⟨h4,h2,k2,k5,h6⟩
  ·exact J.pin p (bX _ hp)
 have unpin:∀ {Hj:Hp} {s':sr} {p1 p2:Addr × Obj},Inv X (p1::p2::pins) σ Hj s'->Inv X pins σ Hj s':=fun {Hj s' p1 p2} J=>J.uN fun p hp=>J.pin p (bX _ (cz _ (cz _ hp)));have IB:Inv X pins σ H { s with heap:=hB }:=I.kept (t':=s.toks) keepB;unfold ksk_rest;refine ac (jS ?_);rw [List.forIn_toArray];refine ac (ksk_fold J vs 0 _ ⟨H,[],0,Same.refl H,rfl,fun i hi=>absurd hi (pM _),hDn,hKn,hoD,hoK,IB⟩ (fun j u s1 hj hJ=>?_) fun s1 hJ=>?_)
 ·obtain ⟨Hj,ks,n,sm,hlen,hks,nD,nK,hD,hK,IJ⟩:=hJ;have hlen:ks.length=j:=by omega
  have hjl:j < vs.length:=(aT.mp hj).1;have hjx:j < xs.length:=by omega
  have ru:RelV xs[j] u:=by
   obtain ⟨u',e,q⟩:=rv.get (af hjx);rw [hj] at e;cases e;exact q
  refine ac (kH ?_);have IP:=pinned nD nK hD hK (fun v z=>nomatch z) (fun v z=>nomatch z) IJ;refine fT (hkey _ Hj s1 j u xs[j] sm IP (af hjx) ru) (fun r s2 hr=>?_) (fun _ _ h=>h.elim);obtain ⟨t,H2,rfl,sm2,I2⟩:=hr;have pD:=I2.pin (D,seqObj "list" #[] e1) (bX _ bE);have pK:=I2.pin (kS,seqObj "list" ks.toArray n) (bX _ (cz _ bE));have I3:=unpin I2;refine ac (mB pK.1 rfl ?_ (by show ks.toArray.size<=_; rw [bb]; omega) (by show (ks.toArray.push _).size<=_; rw [Array.size_push,bb]; omega))
  obtain ⟨n',hn'⟩:∃ n',(s2.heap.update kS (xm fun x=>x.push (yz (kz.getD j 0) t))).get? kS=some (seqObj "list" (ks++[yz (kz.getD j 0) t]).toArray n'):=by
   have:=pe pK.1 (fun a=>a.push (yz (kz.getD j 0) t));rw [show ks.toArray.push (yz (kz.getD j 0) t)=(ks++[yz (kz.getD j 0) t]).toArray by simp] at this;exact⟨_,this⟩
  refine ay ⟨rfl,H2,ks++[.int (kz.getD j 0) t],n',sm.trans sm2,by rw [ae,hlen]; show j+1=0+j+1; omega,fun i hi=>?_,pD.2.1,pK.2.1,?_,?_,?_⟩
  ·by_cases hij:i < ks.length
   ·obtain ⟨t',e⟩:=hks i hij;exact⟨t',by rw [jn hij]; exact e⟩
   ·rw [ae,em] at hi;have:i=j:=by omega
    subst this;exact⟨t,by rw [i7 ‹23›,hlen]; simp⟩
  ·exact(gL _ _ nDK.symm).trans pD.1
  ·exact hn'
  ·exact I3.turned (t':=s2.toks) (it:=kS) (fun b o hb e=>(gL _ _ (kq hb)).trans e) pK.2.1 k2 (.inr k1) k3 k4
 ·obtain ⟨Hj,ks,n,sm,hlen,hks,nD,nK,hD,hK,IJ⟩:=hJ;have hlen:ks.length=vs.length:=by omega
  refine ac (listItems_at hK rfl ?_);have ia:Ub ks kz:=ints_of hks ‹23›;have hksz:ks.toArray.size=vs.length:=by rw [bb]; exact hlen
  have fin:∀(st:SortSt) (ol:List Nat),failedOf st=none->ol.Perm (List.range vs.length)->((arrOf st).map (·.2)).toList=ol.map (fun i=>vs.getD i yf)->ut ‹6› X.A.in1.in1 (ksk_tail D false e1 (.ref kS) st) (fun fin s'=>∃ v,fin=Fin.done (Flow.ret v)/\ut ‹6› X.A.in1 (ret (.ref D)) (fun fin s'=>∃ v,fin=Fin.done (Flow.ret v)/\∃ D ys H1,v=.ref D/\ys.Perm xs/\Same H H1/\H1 D=none/\Inv X pins σ (upd H1 D (.lst ys)) s') E s') E s1:=fun st ol hf pm eo=>by
   have ols:ol.length=vs.length:=by rw [pm.length_eq,List.length_range]
   have osz:((arrOf st).map (·.2)).size=vs.length:=by
    rw [<- iF,eo,aa];exact ols
   unfold ksk_tail;refine ac (mB hK rfl ?_ (by show ks.toArray.size<=_; omega) (bn _));refine ac (lx ?_);have hD2:(s1.heap.update kS (xm fun _=>#[])).get? D=some (seqObj "list" #[] e1):=(gL _ _ nDK.symm).trans hD;refine ac (seqEpoch_at hD2 rfl ?_)
   refine ac (mB hD2 rfl ?_ (bn _) (by
    simp only [eI,ir];rw [osz];omega))
   rw [hf];simp only [bne_self_eq_false,eI,ir];refine ay ⟨_,rfl,ay ⟨_,rfl,D,ol.map (fun i=>xs.getD i .non),Hj,rfl,(by have:=pm.map (fun i=>xs.getD i .non); rw [<- hxv,map_range] at this; exact this),sm,nD,?_⟩⟩;obtain ⟨n',hoe⟩:∃ n',((s1.heap.update kS (xm fun _=>#[])).update D (xm fun _=>(arrOf st).map (·.2))).get? D=some (seqObj "list" ((arrOf st).map (·.2)) n'):=⟨_,pe hD2 (fun _=>(arrOf st).map (·.2))⟩;refine IJ.adopt (t':=s1.toks) d1 k1 nD nK d2 k2 (fun x c e=>⟨d3 x c e,k3 x c e⟩) (fun p hp=>⟨d4 p hp,k4 p hp⟩) (fun b u hb hb2 e=>(gL _ _ (kq hb)).trans ((gL _ _ (kq hb2)).trans e)) ⟨by rw [aa,ols]; omega,ol.map (fun i=>vs.getD i .none),n',Ai rv fun i hi=>?_,?_⟩
   ·rw [hxv];exact jv.mp (pm.mem_iff.mp hi)
   ·rw [<- eo,oP];exact hoe
  unfold ksk_end;dsimp only;simp only [eI,ir]
  by_cases h2:vs.toArray.size < 2
  ·rw [dC h2,dC h2];refine ac (ay ?_);rw [StateT.run_pure];refine ac (ay ?_);rw [bb] at h2
   have e:((ks.toArray.zip vs.toArray).map (·.2)).toList=vs:=by
    simp only [List.zip_toArray,List.map_toArray];exact List.map_snd_zip ‹23›
   refine fin (SortSt.mk' general' (ks.toArray.zip vs.toArray) #[] 7 none) (List.range vs.length) rfl (.refl _) ?_
   ·show ((ks.toArray.zip vs.toArray).map (·.2)).toList=_;rw [e];apply List.ext_getElem (by simp);intro i a b;simp [a]
  ·rw [cK h2,cK h2];rw [bb] at h2;rw [ksk_kind (kz:=kz) (by simpa using ia) ‹23›];refine ac (ay ?_)
   refine ac (fT (kat_run (ks:=ks) (vs:=vs) (Q:=fun st' s'=>s'=s1/\failedOf st'=none/\∃ p:Array Nat,Pm vs.length p/\((arrOf st').map (·.2)).toList=p.toList.map (fun i=>vs.getD i yf))
    (G:=fun p s'=>s'=s1/\Pm vs.length p) hlen ‹23› h64 (fun p st' s' _ e1 e2 ⟨e3,e4⟩=>⟨e3,e2,p,e4,by rw [kat_snds hlen e1]⟩) ?_) ?_ fun _ _ e=>e)
   ·refine KOk.wp (fun i j C hi hj hC=>?_) (fun p hp=>⟨rfl,hp⟩) (El ‹23›);show ut ‹6› X.A.in1.in1 (keyLt' oneType' (ks.getD i yf) (ks.getD j yf)) C (fun _ _=>False) s1;rw [keyLt'_oneType];obtain ⟨t1,q1⟩:=hks i ‹23›;obtain ⟨t2,q2⟩:=hks j ‹23›;rw [i8,i8,q1,q2];exact oneLt_int (hC _)
   ·rintro ⟨⟨⟩,st'⟩ s' ⟨rfl,hf,p,pm,eo⟩;exact fin st' p.toList hf (by simpa using pm.toList) eo
end
section
variable {X:Cx}
def Et(X:Cx)(tA:TA)(tl t:TE)(qual:Str)(params:Arguments)(body:Expr)(scope:Scope)(cl:List ‹19›)(fr:List Nat):TE:=fun σ H Q=>
 tA σ H fun vs H1=>tl σ H1 fun y H2=>∃(l f:Addr) (xs:LV) (kz:List Int),vs=[.ref l]/\y=.ref f/\SqL X.K H2 l xs/\Nr H2 f qual params body scope cl/\kz.length=xs.length/\xs.length < 64/\
  (∀(i:Nat) (v:V),xs[i]?=some v->∀ H3,Same H2 H3->t (some v::frv σ fr) H3 fun k H4=>k=.int (kz.getD i 0)/\Same H3 H4)/\
  ∀(d:Addr) (ys:LV) H3,ys.Perm xs->Same H2 H3->H3 d=none->Q (.ref d) (upd H3 d (.lst ys))
theorem Hz{a lam:Expr}{p:Pos}{tA:TA}{t:TE}{x:Str}{k:Nat}(hr:iD k X.A)(S:gQ X scope x fr N)
  (hb:∀ pm c ctv u,bindArgs (PySem.W.kla_fn "<lambda>" qual params body scope (clo X.env.cells scope.names []) pm (.ref c) ctv) ⟨[u],[]⟩=Eg [(x,u)])
  (hbody:∀(A:xn) (f c:Addr) (s:sr) (H:Hp),PE (Bc X A qual scope f (.ref c) (clo X.env.cells scope.names []) N s H) body t)
  (hg:Gl X "sorted") (hm:X.mg "sorted" = none) (ha:PA X [a] tA) (hl:PE X lam tl)
  (he:uC [a] X.env=(false,eval a X.env)::uC [] X.env:=by rfl) (hp:(zg pos (uC [a] X.env)).any (·.1)=false:=by rfl) :
  PE X (.Call (.Name "sorted" p) [a] [⟨some "key",lam,kp⟩] pos) (Et X tA tl t qual params body scope (clo X.env.cells scope.names []) fr):=by
 intro pins s σ H Q I h;refine ib (oA I hg hm (show ye "sorted" = some (.builtin "sorted") by decide +kernel) ?_ (by decide) (by decide));refine Nf (thn (ha pos pins s σ H _ I h) fun us s1 hs=>?_) he hp;obtain ⟨vs,H1,I1,r1,q1⟩:=hs;refine thn (hl pins s1 σ H1 _ I1 q1) fun u2 s2 hs2=>?_;obtain ⟨y,H2,I2,r2,l,f,xs,kz,rfl,rfl,hS,hL,hkz,h64,hkey,hQ⟩:=hs2;obtain ⟨u,rfl,ru⟩:=vals1 r1;cases ru;cases (show u2=wy f from r2);obtain ⟨its,rv,pl,hz⟩:=I2.list hS;obtain ⟨pm,c,ctv,hLf,hLc⟩:=hL;refine fT (Aw (E:=X.xe) I2 pl.isList rv (by rw [<- rv.length]; exact h64) hkz fun pins' H3 s3 i u v sm I3 hv ru=>?_) (fun r s' hr=>?_) fun _ _ e=>e
 ·have fo:s3.heap.get? f=some (PySem.W.kla_obj "<lambda>" qual params body scope (clo X.env.cells scope.names []) pm c ctv):=(I3.hok f _ (sm f _ hLf)).1;have fc:s3.heap.CodeRec (.ref c) qual:=(I3.hok c _ (sm c _ hLc)).1;refine wpAny_call (kQ (Mv S I3 fo fc ?_ ?_ ?_ (hb _ _ _ _) ru (hbody _ _ _ _ _) (hkey i v hv H3 sm)) fun r s' hs=>?_)
  ·exact I3.env0.in1.in1.frames
  ·exact hr.hd
  ·exact hr.depth
  ·obtain ⟨v',u',H',rfl,I',r',rfl,sm'⟩:=hs;obtain ⟨t',rfl⟩:=r';exact⟨t',H',rfl,sm',I'⟩
 ·obtain ⟨D,ys,H3,rfl,srt,sm,nD,I3⟩:=hr;exact⟨.ref D,_,I3,rfl,hQ D ys H3 srt sm nD⟩
theorem Gp{P:Addr}{a:Expr}{p lpos:Pos}{tA:TA}{t:TE}{x:Str}{k:Nat}(B:Bm X.mg X.base)(C:Cdh X.K X.env.code P)(hr:iD k X.A)(S:gQ X scope x fr N)
  (hb:∀ pm c ctv u,bindArgs (PySem.W.kla_fn "<lambda>" (X.env.qual++Str.ofString "<lambda>") params body scope (clo X.env.cells scope.names []) pm (.ref c) ctv) ⟨[u],[]⟩=Eg [(x,u)])
  (hbody:∀(A:xn) (f c:Addr) (s:sr) (H:Hp),PE (Bc X A (X.env.qual++Str.ofString "<lambda>") scope f (.ref c) (clo X.env.cells scope.names []) N s H) body t)
  (hg:Gl X "sorted") (hm:X.mg "sorted" = none) (ha:PA X [a] tA) (hdf:defaultsOf params X.env=([],[]):=by rfl)
  (he:uC [a] X.env=(false,eval a X.env)::uC [] X.env:=by rfl) (hp:(zg pos (uC [a] X.env)).any (·.1)=false:=by rfl) :
  PE X (.Call (.Name "sorted" p) [a] [⟨some "key",.Lambda params body scope lpos,kp⟩] pos) (Et X tA (QX P lpos (X.env.qual++Str.ofString "<lambda>") params body scope (clo X.env.cells scope.names [])) t (X.env.qual++Str.ofString "<lambda>") params body scope (clo X.env.cells scope.names []) fr):=
 Hz hr S hb hbody hg hm ha (Qg B C S.free hdf) he hp
end
end L2
end
section
namespace K37
open PySem PyProof.Rows L2
variable {α:Type}{H H':Hp}{C c p r:Addr}{cs xs:LV}
section
variable {P:uv}{w:xf}{K:PySem.W.Frag}{mg:MG}{base:Heap}{t:Adr}{ca:lW}{pt:Addr}
theorem zx{β:Type}{R:α->β->Prop}{xs:List α}{ys:List β}(h:Paired R xs ys):∀ {i:Nat} {x:α},xs[i]?=some x->∃ y,ys[i]?=some y/\R x y:=by
 induction h with
 | nil=>intro i x e; simp at e
 | cons r _ ih=>
  intro i x e;cases i with
  | zero=>cases e; exact⟨_,rfl,r⟩
  | succ i=>exact ih e
theorem Bk(D:Defs K mg t)(GL:Glb P w K mg t)(S:Sht K mg ca)(f:Str->Int):∀ m:Nat,bw P w K mg base CX0 (2 * m+15) t.bU.1 t.bU.2 ["sheet","block"] (Bw ca.C f (BOk m))
 | 0=>(qw fun _ _ _ _ h=>by obtain ⟨_,_,_,_,_,_,_,_,_,_,_,_,_,_,_,h,_⟩:=h; exact h).mono (bn _)
 | m+1=>by
  have h:=Bk D GL S f m;have e:=vm (P:=P) (w:=w) (base:=base) D GL S f 4;exact Hf D GL S (k:=2 * m+16) ‹23› (OJ D S ‹23› e h) (GC D S ‹23› e h) (Dj D S ‹23› e h) (Lq D S ‹23› h)
def Te:Str:=(Su "body_of" (aG (top 24)) 0 0 yf).qual++Str.ofString "<lambda>"
def lamP:Pos:=⟨125,40,125,62⟩
def mC(H:Hp)(pt:Addr):Prop:=H pt=some (.tbl #[])\/∃ c,Tb1 H pt lamP Te c
theorem mC.at{pt:Addr}(h:mC H pt):∃ ps,H pt=some (.tbl ps):=by
 rcases h with h | ⟨c,h,_⟩
 ·exact⟨_,h⟩
 ·exact⟨_,h⟩
theorem mC.same{pt:Addr}(h:mC H pt)(s:Same H H'):mC H' pt:=by
 rcases h with h | ⟨c,h,h'⟩
 ·exact .inl (s _ _ h)
 ·exact .inr ⟨c,s _ _ h,s _ _ h'⟩
theorem mC.off3{n:Addr}{s q:Int}{pt:Addr}(h:mC H pt)(S:dW C H p n r c s q xs cs)(o:Off3 p r c H H'):mC H' pt:=by
 obtain ⟨⟨dx,g⟩,g1,g2⟩:=S;rcases h with h | ⟨c,h,h'⟩
 ·exact .inl (o _ _ (bI h g (by intro z; cases z)) (bI h g1 (by intro z; cases z)) (bI h g2 (by intro z; cases z)) h)
 ·exact .inr ⟨c,o _ _ (bI h g (by intro z; cases z)) (bI h g1 (by intro z; cases z)) (bI h g2 (by intro z; cases z)) h,o _ _ (bI h' g (by intro z; cases z)) (bI h' g1 (by intro z; cases z)) (bI h' g2 (by intro z; cases z)) h'⟩
theorem mW{pt:Addr}(o:L2.Off pt H H')(h:mC H pt):fB H H':=fun c zs e=>by
 obtain ⟨ps,hp⟩:=h.at
 exact o c _ (bI e hp fun z=>nomatch z) e
theorem dW.dR{n:Addr}{s q:Int}{pt:Addr}(S:dW C H p n r c s q xs cs)(o:L2.Off pt H H')(h:mC H pt):dW C H' p n r c s q xs cs:=by
 obtain ⟨ps,hp⟩:=h.at
 obtain ⟨⟨dx,g⟩,g1,g2⟩:=S;exact⟨⟨dx,o _ _ (bI g hp fun z=>nomatch z) g⟩,o _ _ (bI g1 hp fun z=>nomatch z) g1,o _ _ (bI g2 hp fun z=>nomatch z) g2⟩
inductive JW (pt:Addr) (vs:LV) (H:Hp) (Q:VK) (E_:XK):Prop
 | mk (a:Addr) (v:V) (ps:LS) (b:List St):vs=[.ref a,v]->H a=some (.tup (ps.map V.str))->Dp H (.tup (sL b)) v->BOk 3 b->ps.length<=100->(nmB b).length<=100000->(stL (fN (ps++nmB b)) b).length<=900000->ctL b<=60->mC H pt->(∀(d ra:Addr) (ys:LV) (u:V) H',H' d=some (.tup [.ref ra,u,.int ps.length,.int (1+((firsts (ps++nmB b)).length:Int))])->H' ra=some (.tup ys)->Rws H' ys (none::(stL (fN (ps++nmB b)) b++[none,none]))->L2.Off pt H H'->mC H' pt->Q (.ref d) H')->JW pt vs H Q E_
theorem Mu(D:Defs K mg t)(GL:Glb P w K mg t)(S:Sht K mg ca)(BM:Bm mg base)(CT0:Cdh K t.jj.2.code pt):bw P w K mg base CX0 22 t.jj.1 t.jj.2 ["params","block"] (JW pt):=by
 have hz:sizeLine=16777216:=ci;have Gbc:=wA (P:=P) (w:=w) (base:=base) S;have Gaa:=gZ (P:=P) (w:=w) (base:=base) D S;have Gbb:=PJ (P:=P) (w:=w) (base:=base) D GL 3;refine D.jj.fn.okC qI ‹5› (fun cdv A outer s H vs Q E ec hr h=>?_)
 ·obtain ⟨a,v,ps,b,rfl,_⟩:=h;rfl
 ·obtain ⟨a,v,ps,b,rfl,ha,dv,hB,hpl,hnl,hsl,hct,hT,k⟩:=h;have CT:Cdh K cdv pt:=by rw [ec]; exact CT0
  have Gad:=Bk (P:=P) (w:=w) (base:=base) D GL S (fN (ps++nmB b)) 3
  refine⟨_,(aA (aK (i:=2) qI.nd rfl (ue rfl) (Nj S.mk0 Gbc ‹1› (by rfl) S.gS S.Bp .nil eZ (aj (aF D.fY Gbb ‹1› (by rfl) (aj (pv 0) (aj (pv 1) aq))) aq)))
   (aA (aP (dX (pv 2) S.cl S.oO Gaa ‹1› S.oN .nil eZ (aj (bh (aj aM (aj aC aq))) aq)))
   (aA (aP (aF D.bU Gad ‹1› (by rfl) (aj (pv 2) (aj (pv 1) aq))))
   (aA (aP (dX (pv 2) S.cl S.oO Gaa ‹1› S.oN .nil eZ (aj (bh (aj aM (aj mq aq))) aq)))
   (aA (aP (dX (pv 2) S.cl S.oO Gaa ‹1› S.oN .nil eZ (aj (bh (aj aM aq)) aq)))
   (aA (aK (i:=3) qI.nd rfl (ue rfl) (Gp BM CT hr (gQ.of "catch" [] ["catch"] (aG (top 24)) ["params","block","sheet","catches"] rfl rfl ‹3›) (fun _ _ _ _=>rfl) (fun _ _ _ _ _=>‹22›) (by rfl) D.zL (aj (fX (pv 2) rfl) aq)))
   (aD (aR (bh (aj (bK bM (by rfl) D.cJ bR (aj (fX (pv 2) rfl) aq)) (aj (bK bM (by rfl) D.cJ bR (aj (pv 3) aq)) (aj (aW bC (by rfl) D.dg bY (aj (pv 0) aq)) (aj (bH jz aC (aW xq (by rfl) D.dg bY (aj (fX (pv 2) rfl) aq))) aq))))))))))))),?_⟩
  simp only [Aq,Cx.nox];refine⟨_,rfl,_,rfl,a,v,ps,b,rfl,ha,dv,hB,hpl,hnl,fun n H1 hn1 hn s1=>?_⟩;intro p dx hp hdx dxp;refine⟨p,n,dx,rfl,ak,fun r c H2 hr0 hc0 rc h2p h2r h2c keep=>⟨rfl,?_⟩⟩
  have s12:Same H1 H2:=fun b o e=>by
   have np:b≠p:=aB e hp;refine keep b o ?_ np;rw [au np,au (aB e hdx)];exact e
  have s2:=s1.trans s12;have hn2:=s12 n _ hn;have T2:=hT.same s2;have sh2:dW ca.C H2 p n r c 0 0 [] []:=⟨⟨dx,h2p⟩,h2r,h2c⟩
  have nb2:∀ b o,H b=some o->b≠p/\b≠r/\b≠c:=fun b o e=>by
   have e1:=s1 b o e;have np:b≠p:=aB e1 hp;have eb:(upd (upd H1 dx (.own p)) p (.ins ca.C dx [])) b=some o:=by rw [au np,au (aB e1 hdx)]; exact e1
   exact⟨np,aB eb hr0,aB eb hc0⟩
  clear keep hr0 hc0 hp hdx dxp hn1 s1 hn s12;refine⟨_,rfl,p,dx,_,rfl,h2p,jJ _ _ _ _ _,by show 2<=sizeLine; decide,fun z3 hz3=>?_⟩;refine⟨p,n,r,c,dx,0,0,.ref z3,[],rfl,(Um hz3) p _ h2p,(Um hz3) r _ h2r,by show 0 < sizeLine; omega,?_⟩;obtain ⟨sh3,o3,h3,t23⟩:=sh2.zj rc hz3 [.str "mark",.int 0];generalize upd (upd H2 z3 (.tup [.str "mark",.int 0])) r (.lst ([]++[V.ref z3]))=H3 at sh3 o3 h3 t23;have na2:mR H2 n (fN (ps++nmB b)) (nmB b):=⟨_,hn2,fun x hx=>Ep (bX _ hx)⟩;have na3:=na2.off sh2 o3;refine⟨_,rfl,_,rfl,p,n,r,c,0,0,_,[],v,b,rfl,sh3,rc,na3,dv.mono ((Uj s2).trans t23),hB,by show 1+_<=_; omega,by show 0+_<=_; omega,fun H4 ys4 s4 ds4 sh4 rw4 ct4 o4=>?_⟩;have l4:=rw4.len;obtain ⟨⟨dx4,ob4⟩,rr4,_⟩:=id sh4;refine⟨_,rfl,p,dx4,_,rfl,ob4,jJ _ _ _ _ _,by show 2<=sizeLine; decide,fun z5 hz5=>?_⟩;refine⟨p,n,r,c,dx4,s4,0,.ref z5,_,rfl,(Um hz5) p _ ob4,(Um hz5) r _ rr4,by simp only [ae,ar,de]; omega,?_⟩;obtain ⟨sh5,o5,h5,t45⟩:=sh4.zj rc hz5 [.str "push",.non];generalize upd (upd H4 z5 (.tup [.str "push",.non])) r (.lst ([]++[V.ref z3]++ys4++[V.ref z5]))=H5 at sh5 o5 h5 t45;obtain ⟨⟨dx5,ob5⟩,rr5,_⟩:=id sh5;refine⟨_,rfl,p,dx5,_,rfl,ob5,jJ _ _ _ _ _,by show 1<=sizeLine; decide,fun z6 hz6=>?_⟩;refine⟨p,n,r,c,dx5,s4,0,.ref z6,_,rfl,(Um hz6) p _ ob5,(Um hz6) r _ rr5,by simp only [ae,ar,de]; omega,?_⟩;obtain ⟨sh6,o6,h6,t56⟩:=sh5.zj rc hz6 [.str "give"];generalize upd (upd H5 z6 (.tup [.str "give"])) r (.lst ([]++[V.ref z3]++ys4++[V.ref z5]++[V.ref z6]))=H6 at sh6 o6 h6 t56;have o26:=o3.trans (o4.trans (o5.trans o6));have T6:=T2.off3 sh2 o26;have t36:=(o4.tups sh3).trans (t45.trans t56)
  have rw6:Rws H6 ([]++[V.ref z3]++ys4++[V.ref z5]++[V.ref z6]) (none::(stL (fN (ps++nmB b)) b++[none,none])):=by
   rw [show ([]:LV)++[V.ref z3]++ys4++[V.ref z5]++[V.ref z6]=V.ref z3::(ys4++[V.ref z5,V.ref z6]) by simp only [aI,cE,cS]];exact .cons (iy.no (t36 z3 _ h3) ‹3› ‹3›) ((rw4.mono (t45.trans t56)).app (.cons (iy.no (t56 z5 _ h5) ‹3› ‹3›) (.cons (iy.no h6 ‹3› ‹3›) .nil)))
  obtain ⟨ks,ck,kl⟩:=ct4.mono (t45.trans t56);obtain ⟨⟨dx6,ob6⟩,rr6,cc6⟩:=id sh6;have hl6:([]++[V.ref z3]++ys4++[V.ref z5]++[V.ref z6]).length<=1000000:=by simp only [ae,ar,de]; omega
  generalize []++[V.ref z3]++ys4++[V.ref z5]++[V.ref z6]=rows at sh6 rw6 rr6 hl6
  have k26:∀ b o,H b=some o->H6 b=some o:=fun b o e=>by
   obtain ⟨n1,n2,n3⟩:=nb2 b o e;exact o26 b o n1 n2 n3 (s2 b o e)
  have hn6:∃ kvs,H6 n=some (.dK kvs)/\kvs.length=(firsts (ps++nmB b)).length:=⟨_,o26 n _ (bI hn2 h2p fun z=>nomatch z) (bI hn2 h2r fun z=>nomatch z) (bI hn2 h2c fun z=>nomatch z) hn2,mG _ _⟩;clear o26 o3 o4 o5 o6 sh2 sh3 sh4 sh5 rw4 ct4 na2 na3 hn2 t36 t45 t56 t23 T2 h3 h5 h6 hz3 hz5 hz6 ob4 ob5 rr4 rr5 h2p h2r h2c s2 nb2;refine⟨_,rfl,p,ca.C,dx6,_,_,rfl,ob6,S.cl,S.nC,Q7 _ _ _ _ _,T6,fun lf H7 o7 t7 lm hlf=>?_⟩;have sh7:=sh6.dR o7 T6;have tt7:=mW o7 T6;have ckl:=ck.length;refine⟨c,lf,ds4,ks,rfl,rfl,Uh (sh7.ct),lm,by omega,by omega,?_,fun d ys H8 srt s8 hd=>?_⟩
  ·intro i u hu H8 s8;obtain ⟨kk,hk,g,x,y,z,rfl,hg⟩:=zx ck hu;have e:ks.getD i 0=kk:=by rw [i8,hk]; rfl
   rw [e];exact⟨_,rfl,g,_,_,_,rfl,rfl,Ui (s8 g _ (tt7 g _ hg)),aH (j:=1) rfl,rfl,fun _ _ e=>e⟩
  ·have s9:=s8.trans (Um (o:=.lst ys) hd);have hd9:(upd H8 d (.lst ys)) d=some (.lst ys):=ak;generalize upd H8 d (.lst ys)=H9 at s9 hd9;obtain ⟨⟨dx9,ob9⟩,rr9,_⟩:=sh7.same s9;have o9:L2.Off pt H6 H9:=fun b o nb e=>s9 b o (o7 b o nb e);obtain ⟨kvs,hn6,kvl⟩:=hn6;obtain ⟨tp,htp⟩:=T6.at
   have hn9:=o9 n _ (bI hn6 htp fun z=>nomatch z) hn6;have ha9:=o9 a _ (bI (k26 a _ ha) htp fun z=>nomatch z) (k26 a _ ha);refine⟨_,rfl,p,ca.C,dx9,_,_,rfl,ob9,S.cl,S.nR,vg _ _ _ _ _,r,_,rfl,.inl ⟨Uh rr9,fun ra hra=>?_⟩⟩;exists 1,s10,h10,H9,ra,(.tup rows),hra,H10;refine⟨_,rfl,d,ys,rfl,.inl ⟨Uh (s10 d _ hd9),fun rb hrb=>?_⟩⟩;have s11:Same H10 (upd H10 rb (.tup ys)):=Um hrb;generalize upd H10 rb (.tup ys)=H11 at s11;have s911:=s10.trans s11;refine⟨_,rfl,a,_,rfl,.inr (Ui (s911 a _ ha9)),?_⟩;refine⟨_,rfl,p,ca.C,dx9,_,_,rfl,s911 p _ ob9,S.cl,S.nN,QJ _ _ _ _ _,n,kvs,rfl,s911 n _ hn9,_,_,rfl,rfl,by show 4<=sizeLine; decide,fun q hq=>?_⟩;have s12:Same H11 (upd H11 q (.tup [.ref ra,.ref rb,.int (List.map V.str ps).length,.int (1+(kvs.length:Int))])):=Um hq;have s912:=s911.trans s12;refine k q ra rows (.ref rb) _ ?_ (s12 ra _ (s11 ra _ h10)) (rw6.mono (tt7.trans (Uj (s9.trans s912)))) (fun b o nb e=>s912 b o (o9 b o nb (k26 b o e))) (.inr ?_)
   ·rw [ak,aa,kvl]
   ·obtain ⟨tc,h1,h2⟩:=t7;exact⟨tc,(s9.trans s912) _ _ h1,(s9.trans s912) _ _ h2⟩
end
end K37
end
section
namespace L2
open PySem PySem.Spec PyProof.Rows PySem.W
section
variable {X:Cx}
inductive oR (K:PySem.W.Frag) (xs:LV) (H:Hp) (Q:VK):Prop
 | mk (l ps:_):xs=[.ref l]->SqL K H l ps->ps.length < 64->(∀ x∈ps,∃ p y i,x=.ref p/\H p=some (.tup [.str y,.int i]))->(∀ d qs,qs.Perm ps->H d=none->Q (.ref d) (upd H d (.lst qs)))->oR K xs H Q
theorem wJ:iz X (.builtin "sorted") (oR X.K):=by
 intro pins s σ H xs us Q I r h;obtain ⟨l,ps,rfl,hl,h64,hp,q⟩:=h;obtain ⟨u,rfl,ru⟩:=vals1 r;cases ru;obtain ⟨its,rv,pl,hz⟩:=I.list hl;have hlen:=rv.length
 have item:∀ v∈its,∃(p:Addr) (o:Obj) (y:Str) (i:Int) (t t':Tok) (n:Nat),v=.ref p/\s.heap.get? p=some o/\o.cls=.type "tuple" /\ o.data=.seq #[.str y t,.int i t'] n:=fun v hv=>by
  obtain ⟨i,hi,rfl⟩:=gx hv;have hi':i < ps.length:=by omega
  obtain ⟨w',hw,rw'⟩:=rv.get (i:=i) (x:=ps[i]) (af hi');rw [af hi] at hw;cases hw;obtain ⟨p,y,j,e,hH⟩:=hp ps[i] (dm hi');rw [e] at rw';have rw':its[i]=.ref p:=rw';obtain ⟨jts,rj,⟨o,go,co,n,dn⟩,_⟩:=I.tuple (Ui hH);obtain ⟨v1,v2,rfl,⟨t,rfl⟩,⟨t',rfl⟩⟩:=rj.two;exact⟨p,o,y,j,t,t',n,rw',go,co,dn⟩
 have hcmp:2<=its.length->Qt X.prog X.w X.A.in1.in1 (tuples' ((Tw "str") != Tw "tuple")) its s.heap:=fun h2=>by
  refine⟨fun s' Q' E' kp hq=>?_,fun x hx y hy s' C kp hC=>?_⟩
  ·have tups:∀ vs:LU,(∀ v∈vs,v∈its)->∃ fs:LU,KatTups s'.heap vs fs/\fs.length=vs.length/\∀ f∈fs,∃ x t,f=MT x t:=by
    intro vs
    induction vs with
    | nil=>exact fun _=>⟨[],.nil,rfl,fun _ h=>nomatch h⟩
    | cons v vs ih=>
     intro hm;obtain ⟨fs,k,e,hf⟩:=ih fun v hv=>hm v (cz _ hv);obtain ⟨p,o,y,i,t,t',n,rfl,go,co,dn⟩:=item v (hm v bE);refine⟨.str y t::fs,.cons (kp p o go) co dn rfl k,by rw [ar,ar,e],fun f hf'=>?_⟩;rcases bc.mp hf' with rfl | h'
     ·exact⟨y,t,rfl⟩
     ·exact hf f h'
   obtain ⟨fs,k,e,hf⟩:=tups its fun _ h=>h;refine kat_kind (T:=.type "str") k ‹23› (fun v hv=>?_) rfl hq;obtain ⟨i,t,rfl⟩:=hf v hv;exact .now
  ·obtain ⟨p,o,y1,i1,t,t',n,rfl,go,co,dn⟩:=item x hx;obtain ⟨p',o',y2,i2,u,u',n',rfl,go',co',dn'⟩:=item y hy;refine kat_lt (kp p o go) dn (kp p' o' go') dn' ?_;show KatLex _ _ _ _ _ _ [(MT y1 t,MT y2 u),(yz i1 t',yz i2 u')] 0 s';refine kat_cons (wpAny_eqBool_str (kat_go (fun _=>kat_yes ?_) fun _=>kat_no (oneLt_str (hC _))));refine kat_cons (wpAny_eqBool_int (kat_go (fun _=>kat_yes (kat_nil (hC _))) fun _=>kat_no ?_));exact kat_one _ _ (PyProof.Rows.lt_int (hC _))
 refine Br pl.isList ‹23› hcmp fun out hperm=>?_;obtain ⟨ys,py,ry⟩:=rv.perm hperm;obtain ⟨e,he⟩:=sortedAll_at s.heap its out;have hd:H ‹7›=none:=I.hok.fresh (oz _);refine⟨.ref ‹7›,_,I.laid (t':=s.toks) (o:=.lst ys) (fun b o q=>sortedAll_old q) (oz _) ⟨by rw [py.length_eq]; exact hz,out.toList,e,ry,by rw [oP]; exact he⟩,rfl,q _ ys py hd⟩
end
end L2
end
section
namespace L2
open PySem PySem.Spec PyProof.Rows
variable {E Q:ES}{items:AV}{M:Model}{A:xn}{s:sr}{kp pos tpos:Pos}{env:Env}{P:uv}{w:xf}{K:PySem.W.Frag}{elts:List Expr}{x1:Nat}{e:Addr}{ta:TA}
section
variable {prog:uv}{w:xf}{A:xn}{E:ES}{s:sr}
theorem Gj(l:Addr)(t:Tok)(items:AV)(n:Nat)(dct:Option Addr)(sl:Array (Option rn)) :
  Meets (uA.«enumerate.__new__» ⟨[.type "enumerate",.ref l],[("start",.int 1 t)]⟩) (fun _ R s=>s.heap.get? l=some { cls:=.type "tuple",dict:=dct,data:=.seq items n,slots:=sl }/\
   R (.ok (.ret (.ref (s.heap.push { cls:=.type "tuple_iterator",data:=.fields #[.ref l,.int 0 0] }).objs.size)))
    { s with heap:=(s.heap.push { cls:=.type "tuple_iterator",data:=.fields #[.ref l,.int 0 0] }).push { cls:=.type "enumerate",data:=.fields #[.none,.bool false,.ref s.heap.objs.size,rawInt 1,.none,.none] } }):=
 .of_wp fun prog w A R s h=>by
  obtain ⟨hp,g,d,tk,os⟩:=s;obtain ⟨hl,h⟩:=h;have hsub:=sub_enumerate;have hL:Heap.IsTuple (R1 ⟨hp,g,d,tk,os⟩) l items:=⟨_,hl,rfl,n,rfl⟩
  wp_walk using kK hl
  refine wpAny_stack_any fun st=>ay ?_;split
  ·rename_i c _ _ _ _ _
   cases (c == Tw "enumerate")
   ·wp_walk using kK hl,wpAny_pyIter_tuple hL
    exact⟨_,rfl,h⟩
   ·wp_walk using kK hl,wpAny_pyIter_tuple hL
    exact⟨_,rfl,h⟩
  ·wp_walk using kK hl,wpAny_pyIter_tuple hL
   exact⟨_,rfl,h⟩
theorem Cp{T newId:String}{self a v:rn}{k:Str}(hl:typeLookup (.type T) "__init__" = Eg (some (.builtin "object.__init__")))(hm:Bind.madeBy (.type T)=Eg (some newId))(hne:(some newId != some "object.__new__")=true) :
  Meets (uA.«object.__init__» ⟨[self,a],[(k,v)]⟩) (fun _ R s=>s.TypeIs self T/\R (.ok (.ret .none)) s):=
 .of_wp fun prog w A R s ⟨hT,hq⟩=>by
  repeat (any_goals (first | assumption | wp_step))
  exact⟨_,rfl,hq⟩
theorem Cj(o a v:rn)(k:Str):argsOk "object.__init__" ⟨[o,a],[(k,v)]⟩:=by
 unfold argsOk
 kernel_rfl
theorem uU(a v:rn):checkTypeCall "enumerate" ⟨[a],[("start",v)]⟩=Eg ():=by kernel_rfl
theorem vZ(a v:rn):checkBuiltinCall "enumerate.__new__" ⟨[.type "enumerate",a],[("start",v)]⟩=Eg ():=by kernel_rfl
end
section
variable {prog:uv}{w:xf}{A:xn}{E:ES}{s:sr}
theorem Je{T newId:String}{Bn:uA}{a v:rn}{k:Str}{S:PySem.Spec}(ft:TypeCalled T newId "object.__init__")(hne:(some newId != some "object.__new__")=true)
  (hct:checkTypeCall T ⟨[a],[(k,v)]⟩=Eg ()) (hcn:checkBuiltinCall newId ⟨[.type T,a],[(k,v)]⟩=Eg ()) (entryN:entryFor table newId=some Bn) (g:Meets (Bn ⟨[.type T,a],[(k,v)]⟩) S)
  (h:S A.in1 (wants (fun obj s₁=>s₁.TypeIs obj T/\Q obj s₁) E) s):ut ‹18› A (call (.type T) [a] [(k,v)]) Q E s:=by
 have hmade:=ft.made;have h2:=ft.canCreate;have hsub:=ft.sub;have h1:=ft.notType;have ⟨c,tl,hmro⟩:=ft.mro;refine wpAny_call (codeAny_of_tree (show ut _ _ (callAny (.type T) _) _ _ _ from ay ⟨Ud.quiet_builtin _ ‹3›,kB F.entry_type_call ?_⟩));rw [xn.under_plain (weight_type_call_type T [a] [(k,v)]) (units_type_call_type T [a] [(k,v)])]
 repeat (any_goals (first | assumption | wp_step))
 refine kQ (oC ft.plain entryN (wpAny_of_eq hcn (g prog w A.in1 _ s h))) fun r s1 hr=>?_;cases r with
 | ok fl=>
  cases fl with
  | ret obj=>
   obtain ⟨hT,hq⟩:=hr;have hbi:=ft.init.bind obj;have hli:=ft.init.lookup
   repeat (any_goals (first | assumption | wp_step))
   refine kQ (oC ft.init.plain F.entry_object_init (ft.init.check _ _ _ _ _ _ _ _ hT (Cj obj a v k) (Cp ft.init.lookup ft.made hne prog w A.in1 (wants (fun r s₂=>r=.none/\Q obj s₂) E) s1 ⟨hT,rfl,hq⟩))) fun r2 s2 hr2=>?_;cases r2 with
   | ok fl2=>
    cases fl2 with
    | ret r=>
     obtain ⟨rfl,hq⟩:=hr2
     repeat (any_goals (first | assumption | wp_step))
    | _=>exact hr2.elim
   | error e=>exact hr2
  | _=>exact hr.elim
 | error e=>exact hr
theorem Cm{l:Addr}{t:Tok}(hL:s.heap.IsTuple l items)
  (h:∀ h',RC h' ‹7› s.heap.objs.size 1 .none->h'.IsTupleIter s.heap.objs.size l 0->(∀ b o,s.heap.get? b=some o->h'.get? b=some o)->Q (.ref ‹7›) { s with heap:=h' }) :
  ut ‹18› A (call (.type "enumerate") [.ref l] [("start",.int 1 t)]) Q E s:=by
 obtain ⟨⟨c,dct,dt,sl⟩,hl,hc,n,hd⟩:=hL;have hc:c=.type "tuple" := hc;have hd:dt=.seq items n:=hd;subst hc hd;refine Je F.called_enumerate (by decide) (uU _ _) (vZ _ _) F.entry_enumerate_new (Gj l t items n dct sl) ⟨hl,?_⟩;have hz:(s.heap.push { cls:=.type "tuple_iterator",data:=.fields #[.ref l,.int 0 0] }).objs.size=s.heap.objs.size+1:=fS ..;show _/\_;rw [hz]
 have he:RC ((s.heap.push { cls:=.type "tuple_iterator",data:=.fields #[.ref l,.int 0 0] }).push { cls:=.type "enumerate",data:=.fields #[.none,.bool false,.ref s.heap.objs.size,rawInt 1,.none,.none] }) ‹7› s.heap.objs.size 1 .none:=by
  rw [<- hz];exact aS _ rfl
 exact⟨⟨_,he,rfl⟩,h _ he ⟨_,ai _ (aS _ rfl),rfl,rfl⟩ fun b o e=>ai _ (ai _ e)⟩
end
theorem Pj{T:String}{args:List (Bool × Sem rn)}{keywords:List (Option Str × Sem rn)}(hp:args.any (·.1)=false)(hk:keywords.any (·.1.isNone)=false)
  (h:ut M A (evalArgs (.type T) true args keywords) (fun a s₁=>ut M A (call (.type T) a.pos a.kw) Q E s₁) E s):ut M A (Q4 pos (.type T) [] args keywords) Q E s:=by
 unfold Q4;refine ac (gv (fT h (fun a s1 h1=>ac (mn ?_)) fun _ _ x=>x));simp only [hk,hp,Bool.or_false];exact ac (ay (ac (fT h1 (fun r s2 hr=>ac (gv (wpAny_point (ay hr)))) fun _ _ x=>x)))
theorem MJ{T:String}{a v:Expr}{k:Str}
  (h:ut M A (spliced (zg pos (uC [a] env))) (fun vs s1=>ut M A (eval v env) (fun u s2=>ut M A (call (.type T) vs [(k,u)]) Q E s2) E s1) E s)
  (he:uC [a] env=(false,eval a env)::uC [] env) (hp:(zg pos (uC [a] env)).any (·.1)=false) :
  ut M A (Q4 pos (.type T) [] (zg pos (uC [a] env)) (Tt pos (JS [⟨some k,v,kp⟩] env))) Q E s:=by
 refine Pj hp rfl ?_;rw [he] at h ⊢;refine evalArgs_kwB rfl (thn h fun vs s1 h1=>kws_cons (thn h1 fun u s2 h2=>kws_nil ?_));exact h2
def Ox(K:PySem.W.Frag)(a:Addr):It:=
 ⟨fun i H=>∃ xs x,SqT K H a xs/\xs[i]?=some x,fun i H v H'=>∃ p,H p=none/\v=.ref p/\∀ xs x,SqT K H a xs->xs[i]?=some x->H'=upd H p (.tup [.int (1+(i:Int)),x]),fun i H=>∃ xs,SqT K H a xs/\xs.length<=i⟩
theorem BK{it l:Addr}(hne:e≠it):Turn P w K (.Tuple elts x1 tpos) (Ox K l) [e,it] e
  (fun i h=>(∃ old,RC h e it (1+(i:Int)) old)/\h.IsTupleIter it l i) where
 mem:=by simp
 obj:=fun i h st b hb=>by
  obtain ⟨⟨old,he⟩,o,ei,c,d⟩:=st;simp only [bc,eL,iP] at hb;rcases hb with rfl | rfl
  ·exact⟨_,he,fun v q=>nomatch q⟩
  ·exact⟨o,ei,fun v z=>by rw [d] at z; cases z⟩
 keep:=fun i h h' st k=>by
  obtain ⟨⟨old,he⟩,o,ei,r⟩:=st;exact⟨⟨old,k e (by simp) _ he⟩,o,k it (by simp) _ ei,r⟩
 item:=by
  intro X hP hw hK hc i pins s σ H E I hf st hg;subst hP hw hK;obtain ⟨xs,x,hq,hx⟩:=hg;obtain ⟨its,rv,p,hz⟩:=I.tuple hq;obtain ⟨u,hu,ru⟩:=rv.get hx;obtain ⟨⟨old,he⟩,hit⟩:=st;refine Dh he hit (show s.heap.IsTuple l its.toArray from p) (x:=u) (by simpa using hu) hne fun h' a1 a2 a3 a5=>?_;refine⟨_,rfl,wpAny_letOwnedTupleGo_enum a1 fun h2' a1' q'=>?_⟩;have hn:H s.heap.objs.size=none:=I.hok.fresh (am _);have elt:e < s.heap.objs.size:=bu he;have ilt:it < s.heap.objs.size:=by obtain ⟨_,e,_⟩:=hit; exact bu e
  have kk:∀ b ob,b ∉ [e,it]->s.heap.get? b=some ob->h2'.get? b=some ob:=fun b ob hb ee=>by
   simp only [bc,eL,iP,qB] at hb;exact q'.extBut _ _ hb.1 (a5 b ob hb.1 hb.2 ee)
  have I1:Inv X pins σ (upd H s.heap.objs.size (.tup [.int (1+(i:Int)),x])) { s with heap:=h2',toks:=s.toks+1 }:=I.sy (t':=s.toks+1) hf kk (am _)
   ⟨⟨by show 2<=sizeLine; decide,fun o ee=>by rw [q'.extBut _ _ (fz elt) a3] at ee; cases ee; rfl⟩,[.int (1+(i:Int)) s.toks,u],.cons ⟨_,rfl⟩ (.cons ru .nil),⟨_,q'.extBut _ _ (fz elt) a3,rfl,_,rfl⟩⟩
  refine⟨.ref s.heap.objs.size,_,I1,rfl,⟨_,hn,rfl,fun xs' x' k1 k3=>?_⟩,⟨⟨_,by simpa [Int.add_assoc] using a1'⟩,a2.extBut q'.extBut hne.symm⟩,fun b hb=>?_⟩
  ·rw [I.mV k1 hq,hx] at k3;cases k3;rfl
  ·have hb':=hb;simp only [bc,eL,iP] at hb'
   have hlt:b < s.heap.objs.size:=by
    rcases hb' with rfl | rfl
    ·exact elt
    ·exact ilt
   rw [au (dE hlt)];exact(hf b hb).1
 done:=by
  intro X hP hw hK hc i pins s σ H E I hf st hg;subst hP hw hK;obtain ⟨xs,hq,hx⟩:=hg;obtain ⟨its,rv,p,hz⟩:=I.tuple hq;obtain ⟨⟨old,he⟩,hit⟩:=st;have hl:=rv.length;refine Hl (I.ok.hd hc) he hit (show s.heap.IsTuple l its.toArray from p) (by simp; omega) fun h' eb=>⟨rfl,I.sO (t':=s.toks) hf fun b u hb q=>?_⟩;simp only [bc,eL,iP,qB] at hb;exact eb b u hb.2 q
 self:=fun _ _ _ _ _ st h=>by
  obtain ⟨⟨old,he⟩,_⟩:=st;exact nB he h
section
variable {X:Cx}{K:PySem.W.Frag}
inductive Eo (K:PySem.W.Frag) (R:It->Hp->Prop) (vs:LV) (H1:Hp):Prop
 | mk (a xs:_):vs=[.ref a]->SqT K H1 a xs->R (Ox K a) H1->Eo K R vs H1
def Qn(K:PySem.W.Frag)(ta:TA):TI:=fun σ H R=>ta σ H fun vs H1=>Eo K R vs H1
theorem Ia{a:Expr}{p ip:Pos}{kk:Nat}(hK:X.K=K)(hg:Gl X "enumerate")(hm:X.mg "enumerate" = none)(ha:PA X [a] ta)
  (he:uC [a] X.env=(false,eval a X.env)::uC [] X.env:=by rfl) (hpl:(zg pos (uC [a] X.env)).any (·.1)=false:=by rfl):PI X (.Tuple elts x1 tpos) (.Call (.Name "enumerate" p) [a] [⟨some "start",.Constant (.int 1) kk ip,kp⟩] pos) (Qn K ta):=by
 subst hK;intro pins s σ H R I h;have boot_enum:ye "enumerate" = some (.type "enumerate"):=by decide +kernel
 refine ib (oA I hg hm boot_enum ?_);refine MJ (thn (ha pos pins s σ H _ I h) fun us s1 ⟨vs,H1,I1,r1,t1,xs,e,q1,q⟩=>?_) he hpl;subst e;obtain ⟨u,rfl,ru⟩:=vals1 r1;cases ru;refine thn (aC pins s1 σ H1 (fun v H=>v=.int 1/\H=H1) I1 ⟨rfl,rfl⟩) fun w s2 ⟨v,H2,I2,r2,e2,e3⟩=>?_;subst e2 e3;obtain ⟨tk,rfl⟩:=r2;have hne:s2.heap.objs.size+1≠s2.heap.objs.size:=by change @Ne Nat _ _; omega
 have fp:∀ b∈[s2.heap.objs.size+1,s2.heap.objs.size],qg X pins H2 b:=fun b hb=>by
  have hle:s2.heap.objs.size<=b:=by
   simp only [bc,eL,iP] at hb;rcases hb with h | h <;> rw [h] <;> first | exact am _ | exact lI _ _
  exact I2.nZ hle (I2.hok.fresh hle)
 obtain ⟨its,rv,p1,hz1⟩:=I2.tuple q1;refine Cm (show s2.heap.IsTuple t1 its.toArray from p1) fun h' hE hI hk=>?_;refine nB hE ?_;exact⟨s2.heap.objs.size+1,[s2.heap.objs.size+1,s2.heap.objs.size],_,Ox X.K t1,H2,rfl,I2.kept (t':=s2.toks) hk,BK hne,⟨⟨_,hE⟩,hI⟩,fp,q⟩
end
end L2
end
section
namespace K37
open PySem PyProof.Rows L2
variable {H H':Hp}{v:V}{ns ps:LS}{vs xs:LV}{ks:List KR}{B:List St->Prop}{hi lo:Option Int}{n:Nat}
section
variable {P:uv}{w:xf}{K:PySem.W.Frag}{mg:MG}{base:Heap}{t:Adr}
inductive Ej (vs:LV) (H:Hp) (Q:VK) (E_:XK):Prop
 | mk (v:V) (ks:List KR):vs=[v]->Dp H (.tup (ks.map krT)) v->ks.length<=1000->(∀(u:V) H',Dp H' (Py (oV ks)) u->Same H H'->Q u H')->Ej vs H Q E_
theorem J5(D:Defs K mg t):bw P w K mg base CX0 1 t.jD.1 t.jD.2 ["table"] Ej:=by
 have hz:sizeLine=16777216:=ci;refine D.jD.fn.ok yZ ‹5› ‹2›
 ·obtain ⟨v,ks,rfl,_⟩:=h;rfl
 ·obtain ⟨v,ks,rfl,dv,hlen,k⟩:=h;obtain ⟨a,xs,rfl,ha,dl⟩:=L2.Dp.bG dv;have hxl:xs.length=ks.length:=by have:=dl.length; rwa [aa] at this
  refine⟨_,(aD (aR (bK bM (by rfl) D.cJ bR (aj (fu rfl (Uo ["row"] [] ["row"] (aG (top 16)) ["table"] rfl rfl ‹3›) ⟨fun _ _ _ _ _=>(aJ (i:=0) (show List.Nodup [("row" : Str)] by decide +kernel) rfl (ue (aw rfl)) ‹15›),fun _ _ _ _ _=>iU,fun _ _ _ _ _=>(bh (aj ‹22› (aj ‹22› aq)))⟩ (eY (pv 0))) aq)))),?_⟩;refine⟨_,rfl,a,rfl,⟨_,Ui ha⟩,fun D1 hD1=>?_⟩;refine dD (n:=xs.length) (fun i ys H2=>DpL H2 ((oV (ks.take i)).map vY) ys/\H2 D1=some (.lst ys)/\Same H H2) ⟨.nil,ak,Um hD1⟩ ?_ ?_
  ·rintro ys H2 ⟨dy,hD2,s2⟩;rw [aE ‹23›] at dy;refine⟨⟨_,Ui (s2 a _ ha),am _⟩,D1,_,rfl,.inl ⟨Uh hD2,fun q hq=>?_⟩⟩;exact k _ _ (L2.Dp.tup ak (dy.mono (Uj (Um hq)))) (s2.trans (Um hq))
  ·rintro i ys H2 hi ⟨dy,hD2,s2⟩;have hik:i < ks.length:=by omega
   obtain ⟨x,ex,dx⟩:=dl.get (i:=i) (t:=krT ks[i]) (by rw [bj,af hik]; rfl);refine⟨⟨_,_,Ui (s2 a _ ha),ex⟩,?_⟩;rintro v H3 ⟨rfl,yy⟩ σo ho;obtain ⟨oo,rfl⟩:=own1 ho;have ev:=yy _ (Ui (s2 a _ ha));rw [ex] at ev;cases ev;obtain ⟨q,e,f,rfl,hq,he,hf⟩:=K37.Dp.En (dx.mono (Uj s2));refine⟨‹16›,jT ⟨_,rfl,q,_,_,_,rfl,rfl,Ui hq,aH (j:=0) rfl,_,rfl,q,_,_,_,rfl,rfl,Ui hq,aH (j:=1) rfl,by show 2<=sizeLine; decide,fun p hp=>?_⟩⟩;have pD:D1≠p:=aB hD2 hp
   have yl:ys.length<=1000:=by
    have:=dy.length;unfold oV at this;rw [aa,aa,cf] at this;omega
   refine⟨by omega,by rw [au pD]; exact hD2,bV hi ⟨?_,ak,fun c o z=>?_⟩⟩
   ·have tu:fB H3 (upd (upd H3 p (.tup [.str ks[i].kind,.ref e])) D1 (.lst (ys++[.ref p]))):=fun c zs z=>by
     rw [au (bI z hD2 (fun y=>nomatch y)),au (aB z hp)];exact z
    rw [take_snoc hik];unfold oV;rw [az,az];refine(dy.mono tu).append (.cons (K37.Dp.row (e:=e) ?_ (tu e _ he)) .nil);rw [au pD.symm,ak]
   ·rw [au (aB z hD1),au (aB (s2 c _ z) hp)];exact s2 c _ z
inductive Nk (vs:LV) (H:Hp) (Q:VK) (E_:XK):Prop
 | mk (v:V) (k:Str) (ds:List DR):vs=[v,.str k]->Dp H (.tup (ds.map drT)) v->ds.length<=60->(∀(u:V) H',Same H H'->Q u H')->Nk vs H Q E_
theorem Pn(D:Defs K mg t):bw P w K mg base CX0 1 t.jB.1 t.jB.2 ["deeds","kind"] Nk:=by
 have hz:sizeLine=16777216:=ci;refine D.jB.fn.ok yu ‹5› ‹2›
 ·obtain ⟨v,k,ds,rfl,_⟩:=h;rfl
 ·obtain ⟨v,x,ds,rfl,dv,hlen,k⟩:=h;obtain ⟨a,xs,rfl,ha,dl⟩:=L2.Dp.bG dv;have hxl:xs.length=ds.length:=by have:=dl.length; rwa [aa] at this
  refine⟨_,(aD (aR (bK bM (by rfl) D.cJ bR (aj (aW wJ (by rfl) D.zL Hw (aj (fu rfl (Uo ["number","row"] [1] ["number","row","kind"] (aG (top 19)) ["deeds","kind"] rfl rfl ‹3›) ⟨fun _ _ _ _ _=>(fL (n:=2) rfl (aY (aJ (i:=0) (show List.Nodup [("number" : Str),("row" : Str),("kind" : Str)] by decide +kernel) rfl (ue (aw rfl)) ‹15›) (aY (aJ (i:=1) (show List.Nodup [("number" : Str),("row" : Str),("kind" : Str)] by decide +kernel) rfl (ue (aw rfl)) ‹15›) eV))),fun _ _ _ _ _=>(jL (aL dH ‹24› (pv 2) (aQ _))),fun _ _ _ _ _=>(bh (aj ‹24› (aj (pv 0) aq)))⟩ (Ia (K:=K) rfl rfl D.ux (aj (pv 0) aq))) aq)) aq)))),?_⟩;refine⟨_,rfl,a,_,rfl,Ui ha,fun D1 hD1=>?_⟩;refine dD (n:=xs.length) (fun i ys H2=>ys.length<=i/\(∀ x∈ys,∃ p y j,x=.ref p/\H2 p=some (.tup [.str y,.int j]))/\H2 D1=some (.lst ys)/\Same H H2) ⟨am _,by simp,ak,Um hD1⟩ ?_ ?_
  ·rintro ys H2 ⟨yl,hp,hD2,s2⟩;refine⟨⟨_,Ui (s2 a _ ha),am _⟩,D1,ys,rfl,Uh hD2,by omega,hp,fun d qs pq hd=>?_⟩;exact⟨d,_,rfl,.inl ⟨Uh ak,fun q hq=>k _ _ (s2.trans ((Um hd).trans (Um hq)))⟩⟩
  ·rintro i ys H2 hi ⟨yl,hp,hD2,s2⟩;have hik:i < ds.length:=by omega
   obtain ⟨y,ey,dy⟩:=dl.get (i:=i) (t:=drT ds[i]) (by rw [bj,af hik]; rfl);refine⟨⟨_,_,Ui (s2 a _ ha),ey⟩,?_⟩;rintro v H3 ⟨p,hpn,rfl,yy⟩ σo ho;obtain ⟨o,o',rfl⟩:=Q9 ho;have e3:=yy _ _ (Ui (s2 a _ ha)) ey;subst e3;have s3:Same H2 (upd H2 p (.tup [.int (1+(i:Int)),y])):=Um hpn;have hp3:(upd H2 p (.tup [.int (1+(i:Int)),y])) p=some (.tup [.int (1+(i:Int)),y]):=ak;have hD3:=s3 D1 _ hD2;have sm:=s2.trans s3;generalize upd H2 p (.tup [.int (1+(i:Int)),y])=H3 at s3 hp3 hD3 sm;obtain ⟨q,m,b,rfl,hq⟩:=K37.Dp.RN (dy.mono (Uj sm))
   have old:∀ {H':Hp},fB H3 H'->∀ x∈ys,∃ p y j,x=V.ref p/\H' p=some (.tup [.str y,.int j]):=fun tu x hx=>by
    obtain ⟨p',y',j,e,h⟩:=hp x hx;exact⟨p',y',j,e,tu _ _ (s3 _ _ h)⟩
   refine⟨p,_,rfl,Ui hp3,rfl,_,_,rfl,_,_,rfl,rfl,⟨[_,_],rfl,rfl⟩,?_⟩;refine⟨_,rfl,q,_,_,_,rfl,rfl,Ui hq,aH (j:=0) rfl,_,rfl,rfl,_,rfl,fO (fun _=>?_) (fun _=>?_)⟩
   ·refine⟨_,rfl,q,_,_,_,rfl,rfl,Ui hq,aH (j:=1) rfl,_,rfl,by show 2<=sizeLine; decide,fun p2 hp2=>?_⟩;have pD:D1≠p2:=aB hD3 hp2
    have tu:fB H3 (upd (upd H3 p2 (.tup [.str ds[i].name,.int (1+(i:Int))])) D1 (.lst (ys++[.ref p2]))):=fun c zs z=>by
     rw [au (bI z hD3 (fun y=>nomatch y)),au (aB z hp2)];exact z
    refine⟨by omega,by rw [au pD]; exact hD3,bV hi ⟨by rw [ae]; exact n5 yl,fun x hx=>?_,ak,fun c o z=>?_⟩⟩
    ·rcases dP.mp hx with h | h
     ·exact old tu x h
     ·exact⟨p2,ds[i].name,1+(i:Int),bS.mp h,by rw [au pD.symm,ak]⟩
    ·rw [au (aB z hD1),au (aB (sm c _ z) hp2)];exact sm c _ z
   ·exact bV hi ⟨nL yl,old (fun _ _ e=>e),hD3,sm⟩
def P0(H:Hp)(v:V)(ks:List KR)(ds:List DR):Prop:=∃ q kv dv rv,v=.ref q/\H q=some (.tup [kv,dv,rv])/\Dp H (.tup (ks.map krT)) kv/\Dp H (.tup (ds.map drT)) dv
structure Ku (ks:List KR) (ds:List DR):Prop where
 gk:vh ks
 dl:ds.length<=60
inductive N8 (vs:LV) (H:Hp) (Q:VK) (E_:XK):Prop
 | mk (v:V) (ks:List KR) (ds:List DR):vs=[v]->P0 H v ks ds->Ku ks ds->(∀(u:V) H',Same H H'->Q u H')->N8 vs H Q E_
theorem Ow(D:Defs K mg t):bw P w K mg base CX0 5 t.lJ.1 t.lJ.2 ["program"] N8:=by
 have Gba:=@Ni P w K mg base t D;have Gbg:=@J5 P w K mg base t D;have Gbn:=@Pn P w K mg base t D;have hz:sizeLine=16777216:=ci;refine D.lJ.fn.ok eU ‹5› ‹2›
 ·obtain ⟨v,ks,ds,rfl,_⟩:=h;rfl
 ·obtain ⟨v,ks,ds,rfl,⟨p0,kv,dv,rv,rfl,hp0,dk,dd⟩,G,k⟩:=h;have k7:=G.gk.len
  refine⟨_,(aA (jx (pv 0) (fL rfl (aY (aJ (i:=1) eU.nd rfl (ue rfl)) (aY (aJ (i:=2) eU.nd rfl (ue rfl)) (aY (aJ (i:=3) eU.nd rfl (ue rfl)) eV)))))
   (aA (aK (i:=4) eU.nd rfl (ue rfl) (aF D.gK Gba ‹1› (by rfl) (aj (aF D.jD Gbg ‹1› (by rfl) (aj (pv 1) aq)) aq)))
   (aA (aK (i:=5) eU.nd rfl (ue rfl) (bB aq))
   (aA (dB dQ rfl (eY (pv 1)) (fL rfl (aY (aJ (i:=6) eU.nd rfl (ue rfl)) (aY (aJ (i:=7) eU.nd rfl (ue rfl)) (aY (aJ (i:=8) eU.nd rfl (ue rfl)) eV))))
   (aD (aP (eO br cw cy bT (pv 5) (aj (bh (aj (pv 6) (aj (pv 7) (aj (aV aU (iR (gD hr) (pv 4) (pv 6) ‹4›) aC ‹4›) (aj (pv 8) (aj (aF D.jB Gbn ‹1› (by rfl) (aj (pv 2) (aj (pv 6) aq))) (aj aC aq))))))) aq)))))
   (aD (aR (bK bM (by rfl) D.cJ bR (aj (pv 5) aq)))))))),?_⟩
  refine⟨_,rfl,p0,_,rfl,Ui hp0,rfl,_,_,rfl,_,_,rfl,_,_,rfl,rfl,?_⟩;refine⟨_,rfl,kv,ks,rfl,dk,by omega,fun u H1 du s1=>?_⟩;refine⟨u,oV ks,rfl,du,G.gk.fam,fun r hr=>by obtain ⟨r0,h0,rfl⟩:=eA.mp hr; obtain ⟨os,_,h⟩:=G.gk.ord r0 h0; exact⟨os,h⟩,fun d kvs H2 hdn hd2 told s2=>?_⟩;refine⟨bn _,fun l hl=>?_⟩;have sm:Same H (upd H2 l (.lst [])):=(s1.trans s2).trans (Um hl);have hl3:(upd H2 l (.lst [])) l=some (.lst []):=ak
  have hlH:H l=none:=by
   cases e:H l with
   | none=>rfl
   | some o=>rw [(s1.trans s2) l o e] at hl; cases hl
  have hd3:(upd H2 l (.lst [])) d=some (.dK kvs):=by rw [au (aB hd2 hl)]; exact hd2
  have told3:=told.mono (Uj (Um (o:=.lst []) hl));have dne:d≠l:=aB hd2 hl;generalize upd H2 l (.lst [])=H3 at sm hl3 hd3 told3;obtain ⟨a,xs,rfl,ha,dl⟩:=L2.Dp.bG dk;have hxl:xs.length=ks.length:=by have:=dl.length; rwa [aa] at this
  have ane:a≠l:=aB ha hlH
  refine⟨_,rfl,a,rfl,⟨_,Ui (sm a _ ha)⟩,kj (K:=N0) (a:=a) (xs:=xs) (fun i σ H4=>∃(ys:LV) (v6 v7 v8:OV),σ=[some (.ref p0),some (.ref a),some dv,some rv,some (.ref d),some (.ref l),v6,v7,v8]/\H4 l=some (.lst ys)/\ys.length<=i/\∀ b o,b≠l->H3 b=some o->H4 b=some o)
   ⟨[],_,_,_,rfl,hl3,am _,fun b o _ e=>e⟩ (fun i σ H4 _ ⟨_,_,_,_,_,_,_,kp⟩=>Ui (kp a _ ane (sm a _ ha))) ?_ ?_⟩
  ·rintro i x σ H4 hi ⟨ys,v6,v7,v8,rfl,hl4,dy,kp⟩;have hix:i < xs.length:=(aT.mp hi).1;have hik:i < ks.length:=by omega
   obtain ⟨x',ex,dx⟩:=dl.get (i:=i) (t:=krT ks[i]) (by rw [bj,af hik]; rfl);rw [ex] at hi;cases hi;have sm4:Same H H4:=fun b o e=>kp b o (aB e hlH) (sm b o e);have tu34:fB H3 H4:=fun b zs e=>kp b _ (bI e hl3 ‹8›) e;obtain ⟨q,e,f,rfl,hq,he,hf⟩:=K37.Dp.En (dx.mono (Uj sm4));have hrm:ks[i]∈ks:=dm hik;obtain ⟨qt,hv,tell⟩:=told3 ks[i].kind (by show _∈nms (oV ks); rw [rA]; exact eA.mpr ⟨_,hrm,rfl⟩);obtain ⟨o,qo,_,ht,hqo⟩:=tell;have hd4:=kp d _ dne hd3;have ht4:=tu34 _ _ ht;have hqo4:=tu34 _ _ hqo;refine⟨q,_,rfl,Ui hq,rfl,_,_,rfl,_,_,rfl,_,_,rfl,rfl,?_⟩;refine⟨_,rfl,.inl ⟨rfl,_,Uh hl4⟩,_,rfl,_,rfl,_,rfl,_,rfl,d,.ref qt,rfl,.inl ⟨kvs,.inr ks[i].kind,.inl hd4,rfl,hv.symm⟩,qt,_,_,_,rfl,rfl,Ui ht4,aH (j:=1) rfl,_,rfl,_,rfl,_,rfl,?_⟩;refine⟨dv,ks[i].kind,ds,rfl,dd.mono (Uj sm4),G.dl,fun ud H5 s5=>?_⟩;refine⟨by show 6<=sizeLine; decide,fun qr hqr=>?_⟩;have hl5:=s5 l _ hl4;have lr:l≠qr:=aB hl5 hqr;refine⟨l,ys,.ref qr,rfl,rfl,by rw [au lr]; exact hl5,by omega,?_⟩;refine⟨ys++[.ref qr],_,_,_,rfl,ak,by rw [ae]; exact n5 dy,fun b o hb z=>?_⟩;rw [au hb,au (aB (s5 b _ (kp b o hb z)) hqr)];exact s5 b _ (kp b o hb z)
  ·rintro σ H4 ⟨ys,v6,v7,v8,rfl,hl4,dy,kp⟩;have sm4:Same H H4:=fun b o e=>kp b o (aB e hlH) (sm b o e);refine⟨_,rfl,l,_,rfl,.inl ⟨Uh hl4,fun q hq=>?_⟩⟩;exact k _ _ (sm4.trans (Um hq))
structure DB where
 kind:Str
 name:Str
 ps:LS
 b:List St
def DB.dr(d:DB):DR:=⟨d.kind,d.name,.tup (d.ps.map T.str),.tup (sL d.b)⟩
structure wC (ps:LS) (b:List St):Prop where
 ok:BOk 3 b
 pl:ps.length<=100
 nl:(nmB b).length<=100000
 sl:(stL (fN (ps++nmB b)) b).length<=900000
 ct:ctL b<=60
 il:∀ l,(siL l b).length<=100000
def yH(H:Hp)(v:V)(ps:LS)(b:List St):Prop:=∃(d ra:Addr) (ys:LV) (u:V),v=.ref d/\H d=some (.tup [.ref ra,u,.int ps.length,.int (1+((firsts (ps++nmB b)).length:Int))])/\H ra=some (.tup ys)/\Rws H ys (none::(stL (fN (ps++nmB b)) b++[none,none]))
theorem yH.mono{b:List St}(h:yH H v ps b)(s:fB H H'):yH H' v ps b:=by
 obtain ⟨d,ra,ys,u,e,h1,h2,h3⟩:=h;exact⟨d,ra,ys,u,e,s _ _ h1,s _ _ h2,h3.mono s⟩
def zW(H:Hp)(vs:LV)(ds:List DB):Prop:=Paired (fun v d=>yH H v d.ps d.b) vs ds
theorem zW.mono{ds:List DB}(h:zW H vs ds)(s:fB H H'):zW H' vs ds:=pF (fun _ _ h=>yH.mono h s) h
def HX(H:Hp)(v:V)(ks:List KR)(ds:List DB)(run:List St):Prop:=∃ q kv dv rv,v=.ref q/\H q=some (.tup [kv,dv,rv])/\Dp H (.tup (ks.map krT)) kv/\Dp H (.tup ((ds.map DB.dr).map drT)) dv/\Dp H (.tup (sL run)) rv
theorem HX.mono{ds:List DB}{run:List St}(h:HX H v ks ds run)(s:fB H H'):HX H' v ks ds run:=by
 obtain ⟨q,kv,dv,rv,e,hq,d1,d2,d3⟩:=h;exact⟨q,kv,dv,rv,e,s q _ hq,d1.mono s,d2.mono s,d3.mono s⟩
theorem Sv{σo:L2.St}(h:σo.length=4):∃ a b c d,σo=[a,b,c,d]:=by
 match σo,h with
 | [a,b,c,d],_=>exact⟨a,b,c,d,rfl⟩
theorem Dp.nM{a:Addr}:∀ {ns:LS},DpL H (ns.map T.str) xs->xs=ns.map V.str:=by
 intro ns h
 induction ns generalizing xs with
 | nil=>cases xs with
  | nil=>rfl
  | cons _ _=>cases h
 | cons n ns ih=>
  obtain ⟨x,ys,rfl,d,dl⟩:=DpL.cases h;rw [L2.Dp.cQ d,ih dl];rfl
section
variable {P:uv}{w:xf}{K:PySem.W.Frag}{mg:MG}{base:Heap}{t:Adr}{ca:lW}{pt:Addr}
inductive Ju (pt:Addr) (vs:LV) (H:Hp) (Q:VK) (E_:XK):Prop
 | mk (v:V) (ks:List KR) (ds:List DB) (run:List St):vs=[v]->HX H v ks ds run->Ku ks (ds.map DB.dr)->(∀ d∈ds,wC d.ps d.b)->wC [] run->mC H pt->(∀(q qb:Addr) (tv v0:V) (vs:LV) H',H' q=some (.tup [tv,.ref qb])->H' qb=some (.tup (v0::vs))->yH H' v0 [] run->zW H' vs ds->L2.Off pt H H'->mC H' pt->Q (.ref q) H')->Ju pt vs H Q E_
theorem Ms(D:Defs K mg t)(GL:Glb P w K mg t)(S:Sht K mg ca)(BM:Bm mg base)(CT0:Cdh K t.jj.2.code pt):bw P w K mg base CX0 23 t.n6.1 t.n6.2 ["program"] (Ju pt):=by
 have hz:sizeLine=16777216:=ci;have Gat:=Mu (P:=P) (w:=w) D GL S BM CT0;have Gb:=Ow (P:=P) (w:=w) (base:=base) D;refine D.n6.fn.ok kW ‹5› ‹2›
 ·obtain ⟨v,ks,ds,run,rfl,_⟩:=h;rfl
 ·obtain ⟨v,ks,ds,run,rfl,⟨p0,kv,dv,rv,rfl,hp0,dk,dd,dr⟩,GP,hds,hrun,hT,k⟩:=h;obtain ⟨da,dxs,rfl,hda,dl⟩:=L2.Dp.bG dd;have dlen:dxs.length=ds.length:=by rw [dl.length,aa,aa]
  have d60:ds.length<=60:=by have:=GP.dl; rwa [aa] at this
  refine⟨_,(aA (jx (pv 0) (fL rfl (aY (aJ (i:=1) kW.nd rfl (ue rfl)) (aY (aJ (i:=2) kW.nd rfl (ue rfl)) (aY (aJ (i:=3) kW.nd rfl (ue rfl)) eV)))))
   (aA (aK (i:=4) kW.nd rfl (ue rfl) (bH iC (bB (aj (aF D.jj Gat ‹1› (by rfl) (aj (bh aq) (aj (pv 3) aq))) aq)) (fu rfl (Uo ["kind","deed","params","block"] [] ["kind","deed","params","block"] (aG (top 23)) ["program","kinds","deeds","run","bodies"] rfl rfl ‹3›) ⟨fun _ _ _ _ _=>(fL (n:=4) rfl (aY (aJ (i:=0) (show List.Nodup [("kind" : Str),("deed" : Str),("params" : Str),("block" : Str)] by decide +kernel) rfl (ue (aw rfl)) ‹15›) (aY (aJ (i:=1) (show List.Nodup [("kind" : Str),("deed" : Str),("params" : Str),("block" : Str)] by decide +kernel) rfl (ue (aw rfl)) ‹15›) (aY (aJ (i:=2) (show List.Nodup [("kind" : Str),("deed" : Str),("params" : Str),("block" : Str)] by decide +kernel) rfl (ue (aw rfl)) ‹15›) (aY (aJ (i:=3) (show List.Nodup [("kind" : Str),("deed" : Str),("params" : Str),("block" : Str)] by decide +kernel) rfl (ue (aw rfl)) ‹15›) eV))))),fun _ _ _ _ _=>iU,fun _ _ _ _ _=>(aF D.jj Gat ‹1› (by rfl) (aj (pv 2) (aj (pv 3) aq)))⟩ (eY (pv 2)))))
   (aD (aR (bh (aj (aF D.lJ Gb ‹1› (by rfl) (aj (pv 0) aq)) (aj (bK bM (by rfl) D.cJ bR (aj (pv 4) aq)) aq))))))),?_⟩
  refine⟨_,rfl,p0,_,rfl,Ui hp0,rfl,_,_,rfl,_,_,rfl,_,_,rfl,rfl,?_⟩;refine⟨bn _,fun e0 he0=>?_⟩;have s0:Same H (upd H e0 (.tup [])):=Um he0;have h0:(upd H e0 (.tup [])) e0=some (.tup (([]:LS).map V.str)):=ak;generalize upd H e0 (.tup [])=H0 at s0 h0;refine⟨_,rfl,e0,rv,[],run,rfl,h0,dr.mono (Uj s0),hrun.ok,by show 0<=100; decide,hrun.nl,hrun.sl,hrun.ct,hT.same s0,fun d0 ra0 ys0 u0 H1 hd0 hra0 rw0 o1 T1=>?_⟩;have b1:yH H1 (.ref d0) [] run:=⟨d0,ra0,ys0,u0,rfl,hd0,hra0,rw0⟩;have t01:=mW o1 (hT.same s0);have t1:=(Uj s0).trans t01;refine⟨by show 1<=sizeLine; decide,fun l2 hl2=>?_⟩;exists 1,s2,h2,H1,l2,(.lst [.ref d0]),hl2,H2;have T2:=T1.same s2;have t2:=t1.trans (Uj s2);refine⟨_,rfl,da,rfl,⟨_,Ui (t2 da _ hda)⟩,fun D1 hD1=>?_⟩;have T3:=T2.same (Um (o:=.lst []) hD1)
  have n2T:∀ {H':Hp} {x:Addr} {xs:LV},H' x=some (.lst xs)->mC H' pt->x≠pt:=fun h T=>by
   obtain ⟨tp,htp⟩:=T.at
   exact bI h htp fun z=>nomatch z
  refine dD (n:=dxs.length) (fun i ys H3=>zW H3 ys (ds.take i)/\H3 D1=some (.lst ys)/\L2.Off pt H2 H3/\mC H3 pt) ⟨.nil,ak,Same.off (Um hD1),T3⟩ ?_ ?_
  ·rintro ys H3 ⟨by3,hD3,o3,T3⟩;have t23:=mW o3 T2;have t3:=t2.trans t23;rw [aE ‹23›] at by3;have yl:=by3.length;have h23:=o3 l2 _ (n2T h2 T2) h2;refine⟨⟨_,Ui (t3 da _ hda),am _⟩,l2,D1,_,_,rfl,rfl,h23,hD3,by show 1+ys.length<=_; omega,fun l4 hl4=>?_⟩;have s4:Same H3 (upd H3 l4 (.lst ([.ref d0]++ys))):=Um hl4;have h4:(upd H3 l4 (.lst ([.ref d0]++ys))) l4=some (.lst (.ref d0::ys)):=ak;generalize upd H3 l4 (.lst ([.ref d0]++ys))=H4 at s4 h4;have t4:=t3.trans (Uj s4);refine⟨_,rfl,.ref p0,ks,ds.map DB.dr,rfl,⟨p0,kv,.ref da,rv,rfl,t4 p0 _ hp0,dk.mono t4,(L2.Dp.tup hda dl).mono t4⟩,GP,fun tv H5 s5=>?_⟩;refine⟨_,rfl,l4,_,rfl,.inl ⟨Uh (s5 l4 _ h4),fun q5 hq5=>?_⟩⟩;refine⟨by show 2<=sizeLine; decide,fun q6 hq6=>?_⟩;have s6:=Um (o:=.tup (.ref d0::ys)) hq5;have h6:(upd H5 q5 (.tup (.ref d0::ys))) q5=some (.tup (.ref d0::ys)):=ak;generalize upd H5 q5 (.tup (.ref d0::ys))=H6 at s6 h6 hq6;have s7:=Um (o:=.tup [tv,.ref q5]) hq6;have s37:=s4.trans (s5.trans (s6.trans s7));refine k q6 q5 tv (.ref d0) ys _ ak (s7 _ _ h6) (b1.mono ((Uj s2).trans (t23.trans (Uj s37)))) (by3.mono (Uj s37)) (fun b o nb e=>s37 b o (o3 b o nb (s2 b o (o1 b o nb (s0 b o e))))) (T3.same s37)
  ·rintro i ys H3 hi ⟨by3,hD3,o3,T3⟩;have t3:=t2.trans (mW o3 T2);have hik:i < ds.length:=by omega
   obtain ⟨x,ex,dx⟩:=dl.get (i:=i) (t:=drT ds[i].dr) (by rw [bj,bj,af hik]; rfl);refine⟨⟨_,_,Ui (t3 da _ hda),ex⟩,?_⟩;rintro v H4 ⟨rfl,yy⟩ σo ho;obtain ⟨oa,ob,oc,od,rfl⟩:=Sv ho;have ev:=yy _ (Ui (t3 da _ hda));rw [ex] at ev;cases ev;obtain ⟨g,gs,rfl,hg,gl⟩:=L2.Dp.bG dx;obtain ⟨x1,gs1,rfl,d1,gl1⟩:=gl.cases;obtain ⟨x2,gs2,rfl,d2,gl2⟩:=gl1.cases;obtain ⟨x3,gs3,rfl,d3,gl3⟩:=gl2.cases;obtain ⟨x4,gs4,rfl,d4,gl4⟩:=gl3.cases;obtain ⟨pa,pxs,rfl,hpa,pl⟩:=L2.Dp.bG d3;have epx:=K37.Dp.nM (a:=pa) pl;subst epx
   have g0:gs4=[]:=by cases gs4 with
    | nil=>rfl
    | cons _ _=>cases gl4
   subst g0;obtain ⟨ok,hpl,hnl,hsl,hct,_⟩:=hds _ (dm hik);refine⟨g,_,rfl,Ui (t3 g _ hg),rfl,_,_,rfl,_,_,rfl,_,_,rfl,_,_,rfl,rfl,⟨[_,_,_,_],rfl,rfl⟩,jT ?_⟩;refine⟨_,rfl,_,rfl,pa,x4,ds[i].ps,ds[i].b,rfl,t3 pa _ hpa,d4.mono t3,ok,hpl,hnl,hsl,hct,T3,fun d5 ra5 ys5 u5 H5 hd5 hra5 rw5 o5 T5=>?_⟩;have b5:yH H5 (.ref d5) ds[i].ps ds[i].b:=⟨d5,ra5,ys5,u5,rfl,hd5,hra5,rw5⟩;have hD5:=o5 D1 _ (n2T hD3 T3) hD3
   have yl:ys.length<=60:=by
    have:=by3.length;rw [cf] at this;omega
   have tD:fB H5 (upd H5 D1 (.lst (ys++[.ref d5]))):=fun c zs e=>by rw [au (bI e hD5 fun z=>nomatch z)]; exact e
   refine⟨by omega,hD5,bV hi ⟨?_,ak,?_,?_⟩⟩
   ·rw [take_snoc hik];exact oJ ((by3.mono ((mW o5 T3).trans tD))) (.cons (b5.mono tD) .nil)
   ·exact fun b o nb e=>by
     rw [au (aB e hD1)];exact o5 b o nb (o3 b o nb e)
   ·rcases T5 with h | ⟨c,h,h'⟩
    ·exact .inl (by rw [au (bI h hD5 fun z=>nomatch z)]; exact h)
    ·exact .inr ⟨c,by rw [au (bI h hD5 fun z=>nomatch z)]; exact h,by rw [au (bI h' hD5 fun z=>nomatch z)]; exact h'⟩
end
theorem yj(n:Nat):1<=5 ^ n:=Nat.one_le_pow _ _ (by decide)
theorem oF{a b:Nat}(h:a<=b):5 ^ a<=5 ^ b:=Nat.pow_le_pow_right (by decide) h
theorem uL(n:Nat):5 ^ (n+1)=5 * 5 ^ n:=by rw [Nat.pow_succ,Nat.mul_comm]
mutual
theorem Ex.sz(f:Str->Int):∀ e:Ex,e.wf->(e.tr f).length<=5 ^ e.dp/\e.it.length<=5 ^ e.dp
 | .num _,_=>by rw [Ex.tr,Ex.it,Ex.dp]; decide
 | .non,_=>by rw [Ex.tr,Ex.it,Ex.dp]; decide
 | .me,_=>by rw [Ex.tr,Ex.it,Ex.dp]; decide
 | .name _,_=>by rw [Ex.tr,Ex.it,Ex.dp]; exact⟨by show 1<=5 ^ 1; decide,by show 1<=5 ^ 1; decide⟩
 | .new _,_=>by rw [Ex.tr,Ex.it,Ex.dp]; decide
 | .get e _,w=>by
  rw [Ex.wf] at w;obtain ⟨h1,h2⟩:=Ex.sz f e w;have:=yj e.dp;rw [Ex.tr,Ex.it,Ex.dp,uL,ae,em];omega
 | .ask e _ as,w=>by
  rw [Ex.wf] at w;obtain ⟨h1,h2⟩:=Ex.sz f e w.1;obtain ⟨h3,h4⟩:=szL f as w.2.2 w.2.1;have m1:=oF (pE e.dp (dpL as));have m2:=oF (n9 e.dp (dpL as));have:=yj (max e.dp (dpL as));rw [Ex.tr,Ex.it,Ex.dp,uL,ae,ae,ae,em];generalize 5 ^ max e.dp (dpL as)=x at m1 m2 this;omega
 | .up _ as,w=>by
  rw [Ex.wf] at w;obtain ⟨h3,h4⟩:=szL f as w.2 w.1;have:=yj (dpL as);rw [Ex.tr,Ex.it,Ex.dp,uL,ar,ar,ae,em];omega
 | .bin x a b,w=>by
  rw [Ex.wf] at w;obtain ⟨h1,h2⟩:=Ex.sz f a w.2.1;obtain ⟨h3,h4⟩:=Ex.sz f b w.2.2;have m1:=oF (pE a.dp b.dp);have m2:=oF (n9 a.dp b.dp);have:=yj (max a.dp b.dp)
  have hl:((Ex.bin x a b).tr f).length=(a.tr f).length+(b.tr f).length+1:=by
   rw [Ex.tr];split
   ·rw [ae,ar]; omega
   ·rw [ae,ae,em]; omega
  rw [hl,Ex.it,Ex.dp,uL,ae];generalize 5 ^ max a.dp b.dp=x at m1 m2 this;omega
theorem szL(f:Str->Int):∀ es:List Ex,wfL es->es.length<=3->(trL f es).length<=3 * 5 ^ dpL es/\(itL es).length<=3 * 5 ^ dpL es
 | es,w,h=>by
  have key:=szM f es w;have h2:=Nat.mul_le_mul_right (5 ^ dpL es) h;omega
theorem szM(f:Str->Int):∀ es:List Ex,wfL es->(trL f es).length<=es.length * 5 ^ dpL es/\(itL es).length<=es.length * 5 ^ dpL es
 | [],_=>by rw [trL,itL]; exact⟨bn _,bn _⟩
 | e::es,w=>by
  rw [wfL] at w;obtain ⟨h1,h2⟩:=Ex.sz f e w.1;obtain ⟨h3,h4⟩:=szM f es w.2;have m1:=oF (pE e.dp (dpL es));have m2:=Nat.mul_le_mul_left es.length (oF (n9 e.dp (dpL es)));rw [trL,itL,dpL,ae,ae,ar,Nat.succ_mul];omega
end
end
theorem EOk.sz(f:Str->Int){e:Ex}(h:EOk e):(e.tr f).length<=625/\e.it.length<=625:=by
 have m:5 ^ e.dp<=5 ^ 4:=oF h.1;have e4:5 ^ 4=625:=by decide
 obtain ⟨a,b⟩:=Ex.sz f e h.2;omega
theorem St.sz(f:Str->Int)(l:Bool)(hB:∀ b,B b->(stL f b).length<=1300 * gF b/\(siL l b).length<=1300 * gF b/\ctL b<=gF b){s:St}(h:SOk B s):(s.tr f).length+1<=1300 * s.cnt/\(s.it l).length<=1300 * s.cnt/\s.ct<=s.cnt:=by
 cases s with
 | one x e=>
  rw [SOk] at h;have:=h.2.sz f;rw [St.tr,St.it,St.cnt,St.ct,ae,em];omega
 | let_ x e=>
  rw [SOk] at h;have:=EOk.sz f h;rw [St.tr,St.it,St.cnt,St.ct,ae,em];cases l
  ·rw [cK bo,ar]; omega
  ·rw [dC rfl,ae,em]; omega
 | put e g v=>
  rw [SOk] at h;have:=h.1.sz f;have:=h.2.sz f;rw [St.tr,St.it,St.cnt,St.ct,ae,ae,ae,em];omega
 | drop e g=>
  rw [SOk] at h;have:=EOk.sz f h;rw [St.tr,St.it,St.cnt,St.ct,ae,em];omega
 | become e g=>
  rw [SOk] at h;have:=EOk.sz f h;rw [St.tr,St.it,St.cnt,St.ct,ae,em];omega
 | turn a b c d=>rw [St.tr,St.it,St.cnt,St.ct]; decide
 | strip a b=>rw [St.tr,St.it,St.cnt,St.ct]; decide
 | cT a b=>rw [St.tr,St.it,St.cnt,St.ct]; decide
 | if_ e a b=>
  rw [SOk] at h;have:=h.1.sz f;have:=hB a h.2.1;have:=hB b h.2.2;rw [St.tr,St.it,St.cnt,St.ct,ae,ar,ae,ar,ae,ae];omega
 | while_ e a=>
  rw [SOk] at h;have:=h.1.sz f;have:=hB a h.2;rw [St.tr,St.it,St.cnt,St.ct,ae,ar,ae,em,ae];omega
 | repeat_ e a=>
  rw [SOk] at h;have:=h.1.sz f;have:=hB a h.2;rw [St.tr,St.it,St.cnt,St.ct,ae,ar,ar,ar,ae,em,ae];omega
 | try_ a x b=>
  rw [SOk] at h;have:=hB a h.1;have:=hB b h.2;rw [St.tr,St.it,St.cnt,St.ct,ae,ar,ar,ae,ar];omega
theorem BOk.sz(f:Str->Int)(l:Bool):∀(m:Nat) (b:List St),BOk m b->(stL f b).length<=1300 * gF b/\(siL l b).length<=1300 * gF b/\ctL b<=gF b
 | 0,_,h=>by rw [BOk] at h; exact h.elim
 | m+1,b,h=>by
  rw [BOk] at h
  have key:∀ b:List St,(∀ s∈b,SOk (BOk m) s)->(stL f b).length<=1300 * gF b/\(siL l b).length<=1300 * gF b/\ctL b<=gF b:=by
   intro b
   induction b with
   | nil=>intro _; rw [stL,siL,ctL,gF]; decide
   | cons s b ih=>
    intro h;have h1:=St.sz f l (BOk.sz f l m) (h s (bE ..));have h2:=ih fun s hs=>h s (cz _ hs);rw [stL,siL,ctL,gF,ar,ae,ae];omega
  exact key b h.2
theorem wC.of{b:List St}(h:BOk 3 b)(hp:ps.length<=100)(hc:gF b<=15):wC ps b:=by
 obtain ⟨h1,h2,h3⟩:=BOk.sz (fN (ps++nmB b)) false 3 b h;have h4:(nmB b).length<=(siL false b).length:=List.length_filterMap_le _ _;exact⟨h,hp,by omega,by omega,by omega,fun l=>by have:=(BOk.sz (fun _=>0) l 3 b h).2.1; omega⟩
theorem Ie:∃ ps:LS,gW ‹17› lo hi=ps.map V.str/\ps.length<=ns.length:=by
 refine⟨(ns.drop (HT.sIx ns.length 0 lo)).take (HT.sIx ns.length ns.length hi - HT.sIx ns.length 0 lo),?_,?_⟩
 ·unfold gW;rw [aa,gy,List.map_drop]
 ·rw [cf,j0];omega
def NmP(H:Hp)(p fl dl nl:Addr)(own:Int)(fs ds:LS)(σ:L2.St)(H8:Hp):Prop:=∃ ns:LS,σ=[some (.ref p),some (.int own),some (.ref fl),some (.ref dl),some (.ref nl),none,none,none,none,none,none]/\ns.length=20/\H8 nl=some (.lst ‹17›)/\H8 fl=some (.lst (fs.map V.str))/\H8 dl=some (.lst (ds.map V.str))/\Off p H H8/\Pu H8 p
section
variable {P:uv}{w:xf}{K:PySem.W.Frag}{mg:MG}{base:Heap}{t:Adr}
inductive Dz (vs:LV) (H:Hp) (Q:VK) (E_:XK):Prop
 | mk (p:Addr):vs=[.ref p]->Pu H p->(∀(v:V) (ks:List KR) (ds:List DB) (run:List St) H',HX H' v ks ds run->Ku ks (ds.map DB.dr)->(∀ d∈ds,wC d.ps d.b)->wC [] run->Off p H H'->Pu H' p->Q v H')->Dz vs H Q E_
theorem JG(D:Defs K mg t):bw P w K mg base CX0 18 t.iZ.1 t.iZ.2 ["_law_purse_here"] Dz:=by
 have Ga:=@rH P w K mg base t D;have Gan:=Bd (P:=P) (w:=w) (base:=base) D;have Gbi:=J1 (P:=P) (w:=w) (base:=base) D;have Gaj:=zE (P:=P) (w:=w) (base:=base) D 2;have hz:sizeLine=16777216:=ci;refine D.iZ.fn.ok cL ‹5› ‹2›
 ·obtain ⟨p,rfl,_⟩:=h;rfl
 ·obtain ⟨p,rfl,hp,q⟩:=h
  refine⟨_,(aA (aK (i:=1) cL.nd rfl (ue rfl) ‹20›)
   (aA (aK (i:=2) cL.nd rfl (ue rfl) (aF D.fD Gan ‹1› (by rfl) (aj (pv 0) (aj aC (aj (bB aq) aq)))))
   (aA (aK (i:=3) cL.nd rfl (ue rfl) (aF D.fD Gan ‹1› (by rfl) (aj (pv 0) (aj aC (aj (bB aq) aq)))))
   (aA (aK (i:=4) cL.nd rfl (ue rfl) (aF D.fD Gan ‹1› (by rfl) (aj (pv 0) (aj aC (aj (bB aq) aq)))))
   (gw (bD (Ug (sZ (aL dH (pv 1) aC (aQ _)) (pO (aL pN aM (pv 4) (by with_unfolding_all rfl)))))
   (aD (jx aM (sY (pv 4) ‹20› set_list)))
   aX)
   (aA (aK (i:=5) cL.nd rfl (ue rfl) (aF D.iY Gbi ‹1› (by rfl) (aj (pv 0) (aj (bH jz aC ‹20›) (aj (bB aq) (aj (pv 2) aq))))))
   (aA (aK (i:=6) cL.nd rfl (ue rfl) (bh (aj (bK bM (by rfl) D.cJ bR (aj (fu rfl (Uo ["_law_kind"] [] ["_law_kind"] (aG (top 52)) ["_law_purse_here","_law_own","_law_fields","_law_deeds","_law_names","_law_kinds_here","_law_tools","_law_some_here","_law_deed","_law_at","_law_params"] rfl rfl ‹3›) ⟨fun _ _ _ _ _=>(aJ (i:=0) (show List.Nodup [("_law_kind" : Str)] by decide +kernel) rfl (ue (aw rfl)) ‹15›),fun _ _ _ _ _=>iU,fun _ _ _ _ _=>‹22›⟩ (eY (pv 5))) aq)) (aj (bK bM (by rfl) D.cJ bR (aj (pv 3) aq)) (aj (bK bM (by rfl) D.cJ bR (aj (pv 2) aq)) (aj (bK bM (by rfl) D.cJ bR (aj (pv 4) aq)) aq))))))
   (aA (aK (i:=7) cL.nd rfl (ue rfl) (bB aq))
   (aA (dB dQ rfl (fM (pv 3)) (aJ (i:=8) cL.nd rfl (ue rfl))
   (aA (aK (i:=9) cL.nd rfl (ue rfl) ‹20›)
   (aA (aK (i:=10) cL.nd rfl (ue rfl) (bK bM (by rfl) D.cJ bR (aj (cX vB (pv 4) (cW (pv 9)) (cW (bH jz (pv 9) ‹20›))) aq)))
   (aD (aP (eO br cw cy bT (pv 7) (aj (bh (aj (aV aU (aV aU (pv 5) (aF D.aO Ga ‹1› (by rfl) (aj (pv 0) (aj (aW bC (by rfl) D.dg bY (aj (pv 5) aq)) aq))) ‹4›) aC ‹4›) (aj (pv 8) (aj (pv 10) (aj (aF D.cN Gaj ‹1› (by rfl) (aj (pv 0) (aj (pv 6) (aj aC (aj aC (aj (bB (aj aC aq)) aq)))))) aq))))) aq)))))))
   (aD (aR (bh (aj (pv 5) (aj (bK bM (by rfl) D.cJ bR (aj (pv 7) aq)) (aj (aF D.cN Gaj ‹1› (by rfl) (aj (pv 0) (aj (pv 6) (aj aC (aj aC (aj (bB (aj aC aq)) aq)))))) aq))))))))))))))),?_⟩
  refine⟨_,rfl,p,2,rfl,hp,by decide,by decide,fun own H1 l1 u1 o1 p1=>?_⟩;refine⟨_,rfl,bn _,fun u2 hu2=>?_⟩;have p2:=p1.au (o:=.lst []) (p1.neN hu2);have g2:(upd H1 u2 (.lst [])) u2=some (.lst []):=ak;have o2:Off p H (upd H1 u2 (.lst [])):=o1.trans (Ul hu2);generalize upd H1 u2 (.lst [])=H2 at p2 g2 o2;refine⟨p,u2,2,rfl,p2,g2,by decide,by decide,fun fl fs H3 _ fsl fnd hfl o3 p3=>?_⟩;have o03:=o2.trans o3;refine⟨_,rfl,bn _,fun u4 hu4=>?_⟩;have p4:=p3.au (o:=.lst []) (p3.neN hu4);have g4:(upd H3 u4 (.lst [])) u4=some (.lst []):=ak;have o4:Off p H3 (upd H3 u4 (.lst [])):=Ul hu4;have o04:=o03.trans o4;generalize upd H3 u4 (.lst [])=H4 at p4 g4 o4 o04;refine⟨p,u4,3,rfl,p4,g4,by decide,by decide,fun dl ds H5 _ dsl dnd hdl o5 p5=>?_⟩;have o05:=o04.trans o5;have o35:=o4.trans o5;refine⟨_,rfl,bn _,fun u6 hu6=>?_⟩;have p6:=p5.au (o:=.lst []) (p5.neN hu6);have g6:(upd H5 u6 (.lst [])) u6=some (.lst []):=ak;have o6:Off p H5 (upd H5 u6 (.lst [])):=Ul hu6;have o06:=o05.trans o6;generalize upd H5 u6 (.lst [])=H6 at p6 g6 o6 o06;refine⟨p,u6,20,rfl,p6,g6,by decide,by decide,fun nl ns H7 nlN nsl _ hnl o7 p7=>?_⟩
  have nlH:H nl=none:=by
   cases e:H nl with
   | none=>rfl
   | some o=>rw [o06 nl o (by rintro rfl; obtain ⟨a,b,c,h⟩:=p6; rw [nlN] at h; cases h) e] at nlN; cases nlN
  have o07:=o06.trans o7;have o57:=o6.trans o7;have hfl7:=(o35.trans o57) fl _ (p3.ne hfl) hfl;have hdl7:=o57 dl _ (p5.ne hdl) hdl;have fsl:fs.length=2:=fsl;have dsl:ds.length=3:=dsl;have nsl:ns.length=20:=nsl;have nfd:fl≠nl:=aB ((o35.trans o6) fl _ (p3.ne hfl) hfl) nlN;have ndd:dl≠nl:=aB (o6 dl _ (p5.ne hdl) hdl) nlN;clear o1 o2 o3 o4 o5 o6 o7 o03 o04 o05 o06 o35 o57 p1 p2 p3 p4 p5 p6 g2 g4 g6 hfl hdl;refine⟨NmP H p fl dl nl own fs ds,?_,?_⟩
  ·have skip:NmP H p fl dl nl own fs ds [some (.ref p),some (.int own),some (.ref fl),some (.ref dl),some (.ref nl),none,none,none,none,none,none] H7:=⟨ns,rfl,nsl,hnl,hfl7,hdl7,o07,p7⟩;refine⟨_,rfl,rfl,_,rfl,fO ‹14› (fun hb=>iG skip)⟩;refine⟨_,rfl,nl,_,rfl,.inl (Uh hnl),rfl,mL ns,_,rfl,fO (fun hc=>?_) (fun hc=>skip)⟩;refine⟨_,rfl,_,rfl,p,20,rfl,p7,by decide,by decide,fun r H8 l8 u8 o8 p8=>?_⟩;have np:=p7.ne hnl;have pn:p≠nl:=np.symm;refine⟨nl,_,r,r.toNat,rfl,rfl,o8 nl _ np hnl,?_,ns.set r.toNat "me",rfl,by rw [List.length_set]; exact nsl,by rw [ak,List.map_set],by rw [au nfd]; exact o8 fl _ (p7.ne hfl7) hfl7,by rw [au ndd]; exact o8 dl _ (p7.ne hdl7) hdl7,fun b o nb e=>?_,p8.au pn⟩
   ·unfold ixN;rw [dC ‹23›,dC (by rw [aa]; omega)]
   ·rw [au (aB e nlH)];exact o8 b o nb (o07 b o nb e)
  clear hnl hfl7 hdl7 o07 p7 nsl nlN nlH nfd ndd;rintro _ H8 ⟨ns,rfl,nsl,hnl,hfl,hdl,o08,p8⟩;have npn:=p8.ne hnl;have npf:=p8.ne hfl;have npd:=p8.ne hdl;refine⟨_,rfl,_,rfl,p,3,rfl,p8,by decide,by decide,fun r9 H9 l9 u9 o9 p9=>?_⟩;refine⟨_,_,rfl,rfl,bn _,fun u hu=>?_⟩;have p10:=p9.au (o:=.lst []) (p9.neN hu);have g10:(upd H9 u (.lst [])) u=some (.lst []):=ak;have o10:Off p H8 (upd H9 u (.lst [])):=o9.trans (Ul hu);generalize upd H9 u (.lst [])=H10 at p10 g10 o10;refine⟨_,rfl,p,u,fl,1+r9,fs,rfl,p10,g10,by omega,by omega,o10 fl _ npf hfl,by omega,fun kv ks H11 dk gk kl o11 p11=>?_⟩;have o811:=o10.trans o11;have hnl11:=o811 nl _ npn hnl;have hfl11:=o811 fl _ npf hfl;have hdl11:=o811 dl _ npd hdl;have o011:=o08.trans o811;have kl1:1<=ks.length/\ks.length<=3:=by omega
  obtain ⟨ka,kxs,rfl,hka,dkl⟩:=L2.Dp.bG dk;have kxl:kxs.length=ks.length:=by have:=dkl.length; rwa [aa] at this
  clear o9 p9 hnl hfl hdl o10 p10 g10 o11 o811 o08 p8;refine⟨_,rfl,ka,rfl,⟨_,Ui hka⟩,fun D1 hD1=>?_⟩;refine dD (n:=kxs.length) (fun i ys H12=>ys=((knd ks).take i).map V.str/\H12 D1=some (.lst ys)/\Same H11 H12) ⟨rfl,ak,Um hD1⟩ ?_ ?_;rotate_left
  ·rintro i ys H12 hi ⟨rfl,hD2,s2⟩;have hik:i < ks.length:=by omega
   obtain ⟨x,ex,dx⟩:=dkl.get (i:=i) (t:=krT ks[i]) (by rw [bj,af hik]; rfl);refine⟨⟨_,_,Ui (s2 ka _ hka),ex⟩,?_⟩;rintro v H13 ⟨rfl,yy⟩ σo ho;obtain ⟨oo,rfl⟩:=own1 ho;have ev:=yy _ (Ui (s2 ka _ hka));rw [ex] at ev;cases ev;obtain ⟨qk,e,f,rfl,hq,he,hf⟩:=K37.Dp.En (dx.mono (Uj s2));have hkn:i < (knd ks).length:=by unfold knd; rw [aa]; exact hik
   refine⟨‹16›,jT ⟨_,rfl,qk,_,_,_,rfl,rfl,Ui hq,aH (j:=0) rfl,?_⟩⟩;refine⟨by rw [aa,cf]; omega,hD2,bV hi ⟨?_,ak,fun c o z=>by rw [au (aB z hD1)]; exact s2 c o z⟩⟩;have ek:(knd ks)[i]'hkn=ks[i].kind:=iE ..;rw [take_snoc hkn,az,ek];rfl
  rintro ys H12 ⟨rfl,hD2,s2⟩;rw [aE (by unfold knd; rw [aa]; omega)] at hD2;refine⟨⟨_,Ui (s2 ka _ hka),am _⟩,D1,_,rfl,.inl ⟨Uh hD2,fun a1 ha1=>?_⟩⟩;have s3:=Um (o:=.tup ((knd ks).map V.str)) ha1;have g1:(upd H12 a1 (.tup ((knd ks).map V.str))) a1=some (.tup ((knd ks).map V.str)):=ak;generalize upd H12 a1 (.tup ((knd ks).map V.str))=H13 at s3 g1;have s13:=s2.trans s3;refine⟨_,rfl,dl,_,rfl,.inl ⟨Uh (s13 _ _ hdl11),fun a2 ha2=>?_⟩⟩;have s4:=Um (o:=.tup (ds.map V.str)) ha2;have g2:(upd H13 a2 (.tup (ds.map V.str))) a2=some (.tup (ds.map V.str)):=ak;generalize upd H13 a2 (.tup (ds.map V.str))=H14 at s4 g2;have s14:=s13.trans s4;refine⟨_,rfl,fl,_,rfl,.inl ⟨Uh (s14 _ _ hfl11),fun a3 ha3=>?_⟩⟩;have s5:=Um (o:=.tup (fs.map V.str)) ha3;have g3:(upd H14 a3 (.tup (fs.map V.str))) a3=some (.tup (fs.map V.str)):=ak;generalize upd H14 a3 (.tup (fs.map V.str))=H15 at s5 g3;have s15:=s14.trans s5;refine⟨_,rfl,nl,_,rfl,.inl ⟨Uh (s15 _ _ hnl11),fun a4 ha4=>?_⟩⟩;have s6:=Um (o:=.tup ‹17›) ha4;have g4:(upd H15 a4 (.tup ‹17›)) a4=some (.tup ‹17›):=ak;generalize upd H15 a4 (.tup ‹17›)=H16 at s6 g4;refine⟨by show 4<=sizeLine; decide,fun tl htl=>?_⟩;have s7:=Um (o:=.tup [.ref a1,.ref a2,.ref a3,.ref a4]) htl;have g5:(upd H16 tl (.tup [.ref a1,.ref a2,.ref a3,.ref a4])) tl=some (.tup [.ref a1,.ref a2,.ref a3,.ref a4]):=ak;generalize upd H16 tl (.tup [.ref a1,.ref a2,.ref a3,.ref a4])=H17 at s7 g5;have s67:=s6.trans s7;have s17:=s15.trans s67;have ht:Tls H17 tl a1 a2 a3 a4 (knd ks) ds fs ns:=⟨g5,(s4.trans (s5.trans s67)) _ _ g1,(s5.trans s67) _ _ g2,s67 _ _ g3,s7 _ _ g4,by unfold knd; rw [aa]; omega,by omega,by omega,by omega⟩;have p17:Pu H17 p:=p11.same s17;have o017:=o011.trans s17.off;have hnl17:=s17 _ _ hnl11;have hdl17:=s17 _ _ hdl11;have hka17:=s17 _ _ hka;have dkl17:=dkl.mono (Uj s17);clear s2 s3 s4 s5 s6 s7 s13 s14 s15 s17 s67 g1 g2 g3 g4 g5 hD1 hD2 ha1 ha2 ha3 ha4 htl hnl11 hdl11 hfl11 hka dkl p11 o011 dk;refine⟨bn _,fun sl hsl=>?_⟩;have sp:sl≠p:=(p17.neN hsl).symm;have s18:Same H17 (upd H17 sl (.lst [])):=Um hsl;have g18:(upd H17 sl (.lst [])) sl=some (.lst []):=ak;have p18:=p17.au (o:=.lst []) (p17.neN hsl);generalize upd H17 sl (.lst [])=H18 at s18 g18 p18;have h15:∀ {H':Hp} {rm:Addr},Pu H' p->H' rm=none->p≠rm:=fun hp h=>hp.neN h
  refine⟨_,rfl,dl,rfl,⟨_,Uh (s18 _ _ hdl17)⟩,lC (K:=N0) (a:=dl) (xs:=ds.map V.str) (fun i σ H2=>∃(dbs:List DB) (ys:LV) (v8 v9 v10:OV),σ=[some (.ref p),some (.int own),some (.ref fl),some (.ref dl),some (.ref nl),some (.ref ka),some (.ref tl),some (.ref sl),v8,v9,v10]/\H2 sl=some (.lst ys)/\DpL H2 ((dbs.map DB.dr).map drT) ys/\dbs.map (·.name)=ds.take i/\(∀ d∈dbs,wC d.ps d.b)/\Off p H17 H2/\Pu H2 p)
   ⟨[],[],_,_,_,rfl,g18,.nil,rfl,(fun d hd=>nomatch hd),s18.off,p18⟩ (fun i σ H2 _ ⟨_,_,_,_,_,_,_,_,_,_,o,_⟩=>Uh (o dl _ npd hdl17)) ?_ ?_⟩
  ·rintro i y σ H2 hy ⟨dbs,ys,v8,v9,v10,rfl,hs2,dys,enm,okd,o2,p2⟩
   have hit:i < ds.length:=by
    have:=(aT.mp hy).1;rw [aa] at this;exact this
   have ey:y=.str ds[i]:=by
    rw [bj,af hit] at hy;exact(dL hy).symm
   subst ey;have ysl:=dys.length;rw [aa,aa] at ysl
   have dbl:dbs.length<=3:=by
    have:=congrArg List.length enm;rw [aa,cf] at this;omega
   refine⟨_,rfl,p,18,rfl,p2,by decide,by decide,fun at_ H3 l3 u3 o3 p3=>?_⟩;refine⟨_,rfl,_,rfl,_,rfl,_,rfl,_,rfl,p,4,rfl,p3,by decide,by decide,fun r4 H4 l4 u4 o4 p4=>?_⟩;have o24:=o2.trans (o3.trans o4);have hs4:=(o3.trans o4) sl _ sp hs2;obtain ⟨ps,eps,psl⟩:=Ie (ns:=ns) (lo:=some at_) (hi:=some (at_+r4));refine⟨_,_,rfl,rfl,_,rfl,nl,_,rfl,Uh (o24 nl _ npn hnl17),fun c5 hc5=>?_⟩;have s5:=Um (o:=.lst (gW ‹17› (some at_) (some (at_+r4)))) hc5;have g5:(upd H4 c5 (.lst (gW ‹17› (some at_) (some (at_+r4))))) c5=some (.lst (ps.map V.str)):=by rw [ak,eps]
   have p5:=p4.au (o:=.lst (gW ‹17› (some at_) (some (at_+r4)))) (p4.neN hc5);generalize upd H4 c5 (.lst (gW ‹17› (some at_) (some (at_+r4))))=H5 at s5 g5 p5;refine⟨c5,_,rfl,.inl ⟨Uh g5,fun a6 ha6=>?_⟩⟩;have s6:=Um (o:=.tup (ps.map V.str)) ha6;have g6:(upd H5 a6 (.tup (ps.map V.str))) a6=some (.tup (ps.map V.str)):=ak;have p6:=p5.au (o:=.tup (ps.map V.str)) (p5.neN ha6);generalize upd H5 a6 (.tup (ps.map V.str))=H6 at s6 g6 p6;have s46:=s5.trans s6;have o26:=o24.trans s46.off;have hs6:=s46 _ _ hs4;have hka6:=o26 ka _ (by obtain ⟨z1,z2,z3,ep⟩:=p17; exact bI hka17 ep ‹8›) hka17;refine⟨_,rfl,.inl ⟨rfl,_,Uh hs6⟩,_,rfl,_,rfl,_,rfl,ka,_,rfl,.inr (Ui hka6),p,_,rfl,p6,by omega,by omega,fun r7 H7 l7 u7 o7 p7=>?_⟩;have u7:r7 < (kxs.length:Int):=u7;have o27:=o26.trans o7;have hs7:=o7 sl _ sp hs6;have t67:=dR p6 o7;have hka7:=t67 _ _ hka6;obtain ⟨x,hx,_,hxi⟩:=sX (xs:=kxs) l7 u7;have hrk:r7.toNat < ks.length:=by omega
   obtain ⟨x',ex',dx'⟩:=(dkl17.mono (dR p17 o27)).get (i:=r7.toNat) (t:=krT ks[r7.toNat]) (by rw [bj,af hrk]; rfl);rw [hxi] at ex';cases ex';obtain ⟨qk,ke,kf,rfl,hq,_,_⟩:=K37.Dp.En dx';refine⟨ka,_,_,_,rfl,rfl,Ui hka7,hx,qk,_,_,_,rfl,rfl,Ui hq,aH (j:=0) rfl,?_⟩;refine⟨_,rfl,_,rfl,_,rfl,_,rfl,by show 1<=sizeLine; decide,fun rm hrm=>?_⟩;have rp:=(p7.neN hrm).symm;have rs:rm≠sl:=(aB hs7 hrm).symm;have s8:=Um (o:=.lst [.int 15]) hrm;have g8:(upd H7 rm (.lst [.int 15])) rm=some (.lst [.int ((15:Nat):Int)]):=ak;have p8:=p7.au (o:=.lst [.int 15]) (p7.neN hrm)
   have k8:∀ b,H7 b=none->(upd H7 rm (.lst [.int 15])) b=none\/b=rm:=fun b e=>by
    by_cases h:b=rm
    ·exact .inr h
    ·exact .inl (by rw [au h]; exact e)
   generalize upd H7 rm (.lst [.int 15])=H8 at s8 g8 p8 k8;have o28:=o27.trans s8.off;refine⟨p,tl,a1,a2,a3,a4,rm,knd ks,ds,fs,ns,1,15,rfl,by decide,.inr rfl,p8,ht.mono (dR p17 o28),g8,fun vb b H9 k9 db okb cb rm9 o9 p9=>?_⟩;have t89:=o9.tups p8 g8;have a69:=t89 _ _ (s8 _ _ (t67 _ _ g6));have o79:Off p H7 H9:=fun c o nc e=>o9 c o nc (aB e hrm) (s8 c o e);have o29:=o27.trans o79;have hs9:=o79 sl _ sp hs7;refine⟨by show 4<=sizeLine; decide,fun z hz=>?_⟩;have s10:=Um (o:=.tup [.str ks[r7.toNat].kind,.str ds[i],.ref a6,vb]) hz;have g10:(upd H9 z (.tup [.str ks[r7.toNat].kind,.str ds[i],.ref a6,vb])) z=some (.tup [.str ks[r7.toNat].kind,.str ds[i],.ref a6,vb]):=ak;have p10:=p9.au (o:=.tup [.str ks[r7.toNat].kind,.str ds[i],.ref a6,vb]) (p9.neN hz);generalize upd H9 z (.tup [.str ks[r7.toNat].kind,.str ds[i],.ref a6,vb])=H10 at s10 g10 p10;have hs10:=s10 _ _ hs9;refine⟨sl,ys,.ref z,rfl,rfl,hs10,by omega,?_⟩;have tu:fB H10 (upd H10 sl (.lst (ys++[.ref z]))):=fun c zs e=>by rw [au (bI e hs10 fun z=>nomatch z)]; exact e
   have dnew:Dp H10 (drT (DB.dr ⟨ks[r7.toNat].kind,ds[i],ps,b⟩)) (.ref z):=L2.Dp.tup g10 (.cons (.str _) (.cons (.str _) (.cons (xH (s10 _ _ a69)) (.cons (db.mono (Uj s10)) .nil))));refine⟨dbs++[⟨ks[r7.toNat].kind,ds[i],ps,b⟩],ys++[.ref z],_,_,_,rfl,ak,?_,?_,?_,?_,p10.au sp.symm⟩
   ·rw [az,az];exact(dys.mono (((dR p2 (o3.trans o4)).trans (Uj s46)).trans ((t67.trans (dR p7 o79)).trans ((Uj s10).trans tu)))).append (.cons (dnew.mono tu) .nil)
   ·rw [az,enm,take_snoc hit];rfl
   ·intro d hd;rcases dP.mp hd with hd | hd
    ·exact okd d hd
    ·rw [bS.mp hd];exact wC.of okb (by show ps.length<=100; omega) (by show gF b<=15; omega)
   ·exact fun c o nc e=>by
     rw [au (aB e hsl)];exact s10 c o (o29 c o nc e)
  ·rintro σ H2 ⟨dbs,ys,v8,v9,v10,rfl,hs2,dys,enm,okd,o2,p2⟩;rw [aa,aE (am _)] at enm
   have dbl:dbs.length=3:=by
    have:=congrArg List.length enm;rw [aa] at this;omega
   refine⟨_,rfl,_,rfl,sl,_,rfl,.inl ⟨Uh hs2,fun a3' ha3=>?_⟩⟩;have s3:=Um (o:=.tup ys) ha3;have g3:(upd H2 a3' (.tup ys)) a3'=some (.tup ys):=ak;have p3:=p2.au (o:=.tup ys) (p2.neN ha3);generalize upd H2 a3' (.tup ys)=H3 at s3 g3 p3;refine⟨_,rfl,_,rfl,by show 1<=sizeLine; decide,fun rm hrm=>?_⟩;have s4:=Um (o:=.lst [.int 15]) hrm;have g4:(upd H3 rm (.lst [.int 15])) rm=some (.lst [.int ((15:Nat):Int)]):=ak;have p4:=p3.au (o:=.lst [.int 15]) (p3.neN hrm);generalize upd H3 rm (.lst [.int 15])=H4 at s4 g4 p4;have o24:=o2.trans (s3.trans s4).off;refine⟨p,tl,a1,a2,a3,a4,rm,knd ks,ds,fs,ns,0,15,rfl,by decide,.inl rfl,p4,ht.mono (dR p17 o24),g4,fun vb b H5 k5 db okb cb rm5 o5 p5=>?_⟩;have o35:Off p H3 H5:=fun c o nc e=>o5 c o nc (aB e hrm) (s4 c o e);have o25:=o2.trans (s3.off.trans o35);refine⟨by show 3<=sizeLine; decide,fun z hz=>?_⟩;have s6:=Um (o:=.tup [.ref ka,.ref a3',vb]) hz;have g6:(upd H5 z (.tup [.ref ka,.ref a3',vb])) z=some (.tup [.ref ka,.ref a3',vb]):=ak;have p6:=p5.au (o:=.tup [.ref ka,.ref a3',vb]) (p5.neN hz);generalize upd H5 z (.tup [.ref ka,.ref a3',vb])=H6 at s6 g6 p6;have o26:=o25.trans s6.off;have t26:=(dR p3 o35).trans (Uj s6);have hka6:=dR p17 o26 _ _ hka17;exact q _ ks dbs b H6 ⟨z,.ref ka,.ref a3',vb,rfl,g6,L2.Dp.tup hka6 (dkl17.mono (dR p17 o26)),L2.Dp.tup (t26 _ _ g3) (dys.mono ((Uj s3).trans t26)),db.mono (Uj s6)⟩ ⟨gk,by rw [aa]; omega⟩ okd (wC.of okb (by show 0<=100; decide) ‹23›) (o017.trans o26) p6
def itT:Option Str->T
 | none=>.tup [.str "me"]
 | some x=>.tup [.str "name",.str x]
theorem Dn:∀ es:List Ex,itL es=(es.map Ex.it).flatten
 | []=>by rw [itL]; rfl
 | e::es=>by rw [itL,Dn es]; rfl
theorem Pq(K:PySem.W.Frag):PySem.W.kitOne K (.type "tuple") (.type "int")=some false:=by rfl
theorem Qs:∀ x∈bins,¬ x = "me" /\ ¬ x = "name" /\ ¬ x = "new" /\ ¬ x = "get" /\ ¬ x = "ask" /\ ¬ x = "up" := by decide +kernel
theorem Ex.Bu{e:Ex}(h:e.dp<=n+1)(w:e.wf):e=.non\/(∃ i,e=.num i)\/∃(x:Str) (ts:List T),e.t=.tup (.str x::ts)/\(e=.me\/(∃ y,e=.name y)\/(∃ y,e=.new y)\/(¬ x = "me" /\ ¬ x = "name" /\ ¬ x = "new" /\
    ((x = "get" /\ ∃ e' f,ts=[e'.t,.str f]/\itL [e']=e.it/\∀ u∈[e'],u.dp<=n/\u.wf)\/(x = "ask" /\ ∃ e' d as,ts=[e'.t,.str d,.tup (tL as)]/\itL (e'::as)=e.it/\(∀ u∈e'::as,u.dp<=n/\u.wf)/\as.length<=3)\/
     (x = "up" /\ ∃ d as,ts=[.str d,.tup (tL as)]/\itL (.me::as)=e.it/\(∀ u∈Ex.me::as,u.dp<=n/\u.wf)/\as.length<=3)\/(¬ x = "get" /\ ¬ x = "ask" /\ ¬ x = "up")/\∃ a b,ts=[a.t,b.t]/\itL [a,b]=e.it/\∀ u∈[a,b],u.dp<=n/\u.wf))):=by
  cases e with
  | non=>exact .inl rfl
  | num i=>exact .inr (.inl ⟨i,rfl⟩)
  | me=>exact .inr (.inr ⟨_,_,by rw [Ex.t],.inl rfl⟩)
  | name y=>exact .inr (.inr ⟨_,_,by rw [Ex.t],.inr (.inl ⟨y,rfl⟩)⟩)
  | new y=>exact .inr (.inr ⟨_,_,by rw [Ex.t],.inr (.inr (.inl ⟨y,rfl⟩))⟩)
  | get e f=>
    rw [Ex.dp] at h;rw [Ex.wf] at w;exact .inr (.inr ⟨_,_,by rw [Ex.t],.inr (.inr (.inr ⟨by decide +kernel,by decide +kernel,by decide +kernel,.inl ⟨rfl,e,f,rfl,by rw [itL,itL,Ex.it,av],fun u hu=>by rw [bS.mp hu]; exact⟨by omega,w⟩⟩⟩))⟩)
  | ask e d as=>
    rw [Ex.dp] at h;rw [Ex.wf] at w;refine .inr (.inr ⟨_,_,by rw [Ex.t],.inr (.inr (.inr ⟨by decide +kernel,by decide +kernel,by decide +kernel,.inr (.inl ⟨rfl,e,d,as,rfl,by rw [itL,Ex.it],fun u hu=>?_,w.2.1⟩)⟩))⟩);rcases bc.mp hu with rfl | hu
    · exact⟨by omega,w.1⟩
    · have:=rP hu
      exact⟨by omega,rT w.2.2 hu⟩
  | up d as=>
    rw [Ex.dp] at h;rw [Ex.wf] at w;refine .inr (.inr ⟨_,_,by rw [Ex.t],.inr (.inr (.inr ⟨by decide +kernel,by decide +kernel,by decide +kernel,.inr (.inr (.inl ⟨rfl,d,as,rfl,by rw [itL,Ex.it,Ex.it]; rfl,fun u hu=>?_,w.1⟩))⟩))⟩);rcases bc.mp hu with rfl | hu
    · have:=Ey as
      exact⟨by rw [Ex.dp]; omega,by rw [Ex.wf]; trivial⟩
    · have:=rP hu
      exact⟨by omega,rT w.2 hu⟩
  | bin x a b=>
    rw [Ex.dp] at h;rw [Ex.wf] at w;obtain ⟨b1,b2,b3,b4,b5,b6⟩:=Qs x w.1;refine .inr (.inr ⟨_,_,by rw [Ex.t],.inr (.inr (.inr ⟨b1,b2,b3,.inr (.inr (.inr ⟨⟨b4,b5,b6⟩,a,b,rfl,by rw [itL,itL,itL,Ex.it,av],fun u hu=>?_⟩))⟩))⟩);rcases bc.mp hu with rfl | hu
    · exact⟨by omega,w.2.1⟩
    · rw [bS.mp hu]
      exact⟨by omega,w.2.2⟩
def PsM(H:Hp)(e:Ex)(v:V)(x:Str)(n:Nat)(c:Prop)(σ:L2.St)(H1:Hp):Prop:=∃(pa:Addr) (pys:LV) (v3 v4:OV),σ=[some v,some (.str x),some (.ref pa),v3,v4]/\H1 pa=some (.tup pys)/\Same H H1/\(c->∃ es:List Ex,DpL H1 (tL es) pys/\itL es=e.it/\(∀ u∈es,u.dp<=n/\u.wf)/\es.length<=4)
def Its(H:Hp)(os:List (Option Str))(Q:VK):Prop:=∀(l:Addr) (ys:LV) H',H' l=some (.lst ys)->DpL H' (os.map itT) ys->Same H H'->Q (.ref l) H'
inductive Ea (n:Nat) (vs:LV) (H:Hp) (Q:VK) (E_:XK):Prop
 | mk (v:V) (e:Ex):vs=[v]->Dp H e.t v->e.dp<=n->e.wf->e.it.length<=100000->Its H e.it Q->Ea n vs H Q E_
theorem Px(D:Defs K mg t){k:Nat}(Gal:bw P w K mg base CX0 k t.bW.1 t.bW.2 ["_law_value_here"] (Ea n)):bw P w K mg base CX0 (k+1) t.bW.1 t.bW.2 ["_law_value_here"] (Ea (n+1)):=by
 have hz:sizeLine=16777216:=ci;refine D.bW.fn.ok cI ‹5› ‹2›
 ·obtain ⟨v,e,rfl,_⟩:=h;rfl
 ·obtain ⟨v,e,rfl,dv,hd,hw,hn,q⟩:=h
  refine⟨_,(aA (bD (Ug (ug (aL yJ (pv 0) mq (aQ _)) (pB (lA (aW jk (by rfl) D.gY gC (aj (pv 0) (aj (pR (v:=V.ty "int") rfl D.Dy yX rfl) aq)))))))
   (aD (aR (bB aq)))
   aX)
   (aA (aK (i:=1) cI.nd rfl (ue rfl) ‹22›)
   (aA (bD (Ug (ug (aL dH (pv 1) aM (aQ _)) (pB (aL dH (pv 1) aM (aQ _)))))
   (aD (aR (bB (aj (pv 0) aq))))
   aX)
   (aA (bD (aL dH (pv 1) aM (aQ _))
   (aD (aR (bB aq)))
   aX)
   (aA (aK (i:=2) cI.nd rfl (ue rfl) (cX iH (pv 0) (cW aC) fW))
   (gw (bD (aL dH (pv 1) aM (aQ _))
   (aD (aK (i:=2) cI.nd rfl (ue rfl) (cX iH (pv 0) (cW aC) (cW aC))))
   aX)
   (gw (bD (aL dH (pv 1) aM (aQ _))
   (aD (aK (i:=2) cI.nd rfl (ue rfl) (bH sJ (cX iH (pv 0) (cW aC) (cW aC)) ‹22›)))
   aX)
   (gw (bD (aL dH (pv 1) aM (aQ _))
   (aD (aK (i:=2) cI.nd rfl (ue rfl) (bH sJ (bh (aj (bh (aj aM aq)) aq)) ‹22›)))
   aX)
   (aA (aK (i:=3) cI.nd rfl (ue rfl) (bB aq))
   (aA (dB dQ rfl (eY (pv 2)) (aJ (i:=4) cI.nd rfl (ue rfl))
   (aD (aK (i:=3) cI.nd rfl (ue rfl) (bH iC (pv 3) (aF D.bW Gal ‹1› (by rfl) (aj (pv 4) aq))))))
   (aD (aR (pv 3))))))))))))),?_⟩
  have emp:e.it=[]->∀ z,H z=none->Q (.ref z) (upd H z (.lst [])):=fun e0 z hz=>q z [] _ ak (by rw [e0]; exact .nil) (Um hz);rcases Ex.Bu (n:=n) hd hw with rfl | ⟨i,rfl⟩ | ⟨x,ts,et,hx⟩
  ·rw [Ex.t,Dp] at dv;subst dv;exact⟨_,rfl,rfl,_,rfl,cG (bg rfl) (jQ ⟨bn _,emp (by rw [Ex.it])⟩)⟩
  ·rw [Ex.t,Dp] at dv;subst dv;refine⟨_,rfl,rfl,_,rfl,bF (by rw [ff ‹8›]; exact bo) ?_⟩;exact⟨_,rfl,_,_,_,true,rfl,.int i,lM N0 "int",_,rfl,jQ ⟨bn _,emp (by rw [Ex.it])⟩⟩
  have dv0:=dv;rw [et] at dv;obtain ⟨a,xs0,rfl,ha,dl⟩:=L2.Dp.bG dv;obtain ⟨x1,xs,rfl,d1,dl'⟩:=dl.cases;have e1:=L2.Dp.cQ d1;subst e1;refine⟨_,rfl,rfl,_,rfl,bF (by rw [ff ‹8›]; exact bo) ?_⟩;refine⟨_,rfl,_,_,_,false,rfl,.tup ha,Pq N0,_,rfl,iG ?_⟩;refine⟨_,rfl,a,_,_,_,rfl,rfl,Ui ha,aH (j:=0) rfl,?_⟩;have one:∀ o,e.it=[o]->e.t=itT o->∀ z,H z=none->Q (.ref z) (upd H z (.lst [.ref a])):=fun o e0 e1 z hz=>q z [.ref a] _ ak (by rw [e0]; rw [e1] at dv0; exact .cons (dv0.mono (Uj (Um hz))) .nil) (Um hz);rcases hx with rfl | ⟨y,rfl⟩ | ⟨y,rfl⟩ | ⟨n1,n2,n3,hx⟩
  ·rw [Ex.t] at et;cases et;exact⟨_,rfl,rfl,_,rfl,cG (bg rfl) (jQ ⟨_,rfl,by show 1<=sizeLine; decide,one none (by rw [Ex.it]) (by rw [Ex.t]; rfl)⟩)⟩
  ·rw [Ex.t] at et;cases et;exact⟨_,rfl,rfl,_,rfl,bF (ne_str ‹3›) ⟨_,rfl,rfl,_,rfl,cG (bg rfl) ⟨_,rfl,by show 1<=sizeLine; decide,one (some y) (by rw [Ex.it]) (by rw [Ex.t]; rfl)⟩⟩⟩
  ·rw [Ex.t] at et;cases et;exact⟨_,rfl,rfl,_,rfl,bF (ne_str ‹3›) ⟨_,rfl,rfl,_,rfl,bF (ne_str ‹3›) ⟨_,rfl,rfl,_,rfl,cG (bg rfl) ⟨bn _,emp (by rw [Ex.it])⟩⟩⟩⟩
  refine⟨_,rfl,rfl,_,rfl,bF (ne_str n1) ⟨_,rfl,rfl,_,rfl,bF (ne_str n2) ⟨_,rfl,rfl,_,rfl,bF (ne_str n3) ?_⟩⟩⟩;refine⟨_,rfl,_,rfl,a,_,rfl,ha,fun b1 H1 hb1 s1=>?_⟩;rw [jE] at hb1;have hb1:H1 b1=some (.tup xs):=hb1;refine⟨PsM H e (.ref a) x n (¬ x = "ask" /\ ¬ x = "up"),?_,?_⟩
  ·by_cases hg:x = "get"
   ·refine⟨_,rfl,rfl,_,rfl,cG (by rw [hg]; exact bg rfl) ?_⟩;refine⟨_,rfl,_,rfl,_,rfl,a,_,rfl,s1 a _ ha,fun b2 H2 hb2 s2=>?_⟩;refine⟨b2,_,_,_,rfl,hb2,s1.trans s2,fun _=>?_⟩;rcases hx with ⟨_,e',g,rfl,eit,ok⟩ | ⟨h,_⟩ | ⟨h,_⟩ | ⟨h,_⟩
    ·obtain ⟨u1,us,rfl,du,dlu⟩:=dl'.cases;obtain ⟨u2,us,rfl,du2,dlu⟩:=dlu.cases;cases us with
     | cons _ _=>cases dlu
     | nil=>
      refine⟨[e'],?_,eit,ok,by show 1<=4; decide⟩;rw [tL,tL];exact .cons (du.mono (Uj (s1.trans s2))) .nil
    ·rw [hg] at h; exact absurd h ‹3›
    ·rw [hg] at h; exact absurd h ‹3›
    ·exact absurd hg h.1
   ·refine⟨_,rfl,rfl,_,rfl,bF (ne_str hg) ?_⟩;refine⟨b1,xs,_,_,rfl,hb1,s1,fun hc=>?_⟩;rcases hx with ⟨h,_⟩ | ⟨h,_⟩ | ⟨h,_⟩ | ⟨_,a',b',rfl,eit,ok⟩
    ·exact absurd h hg
    ·exact absurd h hc.1
    ·exact absurd h hc.2
    ·refine⟨[a',b'],?_,eit,ok,by show 2<=4; decide⟩;rw [tL,tL,tL];exact dl'.mono (Uj s1)
  clear hb1;rintro _ H2 ⟨b2,zs2,v3,v4,rfl,hb2,s2,g2⟩;refine⟨PsM H e (.ref a) x n (¬ x = "up"),?_,?_⟩
  ·by_cases hg:x = "ask"
   ·refine⟨_,rfl,rfl,_,rfl,cG (by rw [hg]; exact bg rfl) ?_⟩;rcases hx with ⟨h,_⟩ | ⟨_,e',g,as,rfl,eit,ok,hl⟩ | ⟨h,_⟩ | ⟨h,_⟩
    ·rw [hg] at h; exact absurd h ‹3›
    ·obtain ⟨u1,us,rfl,du,dlu⟩:=dl'.cases;obtain ⟨u2,us,rfl,du2,dlu⟩:=dlu.cases;obtain ⟨u3,us,rfl,du3,dlu⟩:=dlu.cases;cases us with
     | cons _ _=>cases dlu
     | nil=>
      obtain ⟨c,zs,rfl,hc,dlz⟩:=L2.Dp.bG du3;have zl:zs.length=as.length:=by rw [dlz.length,jW,aa]
      refine⟨_,rfl,_,rfl,_,rfl,a,_,rfl,s2 a _ ha,fun b3 H3 hb3 s3=>?_⟩;have hb3:H3 b3=some (.tup [u1]):=hb3;have s03:=s2.trans s3;have good:∀ {H':Hp},Same H H'->DpL H' (tL (e'::as)) (u1::zs):=fun s=>by rw [tL]; exact .cons (du.mono (Uj s)) (dlz.mono (Uj s))
      refine⟨_,rfl,a,_,_,_,rfl,rfl,Ui (s03 a _ ha),aH (j:=3) rfl,?_⟩;refine⟨b3,c,_,zs,rfl,rfl,Ui hb3,Ui (s03 c _ hc),(by intro z; cases z),by show 1+zs.length<=sizeLine; omega,fun e0=>?_,fun _ y hy=>?_⟩
      ·subst e0;exact⟨b3,_,_,_,rfl,hb3,s03,fun _=>⟨e'::as,good s03,eit,ok,by rw [ar]; omega⟩⟩
      ·exact⟨y,_,_,_,rfl,ak,s03.trans (Um hy),fun _=>⟨e'::as,good (s03.trans (Um hy)),eit,ok,by rw [ar]; omega⟩⟩
    ·rw [hg] at h; exact absurd h ‹3›
    ·exact absurd hg h.2.1
   ·exact⟨_,rfl,rfl,_,rfl,bF (ne_str hg) ⟨b2,zs2,_,_,rfl,hb2,s2,fun hu=>g2 ⟨hg,hu⟩⟩⟩
  clear hb2 s2 g2 s1;rintro _ H3 ⟨b3,zs3,v3,v4,rfl,hb3,s3,g3⟩;refine⟨PsM H e (.ref a) x n True,?_,?_⟩
  ·by_cases hg:x = "up"
   ·refine⟨_,rfl,rfl,_,rfl,cG (by rw [hg]; exact bg rfl) ?_⟩;rcases hx with ⟨h,_⟩ | ⟨h,_⟩ | ⟨_,g,as,rfl,eit,ok,hl⟩ | ⟨h,_⟩
    ·rw [hg] at h; exact absurd h ‹3›
    ·rw [hg] at h; exact absurd h ‹3›
    ·obtain ⟨u2,us,rfl,du2,dlu⟩:=dl'.cases;obtain ⟨u3,us,rfl,du3,dlu⟩:=dlu.cases;cases us with
     | cons _ _=>cases dlu
     | nil=>
      obtain ⟨c,zs,rfl,hc,dlz⟩:=L2.Dp.bG du3;have zl:zs.length=as.length:=by rw [dlz.length,jW,aa]
      refine⟨by show 1<=sizeLine; decide,fun m1 hm1=>?_⟩;have s4:=s3.trans (Um (o:=.tup [.str "me"]) hm1);have g4:(upd H3 m1 (.tup [.str "me"])) m1=some (.tup [.str "me"]):=ak;generalize upd H3 m1 (.tup [.str "me"])=H4 at s4 g4;refine⟨by show 1<=sizeLine; decide,fun m2 hm2=>?_⟩;have s45:=Um (o:=.tup [.ref m1]) hm2;have g5:(upd H4 m2 (.tup [.ref m1])) m2=some (.tup [.ref m1]):=ak;generalize upd H4 m2 (.tup [.ref m1])=H5 at s45 g5;have s05:=s4.trans s45;have g45:=s45 _ _ g4
      have good:∀ {H':Hp},Same H5 H'->DpL H' (tL (.me::as)) (.ref m1::zs):=fun s=>by
       rw [tL,Ex.t];exact .cons (L2.Dp.tup (s _ _ g45) ‹13›) (dlz.mono (Uj (s05.trans s)))
      refine⟨_,rfl,a,_,_,_,rfl,rfl,Ui (s05 a _ ha),aH (j:=2) rfl,?_⟩;refine⟨m2,c,_,zs,rfl,rfl,Ui g5,Ui (s05 c _ hc),(by intro z; cases z),by show 1+zs.length<=sizeLine; omega,fun e0=>?_,fun _ y hy=>?_⟩
      ·subst e0;exact⟨m2,_,_,_,rfl,g5,s05,fun _=>⟨.me::as,good (Same.refl _),eit,ok,by rw [ar]; omega⟩⟩
      ·exact⟨y,_,_,_,rfl,ak,s05.trans (Um hy),fun _=>⟨.me::as,good (Um hy),eit,ok,by rw [ar]; omega⟩⟩
    ·exact absurd hg h.2.2
   ·exact⟨_,rfl,rfl,_,rfl,bF (ne_str hg) ⟨b3,zs3,_,_,rfl,hb3,s3,fun _=>g3 hg⟩⟩
  clear hb3 s3 g3;rintro _ H4 ⟨pa,pys,v3,v4,rfl,hpa,s4,g4⟩;obtain ⟨es,dpe,eit,oke,el4⟩:=g4 trivial;have pyl:pys.length=es.length:=by rw [dpe.length,jW,aa]
  rw [jW] at dpe;rw [Dn] at eit;refine⟨bn _,fun l hl=>?_⟩;exists 1,s5,g5,H4,l,(.lst []),hl,H5
  refine⟨_,rfl,pa,rfl,⟨_,Ui (s5 pa _ hpa)⟩,kj (K:=N0) (a:=pa) (xs:=pys) (fun i σ H2=>∃(m:Addr) (ys:LV) (v4:OV),σ=[some (.ref a),some (.str x),some (.ref pa),some (.ref m),v4]/\H2 m=some (.lst ys)/\DpL H2 (((es.take i).map Ex.it).flatten.map itT) ys/\Same H4 H2)
   ⟨l,[],_,rfl,g5,.nil,s5⟩ (fun i σ H2 _ ⟨_,_,_,_,_,_,s⟩=>Ui (s pa _ hpa)) ?_ ?_⟩
  ·rintro i y σ H2 hy ⟨m,ys,v4,rfl,hm,dys,s2⟩
   have hit:i < es.length:=by
    have:=(aT.mp hy).1;omega
   obtain ⟨y',ey,dy⟩:=dpe.get (t:=es[i].t) (i:=i) (by rw [bj,af hit]; rfl);rw [hy] at ey;cases ey;obtain ⟨di,wi⟩:=oke _ (dm hit);have hil:i < (es.map Ex.it).length:=by rw [aa]; exact hit
   have tk:=jH hil;have fs1:=lg hil;rw [<- gy,<- gy,iE] at tk;rw [<- gy,iE,eit] at fs1;have yl:=dys.length;rw [aa] at yl;refine⟨_,rfl,_,rfl,y,es[i],rfl,dy.mono (Uj s2),di,wi,by omega,fun l3 ys3 H3 hl3 d3 s3=>?_⟩;have yl3:=d3.length;rw [aa] at yl3;refine⟨m,l3,_,_,rfl,rfl,s3 m _ hm,hl3,by omega,fun l4 hl4=>?_⟩;have s34:=s3.trans (Um (o:=.lst (ys++ys3)) hl4);refine⟨l4,ys++ys3,_,rfl,ak,?_,s2.trans s34⟩;rw [tk,az];exact(dys.mono (Uj s34)).append (d3.mono (Uj (Um hl4)))
  ·rintro σ H2 ⟨m,ys,v4,rfl,hm,dys,s2⟩;rw [pyl,aE (am _),eit] at dys;exact⟨_,rfl,q m ys H2 hm dys (s4.trans s2)⟩
theorem uc(D:Defs K mg t):∀ n:Nat,bw P w K mg base CX0 n t.bW.1 t.bW.2 ["_law_value_here"] (Ea n)
 | 0=>qw fun _ _ _ _ h=>by
  obtain ⟨_,e,_,_,h,_⟩:=h;have:=e.uZ;omega
 | n+1=>Px D (uc D n)
def Jr:LS:=["turn","strip","elders"]
def Lh:LS:=["if","while","repeat"]
theorem QM:∀ x∈ones,¬ x∈Jr/\¬ x = "let" /\ ¬ x = "try" /\ ¬ x = "put" /\ ¬ x∈Lh:=by decide +kernel
theorem Jo:∀ x∈(["drop","become"]:LS),¬ x∈Jr/\¬ x = "let" /\ ¬ x = "try" /\ ¬ x = "put" /\ ¬ x∈Lh:=by decide +kernel
theorem Cz:∀ x∈Lh,¬ x∈Jr/\¬ x = "let" /\ ¬ x = "try" /\ ¬ x = "put" := by decide +kernel
theorem St.Bu(l:Bool){s:St}(h:SOk B s):(∃ x ts,s.t=.tup (.str x::ts)/\x∈Jr/\s.it l=[])\/(∃ x e,s=.let_ x e/\EOk e)\/(∃ a x b,s=.try_ a x b/\B a/\B b)\/(∃ e f v,s=.put e f v/\EOk e/\EOk v)\/
  ∃ x e ts,s.t=.tup (.str x::e.t::ts)/\EOk e/\(¬ x∈Jr/\¬ x = "let" /\ ¬ x = "try" /\ ¬ x = "put")/\((¬ x∈Lh/\s.it l=e.it)\/(x∈Lh/\∃ bs:List (List St),ts=bs.map (fun b=>T.tup (sL b))/\(∀ b∈bs,B b)/\s.it l=e.it++(bs.map (siL l)).flatten)):=by
 cases s with
 | turn a b c d=>exact .inl ⟨_,_,by rw [St.t],by decide +kernel,by rw [St.it]⟩
 | strip a b=>exact .inl ⟨_,_,by rw [St.t],by decide +kernel,by rw [St.it]⟩
 | cT a b=>exact .inl ⟨_,_,by rw [St.t],by decide +kernel,by rw [St.it]⟩
 | let_ x e=>rw [SOk] at h; exact .inr (.inl ⟨x,e,rfl,h⟩)
 | try_ a x b=>rw [SOk] at h; exact .inr (.inr (.inl ⟨a,x,b,rfl,h⟩))
 | put e f v=>rw [SOk] at h; exact .inr (.inr (.inr (.inl ⟨e,f,v,rfl,h⟩)))
 | one x e=>
  rw [SOk] at h;obtain ⟨h1,h2,h3,h4,h5⟩:=QM x h.1;exact .inr (.inr (.inr (.inr ⟨x,e,_,by rw [St.t],h.2,⟨h1,h2,h3,h4⟩,.inl ⟨h5,by rw [St.it]⟩⟩)))
 | drop e f=>
  rw [SOk] at h;obtain ⟨h1,h2,h3,h4,h5⟩:=Jo "drop" ‹3›;exact .inr (.inr (.inr (.inr ⟨_,e,_,by rw [St.t],h,⟨h1,h2,h3,h4⟩,.inl ⟨h5,by rw [St.it]⟩⟩)))
 | become e f=>
  rw [SOk] at h;obtain ⟨h1,h2,h3,h4,h5⟩:=Jo "become" ‹3›;exact .inr (.inr (.inr (.inr ⟨_,e,_,by rw [St.t],h,⟨h1,h2,h3,h4⟩,.inl ⟨h5,by rw [St.it]⟩⟩)))
 | if_ e a b=>
  rw [SOk] at h;refine .inr (.inr (.inr (.inr ⟨_,e,_,by rw [St.t]; rfl,h.1,Cz "if" ‹3›,.inr ⟨by decide +kernel,[a,b],rfl,fun c hc=>?_,by rw [St.it]; show _=e.it++(siL l a++(siL l b++[])); rw [av]⟩⟩)));rcases bc.mp hc with rfl | hc
  ·exact h.2.1
  ·rw [bS.mp hc]; exact h.2.2
 | while_ e a=>
  rw [SOk] at h;exact .inr (.inr (.inr (.inr ⟨_,e,_,by rw [St.t]; rfl,h.1,Cz "while" ‹3›,.inr ⟨by decide +kernel,[a],rfl,fun c hc=>by rw [bS.mp hc]; exact h.2,by rw [St.it]; show _=e.it++(siL l a++[]); rw [av]⟩⟩)))
 | repeat_ e a=>
  rw [SOk] at h;exact .inr (.inr (.inr (.inr ⟨_,e,_,by rw [St.t]; rfl,h.1,Cz "repeat" ‹3›,.inr ⟨by decide +kernel,[a],rfl,fun c hc=>by rw [bS.mp hc]; exact h.2,by rw [St.it]; show _=e.it++(siL l a++[]); rw [av]⟩⟩)))
inductive Ed (B:List St->Prop) (l:Bool) (vs:LV) (H:Hp) (Q:VK) (E_:XK):Prop
 | mk (v:V) (b:List St):vs=[v,.bl l]->Dp H (.tup (sL b)) v->B b->(siL l b).length<=100000->Its H (siL l b) Q->Ed B l vs H Q E_
inductive K6 (B:List St->Prop) (l:Bool) (vs:LV) (H:Hp) (Q:VK) (E_:XK):Prop
 | mk (v:V) (s:St):vs=[v,.bl l]->Dp H s.t v->SOk B s->(s.it l).length<=100000->Its H (s.it l) Q->K6 B l vs H Q E_
theorem in3{x a b c:Str}:inV (V.str x) [V.str a,V.str b,V.str c]=decide (x∈([a,b,c]:LS)):=jP (ns:=[a,b,c])
theorem PB(D:Defs K mg t){l:Bool}{k:Nat}(hk:4<=k)(Gak:bw P w K mg base CX0 k t.bQ.1 t.bQ.2 ["_law_block_here","_law_laid"] (Ed B l)):bw P w K mg base CX0 (k+1) t.cB.1 t.cB.2 ["_law_statement","_law_laid"] (K6 B l):=by
 have hz:sizeLine=16777216:=ci;have Gal:=uc (P:=P) (w:=w) (base:=base) D 4;refine D.cB.fn.ok cF ‹5› ‹2›
 ·obtain ⟨v,s,rfl,_⟩:=h;rfl
 ·obtain ⟨v,s,rfl,dv,ok,hn,q⟩:=h
  refine⟨_,(aA (aK (i:=2) cF.nd rfl (ue rfl) ‹22›)
   (aA (bD (aL uV (pv 2) (bh (aj aM (aj aM (aj aM aq)))) (by with_unfolding_all rfl))
   (aD (aR (bB aq)))
   aX)
   (aA (bD (aL dH (pv 2) aM (aQ _))
   (aA (QG (i:=3) (j:=4) rfl cF.nd rfl rfl (by decide) rfl rfl (aj (aF D.bW Gal ‹1› (by rfl) (aj ‹22› aq)) (aj (bB (aj (bh (aj aM (aj ‹22› aq))) aq)) aq)) rfl)
   (aD (aR (Ig (vL (pv 1) (by intro _; rfl)) (bH iC (pv 3) (pv 4)) (bH iC (pv 4) (pv 3))))))
   aX)
   (aA (bD (aL dH (pv 2) aM (aQ _))
   (aA (aK (i:=5) cF.nd rfl (ue rfl) (aF D.bQ Gak ‹1› (by rfl) (aj ‹22› (aj (pv 1) aq))))
   (aD (aR (bH iC (bH iC (pv 5) (bB (aj (bh (aj aM (aj ‹22› aq))) aq))) (aF D.bQ Gak ‹1› (by rfl) (aj ‹22› (aj (pv 1) aq)))))))
   aX)
   (aA (aK (i:=6) cF.nd rfl (ue rfl) (aF D.bW Gal ‹1› (by rfl) (aj ‹22› aq)))
   (aA (bD (aL dH (pv 2) aM (aQ _))
   (aD (aR (bH iC (pv 6) (aF D.bW Gal ‹1› (by rfl) (aj ‹22› aq)))))
   aX)
   (gw (bD (aL uV (pv 2) (bh (aj aM (aj aM (aj aM aq)))) (by with_unfolding_all rfl))
   (aD (dB dQ rfl (eY (cX iH (pv 0) (cW aC) fW)) (aJ (i:=7) cF.nd rfl (ue rfl))
   (aD (aK (i:=6) cF.nd rfl (ue rfl) (bH iC (pv 6) (aF D.bQ Gak ‹1› (by rfl) (aj (pv 7) (aj (pv 1) aq))))))))
   aX)
   (aD (aR (pv 6)))))))))),?_⟩
  rcases St.Bu l ok with ⟨x,ts,et,hx,e0⟩ | ⟨x,e,rfl,ev⟩ | ⟨a,x,b,rfl,hA,hB⟩ | ⟨e,g,v',rfl,ev,ev'⟩ | ⟨x,e,ts,et,ev,⟨n1,n2,n3,n4⟩,hx⟩
  ·rw [et] at dv;obtain ⟨a,xs0,rfl,ha,dl⟩:=L2.Dp.bG dv;obtain ⟨x1,xs,rfl,d1,dl'⟩:=dl.cases;have e1:=L2.Dp.cQ d1;subst e1;refine⟨_,rfl,a,_,_,_,rfl,rfl,Ui ha,aH (j:=0) rfl,?_⟩;refine⟨_,rfl,by show 3<=sizeLine; decide,fun z hz=>⟨z,_,rfl,.inr (Ui ak),rfl,rfl,_,rfl,cG (in3.trans (bg hx)) ?_⟩⟩;exact⟨bn _,fun m hm=>q m [] _ ak (by rw [e0]; exact .nil) ((Um hz).trans (Um hm))⟩
  ·rw [St.t] at dv;obtain ⟨a,xs0,rfl,ha,dl⟩:=L2.Dp.bG dv;obtain ⟨x1,xs,rfl,d1,dl'⟩:=dl.cases;obtain ⟨x2,xs,rfl,d2,dl'⟩:=dl'.cases;obtain ⟨x3,xs,rfl,d3,dl'⟩:=dl'.cases;have e1:=L2.Dp.cQ d1;have e2:=L2.Dp.cQ d2;subst e1 e2;refine⟨_,rfl,a,_,_,_,rfl,rfl,Ui ha,aH (j:=0) rfl,?_⟩;refine⟨_,rfl,by show 3<=sizeLine; decide,fun z hz=>⟨z,_,rfl,.inr (Ui ak),rfl,rfl,_,rfl,bF (by rw [show (if false=true then !inV (V.str "let") [V.str "turn",V.str "strip",V.str "elders"] else inV (V.str "let") [V.str "turn",V.str "strip",V.str "elders"])=_ from in3]; decide +kernel) ?_⟩⟩;have s1:Same H (upd H z (.tup [.str "turn",.str "strip",.str "elders"])):=Um hz;generalize upd H z (.tup [.str "turn",.str "strip",.str "elders"])=H1 at s1;refine‹9›;have iel:e.it.length<=90000:=by have:=(ev.sz (fun _=>0)).2; omega
   refine⟨_,rfl,a,_,_,_,rfl,rfl,Ui (s1 a _ ha),aH (j:=2) rfl,x3,e,rfl,d3.mono (Uj s1),ev.1,ev.2,by omega,fun l2 ys2 H2 hl2 dys2 s2=>?_⟩;have yl:=dys2.length;rw [aa] at yl;have s02:=s1.trans s2;refine⟨_,rfl,a,_,_,_,rfl,rfl,Ui (s02 a _ ha),aH (j:=1) rfl,by show 2<=sizeLine; decide,fun m hm=>?_⟩;have s3:=Um (o:=.tup [.str "name",.str x]) hm;have g3:(upd H2 m (.tup [.str "name",.str x])) m=some (.tup [.str "name",.str x]):=ak;generalize upd H2 m (.tup [.str "name",.str x])=H3 at s3 g3;refine⟨by show 1<=sizeLine; decide,fun l4 hl4=>?_⟩;have s4:=Um (o:=.lst [.ref m]) hl4;have g4:(upd H3 l4 (.lst [.ref m])) l4=some (.lst [.ref m]):=ak;generalize upd H3 l4 (.lst [.ref m])=H4 at s4 g4;have s24:=s3.trans s4;have s04:=s02.trans s24;have dn:Dp H4 (itT (some x)) (.ref m):=L2.Dp.tup (s4 _ _ g3) (.cons (.str _) ‹13›);rw [St.it] at hn q;cases l with
   | true=>
    rw [dC rfl] at q;refine⟨_,_,rfl,_,rfl,true,rfl,jQ ⟨_,rfl,_,rfl,l2,l4,_,_,rfl,rfl,s24 _ _ hl2,g4,by show ys2.length+1<=sizeLine; omega,fun l5 hl5=>?_⟩⟩;have s5:=Um (o:=.lst (ys2++[.ref m])) hl5;refine q l5 _ _ ak ?_ (s04.trans s5);rw [az];exact(dys2.mono (Uj (s24.trans s5))).append (.cons (dn.mono (Uj s5)) .nil)
   | false=>
    rw [cK bo] at q;refine⟨_,_,rfl,_,rfl,false,rfl,iG ⟨_,rfl,_,rfl,l4,l2,_,_,rfl,rfl,g4,s24 _ _ hl2,by show 1+ys2.length<=sizeLine; omega,fun l5 hl5=>?_⟩⟩;have s5:=Um (o:=.lst ([.ref m]++ys2)) hl5;refine q l5 _ _ ak ?_ (s04.trans s5);exact .cons (dn.mono (Uj s5)) (dys2.mono (Uj (s24.trans s5)))
  ·rw [St.t] at dv;rw [St.it] at hn q;rw [ae,ar] at hn;obtain ⟨a0,xs0,rfl,ha,dl⟩:=L2.Dp.bG dv;obtain ⟨x1,xs,rfl,d1,dl'⟩:=dl.cases;obtain ⟨x2,xs,rfl,d2,dl'⟩:=dl'.cases;obtain ⟨x3,xs,rfl,d3,dl'⟩:=dl'.cases;obtain ⟨x4,xs,rfl,d4,dl'⟩:=dl'.cases;have e1:=L2.Dp.cQ d1;have e3:=L2.Dp.cQ d3;subst e1 e3;refine⟨_,rfl,a0,_,_,_,rfl,rfl,Ui ha,aH (j:=0) rfl,?_⟩;refine⟨_,rfl,by show 3<=sizeLine; decide,fun z hz=>⟨z,_,rfl,.inr (Ui ak),rfl,rfl,_,rfl,bF (by rw [show (if false=true then !inV (V.str "try") [V.str "turn",V.str "strip",V.str "elders"] else inV (V.str "try") [V.str "turn",V.str "strip",V.str "elders"])=_ from in3]; decide +kernel) ?_⟩⟩;have s1:Same H (upd H z (.tup [.str "turn",.str "strip",.str "elders"])):=Um hz;generalize upd H z (.tup [.str "turn",.str "strip",.str "elders"])=H1 at s1;refine‹21›;refine‹9›;refine⟨_,rfl,a0,_,_,_,rfl,rfl,Ui (s1 a0 _ ha),aH (j:=1) rfl,_,rfl,x2,a,rfl,d2.mono (Uj s1),hA,by omega,fun l2 ys2 H2 hl2 dys2 s2=>?_⟩;have yl:=dys2.length;rw [aa] at yl;have s02:=s1.trans s2;refine⟨_,rfl,_,rfl,a0,_,_,_,rfl,rfl,Ui (s02 a0 _ ha),aH (j:=2) rfl,by show 2<=sizeLine; decide,fun m hm=>?_⟩;have s3:=Um (o:=.tup [.str "name",.str x]) hm;have g3:(upd H2 m (.tup [.str "name",.str x])) m=some (.tup [.str "name",.str x]):=ak;generalize upd H2 m (.tup [.str "name",.str x])=H3 at s3 g3;refine⟨by show 1<=sizeLine; decide,fun l4 hl4=>?_⟩;have s4:=Um (o:=.lst [.ref m]) hl4;have g4:(upd H3 l4 (.lst [.ref m])) l4=some (.lst [.ref m]):=ak;generalize upd H3 l4 (.lst [.ref m])=H4 at s4 g4;have s24:=s3.trans s4;have dn:Dp H4 (itT (some x)) (.ref m):=L2.Dp.tup (s4 _ _ g3) (.cons (.str _) ‹13›);refine⟨l2,l4,_,_,rfl,rfl,s24 _ _ hl2,g4,by show ys2.length+1<=sizeLine; omega,fun l5 hl5=>?_⟩;have s5:=Um (o:=.lst (ys2++[.ref m])) hl5;have g5:(upd H4 l5 (.lst (ys2++[.ref m]))) l5=some (.lst (ys2++[.ref m])):=ak;generalize upd H4 l5 (.lst (ys2++[.ref m]))=H5 at s5 g5;have s05:=s02.trans (s24.trans s5);refine⟨_,rfl,a0,_,_,_,rfl,rfl,Ui (s05 a0 _ ha),aH (j:=3) rfl,_,rfl,x4,b,rfl,d4.mono (Uj s05),hB,by omega,fun l6 ys6 H6 hl6 dys6 s6=>?_⟩;have yl6:=dys6.length;rw [aa] at yl6;refine⟨l5,l6,_,_,rfl,rfl,s6 _ _ g5,hl6,by rw [ae]; show ys2.length+1+ys6.length<=sizeLine; omega,fun l7 hl7=>?_⟩;have s7:=Um (o:=.lst (ys2++[.ref m]++ys6)) hl7;have s57:=s6.trans s7;refine q l7 _ _ ak ?_ (s05.trans s57);have d7:=(dys2.mono (Uj (s24.trans (s5.trans s57)))).append (DpL.cons (dn.mono (Uj (s5.trans s57))) (dys6.mono (Uj s7)));rw [show ys2++V.ref m::ys6=ys2++[V.ref m]++ys6 by rw [aI]; rfl] at d7;rw [az];exact d7
  ·rw [St.t] at dv;rw [St.it] at hn q;rw [ae] at hn;obtain ⟨a0,xs0,rfl,ha,dl⟩:=L2.Dp.bG dv;obtain ⟨x1,xs,rfl,d1,dl'⟩:=dl.cases;obtain ⟨x2,xs,rfl,d2,dl'⟩:=dl'.cases;obtain ⟨x3,xs,rfl,d3,dl'⟩:=dl'.cases;obtain ⟨x4,xs,rfl,d4,dl'⟩:=dl'.cases;have e1:=L2.Dp.cQ d1;subst e1;refine⟨_,rfl,a0,_,_,_,rfl,rfl,Ui ha,aH (j:=0) rfl,?_⟩;refine⟨_,rfl,by show 3<=sizeLine; decide,fun z hz=>⟨z,_,rfl,.inr (Ui ak),rfl,rfl,_,rfl,bF (by rw [show (if false=true then !inV (V.str "put") [V.str "turn",V.str "strip",V.str "elders"] else inV (V.str "put") [V.str "turn",V.str "strip",V.str "elders"])=_ from in3]; decide +kernel) ?_⟩⟩;have s1:Same H (upd H z (.tup [.str "turn",.str "strip",.str "elders"])):=Um hz;generalize upd H z (.tup [.str "turn",.str "strip",.str "elders"])=H1 at s1;refine‹21›;refine‹21›;refine⟨_,rfl,a0,_,_,_,rfl,rfl,Ui (s1 a0 _ ha),aH (j:=1) rfl,x2,e,rfl,d2.mono (Uj s1),ev.1,ev.2,by omega,fun l2 ys2 H2 hl2 dys2 s2=>?_⟩;have yl:=dys2.length;rw [aa] at yl;have s02:=s1.trans s2;refine‹9›;refine⟨_,rfl,_,rfl,a0,_,_,_,rfl,rfl,Ui (s02 a0 _ ha),aH (j:=3) rfl,x4,v',rfl,d4.mono (Uj s02),ev'.1,ev'.2,by omega,fun l6 ys6 H6 hl6 dys6 s6=>?_⟩;have yl6:=dys6.length;rw [aa] at yl6;refine⟨l2,l6,_,_,rfl,rfl,s6 _ _ hl2,hl6,by omega,fun l7 hl7=>?_⟩;have s7:=Um (o:=.lst (ys2++ys6)) hl7;refine q l7 _ _ ak ?_ (s02.trans (s6.trans s7));rw [az];exact(dys2.mono (Uj (s6.trans s7))).append (dys6.mono (Uj s7))
  ·rw [et] at dv;obtain ⟨a0,xs0,rfl,ha,dl⟩:=L2.Dp.bG dv;obtain ⟨x1,xs,rfl,d1,dl'⟩:=dl.cases;obtain ⟨x2,xs,rfl,d2,dl'⟩:=dl'.cases;have e1:=L2.Dp.cQ d1;subst e1;refine⟨_,rfl,a0,_,_,_,rfl,rfl,Ui ha,aH (j:=0) rfl,?_⟩;refine⟨_,rfl,by show 3<=sizeLine; decide,fun z hz=>⟨z,_,rfl,.inr (Ui ak),rfl,rfl,_,rfl,bF (by rw [show (if false=true then !inV (V.str x) [V.str "turn",V.str "strip",V.str "elders"] else inV (V.str x) [V.str "turn",V.str "strip",V.str "elders"])=_ from in3,fg]; exact n1) ?_⟩⟩;have s1:Same H (upd H z (.tup [.str "turn",.str "strip",.str "elders"])):=Um hz;generalize upd H z (.tup [.str "turn",.str "strip",.str "elders"])=H1 at s1;refine⟨_,rfl,rfl,_,rfl,bF (ne_str n2) ?_⟩;refine⟨_,rfl,rfl,_,rfl,bF (ne_str n3) ?_⟩;have iel:e.it.length<=90000:=by have:=(ev.sz (fun _=>0)).2; omega
   refine⟨_,rfl,a0,_,_,_,rfl,rfl,Ui (s1 a0 _ ha),aH (j:=1) rfl,x2,e,rfl,d2.mono (Uj s1),ev.1,ev.2,by omega,fun l2 ys2 H2 hl2 dys2 s2=>?_⟩;have yl:=dys2.length;rw [aa] at yl;have s02:=s1.trans s2;refine⟨_,rfl,rfl,_,rfl,bF (ne_str n4) ?_⟩;refine⟨fun σ H3=>∃(m:Addr) (ys:LV) (v3 v4 v5 v7:OV),σ=[some (.ref a0),some (.bl l),some (.str x),v3,v4,v5,some (.ref m),v7]/\H3 m=some (.lst ys)/\DpL H3 ((s.it l).map itT) ys/\Same H H3,?_,?_⟩
   ·refine⟨_,rfl,by show 3<=sizeLine; decide,fun z3 hz3=>⟨z3,_,rfl,.inr (Ui ak),rfl,rfl,_,rfl,?_⟩⟩;have s3:=Um (o:=.tup [.str "if",.str "while",.str "repeat"]) hz3;generalize upd H2 z3 (.tup [.str "if",.str "while",.str "repeat"])=H3 at s3;have s03:=s02.trans s3;rcases hx with ⟨nx,eit⟩ | ⟨nx,bs,rfl,hbs,eit⟩
    ·refine bF (by rw [show (if false=true then !inV (V.str x) [V.str "if",V.str "while",V.str "repeat"] else inV (V.str x) [V.str "if",V.str "while",V.str "repeat"])=_ from in3,fg]; exact nx) ?_;exact⟨l2,ys2,_,_,_,_,rfl,s3 _ _ hl2,by rw [eit]; exact dys2.mono (Uj s3),s03⟩
    ·refine cG (in3.trans (bg nx)) ?_;refine⟨_,rfl,_,rfl,a0,_,rfl,s03 a0 _ ha,fun b4 H4 hb4 s4=>?_⟩
     have hb4:H4 b4=some (.tup xs):=by
      have e:=xJ (.str x::x2::xs) 2 (by show 2<=xs.length+1+1; omega);rw [show ((2:Nat):Int)=2 from rfl] at e;rw [e] at hb4;exact hb4
     have s04:=s03.trans s4;have xl:xs.length=bs.length:=by rw [dl'.length,aa]
     have bl:∀ j (h:j < bs.length),(((bs.take j).map (siL l)).flatten).length+(siL l bs[j]).length<=100000:=fun j h=>by
      have hj:j < (bs.map (siL l)).length:=by rw [aa]; exact h
      have:=lg hj;rw [<- gy,iE] at this;rw [eit,ae] at hn;omega
     refine⟨b4,rfl,⟨_,Ui hb4⟩,kj (K:=N0) (a:=b4) (xs:=xs) (fun i σ H5=>∃(m:Addr) (ys:LV) (v3 v4 v5 v7:OV),σ=[some (.ref a0),some (.bl l),some (.str x),v3,v4,v5,some (.ref m),v7]/\H5 m=some (.lst ys)/\DpL H5 ((e.it++((bs.take i).map (siL l)).flatten).map itT) ys/\Same H4 H5)
      ⟨l2,ys2,_,_,_,_,rfl,(s3.trans s4) _ _ hl2,by rw [show ((bs.take 0).map (siL l)).flatten=[] from rfl,av]; exact dys2.mono (Uj (s3.trans s4)),Same.refl _⟩ (fun i σ H5 _ ⟨_,_,_,_,_,_,_,_,_,s⟩=>Ui (s b4 _ hb4)) ?_ ?_⟩
     ·rintro i y σ H5 hy ⟨m,ys,v3,v4,v5,v7,rfl,hm,dys,s5⟩
      have hit:i < bs.length:=by
       have:=(aT.mp hy).1;omega
      obtain ⟨y',ey,dy⟩:=dl'.get (t:=.tup (sL bs[i])) (i:=i) (by rw [bj,af hit]; rfl);rw [hy] at ey;cases ey;have bli:=bl i hit;have hil:i < (bs.map (siL l)).length:=by rw [aa]; exact hit
      have tk:=jH hil;rw [<- gy,<- gy,iE] at tk;have yl5:=dys.length;rw [aa,ae] at yl5;have s05:=s04.trans s5;refine⟨_,rfl,_,rfl,_,rfl,y,bs[i],rfl,dy.mono (Uj s05),hbs _ (dm hit),by omega,fun l6 ys6 H6 hl6 d6 s6=>?_⟩;have yl6:=d6.length;rw [aa] at yl6;refine⟨m,l6,_,_,rfl,rfl,s6 m _ hm,hl6,by omega,fun l7 hl7=>?_⟩;have s67:=s6.trans (Um (o:=.lst (ys++ys6)) hl7);refine⟨l7,ys++ys6,_,_,_,_,rfl,ak,?_,s5.trans s67⟩;rw [tk,<- aI,az];exact(dys.mono (Uj s67)).append (d6.mono (Uj (Um hl7)))
     ·rintro σ H5 ⟨m,ys,v3,v4,v5,v7,rfl,hm,dys,s5⟩;rw [xl,aE (am _),<- eit] at dys;exact⟨m,ys,_,_,_,_,rfl,hm,dys,s04.trans s5⟩
   ·rintro _ H3 ⟨m,ys,v3,v4,v5,v7,rfl,hm,dys,s3⟩;exact⟨_,rfl,q m ys H3 hm dys s3⟩
theorem uG(l:Bool):∀ b:List St,siL l b=(b.map (St.it l)).flatten
 | []=>by rw [siL]; rfl
 | s::b=>by rw [siL,uG l b]; rfl
theorem PX(D:Defs K mg t){l:Bool}{k:Nat}(Gbo:bw P w K mg base CX0 k t.cB.1 t.cB.2 ["_law_statement","_law_laid"] (K6 B l)):bw P w K mg base CX0 (k+1) t.bQ.1 t.bQ.2 ["_law_block_here","_law_laid"] (Ed (fun b=>b.length<=15/\∀ s∈b,SOk B s) l):=by
 have hz:sizeLine=16777216:=ci;refine D.bQ.fn.ok iu ‹5› ‹2›
 ·obtain ⟨v,b,rfl,_⟩:=h;rfl
 ·obtain ⟨v,b,rfl,dv,⟨_,hB⟩,hn,q⟩:=h;rw [nW] at dv;rw [uG] at hn q;obtain ⟨a,ys0,rfl,ha,dl⟩:=L2.Dp.bG dv;have yl0:ys0.length=b.length:=by rw [dl.length,aa]
  refine⟨_,(aA (aK (i:=2) iu.nd rfl (ue rfl) (bB aq))
   (aA (dB dQ rfl (eY (pv 0)) (aJ (i:=3) iu.nd rfl (ue rfl))
   (aD (aK (i:=2) iu.nd rfl (ue rfl) (bH iC (pv 2) (aF D.cB Gbo ‹1› (by rfl) (aj (pv 3) (aj (pv 1) aq)))))))
   (aD (aR (pv 2))))),?_⟩
  refine⟨bn _,fun l1 hl1=>?_⟩;exists 1,s1,g1,H,l1,(.lst []),hl1,H1
  refine⟨_,rfl,a,rfl,⟨_,Ui (s1 _ _ ha)⟩,kj (K:=N0) (a:=a) (xs:=ys0) (fun i σ H5=>∃(m:Addr) (ys:LV) (v3:OV),σ=[some (.ref a),some (.bl l),some (.ref m),v3]/\H5 m=some (.lst ys)/\DpL H5 ((((b.take i).map (St.it l)).flatten).map itT) ys/\Same H H5)
   ⟨l1,[],_,rfl,g1,.nil,s1⟩ (fun i σ H5 _ ⟨_,_,_,_,_,_,s⟩=>Ui (s a _ ha)) ?_ ?_⟩
  ·rintro i y σ H5 hy ⟨m,ys,v3,rfl,hm,dys,s5⟩
   have hit:i < b.length:=by
    have:=(aT.mp hy).1;omega
   obtain ⟨y',ey,dy⟩:=dl.get (t:=b[i].t) (i:=i) (by rw [bj,af hit]; rfl);rw [hy] at ey;cases ey;have hil:i < (b.map (St.it l)).length:=by rw [aa]; exact hit
   have tk:=jH hil;have fs1:=lg hil;rw [<- gy,<- gy,iE] at tk;rw [<- gy,iE] at fs1;have yl5:=dys.length;rw [aa] at yl5;refine⟨_,rfl,_,rfl,_,rfl,y,b[i],rfl,dy.mono (Uj s5),hB _ (dm hit),by omega,fun l6 ys6 H6 hl6 d6 s6=>?_⟩;have yl6:=d6.length;rw [aa] at yl6;refine⟨m,l6,_,_,rfl,rfl,s6 m _ hm,hl6,by omega,fun l7 hl7=>?_⟩;have s67:=s6.trans (Um (o:=.lst (ys++ys6)) hl7);refine⟨l7,ys++ys6,_,rfl,ak,?_,s5.trans s67⟩;rw [tk,az];exact(dys.mono (Uj s67)).append (d6.mono (Uj (Um hl7)))
  ·rintro σ H5 ⟨m,ys,v3,rfl,hm,dys,s5⟩;rw [yl0,aE (am _)] at dys;exact⟨_,rfl,q m ys H5 hm dys s5⟩
theorem pH(D:Defs K mg t)(l:Bool):∀ m:Nat,bw P w K mg base CX0 (2 * m+4) t.bQ.1 t.bQ.2 ["_law_block_here","_law_laid"] (Ed (BOk m) l)
 | 0=>(qw fun _ _ _ _ h=>by obtain ⟨_,_,_,_,h,_⟩:=h; exact h).mono (bn _)
 | m+1=>PX D (PB D ‹23› (pH D l m))
def itK:Option Str->List Key
 | none=>[.inr "me"]
 | some x=>[.inr "name",.inr x]
theorem Kd{o:Option Str}(h:Dp H (itT o) v):∃ a,v=.ref a/\H a=some (.tup ((itK o).map kV)):=by
 cases o with
 | none=>
  obtain ⟨a,xs,rfl,ha,dl⟩:=L2.Dp.bG h;obtain ⟨x,ys,rfl,d,dl'⟩:=dl.cases;have e:=L2.Dp.cQ d;subst e;cases ys with
  | cons _ _=>cases dl'
  | nil=>exact⟨a,rfl,ha⟩
 | some x=>
  obtain ⟨a,xs,rfl,ha,dl⟩:=L2.Dp.bG h;obtain ⟨x1,ys,rfl,d,dl'⟩:=dl.cases;obtain ⟨x2,zs,rfl,d2,dl2⟩:=dl'.cases;have e:=L2.Dp.cQ d;have e2:=L2.Dp.cQ d2;have e3:=dl2.kZ;subst e e2 e3;exact⟨a,rfl,ha⟩
def pJ(kvs:LK0):List (List Key × V):=([.inr "me"],.int 0)::kvs.map fun p=>([.inr "name",p.1],p.2)
theorem KQ(kvs:LK0):(pJ kvs).length=1+kvs.length:=by unfold pJ; rw [ar,aa,Nat.add_comm]
theorem Lp(kvs:LK0):cZ (pJ kvs) (itK none)=some (.int 0):=by unfold pJ; exact dF rfl
theorem xu(x:Str)(kvs:LK0):cZ (pJ kvs) (itK (some x))=cZ kvs (.inr x):=by
 unfold pJ;rw [bZ (p:=(([.inr "me"]:List Key),V.int 0)) (by intro z; injection z with _ z; cases z)]
 induction kvs with
 | nil=>rfl
 | cons p r ih=>
  rw [eB]
  by_cases e:p.1=.inr x
  ·rw [dF (p:=(([.inr "name",p.1]:List Key),p.2)) (by rw [e]; rfl),dF e]
  ·rw [bZ (p:=(([.inr "name",p.1]:List Key),p.2)) (by intro z; injection z with _ z; injection z with z; exact e z),bZ e];exact ih
theorem Eu(os:List (Option Str))(o:Option Str):(os++[o]).filterMap id=os.filterMap id++o.toList:=by
 rw [bJ];cases o <;> rfl
def iI(os:List (Option Str)):List (List Key × V):=pJ (j6 0 (firsts (os.filterMap id)))
theorem xG{os:List (Option Str)}{o:Option Str}(h:o=none\/o∈os):cZ (iI os) (itK o)=some (.int (Av (fN (os.filterMap id)) o)):=by
 unfold iI;cases o with
 | none=>exact Lp _
 | some x=>
  rw [xu];exact Ep (kg.mpr ⟨some x,h.resolve_left ‹8›,rfl⟩)
theorem uT{os:List (Option Str)}{o:Option Str}:(cZ (iI os) (itK o)).isSome=true↔o=none\/o∈os:=by
 constructor
 ·cases o with
  | none=>exact fun _=>.inl rfl
  | some x=>
   intro h;unfold iI at h;rw [xu] at h
   by_cases hx:x∈firsts (os.filterMap id)
   ·obtain ⟨o,ho,e⟩:=kg.mp (nq.mp hx);cases e;exact .inr ho
   ·rw [ou 0 _ hx] at h;cases h
 ·intro h;rw [xG h];rfl
theorem G9{os:List (Option Str)}{o:Option Str}(h:o=none\/o∈os):iI (os++[o])=iI os:=by
 unfold iI;rw [Eu];cases o with
 | none=>rw [show (none:Option Str).toList=[] from rfl,av]
 | some x=>
  rw [show (some x).toList=[x] from rfl,pI];unfold qN;rw [dC (nq.mpr (kg.mpr ⟨some x,h.resolve_left ‹8›,rfl⟩))]
theorem tX(os:List (Option Str)):(iI os).length=1+(firsts (os.filterMap id)).length:=by unfold iI; rw [KQ,mG]
theorem Hr{os:List (Option Str)}{o:Option Str}(h:¬ (o=none\/o∈os)):putK (iI os) (itK o) (.int (iI os).length)=iI (os++[o]):=by
 have hn:cZ (iI os) (itK o)=none:=by
  cases e:cZ (iI os) (itK o) with
  | none=>rfl
  | some v=>exact absurd (uT.mp (by rw [e]; rfl)) h
 rw [rE _ hn];cases o with
 | none=>exact absurd (.inl rfl) h
 | some x=>
  have hx:¬ x∈firsts (os.filterMap id):=fun z=>by
   obtain ⟨o,ho,e⟩:=kg.mp (nq.mp z);cases e;exact h (.inr ho)
  rw [tX];unfold iI;rw [Eu,show (some x).toList=[x] from rfl,pI];unfold qN;rw [cK hx,qY];unfold pJ;rw [az,cE,qi];rfl
theorem St.xY(x:Str)(hB:∀ b,B b->(some x∈siL true b->some x∈siL false b)){s:St}(h:SOk B s):some x∈s.it true->some x∈s.it false:=by
 cases s with
 | let_ y e=>
  rw [St.it,St.it,dC rfl,cK bo,dP,bS,bc];exact fun h=>h.symm
 | if_ e a b=>
  rw [SOk] at h;rw [St.it,St.it,dP,dP,dP,dP];exact fun z=>z.imp id fun z=>z.imp (hB a h.2.1) (hB b h.2.2)
 | while_ e a=>
  rw [SOk] at h;rw [St.it,St.it,dP,dP];exact fun z=>z.imp id (hB a h.2)
 | repeat_ e a=>
  rw [SOk] at h;rw [St.it,St.it,dP,dP];exact fun z=>z.imp id (hB a h.2)
 | try_ a y b=>
  rw [SOk] at h;rw [St.it,St.it,dP,dP,bc,bc];exact fun z=>z.imp (hB a h.1) fun z=>z.imp id (hB b h.2)
 | _=>simp only [St.it]; exact id
theorem BOk.xY(x:Str):∀(m:Nat) (b:List St),BOk m b->some x∈siL true b->some x∈siL false b
 | 0,_,h=>by rw [BOk] at h; exact h.elim
 | m+1,b,h=>by
  rw [BOk] at h;rw [uG,uG];intro hx;obtain ⟨os,ho,hx⟩:=lS.mp hx;obtain ⟨s,hs,rfl⟩:=eA.mp ho;exact lS.mpr ⟨_,eA.mpr ⟨s,hs,rfl⟩,St.xY x (BOk.xY x m) (h.2 s hs) hx⟩
end
end K37
end
section
namespace L2
open PySem PySem.Spec PyProof.Rows PySem.W
section
variable {X:Cx}
inductive rR (xs:LV) (H:Hp) (Q:VK):Prop
 | mk (a kvs:_):xs=[V.ref a]->H a=some (.dT kvs)->Q (.int kvs.length) H->rR xs H Q
theorem vH:iz X (.builtin "len") rR:=by
 intro pins s σ H xs us Q I r h;obtain ⟨a,kvs,rfl,ha,q⟩:=h;obtain ⟨u,rfl,ru⟩:=vals1 r;cases ru;have hz:=ci;obtain ⟨hl,hd,xs,rel,o,es,ep,h1,h2,h3,h4,_⟩:=(show dJ X.prog X.w H s.heap a (.dT kvs) from I.hok a _ ha)
 have hes:es.size=kvs.length:=by
  rw [<- iF,h4,aa];exact(eM rel).symm
 have hT:s.TypeIs (.ref a) "dict" := ⟨o,h1,h2.1⟩;refine call_len_meets (n:=(kvs.length:Int)) (S:=fun A R s'=>s'=s/\R (.ok (.ret (.int kvs.length s.toks))) { s with toks:=s.toks+1 }) hT F.slot_dict_len F.entry_dict_len (F.args_dict_len_1 _) (fun prog w A R s' hS=>?_) ‹23› ‹23› (fun Q' hq=>⟨rfl,hq⟩) ⟨.int kvs.length,H,I.tok _,⟨_,rfl⟩,q⟩;obtain ⟨rfl,hR⟩:=hS;unfold uA.«dict.__len__»;refine ac ?_;show ut _ _ (uA.Dict.notOrdered "__len__" _ >>= _) _ _ _;refine ac (wpAny_notOrdered_dict hT ?_);refine ac (ay (ay ?_));refine ac (m:=uA.Dict.addrOf _) (ay ?_);refine ac (m:=dictSize _) (ac (wpAny_dictEntries h1 h3 (ay ?_)));refine ac (m:=uA.Dict.pendingCount _) ?_;unfold uA.Dict.pendingCount;rw [hd];refine ay ?_;refine ac (wpAny_mkInt (ay ?_));rw [hes];simpa using hR
end
end L2
end
section
namespace K37
open PySem PyProof.Rows L2
variable {H H':Hp}{a c p:Addr}{K:PySem.W.Frag}{xs:LV}{hi lo:Option Int}{w:xf}{ad:Str->Addr}{tb:List (Str × LS)}{P:uv}
theorem Jj(ps:LS):(ps.map some).filterMap id=ps:=by
 induction ps with
 | nil=>rfl
 | cons p ps ih=>rw [eB,eF,ih]
def lV(ps:LS)(b:List St):List (Option Str):=none::(ps.map some++siL false b)
theorem zu(ps:LS)(b:List St):(lV ps b).filterMap id=ps++nmB b:=by
 unfold lV nmB;rw [cU,bJ,Jj]
theorem Ae:∀(xs ds:LS),(xs.foldl qN ds).length<=ds.length+xs.length
 | [],ds=>am _
 | x::xs,ds=>by
  have h1:=Ae xs (qN ds x);have h2:=zT ds x;rw [List.foldl_cons,ar];omega
def jq(os:List (Option Str)):List (List Key × V):=if os=[] then [] else iI os
theorem Dm{os:List (Option Str)}(h:os=[]\/none∈os)(o:Option Str)(h0:os=[]->o=none):jq (os++[o])=if (cZ (jq os) (itK o)).isSome=true then jq os else putK (jq os) (itK o) (.int (jq os).length):=by
 by_cases e:os=[]
 ·subst e;rw [h0 rfl];rfl
 ·have hn:none∈os:=h.resolve_left e;have e1:jq os=iI os:=by unfold jq; rw [cK e]
  have e2:jq (os++[o])=iI (os++[o]):=by unfold jq; rw [cK (by simp)]
  rw [e1,e2]
  by_cases hi:o=none\/o∈os
  ·rw [dC (uT.mpr hi),G9 hi]
  ·rw [cK (fun z=>hi (uT.mp z)),Hr hi]
theorem Gw(os:List (Option Str)):(jq os).length<=1+os.length:=by
 unfold jq;split
 ·exact bn _
 ·rw [tX];have h1:(firsts (os.filterMap id)).length<=0+(os.filterMap id).length:=Ae _ [];have h2:(os.filterMap id).length<=os.length:=List.length_filterMap_le _ _;omega
theorem Hg(zs:List Int):(zs.map V.int).all kO=true:=by
 rw [List.all_map];exact fE.mpr fun _ _=>rfl
theorem Di(z:Int):¬ (!decide (V.int z=V.int z))=true:=by rw [bg rfl]; decide
section
variable {P:uv}{w:xf}{K:PySem.W.Frag}{mg:MG}{base:Heap}{t:Adr}
inductive Fx (vs:LV) (H:Hp) (Q:VK) (E_:XK):Prop
 | mk (bv vb:V) (pa:Addr) (ps:LS) (b:List St):vs=[bv,.ref pa,vb]->yH H bv ps b->H pa=some (.tup (ps.map V.str))->Dp H (.tup (sL b)) vb->wC ps b->(∀ H',Same H H'->Q (.bl true) H')->Fx vs H Q E_
theorem Im(D:Defs K mg t):bw P w K mg base CX0 11 t.dz.1 t.dz.2 ["_law_body","_law_params","_law_block_here"] Fx:=by
 have hz:sizeLine=16777216:=ci;have Gak:=Dr (pH (P:=P) (w:=w) (base:=base) D false 3) (pH (P:=P) (w:=w) (base:=base) D true 3);refine D.dz.fn.ok fV ‹5› ‹2›
 ·obtain ⟨bv,vb,pa,ps,b,rfl,_⟩:=h;rfl
 ·obtain ⟨bv,vb,pa,ps,b,rfl,⟨d,ra,rys,u,rfl,hd,hra,hrw⟩,hpa,db,ok,q⟩:=h;have hpl:=ok.pl;have hil:=ok.il
  refine⟨_,(aA (bD (Ug (ug (sS (lA (aW jk (by rfl) D.gY gC (aj (pv 0) (aj (pR (v:=V.ty "tuple") rfl D.cJ bR rfl) aq))))) (pB (aL vV (aW bC (by rfl) D.dg bY (aj (pv 0) aq)) aC (aQ _)))))
   (aD (aR qm))
   aX)
   (aA (aK (i:=3) fV.nd rfl (My rfl) K5)
   (aA (dB dQ rfl (fM (bH iC (bH iC (bB (aj (bh (aj aM aq)) aq)) (fu rfl (Uo ["_law_name"] [] ["_law_name"] (aG (top 56)) ["_law_body","_law_params","_law_block_here","_law_numbers","_law_one","_law_due"] rfl rfl ‹3›) ⟨fun _ _ _ _ _=>(aJ (i:=0) (show List.Nodup [("_law_name" : Str)] by decide +kernel) rfl (ue (aw rfl)) ‹15›),fun _ _ _ _ _=>iU,fun _ _ _ _ _=>(bh (aj aM (aj (pv 0) aq)))⟩ (eY (pv 1)))) (aF D.bQ Gak ‹1› (by rfl) (aj (pv 2) (aj qm aq))))) (aJ (i:=4) fV.nd rfl (ue rfl))
   (aD (bD (vq (pU (gD hr) (pv 4) (pv 3)))
   (aD (nU (gD hr) (pv 3) (pv 4) (aW vH (by rfl) D.dg bY (aj (pv 3) aq)) rfl))
   aX)))
   (aA (bD (Ug (ug (aL vV ‹22› (aW bC (by rfl) D.dg bY (aj (pv 1) aq)) (aQ _)) (pB (aL vV ‹22› (aW vH (by rfl) D.dg bY (aj (pv 3) aq)) (aQ _)))))
   (aD (aR qm))
   aX)
   (aA (rW (i:=5) rfl fV.nd rfl (ue rfl) (Uo ["_law_one"] [3] ["_law_one","_law_numbers"] (aG (top 56)) ["_law_body","_law_params","_law_block_here","_law_numbers","_law_one","_law_due"] rfl rfl ‹3›) ⟨fun _ _ _ _ _=>(aJ (i:=0) (show List.Nodup [("_law_one" : Str),("_law_numbers" : Str)] by decide +kernel) rfl (ue (aw rfl)) ‹15›),fun _ _ _ _ _=>iU,fun _ _ _ _ _=>(iR (gD hr) (pv 1) (pv 0) ‹4›)⟩ (fM (aF D.bQ Gak ‹1› (by rfl) (aj (pv 2) (aj qm aq)))))
   (aD (aR (su (BP hr.yg) (fu rfl (Uo ["_law_row"] [] ["_law_row"] (aG (top 56)) ["_law_body","_law_params","_law_block_here","_law_numbers","_law_one","_law_due"] rfl rfl ‹3›) ⟨fun _ _ _ _ _=>(aJ (i:=0) (show List.Nodup [("_law_row" : Str)] by decide +kernel) rfl (ue (aw rfl)) ‹15›),fun _ _ _ _ _=>(jL (aL uV ‹22› (bh (aj aM (aj aM aq))) (by with_unfolding_all rfl))),fun _ _ _ _ _=>‹22›⟩ (eY ‹22›)) (pv 5) (aQ _))))))))),?_⟩
  refine⟨_,rfl,_,_,_,true,rfl,.tup hd,lM N0 "tuple",_,rfl,iG ?_⟩;refine⟨_,rfl,d,_,rfl,.inr (Ui hd),rfl,_,rfl,bF (by show ¬ (!decide (V.int ((4:Nat):Int)=V.int 4))=true; decide) ?_⟩;intro nd hnd;have s1:Same H (upd H nd (.dT [])):=Um hnd;have g1:(upd H nd (.dT [])) nd=some (.dT (jq [])):=ak;generalize upd H nd (.dT [])=H1 at s1 g1;refine⟨by show 1<=sizeLine; decide,fun m2 hm2=>?_⟩;have s2:=Um (o:=.tup [.str "me"]) hm2;have g2:(upd H1 m2 (.tup [.str "me"])) m2=some (.tup [.str "me"]):=ak;generalize upd H1 m2 (.tup [.str "me"])=H2 at s2 g2;refine⟨by show 1<=sizeLine; decide,fun l3 hl3=>?_⟩;have s3:=Um (o:=.lst [.ref m2]) hl3;have g3:(upd H2 l3 (.lst [.ref m2])) l3=some (.lst [.ref m2]):=ak;generalize upd H2 l3 (.lst [.ref m2])=H3 at s3 g3;have s13:=s2.trans s3;have s03:=s1.trans s13;refine⟨_,rfl,pa,rfl,⟨_,Ui (s03 _ _ hpa)⟩,fun D1 hD1=>?_⟩;refine dD (n:=(ps.map V.str).length) (fun i ys H4=>DpL H4 (((ps.take i).map some).map itT) ys/\H4 D1=some (.lst ys)/\Same H3 H4) ⟨.nil,ak,Um hD1⟩ ?_ ?_;rotate_left
  ·rintro i ys H4 hi ⟨dys,hD4,s4⟩;rw [aa] at hi;have s04:=s03.trans s4;have ex:(ps.map V.str)[i]?=some (.str ps[i]):=by rw [bj,af hi]; rfl
   refine⟨⟨_,_,Ui (s04 _ _ hpa),ex⟩,?_⟩;rintro v H5 ⟨rfl,yy⟩ σo ho;obtain ⟨oo,rfl⟩:=own1 ho;have ev:=yy _ (Ui (s04 _ _ hpa));rw [ex] at ev;cases ev;have yl:=dys.length;rw [aa,aa,cf] at yl;refine⟨‹16›,jT ⟨_,rfl,by show 2<=sizeLine; decide,fun z hz=>?_⟩⟩;have pD:D1≠z:=aB hD4 hz
   have tu:fB H5 (upd (upd H5 z (.tup [.str "name",.str ps[i]])) D1 (.lst (ys++[.ref z]))):=fun c zs e=>by
    rw [au (bI e hD4 (fun y=>nomatch y)),au (aB e hz)];exact e
   refine⟨by omega,by rw [au pD]; exact hD4,bV (by rw [aa]; exact hi) ⟨?_,ak,fun c o e=>?_⟩⟩
   ·rw [take_snoc hi,az,az];refine(dys.mono tu).append (.cons (L2.Dp.tup (?_:(upd (upd H5 z (.tup [.str "name",.str ps[i]])) D1 (.lst (ys++[.ref z]))) z=some (.tup [.str "name",.str ps[i]])) (.cons (.str _) ‹13›)) .nil);rw [au pD.symm,ak]
   ·rw [au (aB e hD1),au (aB (s4 c _ e) hz)];exact s4 c _ e
  rintro ys4 H4 ⟨dys4,hD4,s4⟩;rw [aa,aE (am _)] at dys4;have yl4:=dys4.length;rw [aa,aa] at yl4;refine⟨⟨_,Ui ((s03.trans s4) _ _ hpa),am _⟩,?_⟩;refine⟨l3,D1,_,_,rfl,rfl,s4 _ _ g3,hD4,by show 1+ys4.length<=sizeLine; omega,fun l5 hl5=>?_⟩;have s5:=Um (o:=.lst ([.ref m2]++ys4)) hl5;have g5:(upd H4 l5 (.lst ([.ref m2]++ys4))) l5=some (.lst (.ref m2::ys4)):=ak;generalize upd H4 l5 (.lst ([.ref m2]++ys4))=H5 at s5 g5;have s45:=s4.trans s5;have s05:=s03.trans s45;refine⟨_,rfl,.inl ⟨vb,b,rfl,db.mono (Uj s05),ok.ok,hil false,fun l6 ys6 H6 hl6 dys6 s6=>?_⟩⟩;have yl6:=dys6.length;rw [aa] at yl6;have h6:=hil false;refine⟨l5,l6,_,_,rfl,rfl,s6 _ _ g5,hl6,by rw [ar]; omega,fun l7 hl7=>?_⟩;have s7:=Um (o:=.lst (.ref m2::ys4++ys6)) hl7;have g7:(upd H6 l7 (.lst (.ref m2::ys4++ys6))) l7=some (.lst (.ref m2::(ys4++ys6))):=ak;generalize upd H6 l7 (.lst (.ref m2::ys4++ys6))=H7 at s7 g7;have s67:=s6.trans s7;have s57:=s5.trans s67;have s37:=s4.trans s57;have s17:=s13.trans s37;have s07:=s1.trans s17
  have dA:DpL H7 ((lV ps b).map itT) (.ref m2::(ys4++ys6)):=by
   unfold lV;rw [eB,az];exact .cons (L2.Dp.tup (s37 _ _ (s3 _ _ g2)) ‹13›) ((dys4.mono (Uj s57)).append (dys6.mono (Uj s7)))
  have nd7:=s17 _ _ g1;have hd7:=s07 _ _ hd;have hpa7:=s07 _ _ hpa;have hra7:=s07 _ _ hra;have hrw7:=hrw.mono (Uj s07);have db7:=db.mono (Uj s07);have l7nd:l7≠nd:=bI g7 nd7 ‹8›;have ndH:∀ b' o,H b'=some o->b'≠nd:=fun b' o e=>aB e hnd;have q7:∀ H',L2.Off nd H7 H'->Q (.bl true) H':=fun H' o=>q H' fun b' o' e=>o b' o' (ndH b' o' e) (s07 b' o' e);have zl:=dA.length;have il:(lV ps b).length<=100101:=by unfold lV; rw [ar,ae,aa]; omega
  have it0:∀ o,(lV ps b)[0]?=some o->o=none:=fun o e=>by unfold lV at e; cases e; rfl
  have i0n:∀ i,(lV ps b).take i=[]\/none∈(lV ps b).take i:=fun i=>by
   cases i with
   | zero=>exact .inl rfl
   | succ i=>exact .inr (bE ..)
  have itn:=zu ps b
  have itm:∀ o∈siL true b,o=none\/o∈lV ps b:=fun o ho=>by
   cases o with
   | none=>exact .inl rfl
   | some x=>exact .inr (cz _ (bX _ (BOk.xY x 3 b ok.ok ho)))
  have itne:lV ps b≠[]:=by unfold lV; exact kP _ _
  generalize V.ref m2::(ys4++ys6)=zs at g7 dA zl;rw [aa] at zl;clear s1 s2 s3 s4 s5 s6 s7 s13 s03 s45 s05 s67 s57 s37 s17 g1 g2 g3 g5 dys4 dys6 hD4 hl6 hm2 hl3 hD1 hl5 hl7 hd hpa hra hrw db;generalize lV ps b=its at dA zl il it0 i0n itn itm itne
  refine⟨l7,rfl,⟨_,Uh g7⟩,lC (K:=N0) (a:=l7) (xs:=zs) (fun i σ H8=>∃ v4:OV,σ=[some (.ref d),some (.ref pa),some vb,some (.ref nd),v4,none]/\H8 nd=some (.dT (jq (its.take i)))/\L2.Off nd H7 H8)
   ⟨_,rfl,nd7,L2.Off.refl _ _⟩ (fun i σ H8 _ ⟨_,_,_,o⟩=>Uh (o l7 _ l7nd g7)) ?_ ?_⟩
  ·rintro i y σ H8 hy ⟨v4,rfl,nd8,o8⟩
   have hit:i < its.length:=by
    have:=(aT.mp hy).1;omega
   obtain ⟨y',ey,dy⟩:=dA.get (t:=itT its[i]) (i:=i) (by rw [bj,af hit]; rfl);rw [hy] at ey;cases ey;obtain ⟨ya,rfl,hya⟩:=Kd dy;have hya8:=o8 ya _ (bI hya nd7 ‹8›) hya
   have st:=Dm (i0n i) its[i] (fun e=>it0 _ (by
    have:i=0:=by
     have:=congrArg List.length e;rw [cf] at this;show i=0;have h0:([]:List (Option Str)).length=0:=rfl;omega
    subst this;exact af hit))
   rw [<- take_snoc hit] at st;have nl:=Gw (its.take i);rw [cf] at nl;refine⟨_,rfl,_,rfl,nd,_,rfl,lR.t nd8 hya8,_,rfl,fO (fun hc=>?_) (fun hc=>?_)⟩
   ·have hc:(!(cZ (jq (its.take i)) (itK its[i])).isSome)=true:=hc;rw [cK (by intro z; rw [z] at hc; cases hc)] at st;refine⟨_,rfl,nd,_,rfl,nd8,_,rfl,_,rfl,nd,_,rfl,.inr ⟨_,itK its[i],ya,nd8,rfl,hya8,by omega,rfl⟩,_,rfl,by rw [ak,st],fun b' o' nb e=>by rw [au nb]; exact o8 b' o' nb e⟩
   ·have hc:¬ (!(cZ (jq (its.take i)) (itK its[i])).isSome)=true:=hc
    rw [dC (by
     cases e:(cZ (jq (its.take i)) (itK its[i])).isSome with
     | true=>rfl
     | false=>rw [e] at hc; exact absurd rfl hc)] at st
    exact⟨_,rfl,by rw [st]; exact nd8,o8⟩
  rintro σ H8 ⟨v4,rfl,nd8,o8⟩;rw [zl,aE (am _),show jq its=iI its by unfold jq; rw [cK itne]] at nd8;have hd8:=o8 d _ (bI hd7 nd7 ‹8›) hd7;have hpa8:=o8 pa _ (bI hpa7 nd7 ‹8›) hpa7;have t78:fB H7 H8:=fun c zs e=>o8 c _ (bI e nd7 fun z=>nomatch z) e;have hra8:=t78 _ _ hra7;have hrw8:=hrw7.mono t78;have db8:=db7.mono t78;have q8:∀ H',Same H8 H'->Q (.bl true) H':=fun H' s=>q7 H' fun b' o' nb e=>s b' o' (o8 b' o' nb e);have hn2:((iI its).length:Int)=1+((firsts (ps++nmB b)).length:Int):=by rw [tX,itn]; omega
  have hget:∀ o∈siL true b,cZ (iI its) (itK o)=some (.int (Av (fN (ps++nmB b)) o)):=fun o ho=>by
   have:=xG (itm o ho);rw [itn] at this;exact this
  clear nd7 hd7 hpa7 hra7 hrw7 db7 t78 q7 o8 dA zl it0 i0n g7 itm q;refine⟨_,rfl,d,_,_,_,rfl,rfl,Ui hd8,aH (j:=2) rfl,_,rfl,pa,_,rfl,.inr (Ui hpa8),rfl,_,rfl,bF (by rw [aa]; exact Di _) ?_⟩;refine⟨_,rfl,d,_,_,_,rfl,rfl,Ui hd8,aH (j:=3) rfl,_,rfl,nd,_,rfl,nd8,rfl,_,rfl,bF (by rw [hn2]; exact Di _) ?_⟩;refine⟨_,rfl,.inr ⟨vb,b,rfl,db8,ok.ok,hil true,fun l9 ys9 H9 hl9 dys9 s9=>?_⟩⟩;have yl9:ys9.length=(siL true b).length:=by have:=dys9.length; rwa [aa] at this
  have nd9:=s9 _ _ nd8;have hit:=hil true;refine⟨l9,rfl,⟨_,Uh hl9⟩,fun D2 hD2=>?_⟩;refine dD (n:=ys9.length) (fun i ys H10=>ys=(((siL true b).take i).map (Av (fN (ps++nmB b)))).map V.int/\H10 D2=some (.lst ys)/\Same H9 H10) ⟨rfl,ak,Um hD2⟩ ?_ ?_;rotate_left
  ·rintro i ys H10 hi ⟨rfl,hD10,s10⟩;have hib:i < (siL true b).length:=by omega
   obtain ⟨x,ex,dx⟩:=dys9.get (i:=i) (t:=itT (siL true b)[i]) (by rw [bj,af hib]; rfl);refine⟨⟨_,_,Uh (s10 _ _ hl9),ex⟩,?_⟩;rintro v H11 ⟨rfl,yy⟩ σo ho;obtain ⟨oo,rfl⟩:=own1 ho;have ev:=yy _ (Uh (s10 _ _ hl9));rw [ex] at ev;cases ev;obtain ⟨xa,rfl,hxa⟩:=Kd dx;have hg:=hget _ (dm hib);refine⟨‹16›,jT ⟨_,rfl,_,rfl,nd,.int (Av (fN (ps++nmB b)) (siL true b)[i]),rfl,?_,?_⟩⟩
   ·rw [<- hg];exact lR.t (s10 _ _ nd9) (s10 _ _ hxa)
   ·refine⟨by rw [aa,aa,cf]; omega,hD10,bV hi ⟨?_,ak,fun c o e=>by rw [au (aB e hD2)]; exact s10 c o e⟩⟩;rw [take_snoc hib,az,az];rfl
  rintro ys10 H10 ⟨rfl,hD10,s10⟩;rw [aE ‹23›,<- oY] at hD10;refine⟨⟨_,Uh (s10 _ _ hl9),am _⟩,?_⟩;have s810:=s9.trans s10;have hd10:=s810 _ _ hd8;have hra10:=s810 _ _ hra8;have hrw10:=hrw8.mono (Uj s810);have rl:=hrw10.len;have sl9:=ok.sl;rw [ar,ae] at rl;have rl:rys.length=(stL (fN (ps++nmB b)) b).length+2+1:=rl;have eos:(none::(stL (fN (ps++nmB b)) b++[none,none])).filterMap id=(stL (fN (ps++nmB b)) b).filterMap id:=by rw [cU,bJ]; show _++[]=_; rw [av]
  generalize stL (fN (ps++nmB b)) b=os at hD10 hrw10 rl sl9 eos;refine⟨_,rfl,d,_,_,_,rfl,rfl,Ui hd10,aH (j:=0) rfl,ra,rfl,⟨_,Ui hra10⟩,fun D3 hD3=>?_⟩;refine dD (n:=rys.length) (fun i ys H11=>ys=(((none::(os++[none,none])).take i).filterMap id).map V.int/\ys.length<=i/\H11 D3=some (.lst ys)/\Same H10 H11) ⟨rfl,am _,ak,Um hD3⟩ ?_ ?_
  ·rintro ys11 H11 ⟨rfl,_,hD11,s11⟩;rw [aE (by rw [rl,ar,ae]; exact am _),eos] at hD11;refine⟨⟨_,Ui (s11 _ _ hra10),am _⟩,_,rfl,D3,D2,_,rfl,rfl,hD11,s11 _ _ hD10,Hg _,q8 _ (s810.trans s11)⟩
  ·rintro i ys H11 hi ⟨rfl,yl11,hD11,s11⟩;have hio:i < (none::(os++[none,none])).length:=by rw [<- hrw10.len]; exact hi
   have rv:=L2.je (hrw10.mono (Uj s11)) i hi hio;refine⟨⟨_,_,Ui (s11 _ _ hra10),af hi⟩,?_⟩;rintro v H12 ⟨rfl,yy⟩ σo ho;obtain ⟨oo,rfl⟩:=own1 ho;have ev:=yy _ (Ui (s11 _ _ hra10));rw [af hi] at ev;cases ev;rw [take_snoc hio];generalize rys[i]=rv0 at rv;generalize (none::(os++[none,none]))[i]=oi at rv;obtain ⟨a,x,r,rfl,ha,hx⟩:=rv;refine⟨‹16›,_,rfl,a,_,_,_,rfl,rfl,Ui ha,aH (j:=0) rfl,by show 2<=sizeLine; decide,fun z hz=>⟨z,_,rfl,.inr (Ui ak),rfl,rfl,_,rfl,?_⟩⟩;have ei:inV (V.str x) [V.str "name",V.str "set"]=decide (x∈(["name","set"]:LS)):=jP (ns:=["name","set"]);have s12:=Um (o:=.tup [.str "name",.str "set"]) hz;have hD12:=s12 _ _ hD11;generalize upd H12 z (.tup [.str "name",.str "set"])=H13 at s12 hD12
   have kp:∀ zs,Same H10 (upd H13 D3 (.lst zs)):=fun zs c o e=>by
    rw [au (aB e hD3)];exact s12 c o (s11 c o e)
   rcases hx with ⟨hx,kk,rfl,rfl⟩ | ⟨n1,n2,rfl⟩
   ·refine cG (ei.trans (bg (by rcases hx with rfl | rfl <;> decide +kernel))) ⟨_,rfl,a,_,_,_,rfl,rfl,Ui (s12 _ _ ha),aH (j:=1) rfl,by omega,hD12,bV hi ⟨?_,by rw [ae]; exact n5 yl11,ak,kp _⟩⟩;rw [bJ,az];rfl
   ·refine bF (by rw [show (if false=true then !inV (V.str x) [V.str "name",V.str "set"] else inV (V.str x) [V.str "name",V.str "set"])=_ from ei,fg,bc,bS]; exact fun z=>z.elim n1 n2) (bV hi ⟨?_,nL yl11,hD12,s11.trans s12⟩);rw [bJ];show _=List.map V.int (_++[]);rw [av]
theorem mC.Ss{pt:Addr}(h:mC H pt)(hp:Pu H p)(o:L2.Off p H H'):mC H' pt:=by
 obtain ⟨x1,x2,x3,ep⟩:=hp;rcases h with h | ⟨c,h,h'⟩
 ·exact .inl (o _ _ (bI h ep fun z=>nomatch z) h)
 ·exact .inr ⟨c,o _ _ (bI h ep fun z=>nomatch z) h,o _ _ (bI h' ep fun z=>nomatch z) h'⟩
theorem SqL.keep(h:SqL K H a xs)(k:∀ o,H a=some o->H' a=some o):SqL K H' a xs:=by
 rcases h with (h | ⟨o,h⟩) | h
 ·exact .inl (.inl (k _ h))
 ·exact .inl (.inr ⟨o,k _ h⟩)
 ·exact .inr h
theorem HJ{ns:List Int}:∃ ps:List Int,gW (ns.map V.int) lo hi=ps.map V.int/\ps.length<=ns.length:=by
 refine⟨(ns.drop (HT.sIx ns.length 0 lo)).take (HT.sIx ns.length ns.length hi - HT.sIx ns.length 0 lo),?_,?_⟩
 ·unfold gW;rw [aa,gy,List.map_drop]
 ·rw [cf,j0];omega
section
variable {P:uv}{w:xf}{K:PySem.W.Frag}{mg:MG}{base:Heap}{t:Adr}{ca:lW}{pt:Addr}
inductive zy (K:PySem.W.Frag) (pt:Addr) (vs:LV) (H:Hp) (Q:VK) (E_:XK):Prop
 | mk (a:Addr) (ns:List Int):vs=[.ref a]->SqL K H a (ns.map V.int)->ns.length<=63->H pt=some (.tbl #[])->(∀ H',Q (.bl true) H')->zy K pt vs H Q E_
theorem Ou(D:Defs K mg t)(GL:Glb P w K mg t)(S:Sht K mg ca)(BM:Bm mg base)(CT:Cdh K t.jj.2.code pt):bw P w K mg base CX0 24 t.law.1 t.law.2 ["_law_script"] (zy K pt):=by
 have Gbf:=MF (P:=P) (w:=w) (base:=base) D;have Gbe:=Kv (P:=P) (w:=w) (base:=base) D;have Gav:=JG (P:=P) (w:=w) (base:=base) D;have Gay:=Ms (P:=P) (w:=w) D GL S BM CT;have Gas:=Im (P:=P) (w:=w) (base:=base) D;have hz:sizeLine=16777216:=ci;refine D.law.fn.ok tE ‹5› ‹2›
 ·obtain ⟨a,ns,rfl,_⟩:=h;rfl
 ·obtain ⟨a,ns,rfl,hS,hl,hT,k⟩:=h
  refine⟨_,(aA (dB dQ rfl (Ec (bH iC (bB (aj (aF D.jG Gbf ‹1› (by rfl) ‹10›) aq)) (cX uJ (pv 0) (cW aC) (cW aC)))) (aJ (i:=1) tE.nd rfl (ue rfl))
   (aA (aK (i:=2) tE.nd rfl (ue rfl) (aF D.iZ Gav ‹1› (by rfl) (aj (aF D.iV Gbe ‹1› (by rfl) (aj (pv 1) aq)) aq)))
   (aA (aK (i:=3) tE.nd rfl (ue rfl) (aV nH (aF D.n6 Gay ‹1› (by rfl) (aj (pv 2) aq)) aC ‹4›))
   (aA (bD (Ug (ug (sS (lA (aW uf (by rfl) D.gY gC (aj (pv 3) (aj (pR (v:=V.ty "tuple") rfl D.cJ bR rfl) aq))))) (pB (aL vV (aW kh (by rfl) D.dg bY (aj (pv 3) aq)) (bH jz (aW kh (by rfl) D.dg bY (aj (aV nH (pv 2) aC ‹4›) aq)) aC) (aQ _)))))
   (aD (aR qm))
   aX)
   (aA (bD (sS (lA (aF D.dz Gas ‹1› (by rfl) (aj (aV nH (pv 3) aC ‹4›) (aj (bh aq) (aj (aV nH (pv 2) aC ‹4›) aq))))))
   (aD (aR qm))
   aX)
   (aD (dB dQ rfl (yL rfl D.Ab (aj (cX Fo (pv 3) (cW aC) fW) (aj (aV nH (pv 2) aC ‹4›) aq))) (K8 rfl (aY (aJ (i:=4) tE.nd rfl (ue rfl)) (aY (aJ (i:=5) tE.nd rfl (ue rfl)) eV)))
   (aD (bD (sS (lA (aF D.dz Gas ‹1› (by rfl) (aj (pv 4) (aj (aV nH (pv 5) aC ‹4›) (aj (aV nH (pv 5) aC ‹4›) aq))))))
   (aD (aR qm))
   aX)))))))))
   (aD (aR qm))),?_⟩
  refine⟨_,rfl,a,ns,0,rfl,hS,hl,by decide,by decide,fun z0 H1 s1=>?_⟩;refine⟨by show 1<=sizeLine; decide,fun l2 hl2=>?_⟩;have s2:=s1.trans (Um (o:=.lst [.int z0]) hl2);have g2:(upd H1 l2 (.lst [.int z0])) l2=some (.lst [.int z0]):=ak;generalize upd H1 l2 (.lst [.int z0])=H2 at s2 g2;obtain ⟨zs,ezs,zsl⟩:=HJ (ns:=ns) (lo:=some 1) (hi:=some 6);refine⟨_,rfl,_,rfl,_,rfl,a,_,rfl,K37.SqL.keep hS (fun o e=>s2 a o e),fun l3 hl3=>?_⟩;have s3:=Um (o:=.lst (gW (ns.map V.int) (some 1) (some 6))) hl3;have g3:(upd H2 l3 (.lst (gW (ns.map V.int) (some 1) (some 6)))) l3=some (.lst (zs.map V.int)):=by rw [ak,ezs]
  generalize upd H2 l3 (.lst (gW (ns.map V.int) (some 1) (some 6)))=H3 at s3 g3;refine⟨l2,l3,_,_,rfl,rfl,s3 _ _ g2,g3,by rw [aa]; show 1+_<=_; omega,fun l4 hl4=>?_⟩;have s4:=Um (o:=.lst ([.int z0]++zs.map V.int)) hl4;have g4:(upd H3 l4 (.lst ([.int z0]++zs.map V.int))) l4=some (.lst ((z0::zs).map V.int)):=ak;generalize upd H3 l4 (.lst ([.int z0]++zs.map V.int))=H4 at s4 g4;have T4:mC H4 pt:=.inl (s4 _ _ (s3 _ _ (s2 _ _ hT)));generalize z0::zs=cs at g4
  refine⟨l4,rfl,⟨_,Uh g4⟩,lC (K:=K) (a:=l4) (xs:=cs.map V.int) (fun i σ H5=>∃(v1 v2 v3 v4 v5:OV),σ=[some (.ref a),v1,v2,v3,v4,v5]/\H5 l4=some (.lst (cs.map V.int))/\mC H5 pt)
   ⟨_,_,_,_,_,rfl,g4,T4⟩ (fun i σ H5 _ ⟨_,_,_,_,_,_,g,_⟩=>Uh g) ?_ ?_⟩
  rotate_left
  ·rintro σ H5 ⟨v1,v2,v3,v4,v5,rfl,g5,T5⟩;exact k H5
  rintro i y σ H5 hy ⟨v1,v2,v3,v4,v5,rfl,g5,T5⟩
  obtain ⟨z,rfl⟩:∃ z,y=.int z:=by
   obtain ⟨z,_,e⟩:=eA.mp (gh hy);exact⟨z,e.symm⟩
  refine⟨_,rfl,z,rfl,fun p a1 b1 c1 hp=>?_⟩;have s6:=Um (o:=.lst [.int a1,.int b1,.int c1]) hp;have p6:Pu (upd H5 p (.lst [.int a1,.int b1,.int c1])) p:=Up;have lp:l4≠p:=aB g5 hp;generalize upd H5 p (.lst [.int a1,.int b1,.int c1])=H6 at s6 p6;have g6:=s6 _ _ g5;have T6:=T5.same s6;refine⟨p,rfl,p6,fun v ks ds run H7 pg gp okd okr o7 p7=>?_⟩;have g7:=o7 l4 _ lp g6;have T7:=T6.Ss p6 o7;clear p6 p7 o7 T6 g6 s6 T5 g5;refine⟨_,rfl,v,ks,ds,run,rfl,pg,gp,okd,okr,T7,fun q qb tv v0 vs H8 hq hqb b0 bs o8 T8=>?_⟩;refine⟨q,_,_,_,rfl,rfl,Ui hq,aH (j:=1) rfl,?_⟩;have g8:=o8 l4 _ (by obtain ⟨tp,htp⟩:=T7.at; exact bI g7 htp fun z=>nomatch z) g7;have pg8:=pg.mono (mW o8 T7);obtain ⟨q0,kv,dv,rv,rfl,hq0,dk,dd,dr⟩:=pg8;obtain ⟨da,dxs,rfl,hda,dl⟩:=L2.Dp.bG dd;have dlen:dxs.length=ds.length:=by rw [dl.length,aa,aa]
  have d60:ds.length<=60:=by have:=gp.dl; rwa [aa] at this
  have vl:vs.length=ds.length:=eM bs;refine⟨_,rfl,_,_,_,true,rfl,.tup hqb,lM K "tuple",_,rfl,iG ?_⟩;refine⟨_,rfl,qb,_,rfl,.inr (Ui hqb),_,rfl,q0,_,_,_,rfl,rfl,Ui hq0,aH (j:=1) rfl,da,_,rfl,.inr (Ui hda),_,_,rfl,rfl,rfl,_,rfl,bF ?_ ?_⟩
  ·rw [ar,show ((vs.length+1:Nat):Int)=(dxs.length:Int)+1 by omega];exact Di _
  refine⟨_,rfl,qb,_,_,_,rfl,rfl,Ui hqb,aH (j:=0) rfl,bn _,fun e9 he9=>?_⟩;have s9:=Um (o:=.tup []) he9;have g9:(upd H8 e9 (.tup [])) e9=some (.tup (([]:LS).map V.str)):=ak;generalize upd H8 e9 (.tup [])=H9 at s9 g9;refine⟨_,rfl,q0,_,_,_,rfl,rfl,Ui (s9 _ _ hq0),aH (j:=2) rfl,v0,rv,e9,[],run,rfl,b0.mono (Uj s9),g9,dr.mono (Uj s9),okr,fun H10 s10=>?_⟩;refine⟨_,rfl,iG ?_⟩;have s810:=s9.trans s10;refine⟨_,rfl,_,rfl,qb,_,rfl,s810 _ _ hqb,fun qc H11 hqc s11=>?_⟩;rw [jE] at hqc;have hqc:H11 qc=some (.tup vs):=hqc;have s811:=s810.trans s11;have hda11:=s811 _ _ hda;refine⟨_,rfl,q0,_,_,_,rfl,rfl,Ui (s811 _ _ hq0),aH (j:=1) rfl,?_⟩
  refine⟨qc,da,_,_,rfl,Ui hqc,Ui hda11,uP (K:=K) (a:=qc) (b:=da) (xs:=vs) (ys:=dxs) (n:=ds.length) ‹23› (fun i σ H12=>∃(v1 v2 v3 v4 v5:OV),σ=[some (.ref a),v1,v2,v3,v4,v5]/\Same H11 H12)
   ⟨_,_,_,_,_,rfl,Same.refl _⟩ (fun i σ H12 _ ⟨_,_,_,_,_,_,s⟩=>⟨Ui (s _ _ hqc),Ui (s _ _ hda11)⟩) ?_ ?_⟩
  ·rintro j x y σ H12 pp hx hy ⟨v1,v2,v3,v4,v5,rfl,s12⟩ hpp
   have hj:j < ds.length:=by
    have:=(aT.mp hy).1;omega
   obtain ⟨db,hdb,bx⟩:=zx bs hx;rw [af hj] at hdb;cases hdb;obtain ⟨y',ey,dy⟩:=dl.get (i:=j) (t:=drT ds[j].dr) (by rw [bj,bj,af hj]; rfl);rw [hy] at ey;cases ey;obtain ⟨g,gs,rfl,hg,gl⟩:=L2.Dp.bG dy;obtain ⟨x1,gs1,rfl,d1,gl1⟩:=gl.cases;obtain ⟨x2,gs2,rfl,d2,gl2⟩:=gl1.cases;obtain ⟨x3,gs3,rfl,d3,gl3⟩:=gl2.cases;obtain ⟨x4,gs4,rfl,d4,gl4⟩:=gl3.cases;obtain ⟨pa,pxs,rfl,hpa,pl⟩:=L2.Dp.bG d3;have epx:=K37.Dp.nM (a:=pa) pl;subst epx;have s13:=Um (o:=.tup [x,.ref g]) hpp;refine⟨pp,_,rfl,Ui ak,rfl,_,_,rfl,_,_,rfl,rfl,?_⟩;generalize upd H12 pp (.tup [x,.ref g])=H13 at s13;have s813:=s811.trans (s12.trans s13);have t813:=Uj s813;refine⟨_,rfl,_,rfl,g,_,_,_,rfl,rfl,Ui (s813 _ _ hg),aH (j:=2) rfl,_,rfl,g,_,_,_,rfl,rfl,Ui (s813 _ _ hg),aH (j:=3) rfl,x,x4,pa,ds[j].ps,ds[j].b,rfl,bx.mono t813,s813 _ _ hpa,d4.mono t813,okd _ (dm hj),fun H14 s14=>?_⟩;exact⟨_,rfl,iG ⟨_,_,_,_,_,rfl,s12.trans (s13.trans s14)⟩⟩
  ·rintro σ H12 ⟨v1,v2,v3,v4,v5,rfl,s12⟩;exact⟨_,_,_,_,_,rfl,s12 _ _ (s811 _ _ g8),T8.same (s811.trans s12)⟩
end
inductive gq (w:xf) (K:PySem.W.Frag) (ad:Str->Addr):List (Str × LS)->List Do->Prop
 | nil:gq w K ad [] []
 | cons {k:Str} {tk:Tok} {a:Addr} {vs:LS} {tb:List (Str × LS)} {es:List Do} {od:Option Addr} {its:AV} {n:Nat} {sl:Array (Option rn)}:ad k=a->K.lookup a=some ⟨.type "tuple",od,.seq its n,sl⟩->Vals (vs.map V.str) its.toList->its.size<=sizeLine->gq w K ad tb es->gq w K ad ((k,vs)::tb) (⟨PyData.keyHash w.params k,.str k tk,.ref a⟩::es)
theorem gq.row{es:List Do}(h:gq w K ad tb es):∀ p∈tb,∀ H:Hp,SqT K H (ad p.1) (p.2.map V.str):=by
 induction h with
 | nil=>exact fun p hp=>nomatch hp
 | cons e lu va zi _ ih=>
  intro p hp H;rcases bc.mp hp with rfl | hp
  ·subst e;exact .inr ⟨_,_,_,lu,rfl,rfl,zi,va⟩
  ·exact ih p hp H
theorem gq.keys{es:List Do}(h:gq w K ad tb es):∀ e∈es,∃ k,(cC P w).is k e.key=true/\e.hash=(cC P w).hash k:=by
 induction h with
 | nil=>exact fun p hp=>nomatch hp
 | @cons k tk _ _ _ _ _ _ _ _ e lu va zi _ ih=>
  intro p hp;rcases bc.mp hp with rfl | hp
  ·exact⟨.inr k,(show Ha k (.str k tk)=true by simp [Ha]),rfl⟩
  ·exact ih p hp
theorem gq.pairs{es:List Do}(h:gq w K ad tb es):Pairs (cC P w) es (tb.map fun p=>((.inr p.1:Key),wy (ad p.1))):=by
 induction h with
 | nil=>exact .nil
 | @cons k tk _ _ _ _ _ _ _ _ e lu va zi _ ih=>
  exact .cons (show Ha k (.str k tk)=true by simp [Ha]) (congrArg wy e.symm) ih
theorem Jw(ad:Str->Addr):∀ tb:List (Str × LS),KV (tb.map fun p=>((.inr p.1:Key),V.ref (ad p.1))) (tb.map fun p=>((.inr p.1:Key),wy (ad p.1)))
 | []=>.nil
 | _::r=>.cons ⟨rfl,rfl⟩ (Jw ad r)
theorem Gi(ad:Str->Addr)(h:(tb.map (·.1)).Nodup):((tb.map fun p=>((.inr p.1:Key),wy (ad p.1))).map (·.1)).Nodup:=by
 have e:((tb.map fun p=>((.inr p.1:Key),wy (ad p.1))).map (·.1))=(tb.map (·.1)).map (An:Str->Key):=by
  rw [nV,nV];rfl
 rw [e];exact h.map _ fun a b n q=>n (An.inj q)
theorem KJ{es:Array Do}{ep:Nat}(h1:(c == ym)=false)(lu:K.lookup c=some ⟨.type "dict",none,.dict es ep,#[]⟩)(h:gq w K ad tb es.toList)(nd:(tb.map (·.1)).Nodup):Tab P w K c ad tb:=
 ⟨⟨h1,_,es,ep,_,lu,⟨rfl,rfl,rfl⟩,rfl,fun e he=>h.keys e (ow.mpr he),h.pairs,Gi ad nd,Jw ad tb⟩,h.row⟩
theorem Jy:(exprs.map (·.1)).Nodup:=by decide +kernel
theorem Ih:(stats.map (·.1)).Nodup:=by decide +kernel
def O7:List ‹19›->Str->Addr
 | [],_=>0
 | (k,a)::r,x=>if x=k then a else O7 r x
def adT:Str->Str->Addr:=fun s=>if s = "e" then O7 [("me",21),("name",22),("new",23),("get",24),("ask",25),("up",26),("plus",27),("minus",28),("less",29),("alike",30),("or",31)] else O7 [("let",33),("put",34),("drop",35),("tell",36),("do",37),("give",38),("throw",39),("become",40),("if",41),("while",42),("repeat",43),("try",44),("turn",45),("strip",46),("elders",47)]
inductive wB (w:xf):List (Str × V)->List Do->List (Key × rn)->Prop
 | nil:wB w [] [] []
 | cons {k:Str} {tk:Tok} {v:V} {u:rn} {tb:List (Str × V)} {es:List Do} {xs:List (Key × rn)}:RelV v u->wB w tb es xs->wB w ((k,v)::tb) (⟨PyData.keyHash w.params k,.str k tk,u⟩::es) ((.inr k,u)::xs)
theorem wB.mk{tb:List (Str × V)}{es:Array Do}{ep:Nat}{xs:List (Key × rn)}(h1:(c == ym)=false)(lu:K.lookup c=some ⟨.type "dict",none,.dict es ep,#[]⟩)(h:wB w tb es.toList xs)(nd:(tb.map (·.1)).Nodup):tU P w K c (tb.map fun p=>(.inr p.1,p.2)):=by
 have key:∀ {tb:List (Str × V)} {el:List Do} {xs:List (Key × rn)},wB w tb el xs->(∀ e∈el,∃ k,(cC P w).is k e.key=true/\e.hash=(cC P w).hash k)/\Pairs (cC P w) el xs/\xs.map (·.1)=(tb.map (·.1)).map (An:Str->Key)/\KV (tb.map fun p=>((.inr p.1:Key),p.2)) xs:=by
  intro tb el xs h
  induction h with
  | nil=>exact⟨(fun p hp=>nomatch hp),.nil,rfl,.nil⟩
  | @cons k tk v u tb es xs r _ ih=>
   obtain ⟨h1,h2,h3,h4⟩:=ih;have hk:Ha k (.str k tk)=true:=by simp [Ha]
   refine⟨fun p hp=>?_,.cons hk rfl h2,by rw [eB,eB,eB,h3],.cons ⟨rfl,r⟩ h4⟩;rcases bc.mp hp with rfl | hp
   ·exact⟨.inr k,hk,rfl⟩
   ·exact h1 p hp
 obtain ⟨k1,k2,k3,k4⟩:=key h;exact⟨h1,_,es,ep,_,lu,⟨rfl,rfl,rfl⟩,rfl,fun e he=>k1 e (ow.mpr he),k2,by rw [k3]; exact nd.map _ fun a b n q=>n (An.inj q),k4⟩
theorem JQ:((["if","while","repeat","try"]:LS)).Nodup:=by decide +kernel
theorem QC:((["let","do"]:LS)).Nodup:=by decide +kernel
end
end K37
end
section
namespace L2
open PySem PySem.Spec PyProof.Rows
variable {P:uv}{w:xf}{K:PySem.W.Frag}{mg:MG}{a c:Addr}{fd:vy}{sp:Sp}{n:Nat}{loose:LS}{YP:xf->Heap->Prop}{h:Heap}{st:Stmt}{dc oc pm:rn}{an od:Option Addr}
theorem Gu{mb:MG}{CX:CXT}{k:Nat}{fa:Addr}{x:Str}{s₁:sr}{vs:LU}{ns:List Int}{ts:LA}
  (KX:K.In s₁.heap) (hns:s₁.heap.Ns ww mg) (hb:s₁.heap.Ns Tz mb) (hbb:∀ x:Str,x≠ "__name__" -> mb x=ye x) (hlim:s₁.heap.NoLimit) (hg:s₁.gens=#[])
  (ha:s₁.heap.get? a=some { cls:=.type "list",data:=.seq vs.toArray }) (hi:Ub vs ns) (hl:ns.length<=sizeLine) (hr:iD k Uc)
  (ht:∀ q∈ts,s₁.heap.get? q=some (PySem.W.tabObj #[])) (hct:∀ q∈ts,isCodeTable s₁.heap q) (hKt:∀ q∈ts,K.lookup q=none) (hbm:Bm mg s₁.heap)
  (F:∀ base:Heap,K.In base->base.Ns ww mg->Bm mg base->bw P w K mg base CX k fa fd [x] sp) (hbind:∀(s:sr) (u:rn),Ua s fd ⟨[u],[]⟩ [(x,u)])
  (hsp:∀ H:Hp,(∀ q∈ts,H q=some (.tbl #[]))->SqL K H a (ns.map V.int)->sp [.ref a] H (fun v _=>v=.bl true) fun _ _ _=>False)
  (hCX:∀ H e s',CX [] H s₁ (fun _ _ _=>False) e s'->False) :
  HH (uB P w) Uc (.call (.ref fa) ⟨[.ref a],[]⟩) (fun r s'=>r=.ok (.ret (.bool true))/\OldK s₁.heap s'.heap/\s'.os=s₁.os/\PQ s'.gens) s₁:=by
 have rv:=wU hi;have lenV:=hi.length
 have nta:a ∉ ts:=fun h=>by
  have:=ht a h;rw [ha] at this;cases this
 have core:∀ H:Hp,(∀ q∈ts,H q=some (.tbl #[]))->SqL K H a (ns.map V.int)->HOk P w H s₁.heap->(∀ b u,H b=some u->(b∈ts/\u=.tbl #[])\/(b=a/\K.lookup a=none/\∃ o xs,u=.frz o (.lst xs)))->
   HH (uB P w) Uc (.call (.ref fa) ⟨[.ref a],[]⟩) (fun r s'=>r=.ok (.ret (.bool true))/\OldK s₁.heap s'.heap/\s'.os=s₁.os/\PQ s'.gens) s₁:=by
  intro H hT hS hok hA;have base_of:∀ {b:Addr} {o:Obj},s₁.heap.get? b=some o->H b=none->(wz s₁.heap H).get? b=some o:=fun e n=>HN e n
  have noA:∀ {b:Addr} {o:Obj},s₁.heap.get? b=some o->(∀ fs,o.data≠.fields fs)->(∀ q n,o.data≠.seq q n)->H b=none:=fun {b o} e d1 d2=>by
   cases q:H b with
   | none=>rfl
   | some u=>
    rcases hA b u q with ⟨h1,_⟩ | ⟨rfl,_⟩
    ·rw [ht b h1] at e;cases e;exact absurd rfl (d1 _)
    ·rw [ha] at e;cases e;exact absurd rfl (d2 _ _)
  have nsK:∀ {b:Addr} {m:MG},s₁.heap.Ns b m->(wz s₁.heap H).Ns b m:=fun {b m} ⟨o,es,ep,e,d,r⟩=>⟨o,es,ep,base_of e (noA e (fun _ z=>by rw [d] at z; cases z) fun _ _ z=>by rw [d] at z; cases z),d,r⟩
  have hKb:K.In (wz s₁.heap H):=fun b o e=>base_of (KX b o e) (by
   cases q:H b with
   | none=>rfl
   | some u=>
    rcases hA b u q with ⟨h1,_⟩ | ⟨rfl,h2,_⟩
    ·rw [hKt b h1] at e; cases e
    ·rw [h2] at e; cases e)
  have hM:Mod K mg (wz s₁.heap H):=⟨hKb,nsK hns,⟨mb,nsK hb,hbb⟩,let ⟨mc,h1,h2⟩:=hlim; ⟨mc,nsK h1,h2⟩⟩
  have hB:Bm mg (wz s₁.heap H):=by
   obtain ⟨bm,ob,h1,h2,h3,h4,h5,h6⟩:=hbm;exact⟨bm,ob,h1,h2,base_of h3 (noA h3 (fun _ z=>by rw [h6] at z; cases z) fun _ _ z=>by rw [h6] at z; cases z),h4,h5,h6⟩
  have e0:wj P w K mg (wz s₁.heap H) Uc [] s₁ H:=⟨rfl,hM,fun b o e=>LC e,Nat.le_of_eq (G7 _ _),trivial,fun b hb=>absurd (show b∈([]:LA) from hb) (by simp),hok,.of_eq hg⟩;refine kQ ((F _ hKb (nsK hns) hB).run Uc [] s₁ H ⟨[.ref a],[]⟩ [.ref a] [.ref a] _ _ hr e0 (hbind s₁ (.ref a)) (.cons rfl .nil) (hsp H hT hS)) fun r s' h=>?_;cases r with
  | error e=>exact(hCX H e s' h).elim
  | ok fl=>
   cases fl with
   | next=>exact Be h
   | brk=>exact Be h
   | cont=>exact Be h
   | ret u=>
    obtain ⟨v,H',os,bare,un,hok',r',q⟩:=h;have q':v=.bl true:=q;subst q';obtain rfl:u=rn.bool true:=r'
    have kept:∀ b o,s₁.heap.get? b=some o->b ∉ ts->s'.heap.get? b=some o:=fun b o e hb=>by
     cases q:H b with
     | none=>exact un.keep b o e q (by intro z; exact absurd (show b∈([]:LA) from z) (by simp)) (by simp)
     | some u=>
      rcases hA b u q with ⟨h1,_⟩ | ⟨_,_,ob,xs,rfl⟩
      ·exact absurd h1 hb
      ·have z2:=un.xZ b ob _ q;obtain ⟨e1,_⟩:=hok b _ q;obtain ⟨e2,_⟩:=hok' b _ z2;rw [e] at e1; cases e1;exact e2
    have tab:∀ b,b∈ts->∃ more,s'.heap.get? b=some { cls:=.none,data:=.fields (#[]++more) }:=fun b hb=>by
     obtain ⟨more,e⟩:=un.yd b _ (hT b hb);exact⟨more,hok' b _ e⟩
    refine⟨rfl,⟨fun b o e=>?_,fun b o e=>?_⟩,os,bare⟩
    ·by_cases hbt:b∈ts
     ·obtain ⟨more,e2⟩:=tab b hbt;rw [ht b hbt] at e;cases e;exact .inr (.inl ⟨hct b hbt,rfl,#[],more,rfl,e2⟩)
     ·exact .inl (kept b o e hbt)
    ·by_cases hbt:b∈ts
     ·obtain ⟨more,e2⟩:=tab b hbt;exact⟨_,e2⟩
     ·exact⟨o,kept b o e hbt⟩
 cases hk:K.lookup a with
 | some o=>
  have e:=KX a o hk;rw [ha] at e;cases e;refine core (fun b=>if b∈ts then some (.tbl #[]) else none) (fun q hq=>dC hq) (.inr ⟨_,vs.toArray,_,hk,rfl,rfl,rfl,by rw [bb,lenV]; exact hl,by simpa using rv⟩) (fun b u z=>?_) (fun b u z=>?_)
  ·by_cases hb:b∈ts
   ·have z':=(dC hb).symm.trans z;cases z';exact ht b hb
   ·have z':=(cK hb).symm.trans z;cases z'
  ·by_cases hb:b∈ts
   ·have z':=(dC hb).symm.trans z;cases z';exact .inl ⟨hb,rfl⟩
   ·have z':=(cK hb).symm.trans z;cases z'
 | none=>
  refine core (fun b=>if b∈ts then some (.tbl #[]) else if b=a then some (.frz { cls:=.type "list",data:=.seq vs.toArray } (.lst (ns.map V.int))) else none) (fun q hq=>dC hq) (.inl (.inr ⟨{ cls:=.type "list",data:=.seq vs.toArray },(cK nta).trans (dC rfl)⟩)) (fun b u z=>?_) (fun b u z=>?_)
  ·by_cases hb:b∈ts
   ·have z':=(dC hb).symm.trans z;cases z';exact ht b hb
   ·have z:=(cK hb).symm.trans z
    by_cases hb:b=a
    ·have z':=(dC hb).symm.trans z;cases z';subst hb;exact⟨ha,by rw [aa]; exact hl,vs,_,rv,ha⟩
    ·have z':=(cK hb).symm.trans z;cases z'
  ·by_cases hb:b∈ts
   ·have z':=(dC hb).symm.trans z;cases z';exact .inl ⟨hb,rfl⟩
   ·have z:=(cK hb).symm.trans z
    by_cases hb:b=a
    ·have z':=(dC hb).symm.trans z;cases z';exact .inr ⟨hb,hk,_,_,rfl⟩
    ·have z':=(cK hb).symm.trans z;cases z'
theorem Iu{l:PySem.W.OpenLaw}{k:Nat}{q:uv}{XP:(MG)->Heap->Prop}{d:DefRec}{K:Params->PySem.W.Frag}{CX:xf->CXT}{sp:xf->Sp}{x:Str}{ts:LA}
  (hn:l.most=some n) (hn2:n<=sizeLine) (hdf:d.params.defaults=[]) (hr:iD k Uc)
  (hY:∀(w:xf) (h:Heap),YP w h->(K w.params).In h/\∀ q∈ts,h.get? q=some (PySem.W.tabObj #[]))
  (F:∀(w:xf) (mg:MG) (fa:Addr) (h:Heap),(K w.params).In h->h.Ns ww mg->mg d.name=some (.ref fa)->
   (∀ q∈ts,(∃ cd,Cdh (K w.params) cd q)/\(K w.params).lookup q=none)/\∃ fd:vy,(∀(s:sr) (u:rn),Ua s fd ⟨[u],[]⟩ [(x,u)])/\
    ∀ base:Heap,(K w.params).In base->base.Ns ww mg->Bm mg base->bw l.prog w (K w.params) mg base (CX w) k fa fd [x] (sp w))
  (hsp:∀(w:xf) (H:Hp) (a:Addr) (ns:List Int),ns.length<=n->(∀ q∈ts,H q=some (.tbl #[]))->SqL (K w.params) H a (ns.map V.int)->sp w [.ref a] H (fun v _=>v=.bl true) fun _ _ _=>False)
  (hCX:∀(w:xf) (H:Hp) (s:sr) (e:rn) (s':sr),CX w [] H s (fun _ _ _=>False) e s'->False) :
  PySem.W.WalkO q loose XP YP l.row.toRowW d [] (fun f vs=>PySem.call f vs):=by
 refine Att.Bb hn hdf fun w s₀ s₁ mg mb fa o pm cd doc a vs ns G Y ho hd hcd hmg hobj hints hlen hg=>?_;obtain ⟨KX,hT⟩:=hY w _ Y;obtain ⟨hC,fd,hb,hF⟩:=F w mg fa _ KX G.T.g hmg;refine Gu KX G.T.g G.T.b G.T.builtins G.T.nolimit hg hobj hints (eR hlen hn2) hr hT (fun q hq=>?_) (fun q hq=>(hC q hq).2) G.T.bmain hF hb (fun H hO hS=>hsp w H a ns hlen hO hS) fun H e s'=>hCX w H s₁ e s';obtain ⟨cd,c,_,hc⟩:=(hC q hq).1;obtain ⟨o,vs,_,_,_,_,_,_,_,h1,h2,h3,h4,_⟩:=hc _ KX;exact⟨c,o,vs,h1,h2,h3,h4⟩
theorem Mx{K:Params->PySem.W.Frag}{as:LA}{e:∀ P:Params,as=List.map (fun x=>x.fst) (K P)}{ts:LA}(Y:(PySem.W.kmHook K as e ts).says w h):(K w.params).In h/\∀ q∈ts,h.get? q=some (PySem.W.tabObj #[]):=Y
inductive FQT (K:PySem.W.Frag) (mg:MG) (x:Str) (st:Stmt) (pt:Addr):Prop
 | mk (f fd:_):Fun K x x st f fd->mg x=some (.ref f)->Cdh K fd.code pt->FQT K mg x st pt
theorem SQ(X:K.In h)(G:h.Ns ww mg){x:Str}{f pt:Addr}{odc:Option Addr}{sl slc:Array (Option rn)}{kV ct:rn}{vs:AV}{file:Str}{flags text:Int}{tf tg tt:Tok}{inF:Bool}
  (a:PySem.W.nsIn K ww x=some (some (.ref f))) (l:K.lookup f=some ⟨oc,od,.func (PySem.W.fnOf x x (nJ st) (j9 st) (aG st) .none kV dc pm an (.ref c) ct),sl⟩) (cc:PySem.W.codeIn K (.ref c) x=true) (k:PySem.W.keepIn K (.ref f)=true)
  (lc:K.lookup c=some ⟨.type "code",odc,.fields vs,slc⟩) (h11:vs[11]?=some (.ref pt)) (h18:vs.getD 18 .none=.str file tf) (h7:vs.getD 7 .none=.int flags tg) (h9:vs.getD 9 .none=.bool inF) (h10:vs.getD 10 .none=.int text tt) (ne:K.lookup pt=none):FQT K mg x st pt:=by
 refine⟨f,_,CV l cc k,i5 X G a,c,rfl,fun h' K'=>⟨_,vs,file,tf,flags,tg,inF,text,tt,K' _ _ lc,rfl,rfl,h11,?_,h18,h7,h9,h10,fun z=>?_⟩⟩
 ·rw [Array.getD_eq_getD_getElem?,h11];rfl
 ·rw [z,ne] at lc;cases lc
end L2
end
section
namespace K37
open PySem PyProof.Rows L2
variable {K:PySem.W.Frag}{h:Heap}{mg:MG}{st:Stmt}{cd dc oc pm:rn}{an od:Option Addr}{C:Addr}{w:xf}{loose:LS}{YP:xf->Heap->Prop}
theorem el1{α:Type}{C:List α->Prop}(h:∀ v0,C [v0]):∀ us:List α,us.length=1->C us
 | [v0],_=>h v0
theorem el2{α:Type}{C:List α->Prop}(h:∀ v0 v1,C [v0,v1]):∀ us:List α,us.length=2->C us
 | [v0,v1],_=>h v0 v1
theorem el3{α:Type}{C:List α->Prop}(h:∀ v0 v1 v2,C [v0,v1,v2]):∀ us:List α,us.length=3->C us
 | [v0,v1,v2],_=>h v0 v1 v2
theorem el4{α:Type}{C:List α->Prop}(h:∀ v0 v1 v2 v3,C [v0,v1,v2,v3]):∀ us:List α,us.length=4->C us
 | [v0,v1,v2,v3],_=>h v0 v1 v2 v3
theorem el5{α:Type}{C:List α->Prop}(h:∀ v0 v1 v2 v3 v4,C [v0,v1,v2,v3,v4]):∀ us:List α,us.length=5->C us
 | [v0,v1,v2,v3,v4],_=>h v0 v1 v2 v3 v4
theorem el6{α:Type}{C:List α->Prop}(h:∀ v0 v1 v2 v3 v4 v5,C [v0,v1,v2,v3,v4,v5]):∀ us:List α,us.length=6->C us
 | [v0,v1,v2,v3,v4,v5],_=>h v0 v1 v2 v3 v4 v5
def FQ(K:PySem.W.Frag)(mg:MG)(x:Str)(st:Stmt):Prop:=∃ f fd,Fun K x x st f fd/\mg x=some (.ref f)
theorem mkF(X:K.In h)(G:h.Ns ww mg){x:Str}{f:Addr}{sl:Array (Option rn)}{kV ct:rn}(a:PySem.W.nsIn K ww x=some (some (.ref f)))(l:K.lookup f=some ⟨oc,od,.func (PySem.W.fnOf x x (nJ st) (j9 st) (aG st) .none kV dc pm an cd ct),sl⟩)(c:PySem.W.codeIn K cd x=true)(k:PySem.W.keepIn K (.ref f)=true):FQ K mg x st:=⟨f,_,CV l c k,i5 X G a⟩
def FM(K:PySem.W.Frag)(C:Addr)(x q:Str)(st:Stmt):Prop:=∃ f fd,Fun K x q st f fd/\Meth K C x f
theorem mkM{x q:Str}{f:Addr}{sl:Array (Option rn)}{kV ct:rn}(a:PySem.W.findIn K (.ref C) x=some (some (.ref f)))(i:PySem.W.isFn K (.ref f)=true)(l:K.lookup f=some ⟨oc,od,.func (PySem.W.fnOf x q (nJ st) (j9 st) (aG st) .none kV dc pm an cd ct),sl⟩)(c:PySem.W.codeIn K cd q=true)(k:PySem.W.keepIn K (.ref f)=true):FM K C x q st:=⟨f,_,CV l c k,a,i,k⟩
theorem all_mk{l:PySem.W.OpenLaw}{fa pt:Addr}{cA dh fU fH:Addr}{esEXPRESSIONS esSTATEMENTS esNESTS esROW_WORDS:Array Do}{epEXPRESSIONS epSTATEMENTS epNESTS epROW_WORDS:Nat}{n_lay_if n_lay_while n_lay_repeat n_lay_try:Addr}{xsN xsR:List (Key × rn)}(X:K.In h)(G:h.Ns ww mg)(hfa:mg "law" = some (.ref fa))
  (t0:FQ K mg "elders_first" (top 1)) (t1:FQ K mg "names_in" (top 5)) (t2:FQ K mg "names_among" (top 6)) (t3:FQ K mg "tell_orders" (top 8)) (t4:FQ K mg "quarrel_among" (top 9)) (t5:FQ K mg "rows_by" (top 10)) (t6:FQ K mg "merge_rows" (top 11)) (t7:FQ K mg "first_free" (top 12)) (t8:FQ K mg "ring_among" (top 13)) (t9:FQ K mg "hold_of" (top 14)) (t10:FQ K mg "family_of" (top 16)) (t11:FQ K mg "table_of" (top 18)) (t12:FQ K mg "own_deeds" (top 19)) (t13:FQ K mg "book_of" (top 23)) (t14:FQT K mg "body_of" (top 24) pt) (t15:FQ K mg "number_names" (top 25)) (t16:FQ K mg "lay_block" (top 26)) (t17:FQ K mg "lay_parts" (top 27)) (t18:FQ K mg "lay_expression" (top 28)) (t19:FQ K mg "lay_or" (top 29)) (t20:FQ K mg "lay_if" (top 30)) (t21:FQ K mg "lay_while" (top 31)) (t22:FQ K mg "lay_repeat" (top 32)) (t23:FQ K mg "lay_try" (top 33)) (t24:FQ K mg "_law_cell" (top 36)) (t25:FQ K mg "_law_purse" (top 37)) (t26:FQ K mg "_law_take" (top 38)) (t27:FQ K mg "_law_word" (top 39)) (t28:FQ K mg "_law_words" (top 40)) (t29:FQ K mg "_law_merge" (top 41)) (t30:FQ K mg "_law_some" (top 42)) (t31:FQ K mg "_law_kinds" (top 43)) (t32:FQ K mg "_law_atom" (top 44)) (t33:FQ K mg "_law_thing" (top 45)) (t34:FQ K mg "_law_args" (top 46)) (t35:FQ K mg "_law_value" (top 47)) (t36:FQ K mg "_law_change" (top 48)) (t37:FQ K mg "_law_plain" (top 49)) (t38:FQ K mg "_law_nested" (top 50)) (t39:FQ K mg "_law_block" (top 51)) (t40:FQ K mg "_law_named" (top 52)) (t41:FQ K mg "_law_of_value" (top 53)) (t42:FQ K mg "_law_of_statement" (top 54)) (t43:FQ K mg "_law_of_block" (top 55)) (t44:FQ K mg "_law_body_right" (top 56)) (t45:FQ K mg "law" (top 57)) (np:K.lookup pt=none)
  (z0:PySem.W.nsIn K ww "abs" = some none) (z1:PySem.W.nsIn K ww "all" = some none) (z2:PySem.W.nsIn K ww "any" = some none) (z3:PySem.W.nsIn K ww "dict" = some none) (z4:PySem.W.nsIn K ww "enumerate" = some none) (z5:PySem.W.nsIn K ww "int" = some none) (z6:PySem.W.nsIn K ww "isinstance" = some none) (z7:PySem.W.nsIn K ww "len" = some none) (z8:PySem.W.nsIn K ww "list" = some none) (z9:PySem.W.nsIn K ww "range" = some none) (z10:PySem.W.nsIn K ww "sorted" = some none) (z11:PySem.W.nsIn K ww "tuple" = some none) (z12:PySem.W.nsIn K ww "zip" = some none)
  (yEXPRESSIONS:PySem.W.nsIn K ww "EXPRESSIONS" = some (some (.ref cA))) (mEXPRESSIONS:(cA == ym)=false) (luEXPRESSIONS:K.lookup cA=some ⟨.type "dict",none,.dict esEXPRESSIONS epEXPRESSIONS,#[]⟩) (teEXPRESSIONS:gq w K (adT "e") exprs esEXPRESSIONS.toList)
  (ySTATEMENTS:PySem.W.nsIn K ww "STATEMENTS" = some (some (.ref dh))) (mSTATEMENTS:(dh == ym)=false) (luSTATEMENTS:K.lookup dh=some ⟨.type "dict",none,.dict esSTATEMENTS epSTATEMENTS,#[]⟩) (teSTATEMENTS:gq w K (adT "s") stats esSTATEMENTS.toList)
  (yNESTS:PySem.W.nsIn K ww "NESTS" = some (some (.ref fU))) (mNESTS:(fU == ym)=false) (luNESTS:K.lookup fU=some ⟨.type "dict",none,.dict esNESTS epNESTS,#[]⟩) (teNESTS:wB w ([("if",V.ref n_lay_if),("while",V.ref n_lay_while),("repeat",V.ref n_lay_repeat),("try",V.ref n_lay_try)]:List (Str × V)) esNESTS.toList xsN)
  (yROW_WORDS:PySem.W.nsIn K ww "ROW_WORDS" = some (some (.ref fH))) (mROW_WORDS:(fH == ym)=false) (luROW_WORDS:K.lookup fH=some ⟨.type "dict",none,.dict esROW_WORDS epROW_WORDS,#[]⟩) (teROW_WORDS:wB w ([("let",V.str "set"),("do",V.str "pop")]:List (Str × V)) esROW_WORDS.toList xsR)
  (y_lay_if:PySem.W.nsIn K ww "lay_if" = some (some (.ref n_lay_if))) (y_lay_while:PySem.W.nsIn K ww "lay_while" = some (some (.ref n_lay_while))) (y_lay_repeat:PySem.W.nsIn K ww "lay_repeat" = some (some (.ref n_lay_repeat))) (y_lay_try:PySem.W.nsIn K ww "lay_try" = some (some (.ref n_lay_try)))
  (ySheet:PySem.W.nsIn K ww "Sheet" = some (some (.ref C))) (u___init__:FM K C "__init__" "Sheet.__init__" sIn) (u_lay:FM K C "lay" "Sheet.lay" Qa) (u_leave:FM K C "leave" "Sheet.leave" CJ) (u_lead:FM K C "lead" "Sheet.lead" Jh)
  (pg:PySem.W.plainGet K C Str.empty=true) (hd:PySem.W.hasDictIn K C=true) (po:PySem.W.plainOver K C=true) (sa:PySem.W.findIn K (.ref C) "__setattr__" = some (some (.builtin "object.__setattr__"))) (mk:PySem.W.makesIn K C=true) (kc:PySem.W.keepIn K (.ref C)=true)
  (nN:PySem.W.findIn K (.ref C) "numbers" = some none) (nR:PySem.W.findIn K (.ref C) "rows" = some none) (nC:PySem.W.findIn K (.ref C) "catches" = some none) (nS:PySem.W.findIn K (.ref C) "statement" = some none) (nP:PySem.W.findIn K (.ref C) "repeats" = some none)
  : (∀ q∈[pt],(∃ cd,Cdh K cd q)/\K.lookup q=none)/\∃ fd:vy,(∀(s:sr) (v:rn),Ua s fd ⟨[v],[]⟩ [("_law_script",v)])/\∀ base:Heap,K.In base->base.Ns ww mg->Bm mg base->bw l.prog w K mg base CX0 24 fa fd ["_law_script"] (zy K pt):=by
 obtain ⟨f0,g0,F0,m0⟩:=t0;obtain ⟨f1,g1,F1,m1⟩:=t1;obtain ⟨f2,g2,F2,m2⟩:=t2;obtain ⟨f3,g3,F3,m3⟩:=t3;obtain ⟨f4,g4,F4,m4⟩:=t4;obtain ⟨f5,g5,F5,m5⟩:=t5;obtain ⟨f6,g6,F6,m6⟩:=t6;obtain ⟨f7,g7,F7,m7⟩:=t7;obtain ⟨f8,g8,F8,m8⟩:=t8;obtain ⟨f9,g9,F9,m9⟩:=t9;obtain ⟨f10,g10,F10,m10⟩:=t10;obtain ⟨f11,g11,F11,m11⟩:=t11;obtain ⟨f12,g12,F12,m12⟩:=t12;obtain ⟨f13,g13,F13,m13⟩:=t13;obtain ⟨f14,g14,F14,m14,CT⟩:=t14;obtain ⟨f15,g15,F15,m15⟩:=t15;obtain ⟨f16,g16,F16,m16⟩:=t16;obtain ⟨f17,g17,F17,m17⟩:=t17;obtain ⟨f18,g18,F18,m18⟩:=t18;obtain ⟨f19,g19,F19,m19⟩:=t19;obtain ⟨f20,g20,F20,m20⟩:=t20;obtain ⟨f21,g21,F21,m21⟩:=t21;obtain ⟨f22,g22,F22,m22⟩:=t22;obtain ⟨f23,g23,F23,m23⟩:=t23;obtain ⟨f24,g24,F24,m24⟩:=t24;obtain ⟨f25,g25,F25,m25⟩:=t25;obtain ⟨f26,g26,F26,m26⟩:=t26;obtain ⟨f27,g27,F27,m27⟩:=t27;obtain ⟨f28,g28,F28,m28⟩:=t28;obtain ⟨f29,g29,F29,m29⟩:=t29;obtain ⟨f30,g30,F30,m30⟩:=t30;obtain ⟨f31,g31,F31,m31⟩:=t31;obtain ⟨f32,g32,F32,m32⟩:=t32;obtain ⟨f33,g33,F33,m33⟩:=t33;obtain ⟨f34,g34,F34,m34⟩:=t34;obtain ⟨f35,g35,F35,m35⟩:=t35;obtain ⟨f36,g36,F36,m36⟩:=t36;obtain ⟨f37,g37,F37,m37⟩:=t37;obtain ⟨f38,g38,F38,m38⟩:=t38;obtain ⟨f39,g39,F39,m39⟩:=t39;obtain ⟨f40,g40,F40,m40⟩:=t40;obtain ⟨f41,g41,F41,m41⟩:=t41;obtain ⟨f42,g42,F42,m42⟩:=t42;obtain ⟨f43,g43,F43,m43⟩:=t43;obtain ⟨f44,g44,F44,m44⟩:=t44;obtain ⟨f45,g45,F45,m45⟩:=t45;have e:=hfa.symm.trans m45;cases e;have e:=(i5 X G y_lay_if).symm.trans m20;cases e;have e:=(i5 X G y_lay_while).symm.trans m21;cases e;have e:=(i5 X G y_lay_repeat).symm.trans m22;cases e;have e:=(i5 X G y_lay_try).symm.trans m23;cases e
 have BL:∀(s:sr) (v:rn),Ua s g45 ⟨[v],[]⟩ [("_law_script",v)]:=by
  obtain ⟨⟨_,_,_,_,_,_,_,_,_,rfl,_⟩,_⟩:=F45;exact fun s v=>.of_eq rfl
 have T:Defs K mg ⟨(f0,g0),(f1,g1),(f2,g2),(f3,g3),(f4,g4),(f5,g5),(f6,g6),(f7,g7),(f8,g8),(f9,g9),(f10,g10),(f11,g11),(f12,g12),(f13,g13),(f14,g14),(f15,g15),(f16,g16),(f17,g17),(f18,g18),(f19,g19),(n_lay_if,g20),(n_lay_while,g21),(n_lay_repeat,g22),(n_lay_try,g23),(f24,g24),(f25,g25),(f26,g26),(f27,g27),(f28,g28),(f29,g29),(f30,g30),(f31,g31),(f32,g32),(f33,g33),(f34,g34),(f35,g35),(f36,g36),(f37,g37),(f38,g38),(f39,g39),(f40,g40),(f41,g41),(f42,g42),(f43,g43),(f44,g44),(fa,g45),cA,dh,fU,fH,adT⟩:=⟨⟨F0,F0.binds fun _ _ _ _ _ _=>el1 fun _=>rfl,m0⟩,⟨F1,F1.binds fun _ _ _ _ _ _=>el1 fun _=>rfl,m1⟩,⟨F2,F2.binds fun _ _ _ _ _ _=>el2 fun _ _=>rfl,m2⟩,⟨F3,F3.binds fun _ _ _ _ _ _=>el1 fun _=>rfl,m3⟩,⟨F4,F4.binds fun _ _ _ _ _ _=>el2 fun _ _=>rfl,m4⟩,⟨F5,F5.binds fun _ _ _ _ _ _=>el2 fun _ _=>rfl,m5⟩,⟨F6,F6.binds fun _ _ _ _ _ _=>el2 fun _ _=>rfl,m6⟩,⟨F7,F7.binds fun _ _ _ _ _ _=>el1 fun _=>rfl,m7⟩,⟨F8,F8.binds fun _ _ _ _ _ _=>el1 fun _=>rfl,m8⟩,⟨F9,F9.binds fun _ _ _ _ _ _=>el2 fun _ _=>rfl,m9⟩,⟨F10,F10.binds fun _ _ _ _ _ _=>el1 fun _=>rfl,m10⟩,⟨F11,F11.binds fun _ _ _ _ _ _=>el1 fun _=>rfl,m11⟩,⟨F12,F12.binds fun _ _ _ _ _ _=>el2 fun _ _=>rfl,m12⟩,⟨F13,F13.binds fun _ _ _ _ _ _=>el1 fun _=>rfl,m13⟩,⟨F14,F14.binds fun _ _ _ _ _ _=>el2 fun _ _=>rfl,m14⟩,⟨F15,F15.binds fun _ _ _ _ _ _=>el2 fun _ _=>rfl,m15⟩,⟨F16,F16.binds fun _ _ _ _ _ _=>el2 fun _ _=>rfl,m16⟩,⟨F17,F17.binds fun _ _ _ _ _ _=>el3 fun _ _ _=>rfl,m17⟩,⟨F18,F18.binds fun _ _ _ _ _ _=>el2 fun _ _=>rfl,m18⟩,⟨F19,F19.binds fun _ _ _ _ _ _=>el2 fun _ _=>rfl,m19⟩,⟨F20,F20.binds fun _ _ _ _ _ _=>el2 fun _ _=>rfl,m20⟩,⟨F21,F21.binds fun _ _ _ _ _ _=>el2 fun _ _=>rfl,m21⟩,⟨F22,F22.binds fun _ _ _ _ _ _=>el2 fun _ _=>rfl,m22⟩,⟨F23,F23.binds fun _ _ _ _ _ _=>el2 fun _ _=>rfl,m23⟩,⟨F24,F24.binds fun _ _ _ _ _ _=>el2 fun _ _=>rfl,m24⟩,⟨F25,F25.binds fun _ _ _ _ _ _=>el1 fun _=>rfl,m25⟩,⟨F26,F26.binds fun _ _ _ _ _ _=>el2 fun _ _=>rfl,m26⟩,⟨F27,F27.binds fun _ _ _ _ _ _=>el2 fun _ _=>rfl,m27⟩,⟨F28,F28.binds fun _ _ _ _ _ _=>el3 fun _ _ _=>rfl,m28⟩,⟨F29,F29.binds fun _ _ _ _ _ _=>el2 fun _ _=>rfl,m29⟩,⟨F30,F30.binds fun _ _ _ _ _ _=>el3 fun _ _ _=>rfl,m30⟩,⟨F31,F31.binds fun _ _ _ _ _ _=>el4 fun _ _ _ _=>rfl,m31⟩,⟨F32,F32.binds fun _ _ _ _ _ _=>el2 fun _ _=>rfl,m32⟩,⟨F33,F33.binds fun _ _ _ _ _ _=>el3 fun _ _ _=>rfl,m33⟩,⟨F34,F34.binds fun _ _ _ _ _ _=>el5 fun _ _ _ _ _=>rfl,m34⟩,⟨F35,F35.binds fun _ _ _ _ _ _=>el4 fun _ _ _ _=>rfl,m35⟩,⟨F36,F36.binds fun _ _ _ _ _ _=>el2 fun _ _=>rfl,m36⟩,⟨F37,F37.binds fun _ _ _ _ _ _=>el4 fun _ _ _ _=>rfl,m37⟩,⟨F38,F38.binds fun _ _ _ _ _ _=>el6 fun _ _ _ _ _ _=>rfl,m38⟩,⟨F39,F39.binds fun _ _ _ _ _ _=>el5 fun _ _ _ _ _=>rfl,m39⟩,⟨F40,F40.binds fun _ _ _ _ _ _=>el1 fun _=>rfl,m40⟩,⟨F41,F41.binds fun _ _ _ _ _ _=>el1 fun _=>rfl,m41⟩,⟨F42,F42.binds fun _ _ _ _ _ _=>el2 fun _ _=>rfl,m42⟩,⟨F43,F43.binds fun _ _ _ _ _ _=>el2 fun _ _=>rfl,m43⟩,⟨F44,F44.binds fun _ _ _ _ _ _=>el3 fun _ _ _=>rfl,m44⟩,⟨F45,F45.binds fun _ _ _ _ _ _=>el1 fun _=>rfl,m45⟩,fR X G z0,fR X G z1,fR X G z2,fR X G z3,fR X G z4,fR X G z5,fR X G z6,fR X G z7,fR X G z8,fR X G z9,fR X G z10,fR X G z11,fR X G z12⟩
 have GL:Glb l.prog w K mg ⟨(f0,g0),(f1,g1),(f2,g2),(f3,g3),(f4,g4),(f5,g5),(f6,g6),(f7,g7),(f8,g8),(f9,g9),(f10,g10),(f11,g11),(f12,g12),(f13,g13),(f14,g14),(f15,g15),(f16,g16),(f17,g17),(f18,g18),(f19,g19),(n_lay_if,g20),(n_lay_while,g21),(n_lay_repeat,g22),(n_lay_try,g23),(f24,g24),(f25,g25),(f26,g26),(f27,g27),(f28,g28),(f29,g29),(f30,g30),(f31,g31),(f32,g32),(f33,g33),(f34,g34),(f35,g35),(f36,g36),(f37,g37),(f38,g38),(f39,g39),(f40,g40),(f41,g41),(f42,g42),(f43,g43),(f44,g44),(fa,g45),cA,dh,fU,fH,adT⟩:=⟨i5 X G yEXPRESSIONS,KJ mEXPRESSIONS luEXPRESSIONS teEXPRESSIONS Jy,i5 X G ySTATEMENTS,KJ mSTATEMENTS luSTATEMENTS teSTATEMENTS Ih,i5 X G yNESTS,wB.mk mNESTS luNESTS teNESTS JQ,i5 X G yROW_WORDS,wB.mk mROW_WORDS luROW_WORDS teROW_WORDS QC⟩;obtain ⟨qZ,g___init__,F___init__,M___init__⟩:=u___init__;obtain ⟨KY,g_lay,F_lay,M_lay⟩:=u_lay;obtain ⟨yP,g_leave,F_leave,M_leave⟩:=u_leave;obtain ⟨Cr,g_lead,F_lead,M_lead⟩:=u_lead;have S:Sht K mg ⟨C,(qZ,g___init__),(KY,g_lay),(yP,g_leave),(Cr,g_lead)⟩:=⟨⟨pg,hd,po,sa⟩,⟨mk,M___init__.at_,M___init__.fn,kc⟩,i5 X G ySheet,nN,nR,nC,nS,nP,F___init__,F___init__.binds fun _ _ _ _ _ _=>el2 fun _ _=>rfl,F_lay,F_lay.binds fun _ _ _ _ _ _=>el2 fun _ _=>rfl,M_lay,F_leave,F_leave.binds fun _ _ _ _ _ _=>el1 fun _=>rfl,M_leave,F_lead,F_lead.binds fun _ _ _ _ _ _=>el3 fun _ _ _=>rfl,M_lead⟩;exact⟨fun q hq=>by cases bS.mp hq; exact⟨⟨_,CT⟩,np⟩,g45,BL,fun base _ _ BM=>Ou T GL S BM CT⟩
theorem walk{l:PySem.W.OpenLaw}{q:uv}{XP:(MG)->Heap->Prop}{d:DefRec}{K:Params->PySem.W.Frag}{pt:Addr}(hn:l.most=some 63)(hdf:d.params.defaults=[])
  (hY:∀(w:xf) (h:Heap),YP w h->(K w.params).In h/\∀ q∈[pt],h.get? q=some (PySem.W.tabObj #[]))
  (F:∀(w:xf) (mg:MG) (fa:Addr) (h:Heap),(K w.params).In h->h.Ns ww mg->mg d.name=some (.ref fa)->
   (∀ q∈[pt],(∃ cd,Cdh (K w.params) cd q)/\(K w.params).lookup q=none)/\∃ fd:vy,(∀(s:sr) (u:rn),Ua s fd ⟨[u],[]⟩ [("_law_script",u)])/\∀ base:Heap,(K w.params).In base->base.Ns ww mg->Bm mg base->bw l.prog w (K w.params) mg base CX0 24 fa fd ["_law_script"] (zy (K w.params) pt)) :
  PySem.W.WalkO q loose XP YP l.row.toRowW d [] (fun f vs=>PySem.call f vs):=
 L2.Iu (n:=63) (k:=24) (x:= "_law_script") (CX:=fun _=>CX0) (sp:=fun w=>zy (K w.params) pt) (ts:=[pt]) hn (by decide) hdf ⟨rfl,by decide,by decide,rfl⟩ hY F (fun _ _ a ns hl hT hS=>⟨a,ns,rfl,hS,hl,hT pt (bS.mpr rfl),fun _=>rfl⟩) fun _ _ _ _ _ z=>z
end K37
theorem PySem.W.Fast.tw6695810871410638570 : True := trivial
theorem PySem.W.Fast.tw14992539345048035909 : True := trivial
theorem PySem.W.Fast.tw1134060627454062664 : True := trivial
theorem PySem.W.Fast.tw12845229504568524655 : True := trivial
theorem PySem.W.Fast.tw6340306016148275126 : True := trivial
theorem PySem.W.Fast.tw18312081641975865937 : True := trivial
theorem PySem.W.Fast.tw14912045197822499559 : True := trivial
theorem PySem.W.Fast.tw16720039282758344593 : True := trivial
theorem PySem.W.Fast.tw9275834280583284170 : True := trivial
theorem PySem.W.Fast.tw17835494235120501893 : True := trivial
theorem PySem.W.Fast.tw1477892590422214030 : True := trivial
theorem PySem.W.Fast.tw3189347456826560385 : True := trivial
theorem PySem.W.Fast.tw11748741131745465622 : True := trivial
theorem PySem.W.Fast.tw1379952802611203858 : True := trivial
theorem PySem.W.Fast.tw16435417427666093404 : True := trivial
theorem PySem.W.Fast.tw11417104801276985611 : True := trivial
theorem PySem.W.Fast.tw6688068053010661180 : True := trivial
theorem PySem.W.Fast.tw7328857068576661794 : True := trivial
theorem PySem.W.Fast.tw6738202966466000321 : True := trivial
theorem PySem.W.Fast.tw2222756321390941098 : True := trivial
theorem PySem.W.Fast.tw2596935122476376564 : True := trivial
theorem PySem.W.Fast.tw4089130663115920482 : True := trivial
theorem PySem.W.Fast.tw2385567187919047440 : True := trivial
theorem PySem.W.Fast.tw9558976575750907651 : True := trivial
theorem PySem.W.Fast.tw13004593885582778217 : True := trivial
theorem PySem.W.Fast.tw15239581483707622978 : True := trivial
theorem PySem.W.Fast.tw17299838969209020909 : True := trivial
theorem PySem.W.Fast.tw18247148077848641325 : True := trivial
theorem PySem.W.Fast.tw2936800956383729334 : True := trivial
theorem PySem.W.Fast.tw6742640357718736079 : True := trivial
theorem PySem.W.Fast.tw11797803288673087472 : True := trivial
theorem PySem.W.Fast.tw2069204935809955131 : True := trivial
theorem PySem.W.Fast.tw15784068295957387778 : True := trivial
theorem PySem.W.Fast.tw9012571569160071123 : True := trivial
theorem PySem.W.Fast.tw14103645323139511220 : True := trivial
theorem PySem.W.Fast.tw2627878998141128369 : True := trivial
theorem PySem.W.Fast.tw2384144853826376517 : True := trivial
theorem PySem.W.Fast.tw9839749045442281734 : True := trivial
theorem PySem.W.Fast.tw5576402342701605499 : True := trivial
theorem PySem.W.Fast.tw9646286086260435703 : True := trivial
theorem PySem.W.Fast.tw18201632742179451772 : True := trivial
theorem PySem.W.Fast.tw3857902596923908625 : True := trivial
theorem PySem.W.Fast.tw1973381998610969242 : True := trivial
theorem PySem.W.Fast.tw11482807765308006077 : True := trivial
theorem PySem.W.Fast.tw319459735448648493 : True := trivial
theorem PySem.W.Fast.tw16137445584011769607 : True := trivial
theorem PySem.W.Fast.tw14798246217735572726 : True := trivial
theorem PySem.W.Fast.tw4044699210464880634 : True := trivial
theorem PySem.W.Fast.tw18191368643851578420 : True := trivial
theorem PySem.W.Fast.tw4420963500063657085 : True := trivial
theorem PySem.W.Fast.tw7141339246618777357 : True := trivial
theorem PySem.W.Fast.tw14381196066292213527 : True := trivial
theorem PySem.W.Fast.tw14007664362724212351 : True := trivial
theorem PySem.W.Fast.tw16976642387139842662 : True := trivial
theorem PySem.W.Fast.tw9971560741189274196 : True := trivial
theorem PySem.W.Fast.tw17380502156436205523 : True := trivial
theorem PySem.W.Fast.tw3373846920767231925 : True := trivial
theorem PySem.W.Fast.tw11285249881383878668 : True := trivial
theorem PySem.W.Fast.tw16958518542547530578 : True := trivial
theorem PySem.W.Fast.tw13001319687065915903 : True := trivial
theorem PySem.W.Fast.tw10725147989414189287 : True := trivial
theorem PySem.W.Fast.tw13467802494931852377 : True := trivial
theorem PySem.W.Fast.tw10973946799229919204 : True := trivial
theorem PySem.W.Fast.tw5137426376791340972 : True := trivial
theorem PySem.W.Fast.tw3643136929686519070 : True := trivial
theorem PySem.W.Fast.tw3064128288013186068 : True := trivial
theorem PySem.W.Fast.tw17461133144392392248 : True := trivial
theorem PySem.W.Fast.tw14255243576371449278 : True := trivial
theorem PySem.W.Fast.tw8976108235585747223 : True := trivial
theorem PySem.W.Fast.tw15825653615440187811 : True := trivial
theorem PySem.W.Fast.tw15196078744000915357 : True := trivial
theorem PySem.W.Fast.tw16539211095823652558 : True := trivial
theorem PySem.W.Fast.tw11179186831506113424 : True := trivial
theorem PySem.W.Fast.tw7703834458739772947 : True := trivial
theorem PySem.W.Fast.tw11932390421915716715 : True := trivial
theorem PySem.W.Fast.tw936891528447957663 : True := trivial
theorem PySem.W.Fast.tw10129611840835366547 : True := trivial
theorem PySem.W.Fast.tw12063754736334443718 : True := trivial
theorem PySem.W.Fast.tw10960819223953533349 : True := trivial
theorem PySem.W.Fast.tw6863756587476610746 : True := trivial
theorem PySem.W.Fast.tw12011744527929417482 : True := trivial
theorem PySem.W.Fast.tw7391421375533552292 : True := trivial
theorem PySem.W.Fast.tw15772991358236460488 : True := trivial
theorem PySem.W.Fast.tw752600120059656998 : True := trivial
theorem PySem.W.Fast.tw5319693499385276028 : True := trivial
theorem PySem.W.Fast.tw15477061456462998237 : True := trivial
theorem PySem.W.Fast.tw7504278485428860342 : True := trivial
theorem PySem.W.Fast.tw3118870686144632272 : True := trivial
theorem PySem.W.Fast.tw14109752563129475634 : True := trivial
theorem PySem.W.Fast.tw13239526066101723253 : True := trivial
theorem PySem.W.Fast.tw1555987758183521647 : True := trivial
theorem PySem.W.Fast.tw15204454762473642669 : True := trivial
theorem PySem.W.Fast.tw8208714078098234109 : True := trivial
theorem PySem.W.Fast.tw15909412973620074158 : True := trivial
theorem PySem.W.Fast.tw2764763672858311138 : True := trivial
theorem PySem.W.Fast.tw6163400549469525108 : True := trivial
theorem PySem.W.Fast.tw15000917432613241082 : True := trivial
theorem PySem.W.Fast.tw3193292516752786702 : True := trivial
theorem PySem.W.Fast.tw1210892876202516855 : True := trivial
theorem PySem.W.Fast.tw4987988249574881908 : True := trivial
theorem PySem.W.Fast.tw12795572876109415032 : True := trivial
theorem PySem.W.Fast.tw11110449584556076104 : True := trivial
theorem PySem.W.Fast.tw9483180911852274599 : True := trivial
theorem PySem.W.Fast.tw11340201257133471657 : True := trivial
theorem PySem.W.Fast.tw13519111528852114357 : True := trivial
theorem PySem.W.Fast.tw14642198183128068270 : True := trivial
theorem PySem.W.Fast.tw12663578947463944791 : True := trivial
theorem PySem.W.Fast.tw12185554705262063731 : True := trivial
theorem PySem.W.Fast.tw15671649212732486644 : True := trivial
theorem PySem.W.Fast.tw4305711667523189025 : True := trivial
theorem PySem.W.Fast.tw8427163674316465005 : True := trivial
theorem PySem.W.Fast.tw7054331371725427352 : True := trivial
theorem PySem.W.Fast.tw5269100226561457388 : True := trivial
theorem PySem.W.Fast.tw5722539789976855159 : True := trivial
theorem PySem.W.Fast.tw15722944731032270488 : True := trivial
theorem PySem.W.Fast.tw18033543449773759711 : True := trivial
theorem PySem.W.Fast.tw8998825074316254309 : True := trivial
theorem PySem.W.Fast.tw15107244711366370159 : True := trivial
theorem PySem.W.Fast.tw6831143517748211215 : True := trivial
theorem PySem.W.Fast.tw1429153981389212745 : True := trivial
theorem PySem.W.Fast.tw6638159431184492641 : True := trivial
theorem PySem.W.Fast.tw15532438939731873703 : True := trivial
theorem PySem.W.Fast.tw16195686047364538567 : True := trivial
theorem PySem.W.Fast.tw103717699419979924 : True := trivial
theorem PySem.W.Fast.tw12380834244609152969 : True := trivial
theorem PySem.W.Fast.tw12081929609254925609 : True := trivial
theorem PySem.W.Fast.tw10384604701610351138 : True := trivial
theorem PySem.W.Fast.tw7103886904394778762 : True := trivial
theorem PySem.W.Fast.tw16640473155124713744 : True := trivial
theorem PySem.W.Fast.tw11276989997198994984 : True := trivial
theorem PySem.W.Fast.tw671771862028258972 : True := trivial
theorem PySem.W.Fast.tw4237786422559555731 : True := trivial
theorem PySem.W.Fast.tw8984965279982652002 : True := trivial
theorem PySem.W.Fast.tw4606516912831586764 : True := trivial
theorem PySem.W.Fast.tw9600940073243828081 : True := trivial
theorem PySem.W.Fast.tw13321387412607544028 : True := trivial
theorem PySem.W.Fast.tw17146543665447742721 : True := trivial
theorem PySem.W.Fast.tw9013399932347326782 : True := trivial
theorem PySem.W.Fast.tw7613996370163801384 : True := trivial
theorem PySem.W.Fast.tw15900039906118430813 : True := trivial
theorem PySem.W.Fast.tw7118357115003588838 : True := trivial
theorem PySem.W.Fast.tw14947126898067811158 : True := trivial
theorem PySem.W.Fast.tw17739480234129447735 : True := trivial
theorem PySem.W.Fast.tw2830486874903282366 : True := trivial
theorem PySem.W.Fast.tw15471699638009476892 : True := trivial
theorem PySem.W.Fast.tw5516848428348101406 : True := trivial
theorem PySem.W.Fast.tw11665987268652799923 : True := trivial
theorem PySem.W.Fast.tw12644152473067633292 : True := trivial
theorem PySem.W.Fast.tw689973543913095991 : True := trivial
theorem PySem.W.Fast.tw13748646965519231485 : True := trivial
theorem PySem.W.Fast.tw5600387466756806704 : True := trivial
theorem PySem.W.Fast.tw11680621494587010904 : True := trivial
theorem PySem.W.Fast.tw1583932593923010943 : True := trivial
theorem PySem.W.Fast.tw13448634852176202693 : True := trivial
theorem PySem.W.Fast.tw17368984602491440948 : True := trivial
theorem PySem.W.Fast.tw6681300280034113979 : True := trivial
theorem PySem.W.Fast.tw9468219049742347682 : True := trivial
theorem PySem.W.Fast.tw6769161441174226405 : True := trivial
theorem PySem.W.Fast.tw1209732554549444410 : True := trivial
theorem PySem.W.Fast.tw4447880166546282204 : True := trivial
theorem PySem.W.Fast.tw5647639027827906668 : True := trivial
theorem PySem.W.Fast.tw18345688923039363191 : True := trivial
theorem PySem.W.Fast.tw3635359811772404607 : True := trivial
theorem PySem.W.Fast.tw6752618784908870649 : True := trivial
theorem PySem.W.Fast.tw13892770737177906607 : True := trivial
theorem PySem.W.Fast.tw1020726702064185462 : True := trivial
theorem PySem.W.Fast.tw509868608467014255 : True := trivial
theorem PySem.W.Fast.tw8531368961918216149 : True := trivial
theorem PySem.W.Fast.tw4993155990657098826 : True := trivial
theorem PySem.W.Fast.tw584266323127149418 : True := trivial
theorem PySem.W.Fast.tw5050310774528489980 : True := trivial
theorem PySem.W.Fast.tw6564000240353392653 : True := trivial
theorem PySem.W.Fast.tw8061460786799658334 : True := trivial
theorem PySem.W.Fast.tw8008900714894094089 : True := trivial
theorem PySem.W.Fast.tw7736067329309797718 : True := trivial
theorem PySem.W.Fast.tw11108290315703400060 : True := trivial
theorem PySem.W.Fast.tw12516974590243074694 : True := trivial
theorem PySem.W.Fast.tw12580678114759046302 : True := trivial
theorem PySem.W.Fast.tw16745813951314574303 : True := trivial
theorem PySem.W.Fast.tw4759992839262720057 : True := trivial
theorem PySem.W.Fast.tw17131405790103136109 : True := trivial
theorem PySem.W.Fast.tw6637361046250769498 : True := trivial
theorem PySem.W.Fast.tw2613101599675243878 : True := trivial
theorem PySem.W.Fast.tw16662110837474010399 : True := trivial
theorem PySem.W.Fast.tw7078940424071012394 : True := trivial
theorem PySem.W.Fast.tw13908179475553909746 : True := trivial
theorem PySem.W.Fast.tw12388734701768453667 : True := trivial
theorem PySem.W.Fast.tw12207945867113248803 : True := trivial
theorem PySem.W.Fast.tw4972044793265957028 : True := trivial
theorem PySem.W.Fast.tw4038211719528689756 : True := trivial
theorem PySem.W.Fast.tw4433300545260481151 : True := trivial
theorem PySem.W.Fast.tw6290254208741254856 : True := trivial
theorem PySem.W.Fast.tw6549358798036235873 : True := trivial
theorem PySem.W.Fast.tw9398305157210905690 : True := trivial
theorem PySem.W.Fast.tw7045077167828519002 : True := trivial
theorem PySem.W.Fast.tw6652563782620490493 : True := trivial
theorem PySem.W.Fast.tw3875489099290958857 : True := trivial
theorem PySem.W.Fast.tw17289032515048383575 : True := trivial
theorem PySem.W.Fast.tw4790760053815534720 : True := trivial
theorem PySem.W.Fast.tw9082453805883062791 : True := trivial
theorem PySem.W.Fast.tw6805865327326891242 : True := trivial
theorem PySem.W.Fast.tw3798626684788624563 : True := trivial
theorem PySem.W.Fast.tw10639680275132778326 : True := trivial
theorem PySem.W.Fast.tw2813450642082826288 : True := trivial
theorem PySem.W.Fast.tw14790785675839969403 : True := trivial
theorem PySem.W.Fast.tw17363258447841821550 : True := trivial
theorem PySem.W.Fast.tw10764015535191446649 : True := trivial
theorem PySem.W.Fast.tw3842350013857427785 : True := trivial
theorem PySem.W.Fast.tw13943486162447929130 : True := trivial
theorem PySem.W.Fast.tw11407577696709543009 : True := trivial
theorem PySem.W.Fast.tw7299813164665000347 : True := trivial
theorem PySem.W.Fast.tw6040657542878291455 : True := trivial
theorem PySem.W.Fast.tw5129673434325112805 : True := trivial
theorem PySem.W.Fast.tw17613789407476158426 : True := trivial
theorem PySem.W.Fast.tw2470653397161546456 : True := trivial
theorem PySem.W.Fast.tw8142800566448956761 : True := trivial
theorem PySem.W.Fast.tw5113557527885747933 : True := trivial
theorem PySem.W.Fast.tw2504121460541368534 : True := trivial
theorem PySem.W.Fast.tw4033209071216257940 : True := trivial
theorem PySem.W.Fast.tw10137663127615029799 : True := trivial
theorem PySem.W.Fast.tw17578553721294152576 : True := trivial
theorem PySem.W.Fast.tw6828400838079862098 : True := trivial
theorem PySem.W.Fast.tw8171622833304187895 : True := trivial
theorem PySem.W.Fast.tw16820316742146968224 : True := trivial
theorem PySem.W.Fast.tw18100285345459115555 : True := trivial
theorem PySem.W.Fast.tw3882245911217462711 : True := trivial
theorem PySem.W.Fast.tw6285105759630125271 : True := trivial
theorem PySem.W.Fast.tw14729834600130052457 : True := trivial
theorem PySem.W.Fast.tw4219183868163416022 : True := trivial
theorem PySem.W.Fast.tw13615841758055124619 : True := trivial
theorem PySem.W.Fast.tw3401233488426707154 : True := trivial
theorem PySem.W.Fast.tw16105453495616826775 : True := trivial
theorem PySem.W.Fast.tw5153853479628163633 : True := trivial
theorem PySem.W.Fast.tw9055049667497935033 : True := trivial
theorem PySem.W.Fast.tw1688058104542461252 : True := trivial
theorem PySem.W.Fast.tw14395818275451818584 : True := trivial
theorem PySem.W.Fast.tw16868581286326381594 : True := trivial
theorem PySem.W.Fast.tw1168322723860862913 : True := trivial
theorem PySem.W.Fast.tw15980693528345081161 : True := trivial
theorem PySem.W.Fast.tw9995121682902205896 : True := trivial
theorem PySem.W.Fast.tw18324279375241356158 : True := trivial
theorem PySem.W.Fast.tw14011261093974245670 : True := trivial
theorem PySem.W.Fast.tw9182498767763906600 : True := trivial
theorem PySem.W.Fast.tw18053806405308274955 : True := trivial
theorem PySem.W.Fast.tw10941122357184472711 : True := trivial
theorem PySem.W.Fast.tw8346869772041413177 : True := trivial
theorem PySem.W.Fast.tw3080210130223053648 : True := trivial
theorem PySem.W.Fast.tw14442065349971448271 : True := trivial
theorem PySem.W.Fast.tw17629573929718328606 : True := trivial
theorem PySem.W.Fast.tw15361648460959180138 : True := trivial
open PySem PySem.W PyProof.Rows
set_option maxRecDepth 100000 in
set_option maxHeartbeats 0 in
theorem PySem.Challenge.cw_warmrows_k37_names_of_bodies_holds : PySem.Challenge.rw_warmrows_k37_names_of_bodies.Holds := by
 w_on; o_law; k_head; (case hw=>w_witness2)
 k_fill
 refine K37.walk (l:=PySem.Challenge.rw_warmrows_k37_names_of_bodies) rfl rfl (fun w h Y=>L2.Mx Y) ?F
 case F=>
  intro w mg fa h KX G hmg
  refine' K37.all_mk KX G hmg (K37.mkF KX G ?a0 ?l0 ?c0 ?k0) (K37.mkF KX G ?a1 ?l1 ?c1 ?k1) (K37.mkF KX G ?a2 ?l2 ?c2 ?k2) (K37.mkF KX G ?a3 ?l3 ?c3 ?k3) (K37.mkF KX G ?a4 ?l4 ?c4 ?k4) (K37.mkF KX G ?a5 ?l5 ?c5 ?k5) (K37.mkF KX G ?a6 ?l6 ?c6 ?k6) (K37.mkF KX G ?a7 ?l7 ?c7 ?k7) (K37.mkF KX G ?a8 ?l8 ?c8 ?k8) (K37.mkF KX G ?a9 ?l9 ?c9 ?k9) (K37.mkF KX G ?a10 ?l10 ?c10 ?k10) (K37.mkF KX G ?a11 ?l11 ?c11 ?k11) (K37.mkF KX G ?a12 ?l12 ?c12 ?k12) (K37.mkF KX G ?a13 ?l13 ?c13 ?k13) (L2.SQ KX G ?a14 ?l14 ?c14 ?k14 ?lc ?h11 ?h18 ?h7 ?h9 ?h10 ?ne) (K37.mkF KX G ?a15 ?l15 ?c15 ?k15) (K37.mkF KX G ?a16 ?l16 ?c16 ?k16) (K37.mkF KX G ?a17 ?l17 ?c17 ?k17) (K37.mkF KX G ?a18 ?l18 ?c18 ?k18) (K37.mkF KX G ?a19 ?l19 ?c19 ?k19) (K37.mkF KX G ?a20 ?l20 ?c20 ?k20) (K37.mkF KX G ?a21 ?l21 ?c21 ?k21) (K37.mkF KX G ?a22 ?l22 ?c22 ?k22) (K37.mkF KX G ?a23 ?l23 ?c23 ?k23) (K37.mkF KX G ?a24 ?l24 ?c24 ?k24) (K37.mkF KX G ?a25 ?l25 ?c25 ?k25) (K37.mkF KX G ?a26 ?l26 ?c26 ?k26) (K37.mkF KX G ?a27 ?l27 ?c27 ?k27) (K37.mkF KX G ?a28 ?l28 ?c28 ?k28) (K37.mkF KX G ?a29 ?l29 ?c29 ?k29) (K37.mkF KX G ?a30 ?l30 ?c30 ?k30) (K37.mkF KX G ?a31 ?l31 ?c31 ?k31) (K37.mkF KX G ?a32 ?l32 ?c32 ?k32) (K37.mkF KX G ?a33 ?l33 ?c33 ?k33) (K37.mkF KX G ?a34 ?l34 ?c34 ?k34) (K37.mkF KX G ?a35 ?l35 ?c35 ?k35) (K37.mkF KX G ?a36 ?l36 ?c36 ?k36) (K37.mkF KX G ?a37 ?l37 ?c37 ?k37) (K37.mkF KX G ?a38 ?l38 ?c38 ?k38) (K37.mkF KX G ?a39 ?l39 ?c39 ?k39) (K37.mkF KX G ?a40 ?l40 ?c40 ?k40) (K37.mkF KX G ?a41 ?l41 ?c41 ?k41) (K37.mkF KX G ?a42 ?l42 ?c42 ?k42) (K37.mkF KX G ?a43 ?l43 ?c43 ?k43) (K37.mkF KX G ?a44 ?l44 ?c44 ?k44) (K37.mkF KX G ?a45 ?l45 ?c45 ?k45) ?np ?z0 ?z1 ?z2 ?z3 ?z4 ?z5 ?z6 ?z7 ?z8 ?z9 ?z10 ?z11 ?z12 ?yEXPRESSIONS ?mEXPRESSIONS ?luEXPRESSIONS ?teEXPRESSIONS ?ySTATEMENTS ?mSTATEMENTS ?luSTATEMENTS ?teSTATEMENTS ?yNESTS ?mNESTS ?luNESTS ?teNESTS ?yROW_WORDS ?mROW_WORDS ?luROW_WORDS ?teROW_WORDS ?y_lay_if ?y_lay_while ?y_lay_repeat ?y_lay_try ?ySheet (K37.mkM ?pa0 ?pi0 ?pl0 ?pc0 ?pk0) (K37.mkM ?pa1 ?pi1 ?pl1 ?pc1 ?pk1) (K37.mkM ?pa2 ?pi2 ?pl2 ?pc2 ?pk2) (K37.mkM ?pa3 ?pi3 ?pl3 ?pc3 ?pk3) ?pg ?hd ?po ?sa ?mk ?kc ?nN ?nR ?nC ?nS ?nP
  case a0 | l0 | c0 | k0 | a1 | l1 | c1 | k1 | a2 | l2 | c2 | k2 | a3 | l3 | c3 | k3 | a4 | l4 | c4 | k4 | a5 | l5 | c5 | k5 | a6 | l6 | c6 | k6 | a7 | l7 | c7 | k7 | a8 | l8 | c8 | k8 | a9 | l9 | c9 | k9 | a10 | l10 | c10 | k10 | a11 | l11 | c11 | k11 | a12 | l12 | c12 | k12 | a13 | l13 | c13 | k13 | a14 | l14 | c14 | k14 | a15 | l15 | c15 | k15 | a16 | l16 | c16 | k16 | a17 | l17 | c17 | k17 | a18 | l18 | c18 | k18 | a19 | l19 | c19 | k19 | a20 | l20 | c20 | k20 | a21 | l21 | c21 | k21 | a22 | l22 | c22 | k22 | a23 | l23 | c23 | k23 | a24 | l24 | c24 | k24 | a25 | l25 | c25 | k25 | a26 | l26 | c26 | k26 | a27 | l27 | c27 | k27 | a28 | l28 | c28 | k28 | a29 | l29 | c29 | k29 | a30 | l30 | c30 | k30 | a31 | l31 | c31 | k31 | a32 | l32 | c32 | k32 | a33 | l33 | c33 | k33 | a34 | l34 | c34 | k34 | a35 | l35 | c35 | k35 | a36 | l36 | c36 | k36 | a37 | l37 | c37 | k37 | a38 | l38 | c38 | k38 | a39 | l39 | c39 | k39 | a40 | l40 | c40 | k40 | a41 | l41 | c41 | k41 | a42 | l42 | c42 | k42 | a43 | l43 | c43 | k43 | a44 | l44 | c44 | k44 | a45 | l45 | c45 | k45 | z0 | z1 | z2 | z3 | z4 | z5 | z6 | z7 | z8 | z9 | z10 | z11 | z12 | yEXPRESSIONS | ySTATEMENTS | yNESTS | yROW_WORDS | luEXPRESSIONS | luSTATEMENTS | luNESTS | luROW_WORDS | y_lay_if | y_lay_while | y_lay_repeat | y_lay_try | ySheet | pa0 | pi0 | pl0 | pc0 | pk0 | pa1 | pi1 | pl1 | pc1 | pk1 | pa2 | pi2 | pl2 | pc2 | pk2 | pa3 | pi3 | pl3 | pc3 | pk3 | pg | hd | po | sa | mk | kc | nN | nR | nC | nS | nP | lc=>k_is
  case mEXPRESSIONS | mSTATEMENTS | mNESTS | mROW_WORDS=>rfl
  case h11 | h18 | h7 | h9 | h10=>rfl
  case ne | np=>rfl
  case teEXPRESSIONS=>
   refine' K37.gq.cons ?rae0 ?rbe0 ?rce0 ?rde0 ?ree0
   (case rae0=>decide +kernel); (case rbe0=>k_is); (case rce0=>exact .nil); (case rde0=>show 0≤sizeLine; decide)
   refine' K37.gq.cons ?rae1 ?rbe1 ?rce1 ?rde1 ?ree1
   (case rae1=>decide +kernel); (case rbe1=>k_is); (case rce1=>exact(.cons ⟨_,rfl⟩ .nil)); (case rde1=>show 1≤sizeLine; decide)
   refine' K37.gq.cons ?rae2 ?rbe2 ?rce2 ?rde2 ?ree2
   (case rae2=>decide +kernel); (case rbe2=>k_is); (case rce2=>exact(.cons ⟨_,rfl⟩ .nil)); (case rde2=>show 1≤sizeLine; decide)
   refine' K37.gq.cons ?rae3 ?rbe3 ?rce3 ?rde3 ?ree3
   (case rae3=>decide +kernel); (case rbe3=>k_is); (case rce3=>exact(.cons ⟨_,rfl⟩ (.cons ⟨_,rfl⟩ .nil))); (case rde3=>show 2≤sizeLine; decide)
   refine' K37.gq.cons ?rae4 ?rbe4 ?rce4 ?rde4 ?ree4
   (case rae4=>decide +kernel); (case rbe4=>k_is); (case rce4=>exact(.cons ⟨_,rfl⟩ (.cons ⟨_,rfl⟩ (.cons ⟨_,rfl⟩ .nil)))); (case rde4=>show 3≤sizeLine; decide)
   refine' K37.gq.cons ?rae5 ?rbe5 ?rce5 ?rde5 ?ree5
   (case rae5=>decide +kernel); (case rbe5=>k_is); (case rce5=>exact(.cons ⟨_,rfl⟩ (.cons ⟨_,rfl⟩ .nil))); (case rde5=>show 2≤sizeLine; decide)
   refine' K37.gq.cons ?rae6 ?rbe6 ?rce6 ?rde6 ?ree6
   (case rae6=>decide +kernel); (case rbe6=>k_is); (case rce6=>exact(.cons ⟨_,rfl⟩ (.cons ⟨_,rfl⟩ .nil))); (case rde6=>show 2≤sizeLine; decide)
   refine' K37.gq.cons ?rae7 ?rbe7 ?rce7 ?rde7 ?ree7
   (case rae7=>decide +kernel); (case rbe7=>k_is); (case rce7=>exact(.cons ⟨_,rfl⟩ (.cons ⟨_,rfl⟩ .nil))); (case rde7=>show 2≤sizeLine; decide)
   refine' K37.gq.cons ?rae8 ?rbe8 ?rce8 ?rde8 ?ree8
   (case rae8=>decide +kernel); (case rbe8=>k_is); (case rce8=>exact(.cons ⟨_,rfl⟩ (.cons ⟨_,rfl⟩ .nil))); (case rde8=>show 2≤sizeLine; decide)
   refine' K37.gq.cons ?rae9 ?rbe9 ?rce9 ?rde9 ?ree9
   (case rae9=>decide +kernel); (case rbe9=>k_is); (case rce9=>exact(.cons ⟨_,rfl⟩ (.cons ⟨_,rfl⟩ .nil))); (case rde9=>show 2≤sizeLine; decide)
   refine' K37.gq.cons ?rae10 ?rbe10 ?rce10 ?rde10 ?ree10
   (case rae10=>decide +kernel); (case rbe10=>k_is); (case rce10=>exact(.cons ⟨_,rfl⟩ (.cons ⟨_,rfl⟩ .nil))); (case rde10=>show 2≤sizeLine; decide)
   exact .nil
  case teSTATEMENTS=>
   refine' K37.gq.cons ?ras0 ?rbs0 ?rcs0 ?rds0 ?res0
   (case ras0=>decide +kernel); (case rbs0=>k_is); (case rcs0=>exact(.cons ⟨_,rfl⟩ (.cons ⟨_,rfl⟩ .nil))); (case rds0=>show 2≤sizeLine; decide)
   refine' K37.gq.cons ?ras1 ?rbs1 ?rcs1 ?rds1 ?res1
   (case ras1=>decide +kernel); (case rbs1=>k_is); (case rcs1=>exact(.cons ⟨_,rfl⟩ (.cons ⟨_,rfl⟩ (.cons ⟨_,rfl⟩ .nil)))); (case rds1=>show 3≤sizeLine; decide)
   refine' K37.gq.cons ?ras2 ?rbs2 ?rcs2 ?rds2 ?res2
   (case ras2=>decide +kernel); (case rbs2=>k_is); (case rcs2=>exact(.cons ⟨_,rfl⟩ (.cons ⟨_,rfl⟩ .nil))); (case rds2=>show 2≤sizeLine; decide)
   refine' K37.gq.cons ?ras3 ?rbs3 ?rcs3 ?rds3 ?res3
   (case ras3=>decide +kernel); (case rbs3=>k_is); (case rcs3=>exact(.cons ⟨_,rfl⟩ .nil)); (case rds3=>show 1≤sizeLine; decide)
   refine' K37.gq.cons ?ras4 ?rbs4 ?rcs4 ?rds4 ?res4
   (case ras4=>decide +kernel); (case rbs4=>k_is); (case rcs4=>exact(.cons ⟨_,rfl⟩ .nil)); (case rds4=>show 1≤sizeLine; decide)
   refine' K37.gq.cons ?ras5 ?rbs5 ?rcs5 ?rds5 ?res5
   (case ras5=>decide +kernel); (case rbs5=>k_is); (case rcs5=>exact(.cons ⟨_,rfl⟩ .nil)); (case rds5=>show 1≤sizeLine; decide)
   refine' K37.gq.cons ?ras6 ?rbs6 ?rcs6 ?rds6 ?res6
   (case ras6=>decide +kernel); (case rbs6=>k_is); (case rcs6=>exact(.cons ⟨_,rfl⟩ .nil)); (case rds6=>show 1≤sizeLine; decide)
   refine' K37.gq.cons ?ras7 ?rbs7 ?rcs7 ?rds7 ?res7
   (case ras7=>decide +kernel); (case rbs7=>k_is); (case rcs7=>exact(.cons ⟨_,rfl⟩ (.cons ⟨_,rfl⟩ .nil))); (case rds7=>show 2≤sizeLine; decide)
   refine' K37.gq.cons ?ras8 ?rbs8 ?rcs8 ?rds8 ?res8
   (case ras8=>decide +kernel); (case rbs8=>k_is); (case rcs8=>exact(.cons ⟨_,rfl⟩ (.cons ⟨_,rfl⟩ (.cons ⟨_,rfl⟩ .nil)))); (case rds8=>show 3≤sizeLine; decide)
   refine' K37.gq.cons ?ras9 ?rbs9 ?rcs9 ?rds9 ?res9
   (case ras9=>decide +kernel); (case rbs9=>k_is); (case rcs9=>exact(.cons ⟨_,rfl⟩ (.cons ⟨_,rfl⟩ .nil))); (case rds9=>show 2≤sizeLine; decide)
   refine' K37.gq.cons ?ras10 ?rbs10 ?rcs10 ?rds10 ?res10
   (case ras10=>decide +kernel); (case rbs10=>k_is); (case rcs10=>exact(.cons ⟨_,rfl⟩ (.cons ⟨_,rfl⟩ .nil))); (case rds10=>show 2≤sizeLine; decide)
   refine' K37.gq.cons ?ras11 ?rbs11 ?rcs11 ?rds11 ?res11
   (case ras11=>decide +kernel); (case rbs11=>k_is); (case rcs11=>exact(.cons ⟨_,rfl⟩ (.cons ⟨_,rfl⟩ (.cons ⟨_,rfl⟩ .nil)))); (case rds11=>show 3≤sizeLine; decide)
   refine' K37.gq.cons ?ras12 ?rbs12 ?rcs12 ?rds12 ?res12
   (case ras12=>decide +kernel); (case rbs12=>k_is); (case rcs12=>exact(.cons ⟨_,rfl⟩ (.cons ⟨_,rfl⟩ (.cons ⟨_,rfl⟩ (.cons ⟨_,rfl⟩ .nil))))); (case rds12=>show 4≤sizeLine; decide)
   refine' K37.gq.cons ?ras13 ?rbs13 ?rcs13 ?rds13 ?res13
   (case ras13=>decide +kernel); (case rbs13=>k_is); (case rcs13=>exact(.cons ⟨_,rfl⟩ (.cons ⟨_,rfl⟩ .nil))); (case rds13=>show 2≤sizeLine; decide)
   refine' K37.gq.cons ?ras14 ?rbs14 ?rcs14 ?rds14 ?res14
   (case ras14=>decide +kernel); (case rbs14=>k_is); (case rcs14=>exact(.cons ⟨_,rfl⟩ (.cons ⟨_,rfl⟩ .nil))); (case rds14=>show 2≤sizeLine; decide)
   exact .nil
  case teNESTS=>exact(.cons rfl (.cons rfl (.cons rfl (.cons rfl .nil))))
  case teROW_WORDS=>exact(.cons ⟨_,rfl⟩ (.cons ⟨_,rfl⟩ .nil))
end
