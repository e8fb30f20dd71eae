import PyProof.Rows.All
import Wide.All
import OpenK.AllK
import Wide.FinOn
import Lean
import PyProof.EqAt
import PyProof.EqKinds
import PyProof.TupleCall
import KE.KTryMore
import PyProof.ExcAttrAll.ValueError
import PyProof.ExcBaseAll.ValueError
import PyProof.DictWalks
import PyProof.EnumIter
import PyProof.EnumFor
import PyProof.EnumMake
import PyProof.AttrMissHeap
import KE.KDictOf
import KE.KDictList
import PyProof.StrOps2
import KE.KSortTup
import PyProof.NeKinds
import PyProof.ReprRoads
import PyProof.CallFns
import PyProof.StrLawsRepr
import PyProof.Rows.SortStr
import PyProof.TupleOfSeq
import PyProof.ZipIter
import PyProof.Rows.StrJoinMade
import PyProof.Rows.SetFrom
import PyProof.WalksMore
import PyProof.Rows.StrClose
import PyProof.Rows.CatFin
import PyProof.StrLawsIn
import PySem.Challenge.RW_warmrows_k17_changes_back
set_option Elab.async false
set_option linter.all false
set_option maxRecDepth 100000
set_option maxHeartbeats 4000000
abbrev aa:=@List.length_map
abbrev ac:=@PySem.wpAny_bind
abbrev ae:=@List.getElem?_eq_getElem
abbrev af:=@PySem.lookup_relabel_local
abbrev am:=@Nat.le_refl
abbrev ar:=@PySem.Heap.get?_push_of_some
abbrev av:=@List.take_of_length_le
abbrev aw:=@List.map_append
abbrev ay:=@decide_eq_true
abbrev aE:=@Bool.false_ne_true
abbrev aI:=@PySem.wpAny_pure
abbrev aS:=@List.mem_singleton
abbrev aT:=@List.mem_cons_self
abbrev bc:=@List.getElem?_map
abbrev bg:=@List.mem_map
abbrev bj:=@List.getElem?_eq_some_iff
abbrev bn:=@PySem.Heap.get?_push_size
abbrev bo:=@List.size_toArray
abbrev br:=@List.length_take
abbrev bu:=@List.mem_cons
abbrev bv:=@decide_eq_false
abbrev bz:=@List.length_append
abbrev bE:=@List.mem_filter
abbrev bS:=@List.mem_append
abbrev bX:=@if_neg
abbrev cf:=@PySem.W.mg_of
abbrev ck:=@if_pos
abbrev cn:=@List.getElem_mem
abbrev cr:=@PySem.Heap.lt_size
abbrev cy:=@of_decide_eq_true
abbrev cz:=@List.mem_cons_of_mem
abbrev cE:=@List.mem_append_right
abbrev cK:=@PySem.sizeLine_eq
abbrev cS:=@PySem.Paired.length
abbrev dc:=@Nat.ne_of_lt
abbrev de:=@List.length_filter_le
abbrev dk:=@List.filter_cons
abbrev dm:=@List.length_singleton
abbrev dq:=@Nat.zero_le
abbrev dA:=@Classical.byContradiction
abbrev dC:=@Nat.le_trans
abbrev dE:=@Option.some.inj
abbrev dL:=@List.not_mem_nil
abbrev dP:=@List.mem_append_left
abbrev dQ:=@List.length_cons
abbrev dS:=@PySem.PassesOwn.never
abbrev d0:=@List.mem_map_of_mem
abbrev eA:=@Nat.lt_of_lt_of_le
abbrev eB:=@List.append_nil
abbrev eI:=@Array.length_toList
abbrev eJ:=@List.mem_of_getElem?
abbrev eK:=@PySem.W.mg_none_of
abbrev eL:=@List.map_cons
abbrev eM:=@List.map_congr_left
abbrev eQ:=@List.all_eq_true
abbrev eR:=@PyProof.Rows.slot_tuple_getitem
abbrev eS:=@List.filter_append
abbrev eT:=@PySem.wpAny_field
abbrev eW:=@List.nodup_cons
abbrev fb:=@List.map_map
abbrev fc:=@List.getElem_of_mem
abbrev fe:=@Nat.ne_of_gt
abbrev ff:=@Option.isSome_iff_exists
abbrev fg:=@PySem.wpAny_callSpecial?_slot
abbrev fh:=@PySem.F.plainAttrs_list
abbrev fk:=@PySem.wpAny_holding
abbrev fm:=@Bool.eq_iff_iff
abbrev fv:=@PySem.wpAny_newObj_type
abbrev fz:=@List.getElem?_append_right
abbrev fE:=@PySem.wpAny_setField_rec
abbrev fF:=@PySem.mem_of_lookup
abbrev fN:=@PySem.wpAny_call_entry
abbrev fR:=@PySem.wpAny_truthy_bool
abbrev fS:=@PySem.Around.under_plainId
abbrev fT:=@PySem.F.slot_list_append
abbrev gh:=@PySem.F.type_list_append
abbrev gp:=@List.getElem_map
abbrev gu:=@Nat.lt_succ_of_lt
abbrev gv:=@Bool.false_eq_true
abbrev gx:=@PySem.F.called_set
abbrev gy:=@List.mem_range
abbrev gE:=@PySem.Heap.size_push
abbrev gI:=@PySem.codeAny_builtin
abbrev gL:=@List.any_eq_true
abbrev gN:=@or_false
abbrev gS:=@PySem.W.kia_one
abbrev gT:=@Bool.and_eq_true
abbrev gX:=@List.lookup_cons
abbrev g6:=@List.getElem?_append_left
abbrev g9:=@List.nodup_append
abbrev hU:=@PySem.wpAny_seqItems
abbrev ia:=@PySem.AutoSeq1.wpAny_loadPart'
abbrev ib:=@List.find?_cons
abbrev ic:=@PySem.wpAny_mono
abbrev ie:=@PyProof.Rows.callWith_type1
abbrev ii:=@List.take_succ
abbrev ij:=@PySem.Heap.get?_push_ne
abbrev ik:=@Option.map_some
abbrev il:=@List.pairwise_iff_getElem
abbrev iA:=@List.take_append_drop
abbrev iE:=@Nat.lt_irrefl
abbrev iF:=@if_true
abbrev iL:=@List.nodup_nil
abbrev iN:=@PySem.wpAny_pyIter_list
abbrev iO:=@List.filter_sublist
abbrev iP:=@Nat.lt_trans
abbrev iS:=@PySem.plainId_quiet
abbrev iX:=@List.length_drop
abbrev i4:=@Nat.le_add_right
abbrev i5:=@PySem.wpAny_Call_Name_kw
abbrev i6:=@PySem.F.slot_tuple_iterator_next
abbrev i7:=@decide_eq_true_iff
abbrev i8:=@List.length_replicate
abbrev i9:=@PySem.wpAny_passesOwn
abbrev ja:=@List.getElem?_take_of_lt
abbrev jb:=@List.filterMap_cons
abbrev jn:=@List.length_reverse
abbrev jp:=@if_false
abbrev jv:=@PySem.wpAny_getItem_str_slice
abbrev jI:=@PySem.Heap.size_update
abbrev jS:=@List.cons_ne_nil
abbrev j3:=@Nat.add_sub_cancel_left
abbrev kc:=@List.mem_filterMap
abbrev ke:=@PySem.codeAny_mono
abbrev kg:=@PySem.W.cellsFrom_some
abbrev km:=@PySem.Heap.get?_update_other
abbrev kn:=@PySem.wpAny_rule
abbrev kq:=@Int.emod_lt_of_pos
abbrev kr:=@PySem.F.slot_zip_next
abbrev ku:=@Int.emod_nonneg
abbrev ky:=@Array.getElem?_toList
abbrev kz:=@PySem.F.slot_enumerate_next
abbrev kA:=@List.append_assoc
abbrev kB:=@PySem.wpAny_pyIter_enum
abbrev kC:=@decide_eq_true_eq
abbrev kF:=@Array.toArray_toList
abbrev kG:=@List.exists_cons_of_ne_nil
abbrev kH:=@List.getD_eq_getElem?_getD
abbrev kK:=@Ne.symm
abbrev kL:=@PySem.F.plain_any_loop
abbrev kM:=@Nat.lt_or_ge
abbrev kN:=@PySem.F.slot_tuple_getattribute
abbrev kP:=@PySem.Calls.call_function_entry
abbrev kQ:=@List.drop_eq_getElem_cons
abbrev kR:=@List.flatMap_append
abbrev kS:=@PySem.F.args_tuple_add_2
abbrev kT:=@PySem.wpAny_getItem_list_slice
abbrev kU:=@List.any_cons
abbrev kX:=@PySem.wpAny_comprehension_free
abbrev li:=@PySem.F.slot_list_getattribute
abbrev lj:=@PySem.Heap.IsSliceOf.new
abbrev lr:=@PySem.tupleKind_room_in1
abbrev lx:=@List.filter_filter
abbrev ly:=@PySem.wpAny_pyNext_tuple_item
abbrev lz:=@PySem.F.entry_tuple_add
abbrev lI:=@Nat.le_succ
abbrev lL:=@PyProof.Rows.F.plain_set_update_loop
abbrev lP:=@Nat.le_of_lt
abbrev lS:=@PySem.wpAny_pyNext_list_item
abbrev lT:=@PySem.wpAny_pyNext_tuple_end
abbrev me:=@List.take_sublist
abbrev mf:=@PySem.F.slot_tuple_add
abbrev mi:=@PySem.slot_list_getitem
abbrev mv:=@List.isEmpty_cons
abbrev mw:=@List.flatMap_cons
abbrev my:=@List.length_range
abbrev mB:=@PySem.wpAny_pyNext_list_end
abbrev mE:=@PySem.wpAny_eqBool_int
abbrev mI:=@Nat.lt_succ_self
abbrev mM:=@List.ext_getElem
abbrev mS:=@PySem.wpAny_onRaise
abbrev nh:=@PySem.wpAny_attempt
abbrev nk:=@PySem.wpAny_newList
abbrev nr:=@Array.mem_toList_iff
abbrev nw:=@PySem.wpAny_updateSeq_pair
abbrev ny:=@PySem.codeAny_call_builtin
abbrev nz:=@List.mem_of_mem_take
abbrev nB:=@PySem.wpAny_execs_nil
abbrev nE:=@List.length_nil
abbrev nI:=@List.forIn_cons
abbrev nK:=@PySem.post_val_or_str
abbrev nL:=@List.sum_append
abbrev nN:=@PyProof.Rows.entry_tuple_getitem
abbrev nS:=@Array.toList_append
abbrev nV:=@List.filter_eq_self
abbrev nX:=@PySem.Txt.slice_le
abbrev n4:=@List.all_map
abbrev n5:=@PyProof.Rows.slicePart_none
abbrev n9:=@List.forIn_nil
abbrev oq:=@PySem.wpAny_newTuple
abbrev ow:=@Bool.not_false
abbrev oz:=@PySem.wpAny_letGo
abbrev oB:=@PySem.evalPart_none
abbrev oC:=@not_or
abbrev oP:=@PyProof.Rows.listUpdate_at
abbrev oQ:=@List.map_take
section
namespace L2
open PySem PySem.Spec PyProof.Rows
abbrev Key:=Sum Int Str
def vf:Key→Value→Bool
 | .inl k,v=>Value.isInt k v
 | .inr x,v=>Value.isStrOf x v
def Qn(w:World):Key→Int
 | .inl k=>hashInt k
 | .inr x=>hashStr w x
theorem d8:∀ {k:Key} {v:Value},vf k v=true→(∃ i t,k=Sum.inl i∧v=Value.int i t)∨(∃ x t,k=Sum.inr x∧v=Value.str x t)
 | .inl i,v,h=>by
  obtain ⟨t,e⟩:=Value.isInt_shape (k:=i) (v:=v) h
  exact .inl ⟨i,t,rfl,e⟩
 | .inr x,v,h=>by
  obtain ⟨t,e⟩:=Value.isStrOf_shape (x:=x) (v:=v) h
  exact .inr ⟨x,t,rfl,e⟩
theorem Fl(i:Int)(t:Tok):vf (.inl i) (.int i t)=true:=by simp [vf,Value.isInt]
theorem Eh(x:Str)(t:Tok):vf (.inr x) (.str x t)=true:=by simp [vf,Value.isStrOf]
theorem M4(a b:Int):decide ((Sum.inl a:Key)=Sum.inl b)=(a == b):=by
 by_cases e:a=b
 ·subst e; simp
 ·have h:¬ (Sum.inl a:Key)=Sum.inl b:=fun q=>e (Sum.inl.inj q)
  rw [bv h]
  exact(beq_eq_false_iff_ne.mpr e).symm
theorem Mz(a b:Str):decide ((Sum.inr a:Key)=Sum.inr b)=decide (a=b):=by
 by_cases e:a=b
 ·subst e; simp
 ·have h:¬ (Sum.inr a:Key)=Sum.inr b:=fun q=>e (Sum.inr.inj q)
  rw [bv h,bv e]
theorem Mi(a:Int)(b:Str):decide ((Sum.inl a:Key)=Sum.inr b)=false:=bv (fun q=>nomatch q)
theorem N6(a:Str)(b:Int):decide ((Sum.inr a:Key)=Sum.inl b)=false:=bv (fun q=>nomatch q)
def cG(prog:Program)(w:World):PySem.KeyKind prog w Key where
 is:=vf
 hash:=Qn w
 inj:=fun v a b ha hb=>by
  rcases d8 ha with ⟨i,t,rfl,rfl⟩ | ⟨x,t,rfl,rfl⟩
  ·rcases d8 hb with ⟨j,u,rfl,e⟩ | ⟨y,u,rfl,e⟩
   ·injection e with e1 _; rw [e1]
   ·exact nomatch e
  ·rcases d8 hb with ⟨j,u,rfl,e⟩ | ⟨y,u,rfl,e⟩
   ·exact nomatch e
   ·injection e with e1 _; rw [e1]
 byValue:=fun k v h=>by
  rcases d8 h with ⟨i,t,rfl,rfl⟩ | ⟨x,t,rfl,rfl⟩ <;> rfl
 pyHash:=fun hv h=>by
  rcases d8 hv with ⟨i,t,rfl,rfl⟩ | ⟨x,t,rfl,rfl⟩
  ·exact wpAny_pyHash_int h
  ·exact wpAny_pyHash_str h
 eqBool:=fun hu hv h=>by
  rcases d8 hu with ⟨i,t,rfl,rfl⟩ | ⟨x,t,rfl,rfl⟩
  ·rcases d8 hv with ⟨j,u,rfl,rfl⟩ | ⟨y,u,rfl,rfl⟩
   ·rw [M4] at h; exact mE h
   ·rw [Mi] at h; exact SeqAt.EqAt.int_str i t y u _ _ _ _ h
  ·rcases d8 hv with ⟨j,u,rfl,rfl⟩ | ⟨y,u,rfl,rfl⟩
   ·rw [N6] at h; exact SeqAt.EqAt.str_int x t j u _ _ _ _ h
   ·rw [Mz] at h; exact wpAny_eqBool_str h
 «strs»:=fun k x t v h=>by
  rcases d8 h with ⟨i,u,rfl,e⟩ | ⟨y,u,rfl,e⟩
  ·exact nomatch e
  ·injection e with e1 _
   subst e1
   cases v <;> rfl
theorem Bo(prog:Program)(w:World)(k:Key)(v:Value):(cG prog w).is k v=vf k v:=rfl
theorem Ab(prog:Program)(w:World)(i:Int)(t:Tok):(cG prog w).is (.inl i) (.int i t)=true:=Fl i t
theorem zQ(prog:Program)(w:World)(x:Str)(t:Tok):(cG prog w).is (.inr x) (.str x t)=true:=Eh x t
inductive V where
 | non | bl (b:Bool) | int (i:Int) | str (x:Str) | byt (b:Array UInt8) | flt (b:UInt64) | ref (a:Addr) | ty (n:String)
 deriving DecidableEq
def RelV:V→Value→Prop
 | .non,u=>u=Value.none
 | .bl b,u=>u=Value.bool b
 | .int i,u=>∃ t,u=Value.int i t
 | .str x,u=>∃ t,u=Value.str x t
 | .byt b,u=>∃ t,u=Value.bytes b t
 | .flt b,u=>∃ t,u=Value.float b t
 | .ref a,u=>u=Value.ref a
 | .ty n,u=>u=Value.type n
abbrev Vals:List V→List Value→Prop:=Paired RelV
theorem Vals.length{xs:List V}{us:List Value}(r:Vals xs us):xs.length=us.length:=cS r
theorem Vals.get:∀ {xs:List V} {us:List Value} {i:Nat} {x:V},Vals xs us→xs[i]?=some x→∃ u,us[i]?=some u∧RelV x u
 | _,_,_,_,.nil,e=>by simp at e
 | _,_,0,_,.cons r _,e=>by simp at e; subst e; exact⟨_,rfl,r⟩
 | _,_,i+1,x,.cons _ t,e=>by
  obtain ⟨u,h1,h2⟩:=Vals.get (i:=i) (x:=x) t (by simpa using e)
  exact⟨u,by simpa using h1,h2⟩
theorem Vals.set{x:V}{u:Value}(r:RelV x u):∀ {xs:List V} {us:List Value} (i:Nat),Vals xs us→Vals (xs.set i x) (us.set i u)
 | _,_,_,.nil=>.nil
 | _,_,0,.cons _ t=>.cons r t
 | _,_,i+1,.cons q t=>.cons q (Vals.set r i t)
theorem Vals.append:∀ {xs ys:List V} {us ws:List Value},Vals xs us→Vals ys ws→Vals (xs++ys) (us++ws)
 | _,_,_,_,.nil,s=>s
 | _,_,_,_,.cons r t,s=>.cons r (Vals.append t s)
theorem Vals.take:∀ {xs:List V} {us:List Value} (n:Nat),Vals xs us→Vals (xs.take n) (us.take n)
 | _,_,0,_=>.nil
 | _,_,_+1,.nil=>.nil
 | _,_,n+1,.cons r t=>.cons r (Vals.take n t)
theorem Vals.drop:∀ {xs:List V} {us:List Value} (n:Nat),Vals xs us→Vals (xs.drop n) (us.drop n)
 | _,_,0,r=>r
 | _,_,_+1,.nil=>.nil
 | _,_,n+1,.cons _ t=>Vals.drop n t
def sI:Option V→Option Value→Prop
 | some v,some u=>RelV v u
 | none,none=>True
 | _,_=>False
def KV{κ:Type}:List (κ × V)→List (κ × Value)→Prop:=Paired fun(p:κ × V) (q:κ × Value)=>p.1=q.1∧RelV p.2 q.2
def kV:Key→V
 | .inl i=>.int i
 | .inr x=>.str x
inductive HO where
 | lst (xs:List V)
 | tup (xs:List V)
 | dK (kvs:List (Key × V)) | dT (kvs:List (List Key × V))
 | set (S:Int→Bool) (n:Nat)
 | ins (C dx:Addr) (fs:List (Str × V))
 | own (x:Addr)
 | xd (fs:List (Str × V))
 | met (f x:Addr)
 | rng (lo hi:Int)
 | frz (o:Obj) (u:HO)
 | tbl (ps:Array Value)
 | ext (φ:Heap→Prop)
abbrev Hp:=Addr→Option HO
def upd(H:Hp)(a:Addr)(o:HO):Hp:=fun b=>if b=a then some o else H b
theorem ak{H:Hp}{a:Addr}{o:HO}:upd H a o a=some o:=by unfold upd; rw [ck rfl]
theorem au{H:Hp}{a b:Addr}{o:HO}(h:b≠a):upd H a o b=H b:=by unfold upd; rw [bX h]
theorem bO{H:Hp}{a:Addr}{o u:HO}:upd (upd H a o) a u=upd H a u:=by
 funext b; unfold upd; split <;> rfl
theorem eG{H:Hp}{a b:Addr}{o u:HO}(h:H a=some o)(h':H b=some u)(d:o≠u):a≠b:=by
 intro e; subst e; rw [h] at h'; exact d (dE h')
theorem aB{H:Hp}{a b:Addr}{o:HO}(h:H a=some o)(h':H b=none):a≠b:=by
 intro e; subst e; rw [h] at h'; cases h'
def NoD(h:Heap)(a:Addr):Prop:=∀ o,h.get? a=some o→o.dict=none
theorem lR(h:Heap)(its:Array Value):NoD (h.push { cls:=.type "tuple",data:=.seq its }) h.objs.size:=fun o e=>by
 rw [bn _ rfl] at e
 cases e
 rfl
section
variable (P:Program)(w:World)
def cX(H:Hp)(h:Heap)(a:Addr):HO→Prop
 | .lst xs=>xs.length≤sizeLine∧∃(its:List Value) (n:Nat),Vals xs its∧h.get? a=some { cls:=.type "list",data:=.seq its.toArray n }
 | .tup xs=>(xs.length≤sizeLine∧NoD h a)∧∃ its:List Value,Vals xs its∧IsTup h a its.toArray
 | .dK kvs=>kvs.length≤sizeLine∧(a == sysModules)=false∧∃ vs,KV kvs vs∧h.DictOf (cG P w) a vs
 | .dT kvs=>kvs.length≤sizeLine∧(a == sysModules)=false∧∃ xs:List (List Key × Addr × Value),
   Paired (fun(p:List Key × V) (q:List Key × Addr × Value)=>p.1=q.1∧H q.2.1=some (.tup (p.1.map kV))∧RelV p.2 q.2.2) kvs xs∧
   ∃ o es ep,h.get? a=some o∧o.ExactDict∧o.data=.dict es ep∧es.toList=xs.map (entryOfKey (tupleKind (cG P w)))∧(xs.map (·.1)).Nodup
 | .set S n=>h.SetOf (intKind P w) a S n
 | .ins C dx fs=>H dx=some (.own a)∧fs.length≤1000∧dx≠a∧h.get? a=some (PySem.W.instObj C dx)∧
   ∃ mA,h.Ns1 dx mA∧(∀ f,sI (fs.lookup f) (mA f))∧PySem.Within mA (fs.map (·.1))
 | .own _=>∃ o,h.get? a=some o
 | .xd fs=>∃ mA,h.Ns1 a mA∧∀ f,sI (fs.lookup f) (mA f)
 | .rng lo hi=>∃ t u v,h.get? a=some { cls:=.type "range",data:=.fields #[.int lo t,.int hi u,.int 1 v] }
 | .frz o u=>h.get? a=some o∧cX H h a u
 | .tbl ps=>h.get? a=some { cls:=.none,data:=.fields ps }
 | .met f x=>h.get? a=some (PySem.W.methodObj (.ref f) (.ref x))
 | .ext φ=>φ h∧(∃ o,h.get? a=some o)∧∀ h1 h2:Heap,φ h1→(∀ o,h1.get? a=some o→h2.get? a=some o)→φ h2
def HOk(H:Hp)(h:Heap):Prop:=∀ a o,H a=some o→cX P w H h a o
end
section
variable {P:Program}{w:World}{H H':Hp}{h h':Heap}{a:Addr}{o:HO}
theorem cX.lt(x:cX P w H h a o):a < h.objs.size:=by
 cases o with
 | lst xs=>obtain ⟨_,_,_,_,e⟩:=x; exact cr e
 | tup xs=>obtain ⟨_,_,_,p⟩:=x; exact p.lt
 | dK kvs=>obtain ⟨_,_,_,_,o,_,_,e,_⟩:=x; exact cr e
 | dT kvs=>obtain ⟨_,_,_,_,o,_,_,e,_⟩:=x; exact cr e
 | set S n=>obtain ⟨o,_,_,_,e,_⟩:=x; exact cr e
 | ins C dx fs=>obtain ⟨_,_,_,e,_⟩:=x; exact cr e
 | own y=>obtain ⟨_,e⟩:=x; exact cr e
 | xd fs=>obtain ⟨_,⟨_,_,_,e,_⟩,_⟩:=x; exact cr e
 | rng lo hi=>obtain ⟨_,_,_,e⟩:=x; exact cr e
 | frz ob u=>obtain ⟨e,_⟩:=x; exact cr e
 | tbl ps=>exact cr (show h.get? a=some _ from x)
 | met f y=>exact cr (show h.get? a=some _ from x)
 | ext φ=>obtain ⟨_,⟨_,e⟩,_⟩:=x; exact cr e
theorem Paired.oN{α β:Type}{F G:α→β→Prop}:∀ {l₁:List α} {l₂:List β},Paired F l₁ l₂→(∀ a b,F a b→G a b)→Paired G l₁ l₂
 | _,_,.nil,_=>.nil
 | _,_,.cons r t,f=>.cons (f _ _ r) (Paired.oN t f)
theorem cX.stay(x:cX P w H h a o)(k:∀ b u,(b=a∨H b=some (.own a))→h.get? b=some u→h'.get? b=some u)
  (ho:∀ b,H b=some (.own a)→H' b=some (.own a)) (ht:∀ b xs,H b=some (.tup xs)→H' b=some (.tup xs)):cX P w H' h' a o:=by
 induction o with
 | lst xs=>obtain ⟨z,its,n,r,e⟩:=x; exact⟨z,its,n,r,k _ _ (.inl rfl) e⟩
 | tup xs=>
  obtain ⟨z,its,r,ob,e,c⟩:=x
  have e':=k _ _ (.inl rfl) e
  exact⟨⟨z.1,fun o q=>by rw [e'] at q; cases q; exact z.2 _ e⟩,its,r,ob,e',c⟩
 | dK kvs=>obtain ⟨z,y,vs,r,ob,es,ep,e,c⟩:=x; exact⟨z,y,vs,r,ob,es,ep,k _ _ (.inl rfl) e,c⟩
 | dT kvs=>
  obtain ⟨z,y,xs,r,ob,es,ep,e,c⟩:=x
  exact⟨z,y,xs,Paired.oN r fun p q z=>⟨z.1,ht _ _ z.2.1,z.2.2⟩,ob,es,ep,k _ _ (.inl rfl) e,c⟩
 | set S n=>obtain ⟨ob,es,ep,t,e,c⟩:=x; exact⟨ob,es,ep,t,k _ _ (.inl rfl) e,c⟩
 | ins C dx fs=>
  obtain ⟨d,z,ne,e,mA,⟨od,es,ep,e2,c⟩,r⟩:=x
  exact⟨ho _ d,z,ne,k _ _ (.inl rfl) e,mA,⟨od,es,ep,k _ _ (.inr d) e2,c⟩,r⟩
 | own y=>obtain ⟨ob,e⟩:=x; exact⟨ob,k _ _ (.inl rfl) e⟩
 | xd fs=>obtain ⟨mA,⟨od,es,ep,e,c⟩,r⟩:=x; exact⟨mA,⟨od,es,ep,k _ _ (.inl rfl) e,c⟩,r⟩
 | rng lo hi=>obtain ⟨t,u,v,e⟩:=x; exact⟨t,u,v,k _ _ (.inl rfl) e⟩
 | frz ob u ih=>obtain ⟨e,q⟩:=x; exact⟨k _ _ (.inl rfl) e,ih q⟩
 | tbl ps=>
  have e:h.get? a=some { cls:=.none,data:=.fields ps }:=x
  show h'.get? a=some { cls:=.none,data:=.fields ps }
  exact k a _ (.inl rfl) e
 | met f y=>
  have e:h.get? a=some (PySem.W.methodObj (.ref f) (.ref y)):=x
  show h'.get? a=some (PySem.W.methodObj (.ref f) (.ref y))
  exact k a _ (.inl rfl) e
 | ext φ=>obtain ⟨p,⟨o,e⟩,st⟩:=x; exact⟨st _ _ p fun o q=>k _ _ (.inl rfl) q,⟨o,k _ _ (.inl rfl) e⟩,st⟩
theorem HOk.lt(x:HOk P w H h)(e:H a=some o):a < h.objs.size:=(x a o e).lt
theorem HOk.fresh(x:HOk P w H h)(e:h.objs.size≤a):H a=none:=by
 cases q:H a with
 | none=>rfl
 | some u=>exact absurd (eA (x.lt q) e) (iE _)
theorem HOk.kept(x:HOk P w H h)(k:∀ b u,h.get? b=some u→h'.get? b=some u):HOk P w H h':=fun a o e=>
 (x a o e).stay (fun b u _ q=>k b u q) (fun _ q=>q) fun _ _ q=>q
theorem HOk.laid(x:HOk P w H h)(k:∀ b u,h.get? b=some u→h'.get? b=some u)(hp:h.objs.size≤a)(new:cX P w (upd H a o) h' a o):HOk P w (upd H a o) h':=fun b u e=>by
 have hn:=x.fresh hp
 by_cases hb:b=a
 ·subst hb; rw [ak] at e; cases e; exact new
 ·rw [au hb] at e
  exact(x b u e).stay (fun c v _ q=>k c v q) (fun c q=>by rw [au (aB q hn)]; exact q) fun c xs q=>by rw [au (aB q hn)]; exact q
end
def Rd(H:Hp)(a:Addr)(u:HO):Prop:=H a=some u∨∃ o,H a=some (.frz o u)
theorem Rd.ok{P:Program}{w:World}{H:Hp}{h:Heap}{a:Addr}{u:HO}(r:Rd H a u)(x:HOk P w H h):cX P w H h a u:=by
 rcases r with r | ⟨o,r⟩
 ·exact x a u r
 ·obtain ⟨_,q⟩:=x a _ r
  exact q
def Mut:Option HO→Prop
 | some (.lst _)=>True
 | some (.dK _)=>True
 | some (.dT _)=>True
 | some (.set _ _)=>True
 | some (.ins _ _ _)=>True
 | some (.ext _)=>True
 | _=>False
section
variable {P:Program}{w:World}{H:Hp}{h h':Heap}{x e:Addr}{o':HO}
theorem HOk.write(ok:HOk P w H h)(mu:Mut (H x))(he:e=x∨H e=some (.own x))(k:∀ b u,b≠e→h.get? b=some u→h'.get? b=some u)(heo:∃ u,h'.get? e=some u)
  (new:cX P w (upd H x o') h' x o'):HOk P w (upd H x o') h':=fun b u q=>by
 have nown:∀ c y,H c=some (.own y)→c≠x:=fun c y r z=>by subst z; rw [r] at mu; exact mu
 have ntup:∀ c xs,H c=some (.tup xs)→c≠x:=fun c xs r z=>by subst z; rw [r] at mu; exact mu
 by_cases hb:b=x
 ·subst hb; rw [ak] at q; cases q; exact new
 ·rw [au hb] at q
  by_cases hbe:b=e
  ·have q':H b=some (.own x):=by
    rcases he with z | z
    ·exact absurd (hbe.trans z) hb
    ·rw [hbe]; exact z
   rw [q] at q'; cases q'
   obtain ⟨v,hv⟩:=heo
   exact⟨v,by rw [hbe]; exact hv⟩
  ·refine(ok b u q).stay (fun c v hc r=>k c v ?_ r) (fun c r=>by rw [au (nown c b r)]; exact r) fun c xs r=>by rw [au (ntup c xs r)]; exact r
   rcases hc with rfl | hc
   ·exact hbe
   ·rintro rfl
    rcases he with z | z
    ·exact nown c b hc z
    ·rw [hc] at z; cases z; exact hb rfl
end
structure Un (fs ex:List Addr) (H H':Hp) (h h':Heap):Prop where
 keep:∀ b o,h.get? b=some o→H b=none→b ∉ fs→b ∉ ex→h'.get? b=some o
 slot:∀ b o,h.get? b=some o→H b=none→b∈fs→b ∉ ex→∃ sl,h'.get? b=some { o with slots:=sl }
 free:∀ b o,h.get? b=some o→H b=none→b ∉ ex→H' b=none
 there:∀ b o,h.get? b=some o→b ∉ ex→∃ o',h'.get? b=some o'
 tups:∀ b xs,H b=some (.tup xs)→H' b=some (.tup xs)
 uo:∀ b o u,H b=some (.frz o u)→H' b=some (.frz o u)
 yK:∀ b ps,H b=some (.tbl ps)→∃ more,H' b=some (.tbl (ps++more))
section
variable {fs fs' ex ex':List Addr}{H H1 H2:Hp}{h h1 h2 h':Heap}{a x e:Addr}{o:HO}
theorem Un.any(u:Un fs ex H H1 h h1){b:Addr}{ob:Obj}(q:h.get? b=some ob)(n:H b=none)(hx:b ∉ ex):∃ sl,h1.get? b=some { ob with slots:=sl }:=by
 by_cases hb:b∈fs
 ·exact u.slot b ob q n hb hx
 ·exact⟨ob.slots,u.keep b ob q n hb hx⟩
theorem Un.kept(k:∀ b u,h.get? b=some u→h'.get? b=some u):Un fs ex H H h h':=
 ⟨fun b ob q _ _ _=>k b ob q,fun b ob q _ _ _=>⟨ob.slots,k b ob q⟩,fun _ _ _ n _=>n,fun b ob q _=>⟨ob,k b ob q⟩,fun _ _ q=>q,fun _ _ _ q=>q,fun _ ps q=>⟨#[],by rw [q]; simp⟩⟩
theorem Un.refl:Un fs ex H H h h:=Un.kept fun _ _ q=>q
theorem Un.laid(k:∀ b u,h.get? b=some u→h'.get? b=some u)(hp:h.objs.size≤a)(hn:H a=none):Un fs ex H (upd H a o) h h' where
 keep:=fun b u q _ _ _=>k b u q
 slot:=fun b u q _ _ _=>⟨u.slots,k b u q⟩
 free:=fun b u q n _=>by rw [au (dc (eA (cr q) hp))]; exact n
 there:=fun b u q _=>⟨u,k b u q⟩
 tups:=fun b xs q=>by rw [au (aB q hn)]; exact q
 uo:=fun b u xs q=>by rw [au (aB q hn)]; exact q
 yK:=fun b ps q=>⟨#[],by rw [au (aB q hn),q]; simp⟩
theorem Un.write(mu:Mut (H x))(he:e=x∨H e=some (.own x))(k:∀ b u,b≠e→h.get? b=some u→h'.get? b=some u)(heo:∃ u,h'.get? e=some u):Un fs ex H (upd H x o) h h':=by
 have hx:∀ b,H b=none→b≠x:=fun b n z=>by subst z; rw [n] at mu; exact mu
 have hb:∀ b,H b=none→b≠e:=fun b n z=>by
  subst z
  rcases he with r | r
  ·exact hx b n r
  ·rw [n] at r; cases r
 have hm:∀ b u,H b=some u→¬ Mut (some u)→b≠x:=fun b u q nm z=>by subst z; rw [q] at mu; exact nm mu
 refine⟨fun b u q n _ _=>k b u (hb b n) q,fun b u q n _ _=>⟨u.slots,k b u (hb b n) q⟩,fun b u q n _=>by rw [au (hx b n)]; exact n,fun b u q _=>?_,
  fun b xs q=>by rw [au (hm b _ q fun z=>z)]; exact q,fun b u xs q=>by rw [au (hm b _ q fun z=>z)]; exact q,fun b ps q=>⟨#[],by rw [au (hm b _ q fun z=>z),q]; simp⟩⟩
 by_cases hbe:b=e
 ·subst hbe; exact heo
 ·exact⟨u,k b u hbe q⟩
end
def trk(h:Heap)(H:Hp):List Addr:=(List.range h.objs.size).filter fun a=>(H a).isSome
def yG(h:Heap)(H:Hp):Heap:=PySem.W.hideAll h (trk h H)
theorem FZ(h:Heap)(H:Hp):(yG h H).objs.size=h.objs.size:=PySem.W.hideAll_size _ _
theorem Hr{h:Heap}{H:Hp}{b:Addr}{o:Obj}(e:h.get? b=some o)(n:H b=none):(yG h H).get? b=some o:=
 PySem.W.hideAll_get _ e fun hm=>by
  have q:(H b).isSome=true:=(bE.mp hm).2
  rw [n] at q; simp at q
theorem Ld{h:Heap}{H:Hp}{b:Addr}{o:Obj}(e:(yG h H).get? b=some o):h.get? b=some o∧H b=none:=by
 have e':h.get? b=some o:=PySem.W.of_hideAll (trk h H) e
 refine⟨e',?_⟩
 cases q:H b with
 | none=>rfl
 | some x=>
  have hm:b∈trk h H:=bE.mpr ⟨gy.mpr (cr e'),by simp [q]⟩
  have z:(yG h H).get? b=none:=PySem.W.hideAll_none (trk h H) hm
  rw [z] at e; cases e
def Kq(g h:Heap)(L:Addr):List (Addr × Obj):=(List.range h.objs.size).filterMap fun a=>if a=L∨(g.get? a).isSome=true then none else (h.get? a).map fun o=>(a,o)
def rest(g h:Heap)(L d:Addr):List (Addr × Obj):=(Kq g h L).filter fun p=>decide (p.1≠d)
structure Mod (K:PySem.W.Frag) (mg:Str→Option Value) (base:Heap):Prop where
 kin:K.In base
 glob:base.Ns mainGlobals mg
 blt:∃ mb,base.Ns builtinsNs mb∧∀ x:Str,x≠ "__name__" → mb x=bootBuiltins x
 nolimit:base.NoLimit
structure Cx where
 prog:Program
 w:World
 K:PySem.W.Frag
 mg:Str→Option Value
 base:Heap
 A:Around
 N:List Str
 s₀:Shared
 H₀:Hp
 env:Env
 outer:List Env
 stack:List Env
 ex:List Addr
 fn:Str→Bool
 calm:Bool
 pn:List (Addr × Obj)
 xe:Value→Shared→Prop
def frs(l:List Env):List Addr:=l.filterMap (·.frame)
abbrev Cx.fs(X:Cx):List Addr:=frs X.outer
def Vis(sc:Scope)(x:Str):Prop:=sc.names.lookup x=some .local∨sc.names.lookup x=some .cell∨sc.names.lookup x=some .free
def Loc(sc:Scope)(x:Str):Prop:=sc.names.lookup x=some .local∨sc.names.lookup x=some .cell
def Look(env:Env)(h:Heap)(m:Str→Option Value)(x:Str)(u:Value):Prop:=
 (env.kindOf x=some .local∧m x=some u)∨((env.kindOf x=some .cell∨env.kindOf x=some .free)∧∃ c,env.cells.lookup x=some c∧h.IsCell c (some u))
structure Cx.Ok (X:Cx):Prop where
 mod:Mod X.K X.mg X.base
 kind:X.env.scope.kind=.function
 glob:X.env.globals=mainGlobals
 blt:X.env.builtins=builtinsNs
 above:X.s₀.heap.objs.size≤X.env.locals
 inj:∀ x y c,X.env.cells.lookup x=some c→X.env.cells.lookup y=some c→x=y
 has:∀ x,(X.env.kindOf x=some .cell∨X.env.kindOf x=some .free)→∃ c,X.env.cells.lookup x=some c
 cab:∀ x c,X.fn x=true→X.env.cells.lookup x=some c→X.s₀.heap.objs.size≤c
 hd:X.calm=true→X.A.handled=none
 frames:X.A.frames=some X.stack
 stk:X.stack=X.outer∨(X.stack=X.env::X.outer∧X.env.frame=some X.env.locals)
 exf:∀ b∈X.ex,b≠X.env.locals∧∀ x c,X.env.cells.lookup x=some c→c≠b
 bs:∀ b o,X.base.get? b=some o→X.s₀.heap.get? b=some o∧X.H₀ b=none
 bsz:X.base.objs.size≤X.s₀.heap.objs.size
 Fv:∀ b o,X.base.get? b=some o→b ∉ X.ex
 FW:∀ b∈X.ex,b ∉ X.fs
 rP:X.s₀.heap.FunFrames X.base X.outer
 frf:∀ b∈X.fs,X.H₀ b=none
structure Inv (X:Cx) (pins:List (Addr × Obj)) (σ:List (Option V)) (H:Hp) (s:Shared):Prop where
 ok:X.Ok
 os:s.os=X.s₀.os
 bare:AllBare s.gens
 base:Un X.fs X.ex X.H₀ H X.s₀.heap s.heap
 loc:∃ m,s.heap.Ns X.env.locals m∧∀(i:Nat) (x:Str) (v:V),X.N[i]?=some x→σ[i]?=some (some v)→Vis X.env.scope x→∃ u,RelV v u∧Look X.env s.heap m x u
 cell:∀ x c,X.env.cells.lookup x=some c→∃ v,s.heap.IsCell c v
 free:H X.env.locals=none
 lQ:∀ x c,X.env.cells.lookup x=some c→H c=none
 pin:∀ p∈X.pn++pins,s.heap.get? p.1=some p.2∧H p.1=none∧p.1≠X.env.locals∧p.1 ∉ X.fs∧∀ v,p.2.data≠.cell v
 hok:HOk X.prog X.w H s.heap
 len:σ.length=X.N.length
section
variable {X:Cx}{pins:List (Addr × Obj)}{σ:List (Option V)}{H H':Hp}{s:Shared}{h':Heap}
theorem Cx.Ok.Qo(ok:X.Ok){b:Addr}{o:Obj}(e:X.base.get? b=some o):b ∉ X.fs:=fun hb=>by
 have:=(ok.rP.mem hb).1
 rw [e] at this; cases this
theorem Inv.bs(I:Inv X pins σ H s):∀ b o,X.base.get? b=some o→s.heap.get? b=some o∧H b=none:=fun b o e=>
 ⟨I.base.keep b o (I.ok.bs b o e).1 (I.ok.bs b o e).2 (I.ok.Qo e) (I.ok.Fv b o e),I.base.free b o (I.ok.bs b o e).1 (I.ok.bs b o e).2 (I.ok.Fv b o e)⟩
theorem Inv.bk(I:Inv X pins σ H s):∀ b o,X.base.get? b=some o→s.heap.get? b=some o:=fun b o e=>(I.bs b o e).1
theorem Inv.mod(I:Inv X pins σ H s):Mod X.K X.mg X.base:=I.ok.mod
theorem Inv.kIn(I:Inv X pins σ H s):X.K.In s.heap:=I.ok.mod.kin.keeps I.bk
theorem Inv.lt(I:Inv X pins σ H s):X.env.locals < s.heap.objs.size:=let ⟨_,hn,_⟩:=I.loc; hn.lt
theorem Inv.sz(I:Inv X pins σ H s):X.s₀.heap.objs.size≤s.heap.objs.size:=dC I.ok.above (lP I.lt)
theorem Inv.QL(I:Inv X pins σ H s){a:Addr}(h:s.heap.objs.size≤a):a ∉ X.fs:=fun hb=>by
 obtain ⟨_,o,ho,_⟩:=I.ok.rP.mem hb
 exact absurd (eA (cr ho) (dC I.sz h)) (iE _)
theorem Inv.cne(I:Inv X pins σ H s):∀ x c,X.env.cells.lookup x=some c→c≠X.env.locals:=fun x c e z=>by
 obtain ⟨v,o,ho,hd⟩:=I.cell x c e
 obtain ⟨m,⟨o',es,ep,ho',hd',_⟩,_⟩:=I.loc
 rw [z,ho'] at ho; cases ho; rw [hd'] at hd; cases hd
theorem Inv.rP(I:Inv X pins σ H s):s.heap.FunFrames X.base X.outer:=by
 have all:∀(l:List Env),(∀ b∈frs l,b∈X.fs)→X.s₀.heap.FunFrames X.base l→s.heap.FunFrames X.base l:=by
  intro l
  induction l with
  | nil=>intro _ _; trivial
  | cons env r ih=>
   intro hs hl
   obtain ⟨hk,⟨L,o,hf,hn,ho,hd⟩,hr⟩:=hl
   have hL:L∈X.fs:=hs L (by unfold frs; rw [jb,hf]; exact aT)
   obtain ⟨sl,e⟩:=I.base.slot L o ho (I.ok.frf L hL) hL fun z=>I.ok.FW L z hL
   exact⟨hk,⟨L,_,hf,hn,e,hd⟩,ih (fun b hb=>hs b (by unfold frs; rw [jb,hf]; exact cz _ hb)) hr⟩
 exact all X.outer (fun _ hb=>hb) I.ok.rP
theorem Inv.stack(I:Inv X pins σ H s):s.heap.FunFrames X.base X.stack:=by
 rcases I.ok.stk with e | ⟨e,hf⟩
 ·rw [e]; exact I.rP
 ·rw [e]
  obtain ⟨m,hn,_⟩:=I.loc
  refine .cons (by rw [I.ok.kind]; decide) hf hn ?_ I.rP
  exact Heap.get?_none_of_le (dC I.ok.bsz I.ok.above)
theorem Inv.Ar(I:Inv X pins σ H s):∀ b∈frs X.stack,b∈X.env.locals::X.fs:=fun b hb=>by
 rcases I.ok.stk with e | ⟨e,hf⟩
 ·rw [e] at hb; exact cz _ hb
 ·rw [e] at hb
  unfold frs at hb
  rw [jb,hf] at hb
  exact hb
theorem Inv.Cv(I:Inv X pins σ H s):∀ b∈frs X.stack,H b=none:=fun b hb=>by
 rcases bu.mp (I.Ar b hb) with e | hb
 ·rw [e]; exact I.free
 ·obtain ⟨_,o,ho,_⟩:=I.ok.rP.mem hb
  exact I.base.free b o ho (I.ok.frf b hb) fun z=>I.ok.FW b z hb
theorem Inv.step{g':Array GenState}{t':Nat}{d':Drawn}{ch:List Addr}(I:Inv X pins σ H s)
  (hch:∀ b∈ch,(b∈X.ex∨X.s₀.heap.objs.size≤b)∧b≠X.env.locals∧(∀ x c,X.env.cells.lookup x=some c→c≠b)∧∀ p∈X.pn++pins,p.1≠b)
  (keep:∀ b o,b≠X.env.locals→b ∉ X.fs→b ∉ ch→s.heap.get? b=some o→H b=none→h'.get? b=some o)
  (slot:∀ b o,b≠X.env.locals→b∈X.fs→b ∉ ch→s.heap.get? b=some o→H b=none→∃ sl,h'.get? b=some { o with slots:=sl }) (free:∀ b o,b ∉ ch→s.heap.get? b=some o→H b=none→H' b=none)
  (there:∀ b o,b ∉ ch→s.heap.get? b=some o→∃ o',h'.get? b=some o')
  (tups:∀ b xs,H b=some (.tup xs)→H' b=some (.tup xs)) (uo:∀ b o u,H b=some (.frz o u)→H' b=some (.frz o u)) (yK:∀ b ps,H b=some (.tbl ps)→∃ more,H' b=some (.tbl (ps++more)))
  (ns:∀ m,s.heap.Ns X.env.locals m→h'.Ns X.env.locals m) (hok:HOk X.prog X.w H' h') (hg:AllBare g') :
  Inv X pins σ H' { s with heap:=h',gens:=g',drawn:=d',toks:=t' }:=by
 have neL:∀ b o,X.s₀.heap.get? b=some o→b≠X.env.locals:=fun b o e=>dc (eA (cr e) I.ok.above)
 have neC:∀ b o,X.s₀.heap.get? b=some o→b ∉ X.ex→b ∉ ch:=fun b o e hx hb=>by
  rcases (hch b hb).1 with z | z
  ·exact hx z
  ·exact absurd (eA (cr e) z) (iE _)
 have cellK:∀ x c,X.env.cells.lookup x=some c→∀ v,s.heap.IsCell c v→h'.IsCell c v:=fun x c e v ⟨o,ho,hd⟩=>by
  have nch:c ∉ ch:=fun z=>(hch c z).2.2.1 x c e rfl
  by_cases hc:c∈X.fs
  ·obtain ⟨sl,q⟩:=slot c o (I.cne x c e) hc nch ho (I.lQ x c e)
   exact⟨_,q,hd⟩
  ·exact⟨o,keep c o (I.cne x c e) hc nch ho (I.lQ x c e),hd⟩
 refine⟨I.ok,I.os,hg,⟨fun b o e n hb hx=>?_,fun b o e n hb hx=>?_,fun b o e n hx=>?_,fun b o e hx=>?_,fun b xs e=>tups b xs (I.base.tups b xs e),fun b o xs e=>uo b o xs (I.base.uo b o xs e),fun b ps e=>?_⟩,?_,fun x c e=>?_,?_,fun x c e=>?_,fun p hp=>?_,hok,I.len⟩
 ·exact keep b o (neL b o e) hb (neC b o e hx) (I.base.keep b o e n hb hx) (I.base.free b o e n hx)
 ·obtain ⟨sl,e1⟩:=I.base.slot b o e n hb hx
  obtain ⟨sl',e2⟩:=slot b _ (neL b o e) hb (neC b o e hx) e1 (I.base.free b o e n hx)
  exact⟨sl',e2⟩
 ·obtain ⟨o',e1⟩:=I.base.there b o e hx
  exact free b o' (neC b o e hx) e1 (I.base.free b o e n hx)
 ·obtain ⟨o',e1⟩:=I.base.there b o e hx
  exact there b o' (neC b o e hx) e1
 ·obtain ⟨m1,e1⟩:=I.base.yK b ps e
  obtain ⟨m2,e2⟩:=yK b _ e1
  exact⟨m1++m2,by rw [e2,Array.append_assoc]⟩
 ·obtain ⟨m,hn,hl⟩:=I.loc
  refine⟨m,ns m hn,fun i x v e1 e2 e3=>?_⟩
  obtain ⟨u,r,l⟩:=hl i x v e1 e2 e3
  refine⟨u,r,?_⟩
  rcases l with l | ⟨k,c,e,z⟩
  ·exact .inl l
  ·exact .inr ⟨k,c,e,cellK x c e _ z⟩
 ·obtain ⟨v,z⟩:=I.cell x c e
  exact⟨v,cellK x c e v z⟩
 ·obtain ⟨m,⟨o,_,_,ho,_⟩,_⟩:=I.loc
  exact free _ o (fun z=>(hch _ z).2.1 rfl) ho I.free
 ·obtain ⟨v,o,ho,hd⟩:=I.cell x c e
  exact free c o (fun z=>(hch c z).2.2.1 x c e rfl) ho (I.lQ x c e)
 ·obtain ⟨e,n,ne,nf,d⟩:=I.pin p hp
  have nch:p.1 ∉ ch:=fun z=>(hch p.1 z).2.2.2 p hp rfl
  exact⟨keep p.1 p.2 ne nf nch e n,free p.1 p.2 nch e n,ne,nf,d⟩
theorem Inv.un{t':Nat}(I:Inv X pins σ H s)(u:Un X.fs [] H H' s.heap h')(hok:HOk X.prog X.w H' h'):Inv X pins σ H' { s with heap:=h',toks:=t' }:=by
 obtain ⟨m,⟨o,es,ep,ho,r⟩,_⟩:=id I.loc
 obtain ⟨sl,hL⟩:=u.any ho I.free (by simp)
 exact I.step (g':=s.gens) (d':=s.drawn) (ch:=[]) (fun _ z=>nomatch z) (fun b o _ hb _ e n=>u.keep b o e n hb (by simp)) (fun b o _ hb _ e n=>u.slot b o e n hb (by simp)) (fun b o _ e n=>u.free b o e n (by simp)) (fun b o _ e=>u.there b o e (by simp)) u.tups u.uo u.yK (fun m' hm=>by
  obtain ⟨o',es',ep',ho',r'⟩:=hm
  rw [ho] at ho'; cases ho'
  exact⟨_,es',ep',hL,r'⟩) hok I.bare
theorem Inv.call{g':Array GenState}{t':Nat}{d':Drawn}{ch:List Addr}(I:Inv X pins σ H s)(u:Un (frs X.stack) ch H H' s.heap h')(hok:HOk X.prog X.w H' h')(hg:AllBare g')
  (hch:∀ b∈ch,(b∈X.ex∨X.s₀.heap.objs.size≤b)∧b≠X.env.locals∧(∀ x c,X.env.cells.lookup x=some c→c≠b)∧∀ p∈X.pn++pins,p.1≠b) :
  Inv X pins σ H' { s with heap:=h',gens:=g',drawn:=d',toks:=t' }:=by
 obtain ⟨m,⟨o,es,ep,ho,r⟩,_⟩:=id I.loc
 obtain ⟨sl,hL⟩:=u.any ho I.free fun z=>(hch _ z).2.1 rfl
 exact I.step (ch:=ch) hch (fun b o hL hb hc e n=>u.keep b o e n (fun z=>(bu.mp (I.Ar b z)).elim hL hb) hc) (fun b o _ _ hc e n=>u.any e n hc) (fun b o hc e n=>u.free b o e n hc) (fun b o hc e=>u.there b o e hc) u.tups u.uo u.yK (fun m' hm=>by
  obtain ⟨o',es',ep',ho',r'⟩:=hm
  rw [ho] at ho'; cases ho'
  exact⟨_,es',ep',hL,r'⟩) hok hg
theorem Inv.turned{t':Nat}{it:Addr}(I:Inv X pins σ H s)(k:∀ b o,b≠it→s.heap.get? b=some o→h'.get? b=some o)(hn:H it=none)(hL:it≠X.env.locals)
  (h1:it∈X.ex∨X.s₀.heap.objs.size≤it) (h2:∀ x c,X.env.cells.lookup x=some c→c≠it) (h3:∀ p∈X.pn++pins,p.1≠it):Inv X pins σ H { s with heap:=h',toks:=t' }:=by
 have nit:∀ b u,H b=some u→b≠it:=fun b u e z=>by rw [z,hn] at e; cases e
 refine I.step (g':=s.gens) (d':=s.drawn) (ch:=[it]) (fun b hb=>?_) (fun b o _ _ hc e _=>k b o (fun z=>hc (by simp [z])) e) (fun b o _ _ hc e _=>⟨o.slots,k b o (fun z=>hc (by simp [z])) e⟩) (fun _ _ _ _ n=>n)
  (fun b o hc e=>⟨o,k b o (fun z=>hc (by simp [z])) e⟩) (fun _ _ e=>e) (fun _ _ _ e=>e) (fun b ps e=>⟨#[],by rw [e]; simp⟩) (fun m hm=>?_) (fun b u e=>?_) I.bare
 ·have e:b=it:=by simpa using hb
  subst e
  exact⟨h1,hL,h2,h3⟩
 ·obtain ⟨o,es,ep,ho,r⟩:=hm
  exact⟨o,es,ep,k _ o (kK hL) ho,r⟩
 ·refine(I.hok b u e).stay (fun c v hc q=>k c v ?_ q) (fun _ q=>q) fun _ _ q=>q
  rcases hc with z | z
  ·rw [z]; exact nit b u e
  ·exact nit c _ z
theorem Inv.tok(I:Inv X pins σ H s)(t:Nat):Inv X pins σ H { s with toks:=t }:=I.un (h':=s.heap) (t':=t) Un.refl I.hok
theorem Inv.kept{t':Nat}(I:Inv X pins σ H s)(k:∀ b u,s.heap.get? b=some u→h'.get? b=some u):Inv X pins σ H { s with heap:=h',toks:=t' }:=I.un (Un.kept k) (I.hok.kept k)
theorem Inv.laid{a:Addr}{o:HO}{t':Nat}(I:Inv X pins σ H s)(k:∀ b u,s.heap.get? b=some u→h'.get? b=some u)(hp:s.heap.objs.size≤a)(new:cX X.prog X.w (upd H a o) h' a o) :
  Inv X pins σ (upd H a o) { s with heap:=h',toks:=t' }:=I.un (Un.laid k hp (I.hok.fresh hp)) (I.hok.laid k hp new)
theorem Inv.write{x e:Addr}{o:HO}{t':Nat}(I:Inv X pins σ H s)(mu:Mut (H x))(he:e=x∨H e=some (.own x))(k:∀ b u,b≠e→s.heap.get? b=some u→h'.get? b=some u)(heo:∃ u,h'.get? e=some u)
  (new:cX X.prog X.w (upd H x o) h' x o):Inv X pins σ (upd H x o) { s with heap:=h',toks:=t' }:=I.un (Un.write mu he k heo) (I.hok.write mu he k heo new)
theorem Inv.DG{pins':List (Addr × Obj)}(I:Inv X pins σ H s)(h:∀ p∈pins',s.heap.get? p.1=some p.2∧H p.1=none∧p.1≠X.env.locals∧p.1 ∉ X.fs∧∀ v,p.2.data≠.cell v):Inv X pins' σ H s:=
 ⟨I.ok,I.os,I.bare,I.base,I.loc,I.cell,I.free,I.lQ,fun p hp=>(bS.mp hp).elim (fun z=>I.pin p (dP _ z)) (h p),I.hok,I.len⟩
theorem zM{N:List Str}(hN:N.Nodup){i j:Nat}{x:Str}(a:N[i]?=some x)(b:N[j]?=some x):i=j:=by
 obtain ⟨h1,e1⟩:=bj.mp a
 obtain ⟨h2,e2⟩:=bj.mp b
 exact(List.getElem_inj hN).mp (e1.trans e2.symm)
theorem wH{M:Model}{A:Around}{E:Value→Shared→Prop}{i:Nat}{x:Str}{v:V}{u:Value}{Q:Unit→Shared→Prop}(I:Inv X pins σ H s)(hN:X.N.Nodup)(hi:X.N[i]?=some x)(hx:Loc X.env.scope x)(r:RelV v u)
  (h:∀ s',Inv X pins (σ.set i (some v)) H s'→(∃ a,Heap.SameBut a s.heap s'.heap∧(a=X.env.locals∨X.env.cells.lookup x=some a))→Q () s') (hf:X.fn x=true∨X.env.scope.names.lookup x=some .local:=by first | exact .inl rfl | exact .inr rfl | assumption):wpAny M A (storeName X.env x u) Q E s:=by
 obtain ⟨m,hn,hl⟩:=id I.loc
 have hcls:(X.env.scope.kind == .class || (X.env.scope.kind == .module && X.env.locals != X.env.globals))=false:=by rw [I.ok.kind]; rfl
 have hiσ:i < σ.length:=by rw [I.len]; exact(bj.mp hi).1
 have cne:=I.cne
 have tracked:∀ {a:Addr} {h':Heap},(∃ o,s.heap.get? a=some o∧H a=none)→Heap.SameBut a s.heap h'→HOk X.prog X.w H h':=fun {a h'} ha hs b ob e=>by
  obtain ⟨_,_,hfree⟩:=ha
  refine(I.hok b ob e).stay (fun c w' hc q=>(hs.2 c ?_).trans q) (fun _ q=>q) fun _ _ q=>q
  rintro rfl
  rcases hc with rfl | hc
  ·rw [hfree] at e; cases e
  ·rw [hfree] at hc; cases hc
 rcases hx with hk | hk
 ·refine wpAny_storeName_local hk hn (fun h' hn' hs=>?_) hcls
  obtain ⟨oL,_,_,hoL,_⟩:=id hn
  refine h _ ⟨I.ok,I.os,I.bare,⟨fun b o e n hb hx=>?_,fun b o e n hb hx=>?_,I.base.free,fun b o e hx=>?_,I.base.tups,I.base.uo,I.base.yK⟩,⟨_,hn',fun j y v' e1 e2 e3=>?_⟩,fun y c e=>?_,I.free,I.lQ,fun p hp=>?_,tracked ⟨oL,hoL,I.free⟩ hs,by simpa using I.len⟩ ⟨_,hs,.inl rfl⟩
  ·exact(hs.2 b (dc (eA (cr e) I.ok.above))).trans (I.base.keep b o e n hb hx)
  ·obtain ⟨sl,e1⟩:=I.base.slot b o e n hb hx
   exact⟨sl,(hs.2 b (dc (eA (cr e) I.ok.above))).trans e1⟩
  ·obtain ⟨o',e1⟩:=I.base.there b o e hx
   exact⟨o',(hs.2 b (dc (eA (cr e) I.ok.above))).trans e1⟩
  ·by_cases hj:j=i
   ·subst hj
    rw [hi] at e1; cases e1
    rw [List.getElem?_set_self hiσ] at e2
    cases e2
    exact⟨u,r,.inl ⟨hk,by simp⟩⟩
   ·rw [List.getElem?_set_ne (kK hj)] at e2
    obtain ⟨u',r',q⟩:=hl j y v' e1 e2 e3
    refine⟨u',r',?_⟩
    rcases q with ⟨k,e⟩ | ⟨k,c,e,z⟩
    ·refine .inl ⟨k,?_⟩
     have:y≠x:=fun e=>hj (zM hN e1 (e ▸ hi))
     simp [this,e]
    ·exact .inr ⟨k,c,e,z.sameBut hs (cne y c e)⟩
  ·obtain ⟨w',z⟩:=I.cell y c e
   exact⟨w',z.sameBut hs (cne y c e)⟩
  ·obtain ⟨e,n,ne,nf,d⟩:=I.pin p hp
   exact⟨(hs.2 p.1 ne).trans e,n,ne,nf,d⟩
 ·have hfn:X.fn x=true:=by
   rcases hf with z | z
   ·exact z
   ·rw [z] at hk; cases hk
  obtain ⟨c,hc⟩:=I.ok.has x (.inl hk)
  obtain ⟨w',z⟩:=I.cell x c hc
  refine wpAny_storeName_cell I.ok.kind hk hc z (fun h' hc' hs=>?_)
  obtain ⟨oc,hoc,hocd⟩:=id z
  refine h { s with heap:=h' } ⟨I.ok,I.os,I.bare,⟨fun b o e n hb hx=>?_,fun b o e n hb hx=>?_,I.base.free,fun b o e hx=>?_,I.base.tups,I.base.uo,I.base.yK⟩,⟨m,hn.sameBut hs (kK (cne x c hc)),fun j y v' e1 e2 e3=>?_⟩,fun y c' e=>?_,I.free,I.lQ,fun p hp=>?_,tracked ⟨oc,hoc,I.lQ x c hc⟩ hs,by simpa using I.len⟩ ⟨c,hs,.inr hc⟩
  ·exact(hs.2 b (dc (eA (cr e) (I.ok.cab x c hfn hc)))).trans (I.base.keep b o e n hb hx)
  ·obtain ⟨sl,e1⟩:=I.base.slot b o e n hb hx
   exact⟨sl,(hs.2 b (dc (eA (cr e) (I.ok.cab x c hfn hc)))).trans e1⟩
  ·obtain ⟨o',e1⟩:=I.base.there b o e hx
   exact⟨o',(hs.2 b (dc (eA (cr e) (I.ok.cab x c hfn hc)))).trans e1⟩
  ·by_cases hj:j=i
   ·subst hj
    rw [hi] at e1; cases e1
    rw [List.getElem?_set_self hiσ] at e2
    cases e2
    exact⟨u,r,.inr ⟨.inl hk,c,hc,hc'⟩⟩
   ·rw [List.getElem?_set_ne (kK hj)] at e2
    obtain ⟨u',r',q⟩:=hl j y v' e1 e2 e3
    refine⟨u',r',?_⟩
    rcases q with q | ⟨k,c',e,z'⟩
    ·exact .inl q
    ·refine .inr ⟨k,c',e,z'.sameBut hs ?_⟩
     rintro rfl
     exact hj (zM hN e1 (I.ok.inj _ _ _ e hc ▸ hi))
  ·by_cases hcc:c'=c
   ·subst hcc; exact⟨_,hc'⟩
   ·obtain ⟨w2,z2⟩:=I.cell y c' e
    exact⟨w2,z2.sameBut hs hcc⟩
  ·obtain ⟨e,n,ne,nf,d⟩:=I.pin p hp
   refine⟨(hs.2 p.1 ?_).trans e,n,ne,nf,d⟩
   intro q
   rw [q,hoc] at e
   have q':oc=p.2:=dE e
   exact d w' (by rw [← q']; exact hocd)
theorem zR{M:Model}{A:Around}{E:Value→Shared→Prop}{i:Nat}{x:Str}{v:V}{u:Value}{Q:Unit→Shared→Prop}(I:Inv X pins σ H s)(hN:X.N.Nodup)(hi:X.N[i]?=some x)(hx:Loc X.env.scope x)(r:RelV v u)
  (h:∀ s',Inv X pins (σ.set i (some v)) H s'→Q () s') (hf:X.fn x=true∨X.env.scope.names.lookup x=some .local:=by first | exact .inl rfl | exact .inr rfl | assumption):wpAny M A (storeName X.env x u) Q E s:=
 wH I hN hi hx r (fun s' I' _=>h s' I') hf
theorem Inv.call'{s':Shared}{ch:List Addr}(I:Inv X pins σ H s)(ho:s'.os=s.os)(u:Un (frs X.stack) ch H H' s.heap s'.heap)(hok:HOk X.prog X.w H' s'.heap)(hg:AllBare s'.gens)
  (hch:∀ b∈ch,(b∈X.ex∨X.s₀.heap.objs.size≤b)∧b≠X.env.locals∧(∀ x c,X.env.cells.lookup x=some c→c≠b)∧∀ p∈X.pn++pins,p.1≠b):Inv X pins σ H' s':=by
 obtain ⟨h',g',d',t',o'⟩:=s'
 have e:o'=s.os:=ho
 subst e
 exact I.call (g':=g') (t':=t') (d':=d') u hok hg hch
end
abbrev XK:=Value→Option Addr→Hp→Prop
abbrev St:=List (Option V)
abbrev VK:=V→Hp→Prop
abbrev TE:=St→Hp→VK→Prop
abbrev TT:=St→Hp→(Bool→Hp→Prop)→Prop
abbrev TA:=St→Hp→(List V→Hp→Prop)→Prop
structure Ends where
 nx:St→Hp→Prop
 rt:VK
 bk:St→Hp→Prop:=fun _ _=>False
 ct:St→Hp→Prop:=fun _ _=>False
abbrev TS:=Ends→St→Hp→Prop
def EP(X:Cx)(pins:List (Addr × Obj))(σ:St)(Q:VK)(u:Value)(s':Shared):Prop:=∃ v H',Inv X pins σ H' s'∧RelV v u∧Q v H'
def TP(X:Cx)(pins:List (Addr × Obj))(σ:St)(Q:Bool→Hp→Prop)(b:Bool)(s':Shared):Prop:=∃ H',Inv X pins σ H' s'∧Q b H'
def AP(X:Cx)(pins:List (Addr × Obj))(σ:St)(Q:List V→Hp→Prop)(us:List Value)(s':Shared):Prop:=∃ vs H',Inv X pins σ H' s'∧Vals vs us∧Q vs H'
def SP(X:Cx)(pins:List (Addr × Obj))(D:Ends)(f:Flow)(s':Shared):Prop:=
 match f with
 | .next=>∃ σ' H',Inv X pins σ' H' s'∧D.nx σ' H'
 | .brk=>∃ σ' H',Inv X pins σ' H' s'∧D.bk σ' H'
 | .cont=>∃ σ' H',Inv X pins σ' H' s'∧D.ct σ' H'
 | .ret u=>∃ v σ' H',Inv X pins σ' H' s'∧RelV v u∧D.rt v H'
def PE(X:Cx)(e:Expr)(t:TE):Prop:=
 ∀(pins:List (Addr × Obj)) (s:Shared) (σ:St) (H:Hp) (Q:VK),Inv X pins σ H s→t σ H Q→wpAny (model X.prog X.w) X.A (eval e X.env) (EP X pins σ Q) X.xe s
def PT(X:Cx)(e:Expr)(t:TT):Prop:=
 ∀(pins:List (Addr × Obj)) (s:Shared) (σ:St) (H:Hp) (Q:Bool→Hp→Prop),Inv X pins σ H s→t σ H Q→wpAny (model X.prog X.w) X.A (isTrue e X.env (eval e X.env)) (TP X pins σ Q) X.xe s
def PW(X:Cx)(e:Expr)(t:TT):Prop:=
 ∀(whole:Sem Value) (pins:List (Addr × Obj)) (s:Shared) (σ:St) (H:Hp) (Q:Bool→Hp→Prop),Inv X pins σ H s→t σ H Q→wpAny (model X.prog X.w) X.A (isTrue e X.env whole) (TP X pins σ Q) X.xe s
theorem PW.pt{X:Cx}{e:Expr}{t:TT}(h:PW X e t):PT X e t:=h _
def PA(X:Cx)(es:List Expr)(t:TA):Prop:=
 ∀(pos:Pos) (pins:List (Addr × Obj)) (s:Shared) (σ:St) (H:Hp) (Q:List V→Hp→Prop),Inv X pins σ H s→t σ H Q→wpAny (model X.prog X.w) X.A (spliced (backTo pos (starEach es X.env))) (AP X pins σ Q) X.xe s
def PS(X:Cx)(st:Stmt)(t:TS):Prop:=
 ∀(pins:List (Addr × Obj)) (s:Shared) (σ:St) (H:Hp) (D:Ends),Inv X pins σ H s→t D σ H→wpAny (model X.prog X.w) X.A (exec st X.env) (SP X pins D) X.xe s
def PSs(X:Cx)(st:List Stmt)(t:TS):Prop:=
 ∀(pins:List (Addr × Obj)) (s:Shared) (σ:St) (H:Hp) (D:Ends),Inv X pins σ H s→t D σ H→wpAny (model X.prog X.w) X.A (execs st X.env) (SP X pins D) X.xe s
theorem thn{α:Type}{t:Sem α}{Q Q':α→Shared→Prop}{M:Model}{A:Around}{E:Value→Shared→Prop}{s:Shared}(h:wpAny M A t Q E s)(hQ:∀ a s,Q a s→Q' a s):wpAny M A t Q' E s:=ic h hQ fun _ _ x=>x
end L2
namespace L2
open PySem PySem.Spec PyProof.Rows
section
variable {X:Cx}
def KR(i:Nat):TE:=fun σ H Q=>∃ v,σ[i]?=some (some v)∧Q v H
def tC(v:V):TE:=fun _ H Q=>Q v H
theorem MJ{i:Nat}{x:Str}{pos:Pos}(hN:X.N[i]?=some x)(hv:Vis X.env.scope x)(hd:(x == ("__debug__" : Str))=false:=by decide)(hcd:(x == ("__classdict__" : Str))=false:=by decide):PE X (.Name x pos) (KR i):=by
 intro pins s σ H Q I h
 obtain ⟨v,e,h⟩:=h
 obtain ⟨m,hn,hl⟩:=I.loc
 obtain ⟨u,r,l⟩:=hl i x v hN e hv
 have fin:EP X pins σ Q u s:=⟨v,H,I,r,h⟩
 rcases l with ⟨hk,hm⟩ | ⟨hk,c,hc,hcell⟩
 ·exact wpAny_Name (wpAny_loadName_local I.ok.kind hk hn hm fin) hd
 ·rcases hk with hk | hk
  ·exact wpAny_Name (wpAny_loadName_cell I.ok.kind hk hc hcell fin) hd
  ·exact wpAny_Name (wpAny_loadName_free I.ok.kind hk hc hcell fin hcd) hd
theorem aC{i j pos}:PE X (.Constant (.int i) j pos) (tC (.int i)):=fun _ _ _ H _ I h=>wpAny_Constant_int ⟨.int i,H,I.tok _,⟨_,rfl⟩,h⟩
theorem nR{b j pos}:PE X (.Constant (.bool b) j pos) (tC (.bl b)):=fun _ _ _ H _ I h=>Constant_bool ⟨.bl b,H,I,rfl,h⟩
theorem eV{j pos}:PE X (.Constant .none j pos) (tC .non):=fun _ _ _ H _ I h=>Constant_none ⟨.non,H,I,rfl,h⟩
theorem cF{x j pos}:PE X (.Constant (.str x) j pos) (tC (.str x)):=fun _ _ _ H _ I h=>Calls.Constant_str ⟨.str x,H,I.tok _,⟨_,rfl⟩,h⟩
def Gl(X:Cx)(x:Str):Prop:=X.env.kindOf x=some .globalImplicit
theorem CT{E:Value→Shared→Prop}{pins:List (Addr × Obj)}{s:Shared}{σ:St}{H:Hp}{x:Str}{u:Value}{pos:Pos}{Q:Value→Shared→Prop}(I:Inv X pins σ H s)(hg:Gl X x)(hm:X.mg x=some u)(h:Q u s)
  (hd:(x == ("__debug__" : Str))=false:=by decide):wpAny (model X.prog X.w) X.A (eval (.Name x pos) X.env) Q E s:=
 Calls.Name_function_global I.ok.kind hg (Calls.loadGlobal_global (by rw [I.ok.glob]; exact I.mod.glob.keeps I.bk) hm h) hd
theorem pN{E:Value→Shared→Prop}{pins:List (Addr × Obj)}{s:Shared}{σ:St}{H:Hp}{x:Str}{u:Value}{pos:Pos}{Q:Value→Shared→Prop}(I:Inv X pins σ H s)(hg:Gl X x)(hm:X.mg x=none)(hv:bootBuiltins x=some u)(h:Q u s)
  (hn:x≠ "__name__" := by decide) (hd:(x == ("__debug__" : Str))=false:=by decide):wpAny (model X.prog X.w) X.A (eval (.Name x pos) X.env) Q E s:=by
 obtain ⟨mb,h1,h2⟩:=I.mod.blt
 exact Calls.Name_function_global I.ok.kind hg (Calls.loadGlobal_builtin (by rw [I.ok.glob]; exact I.mod.glob.keeps I.bk) hm (by rw [I.ok.blt]; exact h1.keeps I.bk) ((h2 x hn).trans hv) h) hd
theorem yq{x:Str}{v:V}{u:Value}{pos:Pos}(hg:Gl X x)(hm:X.mg x=some u)(r:RelV v u)(hd:(x == ("__debug__" : Str))=false:=by decide):PE X (.Name x pos) (tC v):=
 fun _ _ _ H _ I h=>CT I hg hm ⟨v,H,I,r,h⟩ hd
theorem fQ{x:Str}{v:V}{u:Value}{pos:Pos}(hg:Gl X x)(hm:X.mg x=none)(hv:bootBuiltins x=some u)(r:RelV v u)(hn:x≠ "__name__" := by decide)(hd:(x == ("__debug__" : Str))=false:=by decide):PE X (.Name x pos) (tC v):=
 fun _ _ _ H _ I h=>pN I hg hm hv ⟨v,H,I,r,h⟩ hn hd
variable {a b:Expr}{ta tb:TE}{pos:Pos}
def PC(X:Cx)(op:CmpOp)(a b:Expr)(t:TE):Prop:=
 ∀(pins:List (Addr × Obj)) (s:Shared) (σ:St) (H:Hp) (Q:VK),Inv X pins σ H s→t σ H Q→
  wpAny (model X.prog X.w) X.A (eval a X.env) (fun v s₁=>wpAny (model X.prog X.w) X.A (eval b X.env) (fun u s₂=>wpAny (model X.prog X.w) X.A (compareOp op v u) (EP X pins σ Q) X.xe s₂) X.xe s₁) X.xe s
def tB(t:TE):TT:=fun σ H Q=>t σ H fun x H1=>∃ c,x=.bl c∧Q c H1
theorem Cr{op:CmpOp}{t:TE}(h:PC X op a b t)(h1:behindInMarks op b=false:=by first | exact nobehind _ (by decide) (by decide) | rfl):PE X (.Compare a [op] [b] pos) t:=fun pins s σ H Q I hw=>wpAny_Compare1 (h pins s σ H Q I hw) h1
theorem qZ{op:CmpOp}{t:TE}(h:PC X op a b t)(h1:behindInMarks op b=false:=by first | exact nobehind _ (by decide) (by decide) | rfl):PT X (.Compare a [op] [b] pos) (tB t):=by
 intro pins s σ H Q I hw
 refine wpAny_isTrue_Compare1 (thn (h pins s σ H _ I hw) fun v s1 h1=>thn h1 fun u s2 h2=>thn h2 fun c s3 ⟨x,H1,I1,r1,q1⟩=>?_) h1
 obtain ⟨d,rfl,q⟩:=q1
 cases r1
 exact fR ⟨H1,I1,q⟩
theorem d9{e:Expr}{t:TE}(h:PE X e t)(he:∀ whole,isTrue e X.env whole=(do let v ← whole; standAt e.pos; holding [v] (truthy v)):=by intro _; rfl):PT X e (tB t):=by
 intro pins s σ H Q I hw
 refine isTrue_plain (thn (h pins s σ H _ I hw) fun v s1 ⟨x,H1,I1,r1,q1⟩=>?_) (he _)
 obtain ⟨d,rfl,q⟩:=q1
 cases r1
 exact fR ⟨H1,I1,q⟩
variable {tA tB':TT}{rest:List Expr}
def Qf(t u:TT):TT:=fun σ H Q=>t σ H fun c H1=>if c=true then u σ H1 Q else Q false H1
def tOr(t u:TT):TT:=fun σ H Q=>t σ H fun c H1=>if c=true then Q true H1 else u σ H1 Q
def Qs(t:TT):TT:=fun σ H Q=>t σ H fun c H1=>Q (!c) H1
theorem nU(ha:PT X a tA):PW X (.BoolOp .And [a] pos) tA:=by
 intro wh pins s σ H Q I h
 refine isTrue_and (thn (ha pins s σ H Q I h) fun c s1 e=>?_)
 cases c with
 | true=>exact isTrue_and_nil e
 | false=>exact e
theorem pC(ha:PT X a tA):PW X (.BoolOp .Or [a] pos) tA:=by
 intro wh pins s σ H Q I h
 refine isTrue_or (thn (ha pins s σ H Q I h) fun c s1 e=>?_)
 cases c with
 | false=>exact isTrue_or_nil e
 | true=>exact e
theorem rD(ha:PT X a tA)(hb:PW X (.BoolOp .And (b::rest) pos) tB'):PW X (.BoolOp .And (a::b::rest) pos) (Qf tA tB'):=by
 intro wh pins s σ H Q I h
 refine isTrue_and (thn (ha pins s σ H _ I h) fun c s1 ⟨H1,I1,q1⟩=>?_)
 cases c with
 | true=>exact hb wh pins s1 σ H1 Q I1 q1
 | false=>exact⟨H1,I1,q1⟩
theorem tQ(ha:PT X a tA)(hb:PW X (.BoolOp .Or (b::rest) pos) tB'):PW X (.BoolOp .Or (a::b::rest) pos) (tOr tA tB'):=by
 intro wh pins s σ H Q I h
 refine isTrue_or (thn (ha pins s σ H _ I h) fun c s1 ⟨H1,I1,q1⟩=>?_)
 cases c with
 | true=>exact⟨H1,I1,q1⟩
 | false=>exact hb wh pins s1 σ H1 Q I1 q1
theorem jG(ha:PT X a tA):PT X (.UnaryOp .Not a pos) (Qs tA):=by
 intro pins s σ H Q I h
 exact isTrue_not (ha pins s σ H (fun c H1=>Q (!c) H1) I h)
def Qd(ta tb:TE):TE:=fun σ H Q=>ta σ H fun x H1=>∃ c,x=.bl c∧if c=true then tb σ H1 Q else Q (.bl false) H1
def Qx(ta tb:TE):TE:=fun σ H Q=>ta σ H fun x H1=>∃ c,x=.bl c∧if c=true then Q (.bl true) H1 else tb σ H1 Q
def PN(ta:TE):TE:=fun σ H Q=>ta σ H fun x H1=>∃ c,x=.bl c∧Q (.bl (!c)) H1
theorem ji{op}{t:TE}(h:PE X a t):PE X (.BoolOp op [a] pos) t:=fun pins s σ H Q I hw=>BoolOp_one (h pins s σ H Q I hw)
theorem iM(ha:PE X a ta)(hb:PE X (.BoolOp .And (b::rest) pos) tb):PE X (.BoolOp .And (a::b::rest) pos) (Qd ta tb):=by
 intro pins s σ H Q I h
 refine BoolOp_and (thn (ha pins s σ H _ I h) fun v s1 ⟨x,H1,I1,r1,q1⟩=>?_)
 obtain ⟨c,rfl,q1⟩:=q1
 cases r1
 refine fR ?_
 cases c with
 | true=>exact hb pins s1 σ H1 Q I1 q1
 | false=>exact⟨.bl false,H1,I1,rfl,q1⟩
theorem Pz(ha:PE X a ta)(hb:PE X (.BoolOp .Or (b::rest) pos) tb):PE X (.BoolOp .Or (a::b::rest) pos) (Qx ta tb):=by
 intro pins s σ H Q I h
 refine BoolOp_or (thn (ha pins s σ H _ I h) fun v s1 ⟨x,H1,I1,r1,q1⟩=>?_)
 obtain ⟨c,rfl,q1⟩:=q1
 cases r1
 refine fR ?_
 cases c with
 | false=>exact hb pins s1 σ H1 Q I1 q1
 | true=>exact⟨.bl true,H1,I1,rfl,q1⟩
theorem Jx(ha:PE X a ta):PE X (.UnaryOp .Not a pos) (PN ta):=by
 intro pins s σ H Q I h
 refine UnaryOp_ (thn (ha pins s σ H _ I h) fun v s1 ⟨x,H1,I1,r1,q1⟩=>?_)
 obtain ⟨c,rfl,q1⟩:=q1
 cases r1
 exact not_of (fR ⟨.bl (!c),H1,I1,rfl,q1⟩)
def tIf(t:TT)(ta tb:TE):TE:=fun σ H Q=>t σ H fun c H1=>if c=true then ta σ H1 Q else tb σ H1 Q
theorem vg{c:Expr}(hc:PT X c tA)(ha:PE X a ta)(hb:PE X b tb):PE X (.IfExp c a b pos) (tIf tA ta tb):=by
 intro pins s σ H Q I h
 refine wpAny_IfExp (thn (hc pins s σ H _ I h) fun d s1 ⟨H1,I1,q1⟩=>?_)
 cases d with
 | true=>exact ha pins s1 σ H1 Q I1 q1
 | false=>exact hb pins s1 σ H1 Q I1 q1
end
def SqL(K:PySem.W.Frag)(H:Hp)(a:Addr)(xs:List V):Prop:=
 Rd H a (.lst xs)∨
  ∃(o:Obj) (its:Array Value) (n:Nat),K.lookup a=some o∧o.cls=.type "list" ∧ o.dict=none∧o.data=.seq its n∧its.size≤sizeLine∧Vals xs its.toList
def SqT(K:PySem.W.Frag)(H:Hp)(a:Addr)(xs:List V):Prop:=
 Rd H a (.tup xs)∨
  ∃(o:Obj) (its:Array Value) (n:Nat),K.lookup a=some o∧o.cls=.type "tuple" ∧ o.data=.seq its n∧its.size≤sizeLine∧Vals xs its.toList
def Qi:Value→Option V
 | .none=>some .non
 | .bool b=>some (.bl b)
 | .int i _=>some (.int i)
 | .str x _=>some (.str x)
 | .bytes b _=>some (.byt b)
 | .float b _=>some (.flt b)
 | .ref a=>some (.ref a)
 | .type n=>some (.ty n)
 | _=>none
theorem RelV.abs{x:V}{u:Value}(r:RelV x u):Qi u=some x:=by
 cases x with
 | non=>cases r; rfl
 | bl _=>cases r; rfl
 | int _=>obtain ⟨t,rfl⟩:=r; rfl
 | str _=>obtain ⟨t,rfl⟩:=r; rfl
 | byt _=>obtain ⟨t,rfl⟩:=r; rfl
 | flt _=>obtain ⟨t,rfl⟩:=r; rfl
 | ref _=>cases r; rfl
 | ty _=>cases r; rfl
theorem RelV.inj{x y:V}{u:Value}(r:RelV x u)(q:RelV y u):x=y:=dE (r.abs.symm.trans q.abs)
theorem Vals.inj:∀ {xs ys:List V} {us:List Value},Vals xs us→Vals ys us→xs=ys
 | _,_,_,.nil,.nil=>rfl
 | _,_,_,.cons r t,.cons r' t'=>by rw [r.inj r',Vals.inj t t']
section
variable {X:Cx}{pins:List (Addr × Obj)}{σ:St}{H:Hp}{s:Shared}{a:Addr}{xs ys:List V}
theorem SqL.of{K:PySem.W.Frag}(h:H a=some (.lst xs)):SqL K H a xs:=.inl (.inl h)
theorem SqT.of{K:PySem.W.Frag}(h:H a=some (.tup xs)):SqT K H a xs:=.inl (.inl h)
theorem Inv.list(I:Inv X pins σ H s)(h:SqL X.K H a xs):∃ its:List Value,Vals xs its∧PlainL s.heap a its.toArray∧xs.length≤sizeLine:=by
 rcases h with h | ⟨o,its,n,hk,hc,hd,hs,hz,r⟩
 ·obtain ⟨z,its,n,r,e⟩:=h.ok I.hok
  exact⟨its,r,⟨_,n,e,rfl,rfl,rfl⟩,z⟩
 ·refine⟨its.toList,r,⟨o,n,I.kIn a o hk,hc,hd,by simpa using hs⟩,?_⟩
  have e:=r.length
  simp only [eI] at e
  omega
theorem Inv.tuple(I:Inv X pins σ H s)(h:SqT X.K H a xs):∃ its:List Value,Vals xs its∧IsTup s.heap a its.toArray∧xs.length≤sizeLine:=by
 rcases h with h | ⟨o,its,n,hk,hc,hs,hz,r⟩
 ·obtain ⟨z,its,r,p⟩:=h.ok I.hok
  exact⟨its,r,p,z.1⟩
 ·refine⟨its.toList,r,⟨o,I.kIn a o hk,hc,n,by simpa using hs⟩,?_⟩
  have e:=r.length
  simp only [eI] at e
  omega
theorem Inv.zP(I:Inv X pins σ H s)(h:SqL X.K H a xs)(h':SqL X.K H a ys):xs=ys:=by
 obtain ⟨its,r,⟨o,n,e,_,_,d⟩,_⟩:=I.list h
 obtain ⟨its',r',⟨o',n',e',_,_,d'⟩,_⟩:=I.list h'
 rw [e] at e'; cases e'
 rw [d] at d'
 injection d' with d1 _
 have:its=its':=by simpa using congrArg Array.toList d1
 subst this
 exact r.inj r'
theorem Inv.ou(I:Inv X pins σ H s)(h:SqT X.K H a xs)(h':SqT X.K H a ys):xs=ys:=by
 obtain ⟨its,r,⟨o,e,_,n,d⟩,_⟩:=I.tuple h
 obtain ⟨its',r',⟨o',e',_,n',d'⟩,_⟩:=I.tuple h'
 rw [e] at e'; cases e'
 rw [d] at d'
 injection d' with d1 _
 have:its=its':=by simpa using congrArg Array.toList d1
 subst this
 exact r.inj r'
end
abbrev Cx.wish(X:Cx)(E:Value→Shared→Prop):Cx:={ X with xe:=E }
abbrev Cx.nox(X:Cx):Cx:=X.wish fun _ _=>False
theorem Cx.Ok.wish{X:Cx}(ok:X.Ok)(E:Value→Shared→Prop):(X.wish E).Ok:=
 ⟨ok.mod,ok.kind,ok.glob,ok.blt,ok.above,ok.inj,ok.has,ok.cab,ok.hd,ok.frames,ok.stk,ok.exf,ok.bs,ok.bsz,ok.Fv,ok.FW,ok.rP,ok.frf⟩
theorem Cx.Ok.m9{X:Cx}{E:Value→Shared→Prop}(ok:(X.wish E).Ok):X.Ok:=
 ⟨ok.mod,ok.kind,ok.glob,ok.blt,ok.above,ok.inj,ok.has,ok.cab,ok.hd,ok.frames,ok.stk,ok.exf,ok.bs,ok.bsz,ok.Fv,ok.FW,ok.rP,ok.frf⟩
section
variable {X:Cx}{pins:List (Addr × Obj)}{σ:St}{H:Hp}{s:Shared}{E:Value→Shared→Prop}
theorem Inv.wish(I:Inv X pins σ H s)(E:Value→Shared→Prop):Inv (X.wish E) pins σ H s:=⟨I.ok.wish E,I.os,I.bare,I.base,I.loc,I.cell,I.free,I.lQ,I.pin,I.hok,I.len⟩
theorem Inv.m9(I:Inv (X.wish E) pins σ H s):Inv X pins σ H s:=⟨I.ok.m9,I.os,I.bare,I.base,I.loc,I.cell,I.free,I.lQ,I.pin,I.hok,I.len⟩
theorem SP.m9{D:Ends}{f:Flow}{s':Shared}(h:SP (X.wish E) pins D f s'):SP X pins D f s':=by
 cases f with
 | next=>obtain ⟨σ',H',I,q⟩:=h; exact⟨σ',H',I.m9,q⟩
 | brk=>obtain ⟨σ',H',I,q⟩:=h; exact⟨σ',H',I.m9,q⟩
 | cont=>obtain ⟨σ',H',I,q⟩:=h; exact⟨σ',H',I.m9,q⟩
 | ret u=>obtain ⟨v,σ',H',I,r,q⟩:=h; exact⟨v,σ',H',I.m9,r,q⟩
theorem PSs.nox{st:List Stmt}{t:TS}(h:PSs X.nox st t):PSs X st t:=fun pins s σ H D I hw=>
 ic (h pins s σ H D (I.wish _) hw) (fun _ _ q=>q.m9) fun _ _ z=>False.elim z
end
section
variable {X:Cx}{st:Stmt}{rest:List Stmt}{t u:TS}{e:Expr}{te:TE}{pos:Pos}
def Pq:TS:=fun D σ H=>D.nx σ H
def Mp(t u:TS):TS:=fun D σ H=>t { D with nx:=u D } σ H
theorem aY:PSs X [] Pq:=fun _ _ σ H _ I h=>nB ⟨σ,H,I,h⟩
theorem aD(h1:PS X st t)(h2:PSs X rest u):PSs X (st::rest) (Mp t u):=by
 intro pins s σ H D I h
 refine wpAny_execs_cons (thn (h1 pins s σ H { D with nx:=u D } I h) fun f s1 q=>?_)
 cases f with
 | next=>
  obtain ⟨σ',H',I',q⟩:=q
  exact h2 pins s1 σ' H' D I' q
 | ret v=>exact q
 | brk=>exact q
 | cont=>exact q
theorem aF(h1:PS X st t):PSs X [st] t:=by
 intro pins s σ H D I h
 refine wpAny_execs_cons (thn (h1 pins s σ H D I h) fun f s1 q=>?_)
 cases f with
 | next=>exact nB q
 | ret v=>exact q
 | brk=>exact q
 | cont=>exact q
theorem Inv.quiet{pins:List (Addr × Obj)}{σ:St}{H:Hp}{s:Shared}(I:Inv X pins σ H s):interactive X.env=false:=by simp [interactive,I.ok.kind]
def Ox(te:TE):TS:=fun D σ H=>te σ H fun _ H1=>D.nx σ H1
theorem jd(he:PE X e te)(hs:swapsWith e none pos.line X.env=pure false:=by rfl):PS X (.Expr e pos) (Ox te):=by
 intro pins s σ H D I h
 exact wpAny_Expr_any (thn (he pins s σ H _ I h) fun v s1 ⟨x,H1,I1,r1,q1⟩=>⟨σ,H1,I1,q1⟩) I.quiet hs
def Qw(te:TE):TS:=fun D σ H=>te σ H D.rt
theorem aQ(he:PE X e te):PS X (.Return (some e) pos) (Qw te):=by
 intro pins s σ H D I h
 exact wpAny_Return_some (thn (he pins s σ H _ I h) fun v s1 ⟨x,H1,I1,r1,q1⟩=>⟨x,σ,H1,I1,r1,q1⟩)
def O8(c:TT)(t u:TS):TS:=fun D σ H=>c σ H fun b H1=>if b=true then t D σ H1 else u D σ H1
theorem bQ{c:Expr}{a b:List Stmt}{tc:TT}(hc:PT X c tc)(ha:PSs X a t)(hb:PSs X b u):PS X (.If c a b pos) (O8 tc t u):=by
 intro pins s σ H D I h
 refine wpAny_If (thn (hc pins s σ H _ I h) fun d s1 ⟨H1,I1,q1⟩=>?_)
 cases d with
 | true=>exact ha pins s1 σ H1 D I1 q1
 | false=>exact hb pins s1 σ H1 D I1 q1
def MP:TS:=fun _ _ _=>False
theorem mD:PS X st MP:=fun _ _ _ _ _ _ h=>h.elim
end
abbrev TG:=V→St→Hp→(St→Hp→Prop)→Prop
abbrev TGs:=List V→St→Hp→(St→Hp→Prop)→Prop
def PG(X:Cx)(target:Expr)(t:TG):Prop:=
 ∀(pins:List (Addr × Obj)) (s:Shared) (σ:St) (H:Hp) (v:V) (u:Value) (Q:St→Hp→Prop),Inv X pins σ H s→RelV v u→t v σ H Q→
  wpAny (model X.prog X.w) X.A (assign target X.env u) (fun _ s'=>∃ σ' H',Inv X pins σ' H' s'∧Q σ' H') X.xe s
def PGs(X:Cx)(ts:List Expr)(t:TGs):Prop:=
 ∀(pins:List (Addr × Obj)) (s:Shared) (σ:St) (H:Hp) (vs:List V) (us:List Value) (Q:St→Hp→Prop),Inv X pins σ H s→Vals vs us→t vs σ H Q→
  wpAny (model X.prog X.w) X.A (assignInOrder ((assignEach ts X.env).map (·.2)) us) (fun _ s'=>∃ σ' H',Inv X pins σ' H' s'∧Q σ' H') X.xe s
abbrev Ms:=V→V→V→Hp→(Hp→Prop)→Prop
def Oz(X:Cx)(t:Ms):Prop:=
 ∀(pins:List (Addr × Obj)) (s:Shared) (σ:St) (H:Hp) (o i v:V) (ov iv u:Value) (Q:Hp→Prop),Inv X pins σ H s→RelV o ov→RelV i iv→RelV v u→t o i v H Q→
  wpAny (model X.prog X.w) X.A (setItem ov iv u) (fun _ s'=>∃ H',Inv X pins σ H' s'∧Q H') X.xe s
section
variable {X:Cx}{pos:Pos}
def yQ(i:Nat):TG:=fun v σ H Q=>Q (σ.set i (some v)) H
theorem aN{i:Nat}{x:Str}(hN:X.N.Nodup)(hi:X.N[i]?=some x)(hx:Loc X.env.scope x)(hf:X.fn x=true∨X.env.scope.names.lookup x=some .local:=by first | exact .inl rfl | exact .inr rfl | assumption):PG X (.Name x pos) (yQ i):=by
 intro pins s σ H v u Q I r h
 exact wpAny_assign_Name (zR I hN hi hx r (fun s' I'=>⟨_,H,I',h⟩) hf)
def Qh:TGs:=fun vs σ H Q=>vs=[]∧Q σ H
def PJ(t:TG)(u:TGs):TGs:=fun vs σ H Q=>∃ v r,vs=v::r∧t v σ H fun σ' H'=>u r σ' H' Q
theorem lg:PGs X [] Qh:=by
 intro pins s σ H vs us Q I r h
 obtain ⟨e,h⟩:=h
 subst e
 cases r
 exact assignInOrder_nil ⟨σ,H,I,h⟩
theorem dH{e:Expr}{es:List Expr}{t:TG}{u:TGs}(h1:PG X e t)(h2:PGs X es u)
  (hs:(assignEach (e::es) X.env).map (·.2)=assign e X.env::(assignEach es X.env).map (·.2):=by rfl):PGs X (e::es) (PJ t u):=by
 intro pins s σ H vs us Q I r h
 obtain ⟨v,vr,e1,h⟩:=h
 subst e1
 cases r with
 | cons r rr=>
  rw [hs]
  refine assignInOrder_cons (thn (h1 pins s σ H _ _ _ I r h) fun _ s1 ⟨σ1,H1,I1,q1⟩=>?_)
  exact h2 pins s1 σ1 H1 _ _ Q I1 rr q1
def Pj(K:PySem.W.Frag)(n:Nat)(t:TGs):TG:=fun v σ H Q=>∃ a xs,v=.ref a∧SqT K H a xs∧xs.length=n∧t xs σ H Q
theorem uJ{es:List Expr}{k:Nat}{t:TGs}{n:Nat}(hc:X.calm=true)(h:PGs X es t)
  (hn:(assignEach es X.env).length=n:=by rfl) (hst:(assignEach es X.env).findIdx? (·.1)=none:=by rfl):PG X (.Tuple es k pos) (Pj X.K n t):=by
 intro pins s σ H v u Q I r hw
 obtain ⟨a,xs,e1,hq,hl,hw⟩:=hw
 subst e1
 cases r
 obtain ⟨its,rv,ht,hz⟩:=I.tuple hq
 refine assign_Tuple_tuple (I.ok.hd hc) ht (by simp [hn,← hl,rv.length]) hst fun h' hx=>?_
 have I1:Inv X pins σ H { s with heap:=h' }:=I.kept (t':=s.toks) fun b o e=>hx b o (dc (cr e)) e
 exact h pins _ σ H xs _ Q I1 (by simpa using rv) hw
def QZ(to ti:TE)(t:Ms):TG:=fun v σ H Q=>to σ H fun o H1=>ti σ H1 fun i H2=>t o i v H2 fun H3=>Q σ H3
theorem Cq{o i:Expr}{to ti:TE}{t:Ms}(ho:PE X o to)(hi:PE X i ti)(hs:Oz X t)
  (ha:∀ v,assign (.Subscript o i pos) X.env v=(do
   let ov ← holding [v] (eval o X.env)
   let iv ← holding [v,ov] (eval i X.env)
   standAt pos
   holding [v,ov,iv] (setItem ov iv v)
   release [v,ov,iv] []):=by intro _; rfl):PG X (.Subscript o i pos) (QZ to ti t):=by
 intro pins s σ H v u Q I r h
 rw [ha]
 refine ac (fk (thn (ho pins s σ H _ I h) fun ov s1 ⟨x,H1,I1,r1,q1⟩=>?_))
 refine ac (fk (thn (hi pins s1 σ H1 _ I1 q1) fun iv s2 ⟨y,H2,I2,r2,q2⟩=>?_))
 refine ac (wpAny_standAt (ac (fk (thn (hs pins s2 σ H2 x y v ov iv u _ I2 r1 r2 r q2) fun _ s3 ⟨H3,I3,q3⟩=>?_))))
 exact wpAny_release ⟨σ,H3,I3,q3⟩
def MF(te:TE)(g:TG):TS:=fun D σ H=>te σ H fun x H1=>g x σ H1 D.nx
theorem yI{tg e:Expr}{te:TE}{g:TG}(he:PE X e te)(hg:PG X tg g)(hs:swapsWithSole [tg] e pos.line X.env=pure false:=by rfl)(hw:swappedStores [tg] e X.env=pure none:=by rfl)
  (h1:(assignEach [tg] X.env).map (·.2)=[assign tg X.env]:=by rfl):PS X (.Assign [tg] e pos) (MF te g):=by
 intro pins s σ H D I h
 refine wpAny_Assign_stores (thn (he pins s σ H _ I h) fun v s1 ⟨x,H1,I1,r1,q1⟩=>?_) hs hw
 rw [h1]
 exact thn (hg pins s1 σ H1 x v _ I1 r1 q1) fun _ s2 q=>q
theorem aP{i:Nat}{x:Str}{e:Expr}{te:TE}{pos':Pos}(hN:X.N.Nodup)(hi:X.N[i]?=some x)(hx:Loc X.env.scope x)(he:PE X e te)(hs:swapsWith e (some (.Name x pos')) pos.line X.env=pure false:=by rfl)(hf:X.fn x=true∨X.env.scope.names.lookup x=some .local:=by first | exact .inl rfl | exact .inr rfl | assumption) :
  PS X (.Assign [.Name x pos'] e pos) (MF te (yQ i)):=by
 intro pins s σ H D I h
 refine wpAny_Assign_Name (thn (he pins s σ H _ I h) fun v s1 ⟨y,H1,I1,r1,q1⟩=>?_) hs
 exact zR I1 hN hi hx r1 (fun s2 I2=>⟨_,H1,I2,q1⟩) hf
end
section
variable {X:Cx}{pos:Pos}
def Ny(c:TT)(tb:TS):TS:=fun D σ H=>∃ W:Nat→St→Hp→Prop,(∃ m,W m σ H)∧∀ m σ H,W m σ H→
 c σ H fun b H1=>if b=true then ∃ N:St→Hp→Prop,(∀ σ' H',N σ' H'→∃ m',m' < m∧W m' σ' H')∧tb { D with nx:=N,ct:=N,bk:=D.nx } σ H1 else D.nx σ H1
theorem mq{c:Expr}{body:List Stmt}{tc:TT}{tb:TS}(hp:PassesOwn (model X.prog X.w) X.A X.env X.xe)(hc:PT X c tc)(hb:PSs X body tb):PS X (.While c body [] pos) (Ny tc tb):=by
 intro pins s σ H D I h
 obtain ⟨W,⟨m0,w0⟩,turn⟩:=h
 refine wpAny_While (codeAny_whileLoop (fun n s'=>∃ σ' H',Inv X pins σ' H' s'∧W n σ' H') ?_ m0 ⟨σ,H,I,w0⟩)
 rintro n s1 ⟨σ1,H1,I1,w1⟩
 refine i9 hp (thn (hc pins s1 σ1 H1 _ I1 (turn n σ1 H1 w1)) fun b s2 ⟨H2,I2,q2⟩=>?_)
 cases b with
 | true=>
  obtain ⟨N,hN,q2⟩:=q2
  rw [ck rfl]
  refine i9 hp (thn (hb pins s2 σ1 H2 _ I2 q2) fun f s3 q3=>?_)
  cases f with
  | next=>
   obtain ⟨σ3,H3,I3,n3⟩:=q3
   obtain ⟨m',hm,w3⟩:=hN σ3 H3 n3
   exact⟨m',hm,σ3,H3,I3,w3⟩
  | cont=>
   obtain ⟨σ3,H3,I3,n3⟩:=q3
   obtain ⟨m',hm,w3⟩:=hN σ3 H3 n3
   exact⟨m',hm,σ3,H3,I3,w3⟩
  | brk=>exact q3
  | ret v=>exact q3
 | false=>
  rw [bX aE]
  exact nB ⟨σ1,H2,I2,q2⟩
end
structure It where
 go:Nat→Hp→Prop
 yld:Nat→Hp→V→Hp→Prop
 stop:Nat→Hp→Prop
def nG(X:Cx)(pins:List (Addr × Obj))(H:Hp)(b:Addr):Prop:=
 H b=none∧b≠X.env.locals∧b ∉ X.fs∧(b∈X.ex∨X.s₀.heap.objs.size≤b)∧(∀ x c,X.env.cells.lookup x=some c→c≠b)∧∀ p∈X.pn++pins,p.1≠b
theorem Inv.lK{X:Cx}{pins:List (Addr × Obj)}{σ:St}{H H':Hp}{s:Shared}{b:Addr}(I:Inv X pins σ H s)(hb:s.heap.objs.size≤b)(hn:H' b=none):nG X pins H' b:=by
 refine⟨hn,fe (eA I.lt hb),I.QL hb,.inr (dC I.sz hb),fun x c e z=>?_,fun p hp z=>?_⟩
 ·obtain ⟨v,q⟩:=I.cell x c e
  exact absurd (eA q.lt (by rw [z]; exact hb)) (iE _)
 ·exact absurd (eA (cr (I.pin p hp).1) (by rw [z]; exact hb)) (iE _)
structure Turn (P:Program) (w:World) (K:PySem.W.Frag) (tg:Expr) (J:It) (fp:List Addr) (it:Addr) (tn:Nat→Heap→Prop):Prop where
 mem:it∈fp
 obj:∀ i h,tn i h→∀ b∈fp,∃ o,h.get? b=some o∧∀ v,o.data≠.cell v
 keep:∀ i h h',tn i h→(∀ b∈fp,∀ o,h.get? b=some o→h'.get? b=some o)→tn i h'
 item:∀(X:Cx),X.prog=P→X.w=w→X.K=K→X.calm=true→∀(i:Nat) (pins:List (Addr × Obj)) (s:Shared) (σ:St) (H:Hp) (E:Value→Shared→Prop),Inv X pins σ H s→(∀ b∈fp,nG X pins H b)→tn i s.heap→J.go i H→
  wpAny (model P w) X.A (pyNext (.ref it)) (fun r s1=>∃ u,r=some u∧
   wpAny (model P w) X.A (letOwnedTupleGo tg (.ref it) u) (fun _ s2=>∃ x H',Inv X pins σ H' s2∧RelV x u∧J.yld i H x H'∧tn (i+1) s2.heap∧∀ b∈fp,H' b=none) E s1) E s
 done:∀(X:Cx),X.prog=P→X.w=w→X.K=K→X.calm=true→∀(i:Nat) (pins:List (Addr × Obj)) (s:Shared) (σ:St) (H:Hp) (E:Value→Shared→Prop),Inv X pins σ H s→(∀ b∈fp,nG X pins H b)→tn i s.heap→J.stop i H→
  wpAny (model P w) X.A (pyNext (.ref it)) (fun r s1=>r=none∧Inv X pins σ H s1) E s
 self:∀(A:Around) (i:Nat) (s:Shared) (Q:Value→Shared→Prop) (E:Value→Shared→Prop),tn i s.heap→Q (.ref it) s→wpAny (model P w) A (pyIter (.ref it)) Q E s
abbrev TI:=St→Hp→(It→Hp→Prop)→Prop
def PIE(X:Cx)(pins:List (Addr × Obj))(σ:St)(tg:Expr)(R:It→Hp→Prop)(itv:Value)(s2:Shared):Prop:=
 ∃(it:Addr) (fp:List Addr) (tn:Nat→Heap→Prop) (J:It) (H':Hp),itv=.ref it∧Inv X pins σ H' s2∧Turn X.prog X.w X.K tg J fp it tn∧tn 0 s2.heap∧(∀ b∈fp,nG X pins H' b)∧R J H'
def PI(X:Cx)(tg iter:Expr)(wi:TI):Prop:=
 ∀(pins:List (Addr × Obj)) (s:Shared) (σ:St) (H:Hp) (R:It→Hp→Prop),Inv X pins σ H s→wi σ H R→
  wpAny (model X.prog X.w) X.A (eval iter X.env) (fun v s1=>wpAny (model X.prog X.w) X.A (pyIter v) (PIE X pins σ tg R) X.xe s1) X.xe s
theorem yN{M:Model}{A:Around}{E:Value→Shared→Prop}{s:Shared}{tg:Expr}{it:Addr}{u:Value}{o:Obj}{n:String}{vs:Array Value}{Q:Unit→Shared→Prop}(ho:s.heap.get? it=some o)(hc:o.cls=.type n)(hd:o.data=.fields vs)
    (hn:["enumerate","zip","dict_itemiterator","dict_reverseitemiterator","odict_iterator","itertools.zip_longest","itertools.pairwise"].contains n=false) (hQ:Q () s):wpAny M A (letOwnedTupleGo tg (.ref it) u) Q E s:=by
  unfold letOwnedTupleGo
  cases tg <;> first
    | exact aI hQ
    | (cases u <;> first
        | exact aI hQ
        | (refine ac (wpAny_load ho ?_)
           rw [hc,hd]
           show wpAny M A (if (["enumerate","zip","dict_itemiterator","dict_reverseitemiterator","odict_iterator","itertools.zip_longest","itertools.pairwise"].contains n && vs[0]? == some (rawInt _))=true then _ else _) Q E s
           rw [bX (by intro h; rw [hn,Bool.false_and] at h; cases h)]
           exact aI hQ))
def Itl(K:PySem.W.Frag)(a:Addr):It:=
 ⟨fun i H=>∃ xs x,SqL K H a xs∧xs[i]?=some x,fun i H x H'=>H'=H∧∀ xs,SqL K H a xs→xs[i]?=some x,fun i H=>∃ xs,SqL K H a xs∧xs.length≤i⟩
def Itt(K:PySem.W.Frag)(a:Addr):It:=
 ⟨fun i H=>∃ xs x,SqT K H a xs∧xs[i]?=some x,fun i H x H'=>H'=H∧∀ xs,SqT K H a xs→xs[i]?=some x,fun i H=>∃ xs,SqT K H a xs∧xs.length≤i⟩
def Itr(lo:Int)(n:Nat):It:=⟨fun i _=>i < n,fun i H x H'=>H'=H∧x=.int (lo+i),fun i _=>n≤i⟩
theorem wC{P:Program}{w:World}{K:PySem.W.Frag}{tg:Expr}(a it:Addr):Turn P w K tg (Itl K a) [it] it (fun i h=>h.IsListIter it a i) where
 mem:=by simp
 obj:=fun i h st b hb=>by
  have e:b=it:=by simpa using hb
  subst e
  obtain ⟨o,e,c,d⟩:=st
  exact⟨o,e,fun v z=>by rw [d] at z; cases z⟩
 keep:=fun i h h' st k=>st.at fun o e=>k it (by simp) o e
 item:=by
  intro X hP hw hK hc i pins s σ H E I hf st hg
  subst hP hw hK
  obtain ⟨xs,x,hq,hx⟩:=hg
  obtain ⟨its,rv,p,hz⟩:=I.list hq
  obtain ⟨u,hu,ru⟩:=rv.get hx
  obtain ⟨f0,f1,f2,f3,f4,f5⟩:=hf it (by simp)
  refine lS st p.isList (x:=u) (by simpa using hu) fun h' st' sb=>?_
  have I1:Inv X pins σ H { s with heap:=h' }:=I.turned (t':=s.toks) (fun b o hb e=>(sb.2 b hb).trans e) f0 f1 f3 f4 f5
  obtain ⟨o,e,c,d⟩:=id st'
  exact⟨u,rfl,yN (s:={ s with heap:=h' }) e c d (by decide) ⟨x,H,I1,ru,⟨rfl,fun ys hy=>by rw [I.zP hy hq]; exact hx⟩,st',fun b hb=>(hf b hb).1⟩⟩
 done:=by
  intro X hP hw hK hc i pins s σ H E I hf st hg
  subst hP hw hK
  obtain ⟨xs,hq,hx⟩:=hg
  obtain ⟨its,rv,p,hz⟩:=I.list hq
  obtain ⟨f0,f1,f2,f3,f4,f5⟩:=hf it (by simp)
  have hl:=rv.length
  exact mB (I.ok.hd hc) st p.isList (by simp; omega) fun h' eb=>⟨rfl,I.turned (t':=s.toks) (fun b o hb e=>eb b o hb e) f0 f1 f3 f4 f5⟩
 self:=fun _ _ _ _ _ st h=>wpAny_pyIter_listiter st h
theorem vq{P:Program}{w:World}{K:PySem.W.Frag}{tg:Expr}(a it:Addr):Turn P w K tg (Itt K a) [it] it (fun i h=>h.IsTupleIter it a i) where
 mem:=by simp
 obj:=fun i h st b hb=>by
  have e:b=it:=by simpa using hb
  subst e
  obtain ⟨o,e,c,d⟩:=st
  exact⟨o,e,fun v z=>by rw [d] at z; cases z⟩
 keep:=fun i h h' st k=>st.at fun o e=>k it (by simp) o e
 item:=by
  intro X hP hw hK hc i pins s σ H E I hf st hg
  subst hP hw hK
  obtain ⟨xs,x,hq,hx⟩:=hg
  obtain ⟨its,rv,p,hz⟩:=I.tuple hq
  obtain ⟨u,hu,ru⟩:=rv.get hx
  obtain ⟨f0,f1,f2,f3,f4,f5⟩:=hf it (by simp)
  refine ly st (show s.heap.IsTuple a its.toArray from p) (x:=u) (by simpa using hu) fun h' st' sb=>?_
  have I1:Inv X pins σ H { s with heap:=h' }:=I.turned (t':=s.toks) (fun b o hb e=>(sb.2 b hb).trans e) f0 f1 f3 f4 f5
  obtain ⟨o,e,c,d⟩:=id st'
  exact⟨u,rfl,yN (s:={ s with heap:=h' }) e c d (by decide) ⟨x,H,I1,ru,⟨rfl,fun ys hy=>by rw [I.ou hy hq]; exact hx⟩,st',fun b hb=>(hf b hb).1⟩⟩
 done:=by
  intro X hP hw hK hc i pins s σ H E I hf st hg
  subst hP hw hK
  obtain ⟨xs,hq,hx⟩:=hg
  obtain ⟨its,rv,p,hz⟩:=I.tuple hq
  obtain ⟨f0,f1,f2,f3,f4,f5⟩:=hf it (by simp)
  have hl:=rv.length
  exact lT (I.ok.hd hc) st (show s.heap.IsTuple a its.toArray from p) (by simp; omega) fun h' eb=>⟨rfl,I.turned (t':=s.toks) (fun b o hb e=>eb b o hb e) f0 f1 f3 f4 f5⟩
 self:=fun _ _ _ _ _ st h=>wpAny_pyIter_tupleiter st h
theorem Ck{P:Program}{w:World}{K:PySem.W.Frag}{tg:Expr}(it:Addr)(lo:Int)(n:Nat):Turn P w K tg (Itr lo n) [it] it (fun i h=>IsRangeIter h it (lo+(i:Nat) * 1) ((n:Int) - (i:Nat)) 1) where
 mem:=by simp
 obj:=fun i h st b hb=>by
  have e:b=it:=by simpa using hb
  subst e
  exact⟨_,st,fun v z=>by
   have z':Data.fields _=Data.cell v:=z
   cases z'⟩
 keep:=fun i h h' st k=>k it (by simp) _ st
 item:=by
  intro X hP hw hK hc i pins s σ H E I hf st hg
  subst hP hw hK
  obtain ⟨f0,f1,f2,f3,f4,f5⟩:=hf it (by simp)
  have W:=Walks.range (prog:=X.prog) (w:=X.w) (I.ok.hd hc) it lo 1 n
  refine W.item i s _ _ hg st fun v h' tk hv st' kk=>?_
  obtain ⟨t,rfl⟩:=hv
  have I1:Inv X pins σ H { s with heap:=h',toks:=tk }:=I.turned (fun b o hb e=>kk b o (by simpa using hb) e) f0 f1 f3 f4 f5
  refine⟨_,rfl,yN (s:={ s with heap:=h',toks:=tk }) (n:= "range_iterator") st' rfl rfl (by decide) ⟨.int (lo+i),H,I1,⟨t,?_⟩,⟨rfl,rfl⟩,st',fun b hb=>(hf b hb).1⟩⟩
  rw [Int.mul_one]
 done:=by
  intro X hP hw hK hc i pins s σ H E I hf st hg
  subst hP hw hK
  obtain ⟨f0,f1,f2,f3,f4,f5⟩:=hf it (by simp)
  exact wpAny_pyNext_range_end (I.ok.hd hc) st (by have:n≤i:=hg; omega) fun h' eb=>⟨rfl,I.turned (t':=s.toks) (fun b o hb e=>eb b o hb e) f0 f1 f3 f4 f5⟩
 self:=fun _ _ _ _ _ st h=>wpAny_pyIter_rangeiter st h
end L2
namespace L2
open PySem PySem.Spec PyProof.Rows
section
variable {X:Cx}{tg:Expr}
def LK(K:PySem.W.Frag)(tl:TE):TI:=fun σ H R=>tl σ H fun x H1=>∃ a,x=.ref a∧(∃ xs,SqL K H1 a xs)∧R (Itl K a) H1
def Qa(K:PySem.W.Frag)(tl:TE):TI:=fun σ H R=>tl σ H fun x H1=>∃ a,x=.ref a∧(∃ xs,SqT K H1 a xs)∧R (Itt K a) H1
theorem gU{l:Expr}{tl:TE}(hl:PE X l tl):PI X tg l (LK X.K tl):=by
 intro pins s σ H R I h
 refine thn (hl pins s σ H _ I h) fun v s1 ⟨x,H1,I1,r1,q1⟩=>?_
 obtain ⟨a,e,⟨xs,hq⟩,q⟩:=q1
 subst e
 cases r1
 obtain ⟨its,rv,p,hz⟩:=I1.list hq
 refine iN p.isList ?_
 refine⟨s1.heap.objs.size,[s1.heap.objs.size],_,_,H1,rfl,I1.kept (t':=s1.toks) fun b o e=>ar _ e,wC a _,⟨_,bn _ rfl,rfl,rfl⟩,fun b hb=>?_,q⟩
 have e:b=s1.heap.objs.size:=by simpa using hb
 subst e
 exact I1.lK (am _) (I1.hok.fresh (am _))
theorem cU{l:Expr}{tl:TE}(hl:PE X l tl):PI X tg l (Qa X.K tl):=by
 intro pins s σ H R I h
 refine thn (hl pins s σ H _ I h) fun v s1 ⟨x,H1,I1,r1,q1⟩=>?_
 obtain ⟨a,e,⟨xs,hq⟩,q⟩:=q1
 subst e
 cases r1
 obtain ⟨its,rv,p,hz⟩:=I1.tuple hq
 refine wpAny_pyIter_tuple (show s1.heap.IsTuple a its.toArray from p) ?_
 refine⟨s1.heap.objs.size,[s1.heap.objs.size],_,_,H1,rfl,I1.kept (t':=s1.toks) fun b o e=>ar _ e,vq a _,⟨_,bn _ rfl,rfl,rfl⟩,fun b hb=>?_,q⟩
 have e:b=s1.heap.objs.size:=by simpa using hb
 subst e
 exact I1.lK (am _) (I1.hok.fresh (am _))
theorem Jk{pins:List (Addr × Obj)}{σ:St}{H:Hp}{s:Shared}{R:It→Hp→Prop}{E:Value→Shared→Prop}{lo hi:Int}{t u v:Tok}{tk:Nat}(I:Inv X pins σ H s)(h1:-(2 ^ 62)≤lo)(h2:lo < 2 ^ 62)(h3:-(2 ^ 62)≤hi)(h4:hi < 2 ^ 62)
  (q:R (Itr lo (hi - lo).toNat) H):wpAny (model X.prog X.w) X.A (pyIter (.ref s.heap.objs.size)) (PIE X pins σ tg R) E { s with heap:=s.heap.push { cls:=.type "range",data:=.fields #[.int lo t,.int hi u,.int 1 v] },toks:=tk }:=by
 refine wpAny_pyIter_range (IsRange.new ..) (small_one h1 h2 h3 h4) ?_
 have I1:Inv X pins σ H { s with heap:=s.heap.push { cls:=.type "range",data:=.fields #[.int lo t,.int hi u,.int 1 v] },toks:=tk }:=I.kept fun b o e=>ar _ e
 refine⟨(s.heap.push { cls:=.type "range",data:=.fields #[.int lo t,.int hi u,.int 1 v] }).objs.size,[(s.heap.push { cls:=.type "range",data:=.fields #[.int lo t,.int hi u,.int 1 v] }).objs.size],_,_,H,rfl,
  I1.kept (t':=tk) fun b o e=>ar _ e,Ck _ lo (hi - lo).toNat,?_,fun b hb=>?_,q⟩
 ·have e1:lo+((0:Nat):Int) * 1=lo:=by simp
  have e2:(((hi - lo).toNat:Nat):Int) - ((0:Nat):Int)=Builtin.Range.rangeSize lo hi 1:=by rw [rangeSize_one]; split <;> omega
  show IsRangeIter _ _ (lo+((0:Nat):Int) * 1) ((((hi - lo).toNat:Nat):Int) - ((0:Nat):Int)) 1
  rw [e1,e2]
  exact bn _ rfl
 ·have e:b=(s.heap.push { cls:=.type "range",data:=.fields #[.int lo t,.int hi u,.int 1 v] }).objs.size:=by simpa using hb
  subst e
  exact I1.lK (am _) (I1.hok.fresh (am _))
def Oo(ta:TA):TI:=fun σ H R=>ta σ H fun vs H1=>∃ j:Int,vs=[.int j]∧-(2 ^ 62)≤j∧j < 2 ^ 62∧R (Itr 0 j.toNat) H1
theorem jx{a:Expr}{ta:TA}{p pos:Pos}(hg:Gl X "range")(hm:X.mg "range" = none)(ha:PA X [a] ta)(hs:starEach [a] X.env=[(false,eval a X.env)]:=by rfl):PI X tg (.Call (.Name "range" p) [a] [] pos) (Oo ta):=by
 intro pins s σ H R I h
 refine Call_ (pN I hg hm boot_range (ie (thn (ha pos pins s σ H _ I h) fun us s1 ⟨vs,H1,I1,r1,q1⟩=>?_) hs rfl))
 obtain ⟨j,e,q1,q2,q⟩:=q1
 subst e
 cases r1 with
 | cons r rr=>
  cases rr
  obtain ⟨t,rfl⟩:=r
  exact call_range_1 (Jk I1 (by omega) (by omega) q1 q2 (by simpa using q))
def M8(wi:TI)(g:TG)(tb:TS):TS:=fun D σ H=>wi σ H fun J H1=>∃ W:Nat→Nat→St→Hp→Prop,(∃ m,W 0 m σ H1)∧∀ i m σ H,W i m σ H→
 (J.stop i H∧D.nx σ H)∨(J.go i H∧∃ N:St→Hp→Prop,(∀ σ' H',N σ' H'→∃ m',m' < m∧W (i+1) m' σ' H')∧∀ x H',J.yld i H x H'→g x σ H' fun σ2 H2=>tb { D with nx:=N,ct:=N,bk:=D.nx } σ2 H2)
def uO(fp:List Addr)(h:Heap):List (Addr × Obj):=fp.filterMap fun b=>(h.get? b).map fun o=>(b,o)
theorem mY{fp:List Addr}{h:Heap}{b:Addr}{o:Obj}(hb:b∈fp)(e:h.get? b=some o):(b,o)∈uO fp h:=kc.mpr ⟨b,hb,by rw [e]; rfl⟩
theorem Ga{fp:List Addr}{h:Heap}{p:Addr × Obj}(hp:p∈uO fp h):p.1∈fp∧h.get? p.1=some p.2:=by
 obtain ⟨b,hb,e⟩:=kc.mp hp
 cases q:h.get? b with
 | none=>rw [q] at e; cases e
 | some o=>
  rw [q] at e
  have e':(b,o)=p:=dE e
  subst e'
  exact⟨hb,q⟩
theorem Inv.pinned{pins:List (Addr × Obj)}{σ:St}{H:Hp}{s:Shared}{fp:List Addr}(I:Inv X pins σ H s)(hf:∀ b∈fp,nG X pins H b)(ho:∀ b∈fp,∃ o,s.heap.get? b=some o∧∀ v,o.data≠.cell v):Inv X (pins++uO fp s.heap) σ H s:=
 I.DG fun p hp=>(bS.mp hp).elim (fun z=>I.pin p (cE _ z)) fun z=>by
  obtain ⟨hb,e⟩:=Ga z
  obtain ⟨f0,f1,f2,_⟩:=hf p.1 hb
  obtain ⟨o,e',d⟩:=ho p.1 hb
  rw [e] at e'; cases e'
  exact⟨e,f0,f1,f2,d⟩
theorem Inv.pP{pins pl:List (Addr × Obj)}{σ:St}{H:Hp}{s:Shared}(I:Inv X (pins++pl) σ H s):Inv X pins σ H s:=I.DG fun p hp=>I.pin p (cE _ (dP _ hp))
theorem gR{iter:Expr}{body:List Stmt}{wi:TI}{g:TG}{tb:TS}{pos:Pos}(hp:PassesOwn (model X.prog X.w) X.A X.env X.xe)(hc:X.calm=true)(hi:PI X tg iter wi)(hg:PG X tg g)(hb:PSs X body tb)
  (hs:∀ x,foldedSetIterable iter X.env x=pure x:=by intro _; rfl):PS X (.For tg iter body [] pos) (M8 wi g tb):=by
 intro pins s σ H D I h
 refine wpAny_For (thn (hi pins s σ H _ I h) fun v s1 h1=>thn h1 fun itv s2 h2=>?_) hs
 obtain ⟨it,fp,tn,J,H2,e,I2,T,st2,f2,W,⟨m0,w0⟩,turn⟩:=h2
 subst e
 have stat:∀ {H':Hp},(∀ b∈fp,H' b=none)→∀ b∈fp,nG X pins H' b:=fun hn b hb=>⟨hn b hb,(f2 b hb).2⟩
 refine codeAny_forLoop_any (fun n s'=>∃ i σ' H',Inv X pins σ' H' s'∧tn i s'.heap∧(∀ b∈fp,H' b=none)∧W i n σ' H') ?_ m0 ⟨0,σ,H2,I2,st2,fun b hb=>(f2 b hb).1,w0⟩
 rintro n s3 ⟨i,σ3,H3,I3,st3,fr3,w3⟩
 rcases turn i n σ3 H3 w3 with ⟨stop,qn⟩ | ⟨go,N,hN,step⟩
 ·refine i9 hp (thn (T.done X rfl rfl rfl hc i pins s3 σ3 H3 X.xe I3 (stat fr3) st3 stop) fun r s4 ⟨hr,I4⟩=>?_)
  subst hr
  exact nB ⟨σ3,H3,I4,qn⟩
 ·refine i9 hp (thn (T.item X rfl rfl rfl hc i pins s3 σ3 H3 X.xe I3 (stat fr3) st3 go) fun r s4 ⟨u,hr,h4⟩=>?_)
  subst hr
  refine i9 hp (thn h4 fun _ s5 ⟨x,H5,I5,r5,y5,st5,fr5⟩=>?_)
  have I5':=I5.pinned (stat fr5) (T.obj _ _ st5)
  refine i9 hp (thn (hg _ s5 σ3 H5 x u _ I5' r5 (step x H5 y5)) fun _ s6 ⟨σ6,H6,I6,q6⟩=>?_)
  refine i9 hp (thn (hb _ s6 σ6 H6 _ I6 q6) fun f s7 q7=>?_)
  have again:∀ {σ7:St} {H7:Hp},Inv X (pins++uO fp s5.heap) σ7 H7 s7→N σ7 H7→∃ m,m < n∧∃ i σ' H',Inv X pins σ' H' s7∧tn i s7.heap∧(∀ b∈fp,H' b=none)∧W i m σ' H':=fun {σ7 H7} I7 n7=>by
   obtain ⟨m',hm,w7⟩:=hN σ7 H7 n7
   refine⟨m',hm,i+1,σ7,H7,I7.pP,T.keep _ _ _ st5 fun b hb o e=>(I7.pin (b,o) (cE _ (cE _ (mY hb e)))).1,fun b hb=>?_,w7⟩
   obtain ⟨o,e,d⟩:=T.obj _ _ st5 b hb
   exact(I7.pin (b,o) (cE _ (cE _ (mY hb e)))).2.1
  cases f with
  | next=>obtain ⟨σ7,H7,I7,n7⟩:=q7; exact again I7 n7
  | cont=>obtain ⟨σ7,H7,I7,n7⟩:=q7; exact again I7 n7
  | brk=>obtain ⟨σ7,H7,I7,q7⟩:=q7; exact⟨σ7,H7,I7.pP,q7⟩
  | ret v=>obtain ⟨x7,σ7,H7,I7,r7,q7⟩:=q7; exact⟨x7,σ7,H7,I7.pP,r7,q7⟩
end
theorem nF{K:PySem.W.Frag}{a:Addr}{xs:List V}{g:TG}{tb:TS}{D:Ends}{σ:St}{H:Hp}(Pv:Nat→St→Hp→Prop)(h0:Pv 0 σ H)(hl:∀ i σ H,i≤xs.length→Pv i σ H→SqL K H a xs)
  (hs:∀ i x σ H,xs[i]?=some x→Pv i σ H→g x σ H fun σ2 H2=>tb { D with nx:=Pv (i+1),ct:=Pv (i+1),bk:=D.nx } σ2 H2) (hd:∀ σ H,Pv xs.length σ H→D.nx σ H) :
  ∃ W:Nat→Nat→St→Hp→Prop,(∃ m,W 0 m σ H)∧∀ i m σ H,W i m σ H→
   ((Itl K a).stop i H∧D.nx σ H)∨((Itl K a).go i H∧∃ N:St→Hp→Prop,(∀ σ' H',N σ' H'→∃ m',m' < m∧W (i+1) m' σ' H')∧∀ x H',(Itl K a).yld i H x H'→g x σ H' fun σ2 H2=>tb { D with nx:=N,ct:=N,bk:=D.nx } σ2 H2):=by
 refine⟨fun i m σ H=>m=xs.length - i∧i≤xs.length∧Pv i σ H,⟨xs.length,by simp,dq _,h0⟩,?_⟩
 rintro i m σ H ⟨rfl,hi,p⟩
 have q:=hl i σ H hi p
 by_cases hlt:i < xs.length
 ·refine .inr ⟨⟨xs,xs[i],q,by simp [hlt]⟩,Pv (i+1),fun σ' H' p'=>⟨xs.length - (i+1),by omega,rfl,hlt,p'⟩,fun x H' y=>?_⟩
  obtain ⟨e,y⟩:=y
  subst e
  exact hs i x σ _ (y xs q) p
 ·have e:i=xs.length:=by omega
  subst e
  exact .inl ⟨⟨xs,q,am _⟩,hd σ H p⟩
theorem nW{K:PySem.W.Frag}{a:Addr}{xs:List V}{g:TG}{tb:TS}{D:Ends}{σ:St}{H:Hp}(Pv:Nat→St→Hp→Prop)(h0:Pv 0 σ H)(hl:∀ i σ H,i≤xs.length→Pv i σ H→SqT K H a xs)
  (hs:∀ i x σ H,xs[i]?=some x→Pv i σ H→g x σ H fun σ2 H2=>tb { D with nx:=Pv (i+1),ct:=Pv (i+1),bk:=D.nx } σ2 H2) (hd:∀ σ H,Pv xs.length σ H→D.nx σ H) :
  ∃ W:Nat→Nat→St→Hp→Prop,(∃ m,W 0 m σ H)∧∀ i m σ H,W i m σ H→
   ((Itt K a).stop i H∧D.nx σ H)∨((Itt K a).go i H∧∃ N:St→Hp→Prop,(∀ σ' H',N σ' H'→∃ m',m' < m∧W (i+1) m' σ' H')∧∀ x H',(Itt K a).yld i H x H'→g x σ H' fun σ2 H2=>tb { D with nx:=N,ct:=N,bk:=D.nx } σ2 H2):=by
 refine⟨fun i m σ H=>m=xs.length - i∧i≤xs.length∧Pv i σ H,⟨xs.length,by simp,dq _,h0⟩,?_⟩
 rintro i m σ H ⟨rfl,hi,p⟩
 have q:=hl i σ H hi p
 by_cases hlt:i < xs.length
 ·refine .inr ⟨⟨xs,xs[i],q,by simp [hlt]⟩,Pv (i+1),fun σ' H' p'=>⟨xs.length - (i+1),by omega,rfl,hlt,p'⟩,fun x H' y=>?_⟩
  obtain ⟨e,y⟩:=y
  subst e
  exact hs i x σ _ (y xs q) p
 ·have e:i=xs.length:=by omega
  subst e
  exact .inl ⟨⟨xs,q,am _⟩,hd σ H p⟩
theorem nY{lo:Int}{n:Nat}{g:TG}{tb:TS}{D:Ends}{σ:St}{H:Hp}(Pv:Nat→St→Hp→Prop)(h0:Pv 0 σ H)
  (hs:∀ i σ H,i < n→Pv i σ H→g (.int (lo+i)) σ H fun σ2 H2=>tb { D with nx:=Pv (i+1),ct:=Pv (i+1),bk:=D.nx } σ2 H2) (hd:∀ σ H,Pv n σ H→D.nx σ H) :
  ∃ W:Nat→Nat→St→Hp→Prop,(∃ m,W 0 m σ H)∧∀ i m σ H,W i m σ H→
   ((Itr lo n).stop i H∧D.nx σ H)∨((Itr lo n).go i H∧∃ N:St→Hp→Prop,(∀ σ' H',N σ' H'→∃ m',m' < m∧W (i+1) m' σ' H')∧∀ x H',(Itr lo n).yld i H x H'→g x σ H' fun σ2 H2=>tb { D with nx:=N,ct:=N,bk:=D.nx } σ2 H2):=by
 refine⟨fun i m σ H=>m=n - i∧i≤n∧Pv i σ H,⟨n,by simp,dq _,h0⟩,?_⟩
 rintro i m σ H ⟨rfl,hi,p⟩
 by_cases hlt:i < n
 ·refine .inr ⟨hlt,Pv (i+1),fun σ' H' p'=>⟨n - (i+1),by omega,rfl,hlt,p'⟩,fun x H' y=>?_⟩
  obtain ⟨e,y⟩:=y
  subst e y
  exact hs i σ _ hlt p
 ·have e:i=n:=by omega
  subst e
  exact .inl ⟨am _,hd σ H p⟩
abbrev R2:=V→V→Hp→VK→Prop
def OpR(X:Cx)(f:Value→Value→Sem Value)(r:R2):Prop:=
 ∀(pins:List (Addr × Obj)) (s:Shared) (σ:St) (H:Hp) (x y:V) (v u:Value) (Q:VK),Inv X pins σ H s→RelV x v→RelV y u→r x y H Q→
  wpAny (model X.prog X.w) X.A (f v u) (EP X pins σ Q) X.xe s
def UnR(X:Cx)(f:Value→Sem Value)(r:V→Hp→VK→Prop):Prop:=
 ∀(pins:List (Addr × Obj)) (s:Shared) (σ:St) (H:Hp) (x:V) (v:Value) (Q:VK),Inv X pins σ H s→RelV x v→r x H Q→
  wpAny (model X.prog X.w) X.A (f v) (EP X pins σ Q) X.xe s
def gn(X:Cx)(f:Value)(r:List V→Hp→VK→Prop):Prop:=
 ∀(pins:List (Addr × Obj)) (s:Shared) (σ:St) (H:Hp) (xs:List V) (us:List Value) (Q:VK),Inv X pins σ H s→Vals xs us→r xs H Q→
  wpAny (model X.prog X.w) X.A (call f us) (EP X pins σ Q) X.xe s
def Qq(X:Cx)(r:V→Hp→(Bool→Hp→Prop)→Prop):Prop:=
 ∀(pins:List (Addr × Obj)) (s:Shared) (σ:St) (H:Hp) (x:V) (v:Value) (Q:Bool→Hp→Prop),Inv X pins σ H s→RelV x v→r x H Q→
  wpAny (model X.prog X.w) X.A (truthy v) (TP X pins σ Q) X.xe s
def tOp(r:R2)(ta tb:TE):TE:=fun σ H Q=>ta σ H fun x H1=>tb σ H1 fun y H2=>r x y H2 Q
def tUn(r:V→Hp→VK→Prop)(ta:TE):TE:=fun σ H Q=>ta σ H fun x H1=>r x H1 Q
def rI(C:Int→Int→Prop)(g:Int→Int→V):R2:=fun x y H Q=>∃ i j,x=.int i∧y=.int j∧C i j∧Q (g i j) H
def rI0(g:Int→Int→V):R2:=fun x y H Q=>∃ i j,x=.int i∧y=.int j∧Q (g i j) H
def rU(g:Int→V):V→Hp→VK→Prop:=fun x H Q=>∃ i,x=.int i∧Q (g i) H
section
variable {X:Cx}{a b c:Expr}{ta tb tc:TE}{pos:Pos}
theorem Nx(ha:PE X a ta)(hb:PE X b tb){pins:List (Addr × Obj)}{s:Shared}{σ:St}{H:Hp}{R:V→V→Hp→Prop}(I:Inv X pins σ H s)
  (h:ta σ H fun x H1=>tb σ H1 fun y H2=>R x y H2) {Q:Value→Shared→Prop} {f:Value→Value→Sem Value}
  (hf:∀ v u s2 x y H2,Inv X pins σ H2 s2→RelV x v→RelV y u→R x y H2→wpAny (model X.prog X.w) X.A (f v u) Q X.xe s2) :
  wpAny (model X.prog X.w) X.A (eval a X.env) (fun v s₁=>wpAny (model X.prog X.w) X.A (eval b X.env) (fun u s₂=>wpAny (model X.prog X.w) X.A (f v u) Q X.xe s₂) X.xe s₁) X.xe s:=by
 refine thn (ha pins s σ H _ I h) fun v s1 ⟨x,H1,I1,r1,q1⟩=>?_
 refine thn (hb pins s1 σ H1 _ I1 q1) fun u s2 ⟨y,H2,I2,r2,q2⟩=>?_
 exact hf v u s2 x y H2 I2 r1 r2 q2
theorem bJ{op:Operator}{r:R2}(ho:OpR X (binaryOp op) r)(ha:PE X a ta)(hb:PE X b tb):PE X (.BinOp a op b pos) (tOp r ta tb):=by
 intro pins s σ H Q I h
 exact wpAny_BinOp (Nx ha hb I h fun v u s2 x y H2 I2 rx ry q=>ho pins s2 σ H2 x y v u Q I2 rx ry q)
theorem DQ{op:UnaryOp}{r:V→Hp→VK→Prop}(ho:UnR X (unaryOp op) r)(ha:PE X a ta):PE X (.UnaryOp op a pos) (tUn r ta):=by
 intro pins s σ H Q I h
 exact UnaryOp_ (thn (ha pins s σ H _ I h) fun v s1 ⟨x,H1,I1,r1,q1⟩=>ho pins s1 σ H1 x v Q I1 r1 q1)
theorem opI{f:Value→Value→Sem Value}{C:Int→Int→Prop}{g:Int→Int→Int}
  (rule:∀(i j:Int) (t u:Tok) (s:Shared) (Q:Value→Shared→Prop) (E:Value→Shared→Prop),C i j→Q (.int (g i j) s.toks) { s with toks:=s.toks+1 }→wpAny (model X.prog X.w) X.A (f (.int i t) (.int j u)) Q E s) :
  OpR X f (rI C fun i j=>.int (g i j)):=by
 intro pins s σ H x y v u Q I rx ry h
 obtain ⟨i,j,rfl,rfl,hc,q⟩:=h
 obtain ⟨t,rfl⟩:=rx
 obtain ⟨t',rfl⟩:=ry
 exact rule i j t t' s _ _ hc ⟨.int (g i j),H,I.tok _,⟨_,rfl⟩,q⟩
theorem P0{f:Value→Value→Sem Value}{g:Int→Int→Int}
  (rule:∀(i j:Int) (t u:Tok) (s:Shared) (Q:Value→Shared→Prop) (E:Value→Shared→Prop),Q (.int (g i j) s.toks) { s with toks:=s.toks+1 }→wpAny (model X.prog X.w) X.A (f (.int i t) (.int j u)) Q E s) :
  OpR X f (rI0 fun i j=>.int (g i j)):=by
 intro pins s σ H x y v u Q I rx ry h
 obtain ⟨i,j,rfl,rfl,q⟩:=h
 obtain ⟨t,rfl⟩:=rx
 obtain ⟨t',rfl⟩:=ry
 exact rule i j t t' s _ _ ⟨.int (g i j),H,I.tok _,⟨_,rfl⟩,q⟩
theorem JN{f:Value→Value→Sem Value}{g:Int→Int→Bool}
  (rule:∀(i j:Int) (t u:Tok) (s:Shared) (Q:Value→Shared→Prop) (E:Value→Shared→Prop),Q (.bool (g i j)) s→wpAny (model X.prog X.w) X.A (f (.int i t) (.int j u)) Q E s) :
  OpR X f (rI0 fun i j=>.bl (g i j)):=by
 intro pins s σ H x y v u Q I rx ry h
 obtain ⟨i,j,rfl,rfl,q⟩:=h
 obtain ⟨t,rfl⟩:=rx
 obtain ⟨t',rfl⟩:=ry
 exact rule i j t t' s _ _ ⟨.bl (g i j),H,I,rfl,q⟩
def QS(i j:Int):Prop:=0 < j∧j < 1073741824
def QV(i j:Int):Prop:=0≤j∧j≤1000000∧i.natAbs < 2 ^ 64
def Ob(i j:Int):Prop:=(-(2 ^ 64) < i∧i < 2 ^ 64)∨(-(2 ^ 64) < j∧j < 2 ^ 64)
theorem Ob.ok{i j:Int}(h:Ob i j):IntMulOk i j:=by
 rcases h with ⟨h1,h2⟩ | ⟨h1,h2⟩
 ·exact .of_left (intBits_le_64 h1 h2)
 ·exact .of_right (intBits_le_64 h1 h2)
theorem gQ:OpR X (binaryOp .Add) (rI0 fun i j=>.int (i+j)):=P0 fun _ _ _ _ _ _ _ q=>add_int q
theorem xZ:OpR X (binaryOp .Sub) (rI0 fun i j=>.int (i - j)):=P0 fun _ _ _ _ _ _ _ q=>sub_int q
theorem mJ:OpR X (binaryOp .Mult) (rI Ob fun i j=>.int (i * j)):=opI fun _ _ _ _ _ _ _ hc q=>mul_int q hc.ok
theorem yF:OpR X (binaryOp .FloorDiv) (rI QS fun i j=>.int (i / j)):=opI fun i j _ _ _ _ _ hc q=>by
 have h1:(0:Int) < j:=hc.1
 have h2:j < 1073741824:=hc.2
 exact floordiv_int (by omega) (by rw [Int.fdiv_eq_ediv_of_nonneg i (by omega)]; exact q) (.inl (PyProof.noPylong_small (by omega)))
theorem mU:OpR X (binaryOp .Mod) (rI (fun _ j=>0 < j) fun i j=>.int (i % j)):=opI fun i j _ _ _ _ _ hc q=>by
 have h1:(0:Int) < j:=hc
 exact mod_int' (by omega) (by rw [Int.fmod_eq_emod_of_nonneg i (by omega)]; exact q)
theorem Jt:OpR X (binaryOp .Pow) (rI QV fun i j=>.int (i ^ j.toNat)):=opI fun _ _ _ _ _ _ _ hc q=>pow_int_small hc.1 hc.2.1 hc.2.2 q
theorem unI{f:Value→Sem Value}{g:Int→Int}
  (rule:∀(i:Int) (t:Tok) (s:Shared) (Q:Value→Shared→Prop) (E:Value→Shared→Prop),Q (.int (g i) s.toks) { s with toks:=s.toks+1 }→wpAny (model X.prog X.w) X.A (f (.int i t)) Q E s) :
  UnR X f (rU fun i=>.int (g i)):=by
 intro pins s σ H x v Q I rx h
 obtain ⟨i,rfl,q⟩:=h
 obtain ⟨t,rfl⟩:=rx
 exact rule i t s _ _ ⟨.int (g i),H,I.tok _,⟨_,rfl⟩,q⟩
theorem xu:UnR X (unaryOp .USub) (rU fun i=>.int (-i)):=unI fun _ _ _ _ _ q=>neg_int q
end
def Ot:V→V→Bool
 | .non,.non=>true | .non,.int _=>true | .int _,.non=>true | .non,.bl _=>true | .bl _,.non=>true | .non,.str _=>true | .str _,.non=>true
 | .int _,.int _=>true | .bl _,.bl _=>true | .str _,.str _=>true | .byt _,.byt _=>true
 | .int _,.str _=>true | .str _,.int _=>true | .bl _,.str _=>true | .str _,.bl _=>true
 | _,_=>false
def rEq:R2:=fun x y H Q=>Ot x y=true∧Q (.bl (decide (x=y))) H
def rNe:R2:=fun x y H Q=>Ot x y=true∧Q (.bl (!decide (x=y))) H
theorem Dj{i j:Int}:decide (V.int i=V.int j)=(i == j):=by
 rw [fm]
 simp
theorem Ju{i j:Bool}:decide (V.bl i=V.bl j)=(i == j):=by
 rw [fm]
 simp
theorem Ds{i j:Str}:decide (V.str i=V.str j)=(i == j):=by
 rw [fm]
 simp
theorem CG{i j:Array UInt8}:decide (V.byt i=V.byt j)=(i.toList == j.toList):=by
 rw [fm]
 cases i
 cases j
 simp
section
variable {X:Cx}{a b c:Expr}{ta tb tc:TE}{pos:Pos}
theorem cI{pins:List (Addr × Obj)}{σ:St}{H:Hp}{s:Shared}{Q:VK}{k k':Bool}(I:Inv X pins σ H s)(q:Q (.bl k) H)(e:k=k'):EP X pins σ Q (.bool k') s:=by
 subst e
 exact⟨.bl k,H,I,rfl,q⟩
theorem fu:OpR X (compareOp .Eq) rEq:=by
 intro pins s σ H x y v u Q I rx ry h
 obtain ⟨hs,q⟩:=h
 cases x with
 | non=>
  cases rx
  cases y with
  | non=>cases ry; exact PySem.EqNone.eq_none_none (cI I q (by simp))
  | bl j=>cases ry; exact PySem.EqNone.eq_none_bool (cI I q (by simp))
  | int j=>obtain ⟨t',rfl⟩:=ry; exact PySem.EqNone.eq_none_int (cI I q (by simp))
  | str j=>obtain ⟨t',rfl⟩:=ry; exact PySem.EqNone.eq_none_str (cI I q (by simp))
  | _=>exact absurd (show false=true from hs) aE
 | bl i=>
  cases rx
  cases y with
  | non=>cases ry; exact PySem.EqNone.eq_bool_none (cI I q (by simp))
  | bl j=>cases ry; exact eq_bool (cI I q Ju)
  | str j=>obtain ⟨t',rfl⟩:=ry; exact PySem.EqMixed.eq_bool_str (cI I q (by simp))
  | _=>exact absurd (show false=true from hs) aE
 | int i=>
  obtain ⟨t,rfl⟩:=rx
  cases y with
  | non=>cases ry; exact PySem.EqNone.eq_int_none (cI I q (by simp))
  | int j=>obtain ⟨t',rfl⟩:=ry; exact eq_int (cI I q Dj)
  | str j=>obtain ⟨t',rfl⟩:=ry; exact PySem.EqMixed.eq_int_str (cI I q (by simp))
  | _=>exact absurd (show false=true from hs) aE
 | str i=>
  obtain ⟨t,rfl⟩:=rx
  cases y with
  | non=>cases ry; exact PySem.EqNone.eq_str_none (cI I q (by simp))
  | bl j=>cases ry; exact PySem.EqMixed.eq_str_bool (cI I q (by simp))
  | int j=>obtain ⟨t',rfl⟩:=ry; exact PySem.EqMixed.eq_str_int (cI I q (by simp))
  | str j=>obtain ⟨t',rfl⟩:=ry; exact eq_str (cI I q Ds)
  | _=>exact absurd (show false=true from hs) aE
 | byt i=>
  obtain ⟨t,rfl⟩:=rx
  cases y with
  | byt j=>obtain ⟨t',rfl⟩:=ry; exact PySem.W.eq_bytes (cI I q CG)
  | _=>exact absurd (show false=true from hs) aE
 | _=>cases y <;> exact absurd (show false=true from hs) aE
theorem zL:OpR X (compareOp .NotEq) rNe:=by
 intro pins s σ H x y v u Q I rx ry h
 obtain ⟨hs,q⟩:=h
 cases x with
 | non=>
  cases rx
  cases y with
  | non=>cases ry; exact PySem.EqNone.ne_none_none (cI I q (by simp))
  | bl j=>cases ry; exact PySem.EqNone.ne_none_bool (cI I q (by simp))
  | int j=>obtain ⟨t',rfl⟩:=ry; exact PySem.EqNone.ne_none_int (cI I q (by simp))
  | str j=>obtain ⟨t',rfl⟩:=ry; exact PySem.EqNone.ne_none_str (cI I q (by simp))
  | _=>exact absurd (show false=true from hs) aE
 | bl i=>
  cases rx
  cases y with
  | non=>cases ry; exact PySem.EqNone.ne_bool_none (cI I q (by simp))
  | bl j=>cases ry; exact ne_bool (cI I q (congrArg not Ju))
  | str j=>obtain ⟨t',rfl⟩:=ry; exact PySem.EqMixed.ne_bool_str (cI I q (by simp))
  | _=>exact absurd (show false=true from hs) aE
 | int i=>
  obtain ⟨t,rfl⟩:=rx
  cases y with
  | non=>cases ry; exact PySem.EqNone.ne_int_none (cI I q (by simp))
  | int j=>obtain ⟨t',rfl⟩:=ry; exact ne_int (cI I q (congrArg not Dj))
  | str j=>obtain ⟨t',rfl⟩:=ry; exact PySem.EqMixed.ne_int_str (cI I q (by simp))
  | _=>exact absurd (show false=true from hs) aE
 | str i=>
  obtain ⟨t,rfl⟩:=rx
  cases y with
  | non=>cases ry; exact PySem.EqNone.ne_str_none (cI I q (by simp))
  | bl j=>cases ry; exact PySem.EqMixed.ne_str_bool (cI I q (by simp))
  | int j=>obtain ⟨t',rfl⟩:=ry; exact PySem.EqMixed.ne_str_int (cI I q (by simp))
  | str j=>obtain ⟨t',rfl⟩:=ry; exact ne_str (cI I q (congrArg not Ds))
  | _=>exact absurd (show false=true from hs) aE
 | byt i=>
  obtain ⟨t,rfl⟩:=rx
  cases y with
  | byt j=>obtain ⟨t',rfl⟩:=ry; exact PySem.W.ne_bytes (cI I q (congrArg not CG))
  | _=>exact absurd (show false=true from hs) aE
 | _=>cases y <;> exact absurd (show false=true from hs) aE
theorem zU:OpR X (compareOp .Lt) (rI0 fun i j=>.bl (decide (i < j))):=JN fun _ _ _ _ _ _ _ q=>lt_int q
theorem Cw:OpR X (compareOp .LtE) (rI0 fun i j=>.bl (decide (i≤j))):=JN fun _ _ _ _ _ _ _ q=>le_int q
theorem zT:OpR X (compareOp .Gt) (rI0 fun i j=>.bl (decide (j < i))):=JN fun _ _ _ _ _ _ _ q=>gt_int q
theorem Ow:OpR X (compareOp .GtE) (rI0 fun i j=>.bl (decide (j≤i))):=JN fun _ _ _ _ _ _ _ q=>ge_int q
theorem lF:OpR X (compareOp .Is) (fun x y H Q=>y=.non∧Q (.bl (decide (x=.non))) H):=by
 intro pins s σ H x y v u Q I rx ry h
 obtain ⟨rfl,q⟩:=h
 cases ry
 refine is_none_gen (cI I q ?_)
 cases x <;> first
  | (cases rx; rfl)
  | (obtain ⟨t,rfl⟩:=rx; rfl)
theorem Dn:OpR X (compareOp .IsNot) (fun x y H Q=>y=.non∧Q (.bl (!decide (x=.non))) H):=by
 intro pins s σ H x y v u Q I rx ry h
 obtain ⟨rfl,q⟩:=h
 cases ry
 refine isnot_none_gen (cI I q ?_)
 cases x <;> first
  | (cases rx; rfl)
  | (obtain ⟨t,rfl⟩:=rx; rfl)
theorem OpR.or{f:Value→Value→Sem Value}{r r':R2}(h:OpR X f r)(h':OpR X f r'):OpR X f (fun x y H Q=>r x y H Q∨r' x y H Q):=by
 intro pins s σ H x y v u Q I rx ry q
 rcases q with q | q
 ·exact h pins s σ H x y v u Q I rx ry q
 ·exact h' pins s σ H x y v u Q I rx ry q
theorem bx(b:Expr){op:CmpOp}(h:op≠.In:=by decide)(h2:op≠.NotIn:=by decide):behindInMarks op b=false:=by
 have e1:(op == CmpOp.In)=false:=by cases op <;> first | rfl | exact absurd rfl h
 have e2:(op == CmpOp.NotIn)=false:=by cases op <;> first | rfl | exact absurd rfl h2
 cases b <;> simp [behindInMarks,e1,e2]
theorem fG{op:CmpOp}{r:R2}(ho:OpR X (compareOp op) r)(ha:PE X a ta)(hb:PE X b tb)(hm:behindInMarks op b=false):PE X (.Compare a [op] [b] pos) (tOp r ta tb):=by
 intro pins s σ H Q I h
 exact wpAny_Compare1 (Nx ha hb I h fun v u s2 x y H2 I2 rx ry q=>ho pins s2 σ H2 x y v u Q I2 rx ry q) hm
def Lq(t:TE):TT:=fun σ H Q=>t σ H fun x H'=>∃ k,x=.bl k∧Q k H'
theorem aV{op:CmpOp}{r:R2}(ho:OpR X (compareOp op) r)(ha:PE X a ta)(hb:PE X b tb)(hm:behindInMarks op b=false):PT X (.Compare a [op] [b] pos) (Lq (tOp r ta tb)):=by
 intro pins s σ H Q I h
 refine wpAny_isTrue_Compare1 (thn (ha pins s σ H _ I h) fun v s1 ⟨x,H1,I1,r1,q1⟩=>thn (hb pins s1 σ H1 _ I1 q1) fun u s2 ⟨y,H2,I2,r2,q2⟩=>
  thn (ho pins s2 σ H2 x y v u _ I2 r1 r2 q2) fun c s3 ⟨z,H3,I3,r3,k,e,q3⟩=>?_) hm
 subst e
 cases r3
 exact fR ⟨H3,I3,q3⟩
def Ht(r r':R2)(ta tb tc:TE):TE:=fun σ H Q=>ta σ H fun x H1=>tb σ H1 fun y H2=>r x y H2 fun z H3=>∃ k,z=.bl k∧
 (if k=true then tc σ H3 fun w' H4=>r' y w' H4 Q else Q (.bl false) H3)
theorem HN{op op':CmpOp}{r r':R2}(ho:OpR X (compareOp op) r)(ho':OpR X (compareOp op') r')(ha:PE X a ta)(hb:PE X b tb)(hc:PE X c tc)
  (hm:lastMarks [op,op'] [b,c]=false:=by with_unfolding_all rfl):PE X (.Compare a [op,op'] [b,c] pos) (Ht r r' ta tb tc):=by
 intro pins s σ H Q I h
 refine Compare_chain (thn (ha pins s σ H _ I h) fun v s1 ⟨x,H1,I1,r1,q1⟩=>chain_link (thn (hb pins s1 σ H1 _ I1 q1) fun u s2 ⟨y,H2,I2,r2,q2⟩=>
  thn (ho pins s2 σ H2 x y v u _ I2 r1 r2 q2) fun d s3 ⟨z,H3,I3,r3,k,e,q3⟩=>?_)) hm
 subst e
 cases r3
 refine fR ?_
 cases k with
 | false=>exact ite_ff ⟨.bl false,H3,I3,rfl,q3⟩
 | true=>exact ite_tt (chain_last (thn (hc pins s3 σ H3 _ I3 q3) fun w' s4 ⟨z',H4,I4,r4,q4⟩=>ho' pins s4 σ H4 y z' u w' Q I4 r2 r4 q4))
theorem Hg{op op':CmpOp}{r r':R2}(ho:OpR X (compareOp op) r)(ho':OpR X (compareOp op') r')(ha:PE X a ta)(hb:PE X b tb)(hc:PE X c tc)
  (hm:lastMarks [op,op'] [b,c]=false:=by with_unfolding_all rfl):PT X (.Compare a [op,op'] [b,c] pos) (Lq (Ht r r' ta tb tc)):=by
 intro pins s σ H Q I h
 refine isTrue_chain (thn (ha pins s σ H _ I h) fun v s1 ⟨x,H1,I1,r1,q1⟩=>test_link (thn (hb pins s1 σ H1 _ I1 q1) fun u s2 ⟨y,H2,I2,r2,q2⟩=>
  thn (ho pins s2 σ H2 x y v u _ I2 r1 r2 q2) fun d s3 ⟨z,H3,I3,r3,k,e,q3⟩=>?_)) hm
 subst e
 cases r3
 refine fR ?_
 cases k with
 | false=>
  obtain ⟨k',e',q'⟩:=q3
  cases e'
  exact ite_ff ⟨H3,I3,q'⟩
 | true=>
  refine ite_tt (test_last (thn (hc pins s3 σ H3 _ I3 q3) fun w' s4 ⟨z',H4,I4,r4,q4⟩=>thn (ho' pins s4 σ H4 y z' u w' _ I4 r2 r4 q4) fun d' s5 ⟨z2,H5,I5,r5,k2,e2,q5⟩=>?_))
  subst e2
  cases r5
  exact fR ⟨H5,I5,q5⟩
def Kp(K:PySem.W.Frag)(x:V)(H:Hp)(k:Bool):Prop:=
 match x with
 | .non=>k=false
 | .bl b=>k=b
 | .int i=>k=(i != 0)
 | .str y=>y.length≤sizeLine∧k=((y.length:Int) != 0)
 | .byt y=>y.size≤sizeLine∧k=((y.size:Int) != 0)
 | .ref p=>(∃ xs,SqL K H p xs∧k=!xs.isEmpty)∨(∃ xs,SqT K H p xs∧k=!xs.isEmpty)∨∃ kvs,H p=some (.dK kvs)∧k=!kvs.isEmpty
 | _=>False
theorem Bt{κ:Type}{kvs:List (κ × V)}{vs:List (κ × Value)}(r:KV kvs vs):(!vs.isEmpty)=!kvs.isEmpty:=by
 cases r <;> rfl
theorem mO{xs:List V}{its:List Value}(r:Vals xs its):(!its.toArray.isEmpty)=!xs.isEmpty:=by
 cases r <;> simp
theorem nP:(sizeLine:Nat) < 2 ^ 63:=by rw [cK]; decide
theorem N5:Qq X (fun x H Q=>∃ k,Kp X.K x H k∧Q k H):=by
 intro pins s σ H x v Q I rx h
 obtain ⟨k,e,q⟩:=h
 have hl:=nP
 have hs:sizeLine=16777216:=cK
 cases x with
 | non=>
  cases rx
  have e':k=false:=e
  subst e'
  exact truthy_none ⟨H,I,q⟩
 | bl b=>
  cases rx
  have e':k=b:=e
  subst e'
  exact fR ⟨H,I,q⟩
 | int i=>
  obtain ⟨t,rfl⟩:=rx
  have e':k=(i != 0):=e
  subst e'
  exact PySem.P.truthy_int ⟨H,I,q⟩
 | str y=>
  obtain ⟨t,rfl⟩:=rx
  obtain ⟨hy,e'⟩:y.length≤sizeLine∧k=((y.length:Int) != 0):=e
  subst e'
  exact PySem.P.truthy_str (by omega) ⟨H,I.tok _,q⟩
 | byt y=>
  obtain ⟨t,rfl⟩:=rx
  obtain ⟨hy,e'⟩:y.size≤sizeLine∧k=((y.size:Int) != 0):=e
  subst e'
  exact PySem.W.truthy_bytes (by omega) ⟨H,I.tok _,q⟩
 | ref p=>
  cases rx
  have e':(∃ xs,SqL X.K H p xs∧k=!xs.isEmpty)∨(∃ xs,SqT X.K H p xs∧k=!xs.isEmpty)∨∃ kvs,H p=some (.dK kvs)∧k=!kvs.isEmpty:=e
  rcases e' with ⟨xs,hx,e'⟩ | ⟨xs,hx,e'⟩ | ⟨kvs,hx,e'⟩
  ·subst e'
   obtain ⟨its,r,pl,hz⟩:=I.list hx
   have hlen:=r.length
   exact wpAny_truthy_list pl.isList (by simp only [bo]; omega) ⟨H,I.tok _,by rw [mO r]; exact q⟩
  ·subst e'
   obtain ⟨its,r,pl,hz⟩:=I.tuple hx
   have hlen:=r.length
   exact truthy_tuple pl (by simp only [bo]; omega) ⟨H,I.tok _,by rw [mO r]; exact q⟩
  ·subst e'
   obtain ⟨hz,hS,vs,r,m⟩:kvs.length≤sizeLine∧(p == sysModules)=false∧∃ vs,KV kvs vs∧s.heap.DictOf (cG X.prog X.w) p vs:=I.hok p _ hx
   have hlen:kvs.length=vs.length:=cS r
   exact wpAny_truthy_dict hS m (by omega) ⟨H,I.tok _,by rw [Bt r]; exact q⟩
 | _=>exact(show False from e).elim
theorem qu(ha:PE X a ta)(he:∀ whole,isTrue a X.env whole=(do let v ← whole; standAt a.pos; holding [v] (truthy v))) :
  PT X a (fun σ H Q=>ta σ H fun x H'=>∃ k,Kp X.K x H' k∧Q k H'):=by
 intro pins s σ H Q I h
 exact isTrue_plain (thn (ha pins s σ H _ I h) fun v s1 ⟨x,H1,I1,r1,q1⟩=>N5 pins s1 σ H1 x v Q I1 r1 q1) (he _)
theorem kE:OpR X (binaryOp .Add) (fun x y H Q=>∃ i j,x=.str i∧y=.str j∧i.length+j.length≤sizeLine∧Q (.str (i++j)) H):=by
 intro pins s σ H x y v u Q I rx ry h
 obtain ⟨i,j,rfl,rfl,hz,q⟩:=h
 obtain ⟨t,rfl⟩:=rx
 obtain ⟨t',rfl⟩:=ry
 exact add_str (fun t' tk=>⟨.str (i++j),H,I.tok _,⟨_,rfl⟩,q⟩) hz
theorem vals1{x:V}{us:List Value}(r:Vals [x] us):∃ u,us=[u]∧RelV x u:=by
 cases r with
 | cons r1 r2=>cases r2; exact⟨_,rfl,r1⟩
theorem vals2{x y:V}{us:List Value}(r:Vals [x,y] us):∃ u w',us=[u,w']∧RelV x u∧RelV y w':=by
 cases r with
 | cons r1 r2=>
  cases r2 with
  | cons r3 r4=>cases r4; exact⟨_,_,rfl,r1,r3⟩
theorem Hh:gn X (.builtin "abs") (fun xs H Q=>∃ i,xs=[.int i]∧Q (.int (if i < 0 then -i else i)) H):=by
 intro pins s σ H xs us Q I r h
 obtain ⟨i,rfl,q⟩:=h
 obtain ⟨u,rfl,t,rfl⟩:=vals1 r
 exact call_abs_int fun u tk=>⟨.int (if i < 0 then -i else i),H,I.tok _,⟨_,rfl⟩,q⟩
theorem vW(hc:X.calm=true):gn X (.builtin "max") (fun xs H Q=>∃ i j,xs=[.int i,.int j]∧Q (.int (if j > i then j else i)) H):=by
 intro pins s σ H xs us Q I r h
 obtain ⟨i,j,rfl,q⟩:=h
 obtain ⟨u,w',rfl,⟨t,rfl⟩,⟨t',rfl⟩⟩:=vals2 r
 refine max_two_ints (I.ok.hd hc) fun h' tk k=>⟨_,H,I.kept k,?_,q⟩
 by_cases hj:j > i
 ·rw [ck hj,ck hj]; exact⟨_,rfl⟩
 ·rw [bX hj,bX hj]; exact⟨_,rfl⟩
theorem wQ(hc:X.calm=true):gn X (.builtin "min") (fun xs H Q=>∃ i j,xs=[.int i,.int j]∧Q (.int (if j < i then j else i)) H):=by
 intro pins s σ H xs us Q I r h
 obtain ⟨i,j,rfl,q⟩:=h
 obtain ⟨u,w',rfl,⟨t,rfl⟩,⟨t',rfl⟩⟩:=vals2 r
 refine min_two_ints (I.ok.hd hc) fun h' tk k=>⟨_,H,I.kept k,?_,q⟩
 by_cases hj:j < i
 ·rw [ck hj,ck hj]; exact⟨_,rfl⟩
 ·rw [bX hj,bX hj]; exact⟨_,rfl⟩
theorem Ep:gn X (.type "int") (fun xs H Q=>(∃ i,xs=[.int i]∧Q (.int i) H)∨∃ k,xs=[.bl k]∧Q (.int (if k then 1 else 0)) H):=by
 intro pins s σ H xs us Q I r h
 rcases h with ⟨i,rfl,q⟩ | ⟨k,rfl,q⟩
 ·obtain ⟨u,rfl,t,rfl⟩:=vals1 r
  exact call_int_int ⟨.int i,H,I,⟨_,rfl⟩,q⟩
 ·obtain ⟨u,rfl,r1⟩:=vals1 r
  cases r1
  exact call_int_bool ⟨.int (if k then 1 else 0),H,I.tok _,⟨_,rfl⟩,q⟩
end
structure NT (h:Heap) (x dx C:Addr) (mA:Str→Option Value):Prop where
 obj:h.get? x=some (PySem.W.instObj C dx)
 ns:h.Ns1 dx mA
 ne:dx≠x
theorem Gn{h:Heap}{dx:Addr}{mA:Str→Option Value}(n:h.Ns1 dx mA):∃ od,h.get? dx=some od∧∀ name,PySem.W.lookIn name od=some (mA name):=by
 obtain ⟨o,es,ep,ho,hd,hk,_,hm⟩:=n
 refine⟨o,ho,fun name=>?_⟩
 have e:=hm name
 unfold nsFind findBy at e
 rw [← Array.find?_toList] at e
 unfold PySem.W.lookIn
 rw [hd]
 dsimp only
 split
 ·rename_i y q
  rw [q] at e
  exact congrArg some e
 ·rename_i q
  rw [q] at e
  have a:es.toList.any (·.refKey)=false:=by
   rw [List.any_eq_false]
   intro y hy
   obtain ⟨z,t,hkey⟩:=hk y (nr.mp hy)
   simp [DictEntry.refKey,hkey]
  have a':¬ es.toList.any (·.refKey)=true:=by rw [a]; exact aE
  rw [bX a']
  exact congrArg some e
theorem NT.look{h:Heap}{x dx C:Addr}{mA:Str→Option Value}(I:NT h x dx C mA):∃ od,PySem.W.InstAt h x (PySem.W.instObj C dx) C (some od)∧∀ name,PySem.W.lookIn name od=some (mA name):=
 let ⟨od,ho,hl⟩:=Gn I.ns
 ⟨od,⟨I.obj,rfl,rfl,ho⟩,hl⟩
section
variable {prog:Program}{w:World}{A:Around}{E:Value→Shared→Prop}{s:Shared}{K:PySem.W.Frag}{x dx C f:Addr}{mA:Str→Option Value}{name:Str}{v:Value}
end
theorem sI.some_of{v:V}{o:Option Value}(r:sI (some v) o):∃ u,o=some u∧RelV v u:=by
 cases o with
 | none=>exact(show False from r).elim
 | some u=>exact⟨u,rfl,r⟩
section
variable {P:Program}{w:World}{H H':Hp}{h h':Heap}{a C dx:Addr}{fs fs':List (Str × V)}
theorem KC(hok:HOk P w H h)(e:H a=some (.ins C dx fs)):∃ mA,NT h a dx C mA∧(∀ f,sI (fs.lookup f) (mA f))∧PySem.Within mA (fs.map (·.1))∧fs.length≤1000∧H dx=some (.own a):=by
 obtain ⟨d,z,ne,ob,mA,n,r,q⟩:=(show cX P w H h a (.ins C dx fs) from hok a _ e)
 exact⟨mA,⟨ob,n,ne⟩,r,q,z,d⟩
end
structure Cls (K:PySem.W.Frag) (C:Addr):Prop where
 pg:PySem.W.plainGet K C Str.empty=true
 hd:PySem.W.hasDictIn K C=true
 po:PySem.W.plainOver K C=true
 sa:PySem.W.findIn K (.ref C) "__setattr__" = some (some (.builtin "object.__setattr__"))
theorem Cls.get{K:PySem.W.Frag}{C:Addr}(c:Cls K C)(f:Str):PySem.W.plainGet K C f=true:=c.pg
structure Con (K:PySem.W.Frag) (C:Addr) (f:Str) (v:V) (u:Value):Prop where
 at_:PySem.W.findIn K (.ref C) f=some (some u)
 rel:RelV v u
 get:PySem.W.specialIn K u "__get__" = some none
 cp:PySem.W.copiedNames.contains f=false
structure Meth (K:PySem.W.Frag) (C:Addr) (m:Str) (f:Addr):Prop where
 at_:PySem.W.findIn K (.ref C) m=some (some (.ref f))
 fn:PySem.W.isFn K (.ref f)=true
 kp:PySem.W.keepIn K (.ref f)=true
section
variable {X:Cx}{pins:List (Addr × Obj)}{σ:St}{H:Hp}{s:Shared}{a C dx:Addr}{fs:List (Str × V)}{f:Str}{v:V}{A:Around}{E:Value→Shared→Prop}
end
section
variable {X:Cx}{o e value:Expr}{f:Str}{pos pos' tpos:Pos}{ta tv:TE}
end
section
variable {X:Cx}{pins:List (Addr × Obj)}{σ:St}{H:Hp}{s:Shared}{A:Around}{E:Value→Shared→Prop}{Q:Value→Shared→Prop}{c:Value}{b:Bool}
inductive qF (K:PySem.W.Frag) (H:Hp):V→Value→Prop where
 | non:qF K H .non (.type "NoneType")
 | bl (x:Bool):qF K H (.bl x) (.type "bool")
 | int (i:Int):qF K H (.int i) (.type "int")
 | str (x:Str):qF K H (.str x) (.type "str")
 | flt (x:UInt64):qF K H (.flt x) (.type "float")
 | lst {a:Addr} {xs:List V} (e:H a=some (.lst xs)):qF K H (.ref a) (.type "list")
 | frz {a:Addr} {o:Obj} {xs:List V} (e:H a=some (.frz o (.lst xs))):qF K H (.ref a) (.type "list")
 | tup {a:Addr} {xs:List V} (e:H a=some (.tup xs)):qF K H (.ref a) (.type "tuple")
 | dK {a:Addr} {kvs:List (Key × V)} (e:H a=some (.dK kvs)):qF K H (.ref a) (.type "dict")
 | dT {a:Addr} {kvs:List (List Key × V)} (e:H a=some (.dT kvs)):qF K H (.ref a) (.type "dict")
 | ins {a C dx:Addr} {fs:List (Str × V)} (e:H a=some (.ins C dx fs)) (cl:Cls K C) (ha:PySem.W.findIn K (.ref C) "__class__" = some (some (.builtin "object.__class__")))
   (hn:PySem.W.specialIn K (.builtin "object.__class__") "__get__" = some (some (.builtin "getset_descriptor.__get__"))) (htk:PySem.W.takesIn K (.builtin "object.__class__")=some true)
   (hm:PySem.W.mroIn K C (.type "object")=some true):qF K H (.ref a) (.ref C)
theorem Fe{x:V}{u t:Value}(I:Inv X pins σ H s)(rx:RelV x u)(ty:qF X.K H x t)(e:PySem.W.kitOne X.K t c=some b)(h:∀ tk,Q (.bool b) { s with toks:=tk }) :
  wpAny (model X.prog X.w) A (call (.builtin "isinstance") [u,c]) Q E s:=by
 cases ty with
 | non=>cases (show u=Value.none from rx); exact gS PySem.W.kitx_none I.kIn True.intro e (fun z=>nomatch z) h
 | bl y=>cases (show u=Value.bool y from rx); exact gS PySem.W.kitx_bool I.kIn True.intro e (fun z=>nomatch z) h
 | int i=>obtain ⟨t,q⟩:=(show ∃ t,u=Value.int i t from rx); cases q; exact gS PySem.W.kitx_int I.kIn True.intro e (fun z=>nomatch z) h
 | str y=>obtain ⟨t,q⟩:=(show ∃ t,u=Value.str y t from rx); cases q; exact gS PySem.W.kitx_str I.kIn True.intro e (fun z=>nomatch z) h
 | flt y=>obtain ⟨t,q⟩:=(show ∃ t,u=Value.float y t from rx); cases q; exact gS PySem.W.kitx_float I.kIn True.intro e (fun z=>nomatch z) h
 | @lst a xs ea=>
  cases (show u=Value.ref a from rx)
  obtain ⟨_,_,n,_,h1⟩:=(show cX X.prog X.w H s.heap a (.lst xs) from I.hok a _ ea)
  exact gS PySem.W.kitx_list I.kIn ⟨_,h1,rfl⟩ e (fun z=>nomatch z) h
 | @frz a ob xs ea=>
  cases (show u=Value.ref a from rx)
  obtain ⟨_,_,_,n,_,h1⟩:=(show cX X.prog X.w H s.heap a (.frz ob (.lst xs)) from I.hok a _ ea)
  exact gS PySem.W.kitx_list I.kIn ⟨_,h1,rfl⟩ e (fun z=>nomatch z) h
 | @tup a xs ea=>
  cases (show u=Value.ref a from rx)
  obtain ⟨_,_,_,p⟩:=(show cX X.prog X.w H s.heap a (.tup xs) from I.hok a _ ea)
  obtain ⟨o,h1,h2,_⟩:=p
  exact gS PySem.W.kitx_tuple I.kIn ⟨o,h1,h2⟩ e (fun z=>nomatch z) h
 | @dK a kvs ea=>
  cases (show u=Value.ref a from rx)
  obtain ⟨_,_,vs,_,p⟩:=(show cX X.prog X.w H s.heap a (.dK kvs) from I.hok a _ ea)
  obtain ⟨o,es,ep,h1,h2,_⟩:=p
  exact gS PySem.W.kitx_dict I.kIn ⟨o,h1,h2.1⟩ e (fun z=>nomatch z) h
 | @dT a kvs ea=>
  cases (show u=Value.ref a from rx)
  obtain ⟨_,_,xs,_,o,es,ep,h1,h2,_⟩:=(show cX X.prog X.w H s.heap a (.dT kvs) from I.hok a _ ea)
  exact gS PySem.W.kitx_dict I.kIn ⟨o,h1,h2.1⟩ e (fun z=>nomatch z) h
 | @ins a C dx fs ea cl ha hn htk hm=>
  cases (show u=Value.ref a from rx)
  obtain ⟨mA,O,_⟩:=KC I.hok ea
  obtain ⟨od,J,_⟩:=O.look
  exact gS (PySem.W.kitx_own (cl.get _) cl.hd ha hn htk hm) I.kIn J e (fun z=>nomatch z) h
end
structure kJ (k:Nat) (A:Around):Prop where
 hd:A.handled=none
 dp:A.depth+3 * k+5 < recursionLimit
 un:A.units+16 * k+200 < cLine
 gd:A.guards=some []
theorem kJ.mono{j k:Nat}{A:Around}(r:kJ k A)(h:j≤k):kJ j A:=⟨r.hd,by have:=r.dp; omega,by have:=r.un; omega,r.gd⟩
theorem kJ.deeper{k:Nat}{A:Around}(r:kJ (k+1) A)(env:Env):kJ k (A.deeper env):=
 ⟨r.hd,by have:=r.dp; show A.depth+1+3 * k+5 < _; omega,by have:=r.un; show A.units+3+16 * k+200 < _; omega,by have:=r.gd; first | exact this | simp [Around.deeper,this,pushGuards]⟩
theorem kJ.depth{k:Nat}{A:Around}(r:kJ k A):A.depth < recursionLimit:=by have:=r.dp; omega
theorem kJ.units{k:Nat}{A:Around}(r:kJ k A):A.units+64 < cLine:=by have:=r.un; omega
theorem kJ.Az{k:Nat}{A:Around}(r:kJ k A):A.units < cLine:=by have:=r.un; omega
def QK:TA:=fun _ H Q=>Q [] H
def Pn(ta:TE)(tr:TA):TA:=fun σ H Q=>ta σ H fun x H1=>tr σ H1 fun xs H2=>Q (x::xs) H2
section
variable {X:Cx}{e:Expr}{es:List Expr}{te:TE}{t:TA}{pos:Pos}
theorem aA:PA X [] QK:=fun _ _ _ _ H Q I h=>Calls.spliced_nil ⟨[],H,I,.nil,h⟩
theorem aj(ha:PE X e te)(hr:PA X es t)(hs:starEach (e::es) X.env=(false,eval e X.env)::starEach es X.env:=by rfl):PA X (e::es) (Pn te t):=by
 intro pos pins s σ H Q I h
 rw [hs]
 show wpAny _ _ (spliced ((false,eval e X.env)::backTo pos (starEach es X.env))) _ _ s
 refine Calls.spliced_cons (thn (ha pins s σ H _ I h) fun u s1 ⟨x,H1,I1,r1,q1⟩=>?_)
 exact thn (hr pos pins s1 σ H1 _ I1 q1) fun us s2 ⟨xs,H2,I2,r2,q2⟩=>⟨x::xs,H2,I2,.cons r1 r2,q2⟩
def Qp(t:TA):TE:=fun σ H Q=>t σ H fun xs H1=>xs.length≤sizeLine∧∀ p,H1 p=none→Q (.ref p) (upd H1 p (.tup xs))
def QX(t:TA):TE:=fun σ H Q=>t σ H fun xs H1=>xs.length≤sizeLine∧∀ p,H1 p=none→Q (.ref p) (upd H1 p (.lst xs))
theorem dg{x1}(h:PA X es t):PE X (.Tuple es x1 pos) (Qp t):=by
 intro pins s σ H Q I hq
 refine wpAny_Tuple_spliced (thn (h pos pins s σ H _ I hq) fun us s1 ⟨xs,H1,I1,r,z,q⟩=>⟨by rw [← r.length]; exact z,?_⟩)
 have hf:H1 s1.heap.objs.size=none:=I1.hok.fresh (am _)
 refine⟨.ref s1.heap.objs.size,upd H1 s1.heap.objs.size (.tup xs),I1.laid (t':=s1.toks) (fun b u e=>ar _ e) (am _) ?_,rfl,q _ hf⟩
 exact⟨⟨z,lR _ _⟩,us,r,⟨_,bn _ rfl,rfl,_,rfl⟩⟩
theorem dU(h:PA X es t):PE X (.List es pos) (QX t):=by
 intro pins s σ H Q I hq
 refine wpAny_List_spliced (thn (h pos pins s σ H _ I hq) fun us s1 ⟨xs,H1,I1,r,z,q⟩=>⟨by rw [← r.length]; exact z,?_⟩)
 have hf:H1 s1.heap.objs.size=none:=I1.hok.fresh (am _)
 refine⟨.ref s1.heap.objs.size,upd H1 s1.heap.objs.size (.lst xs),I1.laid (t':=s1.toks) (fun b u e=>ar _ e) (am _) ?_,rfl,q _ hf⟩
 exact⟨z,us,0,r,bn _ rfl⟩
end
abbrev Sp:=List V→Hp→VK→XK→Prop
abbrev CXT:=List Env→Hp→Shared→XK→Value→Shared→Prop
structure Je (P:Program) (w:World) (K:PySem.W.Frag) (mg:Str→Option Value) (base:Heap) (A:Around) (outer:List Env) (s:Shared) (H:Hp):Prop where
 frames:A.frames=some outer
 mod:Mod K mg base
 bs:∀ b o,base.get? b=some o→s.heap.get? b=some o∧H b=none
 bsz:base.objs.size≤s.heap.objs.size
 rP:s.heap.FunFrames base outer
 frf:∀ b∈frs outer,H b=none
 hok:HOk P w H s.heap
 bare:AllBare s.gens
def CE(outer:List Env)(P:Program)(w:World)(H:Hp)(s:Shared)(Q:VK)(u:Value)(s':Shared):Prop:=
 ∃ v H',s'.os=s.os∧AllBare s'.gens∧Un (frs outer) [] H H' s.heap s'.heap∧HOk P w H' s'.heap∧RelV v u∧Q v H'
def CR(CX:CXT)(outer:List Env)(P:Program)(w:World)(H:Hp)(s:Shared)(Q:VK)(E:XK)(r:Result)(s':Shared):Prop:=
 match r with
 | .ok (.ret u)=>CE outer P w H s Q u s'
 | .ok _=>False
 | .error e=>CX outer H s E e s'
structure aW (P:Program) (w:World) (K:PySem.W.Frag) (mg:Str→Option Value) (base:Heap) (CX:CXT) (k:Nat) (f:Addr) (fd:FuncData) (ps:List Str) (sp:Sp):Prop where
 len:∀ vs H Q E,sp vs H Q E→vs.length=ps.length
 run:∀(A:Around) (outer:List Env) (s:Shared) (H:Hp) (args:Args) (us:List Value) (vs:List V) (Q:VK) (E:XK),kJ k A→Je P w K mg base A outer s H→BindsTo s fd args (ps.zip us)→Vals vs us→sp vs H Q E→
  codeAny (model P w) A (.call (.ref f) args) (CR CX outer P w H s Q E) s
section
variable {X:Cx}{pins:List (Addr × Obj)}{σ:St}{H:Hp}{s s':Shared}
theorem Inv.env0(I:Inv X pins σ H s):Je X.prog X.w X.K X.mg X.base X.A X.stack s H:=
 ⟨I.ok.frames,I.ok.mod,I.bs,dC I.ok.bsz I.sz,I.stack,I.Cv,I.hok,I.bare⟩
theorem Inv.after{Q:VK}{u:Value}(I:Inv X pins σ H s)(h:CE X.stack X.prog X.w H s Q u s'):EP X pins σ Q u s':=by
 obtain ⟨v,H',os,bare,un,hok,r,q⟩:=h
 obtain ⟨hh,g,d,t,os'⟩:=s'
 obtain rfl:os'=s.os:=os
 exact⟨v,H',I.call (h':=hh) (g':=g) (d':=d) (t':=t) (ch:=[]) un hok bare (fun b z=>absurd z (by simp)),r,q⟩
end
def LR(sp:Sp)(dvs:List V)(E:XK)(t:TA):TE:=fun σ H Q=>t σ H fun vs H1=>sp (vs++dvs) H1 Q E
def Binds(K:PySem.W.Frag)(fd:FuncData)(ps:List Str)(ds:List Value):Prop:=
 ∀(s:Shared) (us:List Value),K.In s.heap→(us++ds).length=ps.length→BindsTo s fd ⟨us,[]⟩ (ps.zip (us++ds))
theorem Binds.all{K:PySem.W.Frag}{fd:FuncData}{ps:List Str}(h:∀ us:List Value,us.length=ps.length→bindArgs fd ⟨us,[]⟩=pure (ps.zip us)):Binds K fd ps []:=fun s us _ hl=>by
 rw [eB] at hl ⊢
 exact .of_eq (h us hl)
def Passes(CX:CXT)(X:Cx)(E:XK):Prop:=∀(pins:List (Addr × Obj)) (σ:St) (H:Hp) (s:Shared) (e:Value) (s':Shared),Inv X pins σ H s→CX X.stack H s E e s'→X.xe e s'
section
variable {X:Cx}{CX:CXT}{k:Nat}{f C:Addr}{fd:FuncData}{ps:List Str}{sp:Sp}{dvs:List V}{ds:List Value}{E:XK}{x m:Str}{p pos apos:Pos}{e o:Expr}{es:List Expr}{ta:TE}{t:TA}
theorem Nk{pins:List (Addr × Obj)}{σ:St}{H:Hp}{s:Shared}{Q:VK}{us:List Value}{vs:List V}(F:aW X.prog X.w X.K X.mg X.base CX k f fd ps sp)(hr:kJ k X.A)(hb:Binds X.K fd ps ds)(hd:Vals dvs ds)(hx:Passes CX X E)
  (I:Inv X pins σ H s) (r:Vals vs us) (h:sp (vs++dvs) H Q E):wpAny (model X.prog X.w) X.A (call (.ref f) us) (EP X pins σ Q) X.xe s:=by
 have r2:Vals (vs++dvs) (us++ds):=r.append hd
 have hl:(us++ds).length=ps.length:=by rw [← r2.length]; exact F.len _ _ _ _ h
 refine wpAny_call (ke (F.run X.A X.stack s H ⟨us,[]⟩ (us++ds) (vs++dvs) Q E hr I.env0 (hb s us I.kIn hl) r2 h) fun r s' hq=>?_)
 cases r with
 | error e=>exact hx pins σ H s e s' I hq
 | ok fl=>
  cases fl with
  | ret u=>exact I.after hq
  | next=>exact False.elim hq
  | brk=>exact False.elim hq
  | cont=>exact False.elim hq
theorem Ka(F:aW X.prog X.w X.K X.mg X.base CX k f fd ps sp)(hr:kJ k X.A)(hg:Gl X x)(hm:X.mg x=some (.ref f))(hk:PySem.W.keepIn X.K (.ref f)=true)(hb:Binds X.K fd ps ds)(hd:Vals dvs ds)(hx:Passes CX X E)
  (ha:PA X (e::es) t) (hdb:(x == ("__debug__" : Str))=false:=by decide) (he:starEach (e::es) X.env=(false,eval e X.env)::starEach es X.env:=by rfl) (hpl:(backTo pos (starEach es X.env)).any (·.1)=false:=by rfl) :
  PE X (.Call (.Name x p) (e::es) [] pos) (LR sp dvs E t):=by
 intro pins s σ H Q I h
 refine i5 (CT I hg hm ?_ hdb)
 refine PySem.W.callWith_K (h₀:=X.base) I.ok.mod.kin hk (thn (ha pos pins s σ H _ I h) fun us s1 ⟨vs,H1,I1,r,q⟩=>⟨I1.kIn,?_⟩) he hpl
 exact Nk F hr hb hd hx I1 r q
structure Mk (K:PySem.W.Frag) (C f:Addr):Prop where
 makes:PySem.W.makesIn K C=true
 init:PySem.W.findIn K (.ref C) "__init__" = some (some (.ref f))
 fn:PySem.W.isFn K (.ref f)=true
 kp:PySem.W.keepIn K (.ref C)=true
end
section
variable {X:Cx}{CX:CXT}{k:Nat}{f C:Addr}{fd:FuncData}{ps ks:List Str}{sp:Sp}{E:XK}{x m:Str}{p pos apos kpos:Pos}{e o:Expr}{es:List Expr}{kws:List Keyword}{te ta:TE}{t tk:TA}{nm:Option Str}
structure Q6 (K:PySem.W.Frag) (fd:FuncData) (ps ks:List Str) (g:List Value→List Value→List Value) (gV:List V→List V→List V):Prop where
 to:∀(s:Shared) (us ws:List Value),K.In s.heap→(g us ws).length=ps.length→BindsTo s fd ⟨us,ks.zip ws⟩ (ps.zip (g us ws))
 rel:∀ {vs:List V} {us:List Value} {zs:List V} {ws:List Value},Vals vs us→Vals zs ws→Vals (gV vs zs) (g us ws)
variable {g:List Value→List Value→List Value}{gV:List V→List V→List V}
end
structure aZ (N P:List Str) (sc:Scope):Prop where
 kind:sc.kind=.function
 co:sc.isCoroutine=false
 gen:sc.isGenerator=false
 nd:N.Nodup
 pre:N.take P.length=P
 par:∀ x∈P,sc.names.lookup x=some .local∨sc.names.lookup x=some .cell
 Mv:∀ y∈sc.names,y.2≠.free
theorem vX{kindOf:Str→Option NameKind}{x:Str}:∀ {binds:List (Str × Value)} {m:Str→Option Value},(∀ v,(x,v) ∉ binds)→bindL kindOf binds m x=m x
 | [],_,_=>rfl
 | (n,v)::r,m,h=>by
  unfold bindL
  rw [vX fun w hw=>h w (cz _ hw)]
  split
  ·have:x≠n:=by rintro rfl; exact h v aT
   simp [this]
  ·rfl
theorem vP{kindOf:Str→Option NameKind}{x:Str}:∀ {binds:List (Str × Value)} {m:Str→Option Value},(∀ v,(x,v) ∉ binds)→bindC kindOf binds m x=m x
 | [],_,_=>rfl
 | (n,v)::r,m,h=>by
  unfold bindC
  rw [vP fun w hw=>h w (cz _ hw)]
  split
  ·rfl
  ·have:x≠n:=by rintro rfl; exact h v aT
   simp [this]
theorem vY{kindOf:Str→Option NameKind}{x:Str}{v:Value}:∀ {P:List Str} {vs:List Value} {i:Nat} {m:Str→Option Value},P.Nodup→P[i]?=some x→vs[i]?=some v→kindOf x=some .local→
  bindL kindOf (P.zip vs) m x=some v
 | [],_,_,_,_,h,_,_=>by simp at h
 | _::_,[],_,_,_,_,h,_=>by simp at h
 | p::P,w::vs,0,m,nd,h1,h2,hk=>by
  simp at h1 h2; subst h1; subst h2
  show bindL kindOf ((p,w)::P.zip vs) m p=_
  unfold bindL
  rw [vX fun v hv=>(eW.mp nd).1 (List.of_mem_zip hv).1,ck hk]
  simp
 | p::P,w::vs,i+1,m,nd,h1,h2,hk=>by
  show bindL kindOf ((p,w)::P.zip vs) m x=_
  unfold bindL
  exact vY (i:=i) (eW.mp nd).2 (by simpa using h1) (by simpa using h2) hk
theorem wJ{kindOf:Str→Option NameKind}{x:Str}{v:Value}:∀ {P:List Str} {vs:List Value} {i:Nat} {m:Str→Option Value},P.Nodup→P[i]?=some x→vs[i]?=some v→kindOf x≠some .local→
  bindC kindOf (P.zip vs) m x=some v
 | [],_,_,_,_,h,_,_=>by simp at h
 | _::_,[],_,_,_,_,h,_=>by simp at h
 | p::P,w::vs,0,m,nd,h1,h2,hk=>by
  simp at h1 h2; subst h1; subst h2
  show bindC kindOf ((p,w)::P.zip vs) m p=_
  unfold bindC
  rw [vP fun v hv=>(eW.mp nd).1 (List.of_mem_zip hv).1,bX hk]
  simp
 | p::P,w::vs,i+1,m,nd,h1,h2,hk=>by
  show bindC kindOf ((p,w)::P.zip vs) m x=_
  unfold bindC
  exact wJ (i:=i) (eW.mp nd).2 (by simpa using h1) (by simpa using h2) hk
def start(N:List Str)(vs:List V):St:=vs.map some++List.replicate (N.length - vs.length) none
def Fd(CX:CXT)(P:Program)(w:World)(K:PySem.W.Frag)(mg:Str→Option Value)(base:Heap)(N:List Str)(qual:Str)(scope:Scope)(f:Addr)(cd:Value)(A:Around)(outer:List Env)(s:Shared)(H:Hp)(E:XK):Cx where
 prog:=P
 w:=w
 K:=K
 mg:=mg
 base:=base
 A:=A.deeper (envOfC qual scope s.heap.objs.size f cd)
 N:=N
 s₀:=s
 H₀:=H
 env:=envOfC qual scope s.heap.objs.size f cd
 outer:=outer
 stack:=envOfC qual scope s.heap.objs.size f cd::outer
 ex:=[]
 calm:=true
 fn:=fun _=>true
 pn:=[]
 xe:=fun e s'=>wpAny (model P w) (A.deeper (envOfC qual scope s.heap.objs.size f cd)) (leaving (envOfC qual scope s.heap.objs.size f cd) e) (fun _ s''=>CX outer H s E e s'') (fun e' s''=>CX outer H s E e' s'') s'
theorem zj{sc:Scope}{n:Nat}{x:Str}(h:sc.names.lookup x=some .cell):∃ c,(cellsFrom n sc.names []).lookup x=some c:=by
 have q:=kg sc.names n [] (.inl h)
 exact ff.mp q
theorem Ec{CX:CXT}{P:Program}{w:World}{K:PySem.W.Frag}{mg:Str→Option Value}{base:Heap}{N ps:List Str}{qual:Str}{scope:Scope}{f:Addr}{cd:Value}{A:Around}{outer:List Env}{s s1:Shared}{H:Hp}{E:XK}{us:List Value}{vs:List V}
  (S:aZ N ps scope) (hd:A.handled=none) (e0:Je P w K mg base A outer s H) (hl:vs.length=ps.length) (r:Vals vs us)
  (x:InCallC s s.heap.objs.size (bindL (envOfC qual scope s.heap.objs.size f cd).kindOf (ps.zip us) fun _=>none) (cellsFrom (s.heap.objs.size+1) scope.names []) (bindC (envOfC qual scope s.heap.objs.size f cd).kindOf (ps.zip us) fun _=>none) s1) :
  Inv (Fd CX P w K mg base N qual scope f cd A outer s H E) [] (start N vs) H s1:=by
 have hpl:ps.length≤N.length:=by have:=congrArg List.length S.pre; rw [br] at this; omega
 obtain ⟨h1,tk,rfl,hk⟩:=x.done
 have noA:∀ b:Addr,b ∉ (Fd CX P w K mg base N qual scope f cd A outer s H E).ex:=fun b z=>absurd (show b∈([]:List Addr) from z) (by simp)
 refine⟨⟨e0.mod,S.kind,rfl,rfl,am _,fun y z c h1 h2=>?_,fun y hy=>?_,fun y c _ h=>?_,fun _=>hd,Around.frames_deeper e0.frames,.inr ⟨rfl,rfl⟩,fun b z=>absurd z (noA b),e0.bs,e0.bsz,fun b _ _=>noA b,fun b z=>absurd z (noA b),e0.rP,e0.frf⟩,
  rfl,e0.bare,Un.kept hk,⟨_,x.toInCall.ns,fun i y v h1 h2 h3=>?_⟩,fun y c h=>⟨_,x.cell y c h⟩,e0.hok.fresh (am _),fun y c h=>?_,fun p hp=>absurd (show p∈([]:List (Addr × Obj)) from hp) (by simp),e0.hok.kept hk,?_⟩
 ·exact name_of_addr x.apart (fF h1) (fF h2)
 ·have hy:scope.names.lookup y=some .cell∨scope.names.lookup y=some .free:=hy
  rcases hy with hy | hy
  ·exact zj hy
  ·exact absurd rfl (S.Mv _ (fF hy))
 ·exact lP (x.above y c (fF h))
 ·have hi:i < vs.length:=by
   unfold start at h2
   by_cases hi:i < vs.length
   ·exact hi
   ·rw [fz (by simpa using hi)] at h2
    rw [List.getElem?_replicate] at h2
    split at h2 <;> cases h2
  have ha:vs[i]?=some v:=by
   unfold start at h2
   rw [g6 (by simpa using hi),bc] at h2
   cases e:vs[i]? with
   | none=>rw [e] at h2; cases h2
   | some a=>rw [e] at h2; cases h2; rfl
  obtain ⟨u,hu,rv⟩:=r.get ha
  have hp:ps[i]?=some y:=by
   rw [← S.pre,ja (by omega)]; exact h1
  have ndP:ps.Nodup:=by rw [← S.pre]; exact S.nd.sublist (me _ _)
  refine⟨u,rv,?_⟩
  rcases S.par y (eJ hp) with k | k
  ·exact .inl ⟨k,vY ndP hp hu k⟩
  ·obtain ⟨c,e⟩:=zj (n:=s.heap.objs.size+1) k
   refine .inr ⟨.inl k,c,e,?_⟩
   have q:=x.cell y c e
   rw [wJ ndP hp hu (by show scope.names.lookup y≠_; rw [k]; decide)] at q
   exact q
 ·exact e0.hok.fresh (lP (x.above y c (fF h)))
 ·unfold start
  show _=N.length
  rw [bz,aa,i8]
  omega
theorem Pk{CX:CXT}{P:Program}{w:World}{K:PySem.W.Frag}{mg:Str→Option Value}{base:Heap}{k:Nat}{f:Addr}{name qual:Str}{params:Arguments}{body:List Stmt}{scope:Scope}{dV kV doc pm cdv ct oc:Value}{an od:Option Addr}
  {osl:Array (Option Value)} {N ps:List Str} {sp:Sp} (lk:K.lookup f=some ⟨oc,od,.func (PySem.W.fnOf name qual params body scope dV kV doc pm an cdv ct),osl⟩) (hcd:PySem.W.codeIn K cdv qual=true) (S:aZ N ps scope)
  (len:∀ vs H Q E,sp vs H Q E→vs.length=ps.length)
  (hbody:∀(A:Around) (outer:List Env) (s:Shared) (H:Hp) (vs:List V) (Q:VK) (E:XK),kJ k (A.deeper (envOfC qual scope s.heap.objs.size f cdv))→sp vs H Q E→
   ∃ t,PSs (Fd CX P w K mg base N qual scope f cdv A outer s H E) body t∧t { nx:=fun _ H'=>Q .non H',rt:=Q } (start N vs) H) :
  aW P w K mg base CX (k+1) f (PySem.W.fnOf name qual params body scope dV kV doc pm an cdv ct) ps sp:=by
 refine⟨len,fun A outer s H args us vs Q E hr e0 hb r hsp=>?_⟩
 have hl:=len _ _ _ _ hsp
 have KX:K.In s.heap:=e0.mod.kin.keeps fun b o e=>(e0.bs b o e).1
 have lim:s.heap.NoLimit:=e0.mod.nolimit.keeps fun b o e=>(e0.bs b o e).1
 have hkind:∀ y∈ps.zip us,scope.names.lookup y.1=some .local∨(scope.names.lookup y.1=some .cell∧((cellsFrom (s.heap.objs.size+1) scope.names []).lookup y.1).isSome=true):=fun⟨n,v⟩ hy=>by
  rcases S.par n (List.of_mem_zip hy).1 with q | q
  ·exact .inl q
  ·exact .inr ⟨q,kg _ _ _ (.inl q)⟩
 refine codeAny_call_function hr.depth (KX _ _ lk) rfl S.co S.gen rfl (PySem.W.codeRec_of KX hcd) (hb _ _ _ _ ?_)
 refine wpAny_newFunctionEnv_cells S.kind hkind fun env he s1 x=>?_
 subst he
 refine⟨lim.keeps x.toInCall.keep,codeAny_func ?_⟩
 obtain ⟨t,ht,hq⟩:=hbody A outer s H vs Q E (hr.deeper _) hsp
 have I:Inv (Fd CX P w K mg base N qual scope f cdv A outer s H E) [] (start N vs) H s1:=Ec S hr.hd e0 hl r x
 refine ic (ht [] s1 (start N vs) H _ I hq) (fun fl s' hs=>?_) fun e s' hs=>hs
 have fin:∀ {σ':St} {H':Hp} {v:V} {u:Value},Inv (Fd CX P w K mg base N qual scope f cdv A outer s H E) [] σ' H' s'→RelV v u→Q v H'→CE outer P w H s Q u s':=
  fun {σ' H' v u} J rv q=>⟨v,H',J.os,J.bare,J.base,J.hok,rv,q⟩
 cases fl with
 | ret u=>
  obtain ⟨v,σ',H',J,rv,q⟩:=hs
  exact fin J rv q
 | next=>
  obtain ⟨σ',H',J,q⟩:=hs
  exact fin (v:=V.non) (u:=Value.none) J rfl q
 | brk=>
  obtain ⟨_,_,_,q⟩:=hs
  exact False.elim q
 | cont=>
  obtain ⟨_,_,_,q⟩:=hs
  exact False.elim q
end L2
namespace L2
open PySem PySem.Spec PyProof.Rows
section
variable {X:Cx}{x:Str}{p pos:Pos}{e:Expr}{es:List Expr}{t:TA}{id T:String}{r:List V→Hp→VK→Prop}
def tCB(r:List V→Hp→VK→Prop)(t:TA):TE:=fun σ H Q=>t σ H fun vs H1=>r vs H1 Q
theorem aO(hc:gn X (.builtin id) r)(hg:Gl X x)(hm:X.mg x=none)(hv:bootBuiltins x=some (.builtin id))(ha:PA X (e::es) t)(hn:x≠ "__name__" := by decide)(hdb:(x == ("__debug__" : Str))=false:=by decide)
  (he:starEach (e::es) X.env=(false,eval e X.env)::starEach es X.env:=by rfl) (hpl:(backTo pos (starEach es X.env)).any (·.1)=false:=by rfl):PE X (.Call (.Name x p) (e::es) [] pos) (tCB r t):=by
 intro pins s σ H Q I h
 refine i5 (pN I hg hm hv ?_ hn hdb)
 exact PyProof.Rows.callWith_builtin1 (thn (ha pos pins s σ H _ I h) fun us s1 ⟨vs,H1,I1,r1,q1⟩=>hc pins s1 σ H1 vs us Q I1 r1 q1) he hpl
theorem bG(hc:gn X (.type T) r)(hg:Gl X x)(hm:X.mg x=none)(hv:bootBuiltins x=some (.type T))(ha:PA X (e::es) t)(hn:x≠ "__name__" := by decide)(hdb:(x == ("__debug__" : Str))=false:=by decide)
  (he:starEach (e::es) X.env=(false,eval e X.env)::starEach es X.env:=by rfl) (hpl:(backTo pos (starEach es X.env)).any (·.1)=false:=by rfl):PE X (.Call (.Name x p) (e::es) [] pos) (tCB r t):=by
 intro pins s σ H Q I h
 refine i5 (pN I hg hm hv ?_ hn hdb)
 exact ie (thn (ha pos pins s σ H _ I h) fun us s1 ⟨vs,H1,I1,r1,q1⟩=>hc pins s1 σ H1 vs us Q I1 r1 q1) he hpl
end
end L2
end
section
namespace HT
open PySem PyProof.Rows
section
open PySem.SeqAt
open PySem.AutoSeq1 (wpAny_loadPart')
open PySem.MeetsSeq PySem.MeetsSeq2 PySem.MeetsSeq3
end
section
variable {prog:Program}{w:World}{A:Around}{E:Value→Shared→Prop}{s:Shared}
theorem J8{t b:Addr}{vs ws:List Value}{Q:Value→Shared→Prop}(ht:IsTup s.heap t vs.toArray)(hb:IsTup s.heap b ws.toArray)(hv:vs≠[])
  (h1:ws=[]→Q (.ref t) s) (h2:ws≠[]→Q (.ref s.heap.objs.size) { s with heap:=s.heap.push { cls:=.type "tuple",data:=.seq (vs++ws).toArray } })
  (hsz:vs.length+ws.length≤sizeLine):wpAny (model prog w) A (binaryOp .Add (.ref t) (.ref b)) Q E s:=by
 obtain ⟨⟨cls,dd,data,sl⟩,ho,hc,n,hd⟩:=id ht
 obtain ⟨⟨cls2,dd2,data2,sl2⟩,ho2,hc2,n2,hd2⟩:=id hb
 simp only at hc hd hc2 hd2
 subst hc hd hc2 hd2
 have e:vs.toArray++ws.toArray=(vs++ws).toArray:=by simp
 by_cases hw:ws=[]
 ·exact concat_meets ⟨_,ho,rfl⟩ ⟨_,ho2,rfl⟩ noFill_tuple_add seq_tuple_add mf lz (kS _ _)
   (tuple_addW1 t b vs.toArray ws.toArray n n2 dd dd2 sl sl2 (by simpa using hv) (by simp [hw])) ⟨ho,ho2,h1 hw⟩
 ·refine concat_meets ⟨_,ho,rfl⟩ ⟨_,ho2,rfl⟩ noFill_tuple_add seq_tuple_add mf lz (kS _ _)
   (tuple_addW2 t b vs.toArray ws.toArray n n2 dd dd2 sl sl2 (by simpa using hv) (by simpa using hw) (by rw [bo,bo]; exact hsz)) ⟨ho,ho2,?_⟩
  rw [e]
  exact h2 hw
def sIx(n d:Nat):Option Int→Nat
 | none=>d
 | some v=>if v < 0 then (v+(n:Int)).toNat else min v.toNat n
theorem zZ(n d:Nat):sIx n d none=d:=rfl
theorem qI(n d k:Nat):sIx n d (some (k:Int))=min k n:=by
 show (if (k:Int) < 0 then ((k:Int)+(n:Int)).toNat else min (k:Int).toNat n)=min k n
 rw [bX (by omega),Int.toNat_natCast]
theorem NQ(n d:Nat)(hd:d≤n)(o:Option Int):sIx n d o≤n:=by
 cases o with
 | none=>exact hd
 | some v=>
  show (if v < 0 then (v+(n:Int)).toNat else min v.toNat n)≤n
  by_cases hv:v < 0
  ·rw [ck hv]; omega
  ·rw [bX hv]; exact Nat.min_le_right _ _
theorem CV(v:Int)(n d:Nat):(if v < 0 then max (v+(n:Int)) 0 else min v (n:Int))=((sIx n d (some v):Nat):Int):=by
 show (if v < 0 then max (v+(n:Int)) 0 else min v (n:Int))=(((if v < 0 then (v+(n:Int)).toNat else min v.toNat n):Nat):Int)
 by_cases hv:v < 0
 ·simp only [ck hv]; omega
 ·simp only [bX hv]; omega
theorem Bh(lo hi:Option Int)(n:Nat):Builtin.Slice.sliceAdjust lo hi 1 (n:Int)=(((sIx n 0 lo:Nat):Int),((sIx n n hi:Nat):Int)):=by
 have h1:¬ ((1:Int) < 0):=by omega
 unfold Builtin.Slice.sliceAdjust
 simp only [h1,jp]
 refine Prod.ext ?_ ?_
 ·cases lo with
  | none=>rfl
  | some v=>exact CV v n 0
 ·cases hi with
  | none=>rfl
  | some v=>exact CV v n n
theorem Bq(i j:Nat):Builtin.Slice.slicePlaces (i:Int) (j:Int) 1=j - i:=by
 unfold Builtin.Slice.slicePlaces
 have h1:(1:Int) > 0:=by omega
 simp only [h1,iF,Int.ediv_one]
 split <;> omega
theorem pF{v:Value}{o:Option Int}{Q:Option Int→Shared→Prop}(p:IsPart v o)(h:Q o s):wpAny (model prog w) A (Builtin.Slice.slicePartIndex v) Q E s:=by
 cases p with
 | none=>exact n5 h
 | int i t=>exact slicePart_int h
theorem lX{sl:Addr}{vl vu:Value}{lo hi:Option Int}{n:Nat}{Q:Int × Int × Nat→Shared→Prop}(hs:s.heap.IsSliceOf sl vl vu .none)(pl:IsPart vl lo)(pu:IsPart vu hi)
  (h:Q (((sIx n 0 lo:Nat):Int),1,sIx n n hi - sIx n 0 lo) s):wpAny (model prog w) A (Builtin.Slice.sliceApplied (.ref sl) (pure (n:Int))) Q E s:=by
 obtain ⟨os,hos,hcs,hds⟩:=id hs
 unfold Builtin.Slice.sliceApplied Builtin.Slice.sliceFields
 refine ac (ac (eT hos hds (x:=vl) rfl (ac (eT hos hds (x:=vu) rfl (ac (eT hos hds (x:=.none) rfl (aI ?_)))))))
 refine ac (n5 ?_)
 show wpAny _ _ (if ((1:Int) == 0)=true then _ else _) _ _ s
 rw [bX (by decide)]
 refine ac (pF pl (ac (pF pu (ac (aI ?_)))))
 show wpAny _ _ (match Builtin.Slice.sliceAdjust lo hi 1 (n:Int) with | (lo,hi)=>pure (lo,(1:Int),Builtin.Slice.slicePlaces lo hi 1)) _ _ s
 rw [Bh lo hi n]
 show wpAny _ _ (pure (((sIx n 0 lo:Nat):Int),(1:Int),Builtin.Slice.slicePlaces ((sIx n 0 lo:Nat):Int) ((sIx n n hi:Nat):Int) 1)) _ _ s
 rw [Bq]
 exact aI h
theorem Gw(xs:Array Value)(i k:Nat):((List.range k).filterMap fun(m:Nat)=>xs[((i:Int)+(m:Int) * 1).toNat]?).toArray=((xs.toList.drop i).take k).toArray:=by
 have e:(fun(m:Nat)=>xs[((i:Int)+(m:Int) * 1).toNat]?)=fun m=>xs[i+m]?:=by
  funext m
  have:((i:Int)+(m:Int) * 1).toNat=i+m:=by omega
  rw [this]
 rw [e]
 have:=pick_run xs i k
 rw [List.filterMap_map] at this
 have e2:((fun x=>xs[x]?) ∘ fun x=>i+x)=fun m=>xs[i+m]?:=rfl
 rw [e2] at this
 rw [this]
theorem qG{t sl:Addr}{items:Array Value}{vl vu:Value}{lo hi:Option Int}{Q:Value→Shared→Prop}(ht:IsTup s.heap t items)(hs:s.heap.IsSliceOf sl vl vu .none)(pl:IsPart vl lo)(pu:IsPart vu hi)
  (hw:¬ (sIx items.size 0 lo=0∧sIx items.size items.size hi=items.size))
  (h:Q (.ref s.heap.objs.size) { s with heap:=s.heap.push { cls:=.type "tuple",data:=.seq ((items.toList.drop (sIx items.size 0 lo)).take (sIx items.size items.size hi - sIx items.size 0 lo)).toArray } })
  (hsz:items.size≤sizeLine):wpAny (model prog w) A (getItem (.ref t) (.ref sl)) Q E s:=by
 have htake:sizeOk (.seq ((items.toList.drop (sIx items.size 0 lo)).take (sIx items.size items.size hi - sIx items.size 0 lo)).toArray):=by
  show ((items.toList.drop (sIx items.size 0 lo)).take (sIx items.size items.size hi - sIx items.size 0 lo)).toArray.size≤sizeLine
  rw [bo,br,iX,eI]
  omega
 have hj:sIx items.size items.size hi≤items.size:=NQ _ _ (am _) hi
 obtain ⟨os,hos,hcs,hds⟩:=id hs
 have hTs:s.TypeIs (.ref sl) "slice" := ⟨os,hos,hcs⟩
 unfold getItem
 try with_reducible refine fk ?_
 first | refine ac (aI ?_) | skip
 refine ac (wpAny_sequenceKey ht.typeIs (by decide) ?_)
 refine ac (fg (name:=Str.ofString "__getitem__") ht.typeIs eR
  (fN eR ht.typeIs nN ?_ (args_tuple_getitem _ _)))
 show wpAny _ _ (Builtin.Tuple.tupleItemsOf (.ref t) >>= _) _ _ s
 refine ac (tupleItemsOf_ ht ?_)
 refine ac (wpAny_typeOf hTs ?_)
 rw [ck (by decide)]
 refine ac (lX hs pl pu ?_)
 have hno:¬ ((((sIx items.size 0 lo:Nat):Int) == 0 && (1:Int) == 1 && (sIx items.size items.size hi - sIx items.size 0 lo) == items.size)=true):=by
  intro q
  rw [gT,gT] at q
  have q1:((sIx items.size 0 lo:Nat):Int)=0:=eq_of_beq q.1.1
  have q2:sIx items.size items.size hi - sIx items.size 0 lo=items.size:=eq_of_beq q.2
  exact hw ⟨by omega,by omega⟩
 show wpAny _ _ (if (((sIx items.size 0 lo:Nat):Int) == 0 && (1:Int) == 1 && (sIx items.size items.size hi - sIx items.size 0 lo) == items.size)=true then _ else _) _ _ s
 rw [bX hno,Gw]
 first
  | exact ac (m:=Builtin.Tuple.tupleExact _) (fv (aI ⟨_,rfl,aI h⟩) htake)
  | exact ac (m:=Builtin.Tuple.tupleExact _) (fv (ac (aI (aI ⟨_,rfl,aI h⟩))) htake)
  | exact ac (ac (m:=Builtin.Tuple.tupleExact _) (fv (aI (aI ⟨_,rfl,aI h⟩)) htake))
  | exact ac (ac (m:=Builtin.Tuple.tupleExact _) (fv (aI ⟨_,rfl,aI h⟩) htake))
end
end HT
namespace L2
open PySem PySem.Spec PyProof.Rows
abbrev TO:=St→Hp→(Option Int→Hp→Prop)→Prop
def PO(X:Cx)(e:Option Expr)(t:TO):Prop:=
 ∀(pins:List (Addr × Obj)) (s:Shared) (σ:St) (H:Hp) (Q:Option Int→Hp→Prop),Inv X pins σ H s→t σ H Q→
  wpAny (model X.prog X.w) X.A (evalPart e X.env) (fun u s'=>∃ o H',Inv X pins σ H' s'∧IsPart u o∧Q o H') X.xe s
def K5:TO:=fun _ H Q=>Q none H
def O7(t:TE):TO:=fun σ H Q=>t σ H fun x H1=>∃ i,x=.int i∧Q (some i) H1
section
variable {X:Cx}{e:Expr}{te:TE}{lo hi:Option Expr}{tl th:TO}{pos p2:Pos}
theorem fZ:PO X none K5:=by
 intro pins s σ H Q I h
 rw [oB]
 exact aI ⟨none,H,I,.none,h⟩
theorem gk(h:PE X e te):PO X (some e) (O7 te):=by
 intro pins s σ H Q I hw
 rw [evalPart_some]
 refine thn (h pins s σ H _ I hw) fun u s1 ⟨x,H1,I1,r1,q1⟩=>?_
 obtain ⟨i,rfl,q⟩:=q1
 obtain ⟨t,rfl⟩:=r1
 exact⟨some i,H1,I1,.int i t,q⟩
def SlR(X:Cx)(r:V→Option Int→Option Int→Hp→VK→Prop):Prop:=
 ∀(pins:List (Addr × Obj)) (s:Shared) (σ:St) (H:Hp) (x:V) (v vl vu:Value) (lo hi:Option Int) (sl:Addr) (Q:VK),Inv X pins σ H s→RelV x v→s.heap.IsSliceOf sl vl vu .none→IsPart vl lo→IsPart vu hi→r x lo hi H Q→
  ∃ T id,typeLookup (.type T) "__getitem__" = pure (some (.builtin id))∧s.TypeIs v T∧wpAny (model X.prog X.w) X.A (getItem v (.ref sl)) (EP X pins σ Q) X.xe s
theorem SlR.or{r r':V→Option Int→Option Int→Hp→VK→Prop}(h:SlR X r)(h':SlR X r'):SlR X (fun x lo hi H Q=>r x lo hi H Q∨r' x lo hi H Q):=by
 intro pins s σ H x v vl vu lo hi sl Q I rx hs pl pu q
 rcases q with q | q
 ·exact h pins s σ H x v vl vu lo hi sl Q I rx hs pl pu q
 ·exact h' pins s σ H x v vl vu lo hi sl Q I rx hs pl pu q
def tSl(r:V→Option Int→Option Int→Hp→VK→Prop)(te:TE)(tl th:TO):TE:=fun σ H Q=>te σ H fun x H1=>tl σ H1 fun l H2=>th σ H2 fun u H3=>r x l u H3 Q
theorem dJ{r:V→Option Int→Option Int→Hp→VK→Prop}(hr:SlR X r)(he:PE X e te)(hl:PO X lo tl)(hu:PO X hi th):PE X (.Subscript e (.Slice lo hi none p2) pos) (tSl r te tl th):=by
 intro pins s σ H Q I h
 refine Subscript_ (thn (he pins s σ H _ I h) fun v s1 ⟨x,H1,I1,r1,q1⟩=>?_)
 refine wpAny_Slice (thn (hl pins s1 σ H1 _ I1 q1) fun vl s2 ⟨l,H2,I2,pl,q2⟩=>thn (hu pins s2 σ H2 _ I2 q2) fun vu s3 ⟨u,H3,I3,pu,q3⟩=>?_)
 rw [oB]
 refine aI ?_
 have I4:Inv X pins σ H3 { s3 with heap:=s3.heap.push { cls:=.type "slice",data:=.fields #[vl,vu,.none] } }:=I3.kept (t':=s3.toks) fun b ob q=>ar _ q
 obtain ⟨T,id,hT,ht,hg⟩:=hr pins { s3 with heap:=s3.heap.push { cls:=.type "slice",data:=.fields #[vl,vu,.none] } } σ H3 x v vl vu l u s3.heap.objs.size Q I4 r1 (lj ..) pl pu q3
 show wpAny (model X.prog X.w) X.A (subscriptTail e (.Slice lo hi none p2) v (.ref s3.heap.objs.size)) (EP X pins σ Q) X.xe { s3 with heap:=s3.heap.push { cls:=.type "slice",data:=.fields #[vl,vu,.none] } }
 exact tail_any (ops:=[.ref s3.heap.objs.size,v]) ht hT hg (by with_unfolding_all rfl)
def eF(xs:List V)(lo hi:Option Int):List V:=(xs.drop (HT.sIx xs.length 0 lo)).take (HT.sIx xs.length xs.length hi - HT.sIx xs.length 0 lo)
theorem rG(xs:List V)(lo hi:Option Int):(eF xs lo hi).length≤xs.length:=by
 unfold eF
 rw [br,iX]
 omega
def JV(K:PySem.W.Frag):V→Option Int→Option Int→Hp→VK→Prop:=fun x lo hi H Q=>∃ a xs,x=.ref a∧SqT K H a xs∧
 ¬ (HT.sIx xs.length 0 lo=0∧HT.sIx xs.length xs.length hi=xs.length)∧∀ p,H p=none→Q (.ref p) (upd H p (.tup (eF xs lo hi)))
theorem xO:SlR X (JV X.K):=by
 intro pins s σ H x v vl vu lo hi sl Q I rx hs pl pu h
 obtain ⟨a,xs,rfl,hx,hw,q⟩:=h
 cases rx
 obtain ⟨its,r,ht,hz⟩:=I.tuple hx
 have hlen:its.toArray.size=xs.length:=by rw [bo]; exact r.length.symm
 refine⟨"tuple",_,eR.lookup,ht.typeIs,?_⟩
 refine HT.qG ht hs pl pu (by rw [hlen]; exact hw) ?_ (by rw [hlen]; exact hz)
 rw [hlen]
 refine⟨.ref s.heap.objs.size,_,I.laid (t':=s.toks) (o:=.tup (eF xs lo hi)) (fun b ob q=>ar _ q) (am _) ?_,rfl,q _ (I.hok.fresh (am _))⟩
 exact⟨⟨dC (rG xs lo hi) hz,lR _ _⟩,_,(r.drop (HT.sIx xs.length 0 lo)).take (HT.sIx xs.length xs.length hi - HT.sIx xs.length 0 lo),IsTup.new _ _⟩
def Ls(K:PySem.W.Frag):R2:=fun x y H Q=>∃ a b xs ys,x=.ref a∧y=.ref b∧SqT K H a xs∧SqT K H b ys∧xs≠[]∧xs.length+ys.length≤sizeLine∧
 (ys=[]→Q (.ref a) H)∧(ys≠[]→∀ p,H p=none→Q (.ref p) (upd H p (.tup (xs++ys))))
theorem Vals.lB{xs:List V}{us:List Value}(r:Vals xs us):us=[]↔xs=[]:=by
 cases r with
 | nil=>simp
 | cons _ _=>simp
theorem Dr:OpR X (binaryOp .Add) (Ls X.K):=by
 intro pins s σ H x y v u Q I rx ry h
 obtain ⟨a,b,xs,ys,rfl,rfl,ha,hb,hx,hz,q1,q2⟩:=h
 cases rx
 cases ry
 obtain ⟨its,r1,p1,_⟩:=I.tuple ha
 obtain ⟨its2,r2,p2,_⟩:=I.tuple hb
 refine HT.J8 p1 p2 (fun z=>hx (r1.lB.mp z)) (fun z=>⟨.ref a,H,I,rfl,q1 (r2.lB.mp z)⟩) (fun z=>?_) (by rw [← r1.length,← r2.length]; exact hz)
 refine⟨.ref s.heap.objs.size,_,I.laid (t':=s.toks) (o:=.tup (xs++ys)) (fun b ob q=>ar _ q) (am _) ?_,rfl,q2 (fun w=>z (r2.lB.mpr w)) _ (I.hok.fresh (am _))⟩
 exact⟨⟨by rw [bz]; exact hz,lR _ _⟩,_,r1.append r2,IsTup.new _ _⟩
end
def ixN(n:Nat)(i:Int):Option Nat:=if 0≤i then (if i < n then some i.toNat else none) else if -(n:Int)≤i then some (i+n).toNat else none
def atI{α:Type}(xs:List α)(i:Int):Option α:=(ixN xs.length i).bind fun j=>xs[j]?
theorem Dz{n:Nat}{i:Int}{j:Nat}(h:ixN n i=some j):seqIndex? i n=some j∧j < n∧-(n:Int)≤i∧i < n:=by
 unfold ixN at h
 by_cases h0:0≤i
 ·rw [ck h0] at h
  by_cases h1:i < n
  ·rw [ck h1] at h
   have e:i.toNat=j:=dE h
   exact⟨by rw [seqIndex_of h0 h1,e],by omega,by omega,h1⟩
  ·rw [bX h1] at h; cases h
 ·rw [bX h0] at h
  by_cases h1:-(n:Int)≤i
  ·rw [ck h1] at h
   have e:(i+n).toNat=j:=dE h
   exact⟨by rw [seqIndex_neg (by omega) h1,e],by omega,h1,by omega⟩
  ·rw [bX h1] at h; cases h
theorem yE{α:Type}{xs:List α}{i:Int}{v:α}(h:atI xs i=some v):∃ j,seqIndex? i xs.length=some j∧xs[j]?=some v∧j < xs.length∧-(xs.length:Int)≤i∧i < xs.length:=by
 unfold atI at h
 cases e:ixN xs.length i with
 | none=>rw [e] at h; cases h
 | some j=>
  rw [e] at h
  obtain ⟨h1,h2,h3,h4⟩:=Dz e
  exact⟨j,h1,h,h2,h3,h4⟩
theorem aG{α:Type}{xs:List α}{j:Nat}{v:α}(h:xs[j]?=some v):atI xs (j:Int)=some v:=by
 have hj:j < xs.length:=(bj.mp h).1
 have e:ixN xs.length (j:Int)=some j:=by
  unfold ixN
  rw [ck (by omega),ck (by omega)]; simp
 unfold atI; rw [e]; exact h
theorem Ih{α:Type}(xs:List α)(v:α):atI (xs++[v]) (-1)=some v:=by
 have hl:(xs++[v]).length=xs.length+1:=by simp
 have e:ixN (xs++[v]).length (-1)=some xs.length:=by
  unfold ixN
  rw [hl,bX (by decide),ck (by omega)]
  congr 1
  omega
 unfold atI
 rw [e]
 show (xs++[v])[xs.length]?=some v
 simp
def Kg(b:Expr):Prop:=∀ o i,subscripted b false o i=operate [o,i] (getItem o i)
def IxR(X:Cx)(r:R2):Prop:=
 ∀(value slice:Expr) (pins:List (Addr × Obj)) (s:Shared) (σ:St) (H:Hp) (x y:V) (v u:Value) (Q:VK),Inv X pins σ H s→RelV x v→RelV y u→r x y H Q→
  subscripted slice false v u=operate [v,u] (getItem v u)→wpAny (model X.prog X.w) X.A (subscriptTail value slice v u) (EP X pins σ Q) X.xe s
def MtR(X:Cx)(id:String)(r:V→List V→Hp→VK→Prop):Prop:=
 ∀(pins:List (Addr × Obj)) (s:Shared) (σ:St) (H:Hp) (x:V) (xs:List V) (v:Value) (us:List Value) (Q:VK),Inv X pins σ H s→RelV x v→Vals xs us→r x xs H Q→
  wpAny (model X.prog X.w) X.A (call (.builtin id) (v::us)) (EP X pins σ Q) X.xe s
section
variable {X:Cx}{a b:Expr}{ta tb:TE}{pos:Pos}
theorem IxR.or{r r':R2}(h:IxR X r)(h':IxR X r'):IxR X (fun x y H Q=>r x y H Q∨r' x y H Q):=by
 intro value slice pins s σ H x y v u Q I rx ry q hs
 rcases q with q | q
 ·exact h value slice pins s σ H x y v u Q I rx ry q hs
 ·exact h' value slice pins s σ H x y v u Q I rx ry q hs
theorem aM{r:R2}(hr:IxR X r)(ha:PE X a ta)(hb:PE X b tb)(hs:Kg b):PE X (.Subscript a b pos) (tOp r ta tb):=by
 intro pins s σ H Q I h
 exact Subscript_ (Nx ha hb I h fun v u s2 x y H2 I2 rx ry q=>hr a b pins s2 σ H2 x y v u Q I2 rx ry q (hs _ _))
def JZ(K:PySem.W.Frag):R2:=fun x y H Q=>∃ p xs i v,x=.ref p∧y=.int i∧SqL K H p xs∧atI xs i=some v∧Q v H
def J6(K:PySem.W.Frag):R2:=fun x y H Q=>∃ p xs i v,x=.ref p∧y=.int i∧SqT K H p xs∧atI xs i=some v∧Q v H
def QH:R2:=fun x y H Q=>∃ z i c,x=.str z∧y=.int i∧z.length≤sizeLine∧atI z.cps.toList i=some c∧Q (.str ⟨#[c]⟩) H
theorem cu:IxR X (JZ X.K):=by
 intro value slice pins s σ H x y v u Q I rx ry h hs
 obtain ⟨p,xs,i,z,rfl,rfl,hq,he,q⟩:=h
 cases rx
 obtain ⟨t,rfl⟩:=ry
 obtain ⟨its,r,pl,hz⟩:=I.list hq
 obtain ⟨j,h1,h2,h3,h4,h5⟩:=yE he
 obtain ⟨w,ew,rw'⟩:=r.get h2
 have hl:=r.length
 have hn:=nP
 have fin:EP X pins σ Q w s:=⟨z,H,I,rw',q⟩
 by_cases h0:0≤i
 ·have hj:i.toNat=j:=by
   rw [seqIndex_of h0 h5] at h1
   exact dE h1
  exact item_listR pl.isList h0 (by omega) (by rw [hj]; simpa using ew) fin hs
 ·have hj:(i+(its.toArray.size:Int)).toNat=j:=by
   rw [seqIndex_neg (by omega) h4] at h1
   rw [bo,← hl]
   exact dE h1
  exact subscriptTail_builtinR (x:=w) pl.isList.typeIs mi.lookup
   (wpAny_getItem_list_neg (Q:=fun r s'=>r=w∧EP X pins σ Q r s') pl.isList (by omega) (by rw [bo] <;> omega) (by omega) (by rw [hj]; simpa using ew) ⟨rfl,fin⟩) hs
theorem aX:IxR X (J6 X.K):=by
 intro value slice pins s σ H x y v u Q I rx ry h hs
 obtain ⟨p,xs,i,z,rfl,rfl,hq,he,q⟩:=h
 cases rx
 obtain ⟨t,rfl⟩:=ry
 obtain ⟨its,r,pl,hz⟩:=I.tuple hq
 obtain ⟨j,h1,h2,h3,h4,h5⟩:=yE he
 obtain ⟨w,ew,rw'⟩:=r.get h2
 have hl:=r.length
 have hn:=nP
 have fin:EP X pins σ Q w s:=⟨z,H,I,rw',q⟩
 exact subscriptTail_builtinR (x:=w) pl.typeIs slot_tuple_getitem.lookup
  (getItem_tuple (j:=j) (Q:=fun r s'=>r=w∧EP X pins σ Q r s') pl (by omega) (by omega) (by rw [bo,← hl]; exact h1) (by simpa using ew) ⟨rfl,fin⟩) hs
theorem GZ:IxR X QH:=by
 intro value slice pins s σ H x y v u Q I rx ry h hs
 obtain ⟨z,i,c,rfl,rfl,hz,he,q⟩:=h
 obtain ⟨t,rfl⟩:=rx
 obtain ⟨t',rfl⟩:=ry
 obtain ⟨j,h1,h2,h3,h4,h5⟩:=yE he
 have hl:z.cps.toList.length=z.length:=by simp [Str.length]
 rw [hl] at h1 h4 h5
 have hn:=nP
 exact tail_any (typeIs_str s z t) slot_str_getitem.lookup (getItem_str (c:=c) (by
  have e1:decide (i < -(2 ^ 63:Int))=false:=bv (by omega)
  have e2:decide (i ≥ 2 ^ 63)=false:=bv (by omega)
  rw [e1,e2,Bool.or_false]) (by rw [h1]; simpa using h2) ⟨.str ⟨#[c]⟩,H,I.tok _,⟨_,rfl⟩,q⟩) hs
theorem Bv(its:List Value)(n j:Nat)(u:Value):Obj.mapSeq (·.setIfInBounds j u) { cls:=.type "list",data:=.seq its.toArray n }={ cls:=.type "list",data:=.seq (its.set j u).toArray n }:=by
 simp [Obj.mapSeq]
theorem Inv.lst{pins:List (Addr × Obj)}{σ:St}{H:Hp}{s:Shared}{p:Addr}{xs:List V}(I:Inv X pins σ H s)(h:H p=some (.lst xs)) :
  ∃(its:List Value) (n:Nat),Vals xs its∧s.heap.get? p=some { cls:=.type "list",data:=.seq its.toArray n }∧xs.length≤sizeLine:=by
 obtain ⟨z,its,n,r,e⟩:=I.hok p _ h
 exact⟨its,n,r,e,z⟩
theorem Inv.Oe{pins:List (Addr × Obj)}{σ:St}{H:Hp}{s:Shared}{p:Addr}{xs ys:List V}{its its':List Value}{n n':Nat}{f:Obj→Obj}(I:Inv X pins σ H s)(h:H p=some (.lst xs))
  (ho:s.heap.get? p=some { cls:=.type "list",data:=.seq its.toArray n }) (hf:f { cls:=.type "list",data:=.seq its.toArray n }={ cls:=.type "list",data:=.seq its'.toArray n' }) (r:Vals ys its') (hz:ys.length≤sizeLine) (t:Nat) :
  Inv X pins σ (upd H p (.lst ys)) { s with heap:=s.heap.update p f,toks:=t }:=by
 have e:(s.heap.update p f).get? p=some { cls:=.type "list",data:=.seq its'.toArray n' }:=by
  rw [Heap.get?_update_self f ho (by rw [hf] <;> rfl),hf]
 refine I.write (x:=p) (e:=p) (by rw [h]; trivial) (.inl rfl) (fun b u hb q=>(km _ _ (kK hb)).trans q) ⟨_,e⟩ ?_
 exact⟨hz,its',n',r,e⟩
def Ou:V→V→V→Hp→(Hp→Prop)→Prop:=fun o i v H Q=>∃ p xs k j,o=.ref p∧i=.int k∧H p=some (.lst xs)∧ixN xs.length k=some j∧Q (upd H p (.lst (xs.set j v)))
theorem set_list:Oz X Ou:=by
 intro pins s σ H o i v ov iv u Q I ro ri rv h
 obtain ⟨p,xs,k,j,rfl,rfl,hp,hj,q⟩:=h
 cases ro
 obtain ⟨t,rfl⟩:=ri
 obtain ⟨its,n,r,ho,hz⟩:=I.lst hp
 obtain ⟨h1,h2,h3,h4⟩:=Dz hj
 have hl:=r.length
 have hn:=nP
 have I':Inv X pins σ (upd H p (.lst (xs.set j v))) { s with heap:=s.heap.update p (Obj.mapSeq (·.setIfInBounds j u)) }:=
  I.Oe hp ho (Bv its n j u) (r.set rv j) (by rw [List.length_set]; exact hz) s.toks
 by_cases h0:0≤k
 ·have hk:k.toNat=j:=by
   rw [seqIndex_of h0 h4] at h1
   exact dE h1
  exact PySem.W.ki_setAt ho h0 (by omega) (by rw [bo,← hl]; exact h4) (by rw [hk]; exact⟨_,I',q⟩)
 ·have hk:(k+(its.toArray.size:Int)).toNat=j:=by
   rw [seqIndex_neg (by omega) h3] at h1
   rw [bo,← hl]
   exact dE h1
  exact PySem.W.ki_setBack ho (by omega) (by rw [bo,← hl]; exact h3) (by omega) (by rw [hk]; exact⟨_,I',q⟩)
theorem yD(lo hi:Option Int)(n:Nat):(sliceBounds lo hi none n).1=((HT.sIx n 0 lo:Nat):Int)∧(sliceBounds lo hi none n).2.1=((HT.sIx n n hi:Nat):Int)∧(sliceBounds lo hi none n).2.2=1:=by
 refine⟨?_,?_,rfl⟩
 ·cases lo with
  | none=>simp [sliceBounds,HT.sIx]
  | some i=>
   simp only [sliceBounds,HT.sIx,Option.getD_none,show (1:Int) > 0 by decide,iF]
   by_cases h:i < 0
   ·simp only [h,iF] <;> omega
   ·simp only [h,jp] <;> omega
 ·cases hi with
  | none=>simp [sliceBounds,HT.sIx]
  | some i=>
   simp only [sliceBounds,HT.sIx,Option.getD_none,show (1:Int) > 0 by decide,iF]
   by_cases h:i < 0
   ·simp only [h,iF] <;> omega
   ·simp only [h,jp] <;> omega
theorem oZ(its:List Value)(lo hi:Option Int):slicePick its.toArray lo hi none=((its.drop (HT.sIx its.length 0 lo)).take (HT.sIx its.length its.length hi - HT.sIx its.length 0 lo)).toArray:=by
 obtain ⟨h1,h2,h3⟩:=yD lo hi its.toArray.size
 unfold slicePick
 rw [h1,h2,h3]
 simp only [sliceRange_one,pick_run,bo] <;> rfl
def JQ(K:PySem.W.Frag):V→Option Int→Option Int→Hp→VK→Prop:=fun x lo hi H Q=>∃ a xs,x=.ref a∧SqL K H a xs∧∀ p,H p=none→Q (.ref p) (upd H p (.lst (eF xs lo hi)))
theorem qL:SlR X (JQ X.K):=by
 intro pins s σ H x v vl vu lo hi sl Q I rx hs pl pu h
 obtain ⟨a,xs,rfl,hx,q⟩:=h
 cases rx
 obtain ⟨its,r,ht,hz⟩:=I.list hx
 have hlen:=r.length
 refine⟨"list",_,mi.lookup,ht.isList.typeIs,?_⟩
 refine kT ht.isList hs pl pu .none (by simp) ?_ (by rw [bo] <;> omega)
 rw [oZ,← hlen]
 refine⟨.ref s.heap.objs.size,_,I.laid (t':=s.toks) (o:=.lst (eF xs lo hi)) (fun b ob q=>ar _ q) (am _) ?_,rfl,q _ (I.hok.fresh (am _))⟩
 exact⟨dC (rG xs lo hi) hz,_,0,(r.drop (HT.sIx xs.length 0 lo)).take (HT.sIx xs.length xs.length hi - HT.sIx xs.length 0 lo),bn _ rfl⟩
def pZ:V→Bool
 | .non=>true
 | .bl _=>true
 | .int _=>true
 | .str _=>true
 | _=>false
def eqV:V→V→Bool
 | .non,.non=>true
 | .bl a,.bl b=>a == b
 | .bl a,.int b=>(if a then 1 else 0) == b
 | .int a,.bl b=>a == (if b then 1 else 0)
 | .int a,.int b=>a == b
 | .str a,.str b=>a == b
 | _,_=>false
theorem Oc{A:Around}{s:Shared}{y x:V}{u v:Value}(ry:RelV y u)(rx:RelV x v)(fy:pZ y=true)(fx:pZ x=true):SeqAt.EqAt A s u v (eqV y x):=by
 cases y with
 | non=>
  cases ry
  cases x with
  | non=>cases rx; exact SeqAt.EqAt.same _
  | bl b=>cases rx; exact SeqAt.EqAt.none_bool b
  | int b=>obtain ⟨t,rfl⟩:=rx; exact SeqAt.EqAt.none_int b t
  | str b=>obtain ⟨t,rfl⟩:=rx; exact SeqAt.EqAt.none_str b t
  | _=>exact absurd (show false=true from fx) aE
 | bl a=>
  cases ry
  cases x with
  | non=>cases rx; exact SeqAt.EqAt.bool_none a
  | bl b=>cases rx; exact SeqAt.EqAt.bool_bool a b
  | int b=>obtain ⟨t,rfl⟩:=rx; exact SeqAt.EqAt.bool_int a b t
  | str b=>obtain ⟨t,rfl⟩:=rx; exact SeqAt.EqAt.bool_str a b t
  | _=>exact absurd (show false=true from fx) aE
 | int a=>
  obtain ⟨t',rfl⟩:=ry
  cases x with
  | non=>cases rx; exact SeqAt.EqAt.int_none a t'
  | bl b=>cases rx; exact SeqAt.EqAt.int_bool a t' b
  | int b=>obtain ⟨t,rfl⟩:=rx; exact SeqAt.EqAt.int_int a t' b t
  | str b=>obtain ⟨t,rfl⟩:=rx; exact SeqAt.EqAt.int_str a t' b t
  | _=>exact absurd (show false=true from fx) aE
 | str a=>
  obtain ⟨t',rfl⟩:=ry
  cases x with
  | non=>cases rx; exact SeqAt.EqAt.str_none a t'
  | bl b=>cases rx; exact SeqAt.EqAt.str_bool a t' b
  | int b=>obtain ⟨t,rfl⟩:=rx; exact SeqAt.EqAt.str_int a t' b t
  | str b=>obtain ⟨t,rfl⟩:=rx; exact SeqAt.EqAt.str_str a t' b t
  | _=>exact absurd (show false=true from fx) aE
 | _=>exact absurd (show false=true from fy) aE
def eqU(x:V)(u:Value):Bool:=match u with
 | .none=>eqV .non x
 | .bool b=>eqV (.bl b) x
 | .int i _=>eqV (.int i) x
 | .str z _=>eqV (.str z) x
 | _=>false
theorem Hq{x y:V}{u:Value}(r:RelV y u)(f:pZ y=true):eqU x u=eqV y x:=by
 cases y with
 | non=>cases r; rfl
 | bl b=>cases r; rfl
 | int i=>obtain ⟨t,rfl⟩:=r; rfl
 | str z=>obtain ⟨t,rfl⟩:=r; rfl
 | _=>exact absurd (show false=true from f) aE
theorem qQ{x:V}:∀ {xs:List V} {us:List Value},Vals xs us→xs.all pZ=true→us.any (eqU x)=xs.any fun y=>eqV y x
 | _,_,.nil,_=>rfl
 | y::xs,u::us,.cons r t,f=>by
  rw [List.all_cons,gT] at f
  rw [kU,kU,Hq r f.1,qQ t f.2]
theorem m8{A:Around}{s:Shared}{x:V}{v:Value}(rx:RelV x v)(fx:pZ x=true):∀ {xs:List V} {us:List Value},Vals xs us→xs.all pZ=true→∀ u∈us,SeqAt.EqAt A s u v (eqU x u)
 | _,_,.nil,_=>fun u hu=>by cases hu
 | y::xs,u::us,.cons r t,f=>fun u' hu=>by
  rw [List.all_cons,gT] at f
  rcases bu.mp hu with rfl | hu
  ·rw [Hq r f.1]; exact Oc r rx f.1 fx
  ·exact m8 rx fx t f.2 u' hu
def inV(x:V)(xs:List V):Bool:=xs.any fun y=>eqV y x
def rIn(K:PySem.W.Frag)(neg:Bool):R2:=fun x y H Q=>∃ p xs,y=.ref p∧(SqL K H p xs∨SqT K H p xs)∧pZ x=true∧xs.all pZ=true∧Q (.bl (if neg then !inV x xs else inV x xs)) H
theorem oF:OpR X (compareOp .In) (rIn X.K false):=by
 intro pins s σ H x y v u Q I rx ry h
 obtain ⟨p,xs,rfl,hq,fx,fs,q⟩:=h
 cases ry
 rcases hq with hq | hq
 ·obtain ⟨its,r,pl,hz⟩:=I.list hq
  refine SeqAt.in_listAt (eqU x) pl.isList (fun w hw=>m8 rx fx r fs w (by simpa using hw)) ⟨.bl _,H,I,rfl,?_⟩
  rw [show its.toArray.any (eqU x)=its.any (eqU x) by simp,qQ r fs]
  exact q
 ·obtain ⟨its,r,pl,hz⟩:=I.tuple hq
  refine SeqAt.in_tupleAt (eqU x) pl (fun w hw=>m8 rx fx r fs w (by simpa using hw)) ⟨.bl _,H,I,rfl,?_⟩
  rw [show its.toArray.any (eqU x)=its.any (eqU x) by simp,qQ r fs]
  exact q
theorem jQ:OpR X (compareOp .NotIn) (rIn X.K true):=by
 intro pins s σ H x y v u Q I rx ry h
 obtain ⟨p,xs,rfl,hq,fx,fs,q⟩:=h
 cases ry
 rcases hq with hq | hq
 ·obtain ⟨its,r,pl,hz⟩:=I.list hq
  refine SeqAt.notIn_listAt (eqU x) pl.isList (fun w hw=>m8 rx fx r fs w (by simpa using hw)) ⟨.bl _,H,I,rfl,?_⟩
  rw [show its.toArray.any (eqU x)=its.any (eqU x) by simp,qQ r fs]
  exact q
 ·obtain ⟨its,r,pl,hz⟩:=I.tuple hq
  refine SeqAt.notIn_tupleAt (eqU x) pl (fun w hw=>m8 rx fx r fs w (by simpa using hw)) ⟨.bl _,H,I,rfl,?_⟩
  rw [show its.toArray.any (eqU x)=its.any (eqU x) by simp,qQ r fs]
  exact q
theorem bC:gn X (.builtin "len") (fun xs H Q=>∃ p ys,xs=[.ref p]∧(SqL X.K H p ys∨SqT X.K H p ys)∧Q (.int ys.length) H):=by
 intro pins s σ H xs us Q I r h
 obtain ⟨p,ys,rfl,hq,q⟩:=h
 obtain ⟨u,rfl,rx⟩:=vals1 r
 cases rx
 have hn:=nP
 rcases hq with hq | hq
 ·obtain ⟨its,r',pl,hz⟩:=I.list hq
  have hlen:=r'.length
  exact Calls.call_len_list pl.isList (by simp only [bo] <;> omega) ⟨.int ys.length,H,I.tok _,⟨s.toks+1,by rw [bo,hlen]⟩,q⟩
 ·obtain ⟨its,r',pl,hz⟩:=I.tuple hq
  have hlen:=r'.length
  exact len_tuple pl (by simp only [bo] <;> omega) ⟨.int ys.length,H,I.tok _,⟨s.toks+1,by rw [bo,hlen]⟩,q⟩
theorem qm:gn X (.builtin "len") (fun xs H Q=>∃ z,xs=[.str z]∧z.length≤sizeLine∧Q (.int z.length) H):=by
 intro pins s σ H xs us Q I r h
 obtain ⟨z,rfl,hz,q⟩:=h
 obtain ⟨u,rfl,t,rfl⟩:=vals1 r
 have hn:=nP
 exact len_str (by omega) ⟨.int z.length,H,I.tok _,⟨_,rfl⟩,q⟩
theorem mW:gn X (.type "list") (fun xs H Q=>∃ p ys,xs=[.ref p]∧(SqL X.K H p ys∨SqT X.K H p ys)∧∀ l,H l=none→Q (.ref l) (upd H l (.lst ys))):=by
 intro pins s σ H xs us Q I r h
 obtain ⟨p,ys,rfl,hq,q⟩:=h
 obtain ⟨u,rfl,rx⟩:=vals1 r
 cases rx
 have fin:∀(its:List Value),Vals ys its→ys.length≤sizeLine→∀ (h':Heap) (c':Nat),(∀ b o',s.heap.get? b=some o'→h'.get? b=some o')→
   h'.get? s.heap.objs.size=some { cls:=.type "list",dict:=none,data:=.seq its.toArray c',slots:=#[] }→EP X pins σ Q (.ref s.heap.objs.size) { s with heap:=h' }:=fun its r' hz h' c' kp e=>
  ⟨.ref s.heap.objs.size,_,I.laid (t':=s.toks) kp (am _) (show cX X.prog X.w _ h' _ (.lst ys) from ⟨hz,its,c',r',e⟩),rfl,q _ (I.hok.fresh (am _))⟩
 rcases hq with hq | hq
 ·obtain ⟨its,r',pl,hz⟩:=I.list hq
  have hlen:=r'.length
  obtain ⟨o,ho,hc,n,hd⟩:=pl.isList
  exact call_list_seq p (.inl rfl) ho hc hd (fun h' c' kp e=>fin its r' hz h' c' kp e) (by simp only [bo] <;> omega)
 ·obtain ⟨its,r',pl,hz⟩:=I.tuple hq
  have hlen:=r'.length
  obtain ⟨o,ho,hc,n,hd⟩:=pl
  exact call_list_seq p (.inr rfl) ho hc hd (fun h' c' kp e=>fin its r' hz h' c' kp e) (by simp only [bo] <;> omega)
theorem bD:gn X (.type "tuple") (fun xs H Q=>∃ p ys,xs=[.ref p]∧((SqL X.K H p ys∧∀ l,H l=none→Q (.ref l) (upd H l (.tup ys)))∨(SqT X.K H p ys∧Q (.ref p) H))):=by
 intro pins s σ H xs us Q I r h
 obtain ⟨p,ys,rfl,h⟩:=h
 obtain ⟨u,rfl,rx⟩:=vals1 r
 cases rx
 rcases h with ⟨hq,q⟩ | ⟨hq,q⟩
 ·obtain ⟨its,r',pl,hz⟩:=I.list hq
  have hlen:=r'.length
  refine call_tuple_list pl.isList (fun h' kp=>?_) (by simp only [bo] <;> omega)
  have I1:Inv X pins σ H { s with heap:=h' }:=I.kept (t':=s.toks) kp
  have I2:Inv X pins σ (upd H h'.objs.size (.tup ys)) { s with heap:=h'.push { cls:=.type "tuple",data:=.seq its.toArray } }:=
   I1.laid (t':=s.toks) (fun b o e=>ar _ e) (am _) (show cX X.prog X.w _ _ _ (.tup ys) from ⟨⟨hz,lR _ _⟩,its,r',IsTup.new _ _⟩)
  exact⟨.ref h'.objs.size,_,I2,rfl,q _ (I1.hok.fresh (am _))⟩
 ·obtain ⟨its,r',pl,hz⟩:=I.tuple hq
  exact call_tuple_same pl ⟨.ref p,H,I,rfl,q⟩
def tyV(K:PySem.W.Frag)(T:String)(x:V)(H:Hp):Prop:=match x with
 | .str _=>T = "str"
 | .int _=>T = "int"
 | .ref p=>(T = "list" ∧ ∃ xs,SqL K H p xs)∨(T = "tuple" ∧ ∃ o,K.lookup p=some o∧o.cls=.type "tuple" ∧ o.dict=none)∨
   (T = "dict" ∧ ((∃ kvs,H p=some (.dK kvs))∨∃ kvs,H p=some (.dT kvs)))∨(T = "set" ∧ ∃ S n,H p=some (.set S n))
 | _=>False
theorem Hu{pins:List (Addr × Obj)}{σ:St}{H:Hp}{s:Shared}{T:String}{x:V}{v:Value}(I:Inv X pins σ H s)(r:RelV x v)(ty:tyV X.K T x H) :
  s.TypeIs v T∧∀ a,v=.ref a→∃ ob,s.heap.get? a=some ob∧ob.dict=none:=by
 cases x with
 | str z=>
  obtain ⟨t,rfl⟩:=r
  cases (show T = "str" from ty)
  exact⟨typeIs_str s z t,fun _ e=>nomatch e⟩
 | int i=>
  obtain ⟨t,rfl⟩:=r
  cases (show T = "int" from ty)
  exact⟨typeIs_int s i t,fun _ e=>nomatch e⟩
 | ref p=>
  cases r
  rcases ty with ⟨rfl,xs,hq⟩ | ⟨rfl,o,hk,hc,hd⟩ | ⟨rfl,hk⟩ | ⟨rfl,S,n,hk⟩
  ·obtain ⟨its,_,pl,_⟩:=I.list hq
   refine⟨pl.isList.typeIs,fun a e=>?_⟩
   cases e
   obtain ⟨o,n,e,c,hd,_⟩:=pl
   exact⟨o,e,hd⟩
  ·refine⟨⟨o,I.kIn p o hk,hc⟩,fun a e=>?_⟩
   cases e
   exact⟨o,I.kIn _ o hk,hd⟩
  ·have z:∃ o,s.heap.get? p=some o∧o.ExactDict:=by
    rcases hk with ⟨kvs,hk⟩ | ⟨kvs,hk⟩
    ·obtain ⟨_,_,_,_,o,_,_,e,ex,_⟩:=I.hok p _ hk
     exact⟨o,e,ex⟩
    ·obtain ⟨_,_,_,_,o,_,_,e,ex,_⟩:=I.hok p _ hk
     exact⟨o,e,ex⟩
   obtain ⟨o,e,ex⟩:=z
   refine⟨⟨o,e,ex.1⟩,fun a e2=>?_⟩
   cases e2
   exact⟨o,e,ex.2.1⟩
  ·obtain ⟨o,_,_,_,e,ex,_⟩:=I.hok p _ hk
   refine⟨⟨o,e,ex.1⟩,fun a e2=>?_⟩
   cases e2
   exact⟨o,e,ex.2.1⟩
 | _=>exact False.elim ty
def QW(K:PySem.W.Frag)(T:String)(r:V→List V→Hp→VK→Prop)(to:TE):TE:=fun σ H Q=>to σ H fun x H1=>tyV K T x H1∧r x [] H1 Q
def tBM(K:PySem.W.Frag)(T:String)(r:V→List V→Hp→VK→Prop)(to:TE)(t:TA):TE:=fun σ H Q=>to σ H fun x H1=>tyV K T x H1∧t σ H1 fun xs H2=>r x xs H2 Q
variable {o e:Expr}{es:List Expr}{to:TE}{t:TA}{name:Str}{apos cpos:Pos}{T id:String}{r:V→List V→Hp→VK→Prop}
theorem Nf(pa:PlainAttrs T)(slot:Slot T name id)(hty:typeOf (.builtin id)=pure (.type "method_descriptor"))(hm:MtR X id r)(ho:PE X o to)
  (hbase:attributeBase o name X.env (eval o X.env)=eval o X.env:=by rfl) (hline:(apos.endLine == cpos.line)=true:=by rfl):PE X (.Call (.Attribute o name apos) [] [] cpos) (QW X.K T r to):=by
 intro pins s σ H Q I h
 refine wpAny_Call_method0_late hbase hline (thn (ho pins s σ H _ I h) fun v s1 ⟨x,H1,I1,r1,ty,q1⟩=>?_)
 obtain ⟨h1,h2⟩:=Hu I1 r1 ty
 exact⟨T,id,pa,slot,hty,h1,h2,Calls.callWith_builtin rfl (PySem.evalArgs_none (hm pins s1 σ H1 x [] v [] Q I1 r1 .nil q1))⟩
theorem qx(pa:PlainAttrs T)(slot:Slot T name id)(hty:typeOf (.builtin id)=pure (.type "method_descriptor"))(hm:MtR X id r)(ho:PE X o to)(ha:PA X (e::es) t)
  (hbase:attributeBase o name X.env (eval o X.env)=eval o X.env:=by rfl)
  (hfew:((backTo cpos (starEach (e::es) X.env)).all (fun x=>!x.1) && (backToKw cpos (keywordEach [] X.env)).all (fun x=>x.1.isSome)
   && decide ((e::es).length+([]:List Keyword).length+(if ([]:List Keyword).isEmpty then 0 else 1) < 30))=true:=by rfl)
  (hline:(apos.endLine == cpos.line)=true:=by rfl) (hs:starEach (e::es) X.env=(false,eval e X.env)::starEach es X.env:=by rfl) (hplain:(backTo cpos (starEach es X.env)).any (·.1)=false:=by rfl) :
  PE X (.Call (.Attribute o name apos) (e::es) [] cpos) (tBM X.K T r to t):=by
 intro pins s σ H Q I h
 refine wpAny_Call_method_late hbase hfew hline rfl (thn (ho pins s σ H _ I h) fun v s1 ⟨x,H1,I1,r1,ty,q1⟩=>?_)
 obtain ⟨h1,h2⟩:=Hu I1 r1 ty
 refine⟨T,id,pa,slot,hty,h1,h2,?_⟩
 have hA:=ha cpos pins s1 σ H1 _ I1 q1
 rw [hs] at hA ⊢
 refine Calls.callWith_builtin (by show (false || (backTo cpos (starEach es X.env)).any (·.1))=false; rw [hplain] <;> rfl) (Calls.evalArgs_plain ?_)
 exact thn hA fun us s2 ⟨vs,H2,I2,r2,q2⟩=>hm pins s2 σ H2 x vs v us Q I2 r1 r2 q2
end
def MtM(X:Cx)(id:String)(r:V→List V→Hp→VK→Prop):Prop:=
 ∀(pins:List (Addr × Obj)) (s:Shared) (σ:St) (H:Hp) (x:V) (xs:List V) (v:Value) (us:List Value) (Q:VK),Inv X pins σ H s→RelV x v→Vals xs us→r x xs H Q→
  wpAny (model X.prog X.w) X.A (call (.builtin id) (v::us)) (EP X pins σ Q) X.xe s
theorem Vals.one:∀ {x:V} {us:List Value},Vals [x] us→∃ u,us=[u]∧RelV x u
 | _,_,.cons r .nil=>⟨_,rfl,r⟩
theorem Vals.two:∀ {x y:V} {us:List Value},Vals [x,y] us→∃ u v,us=[u,v]∧RelV x u∧RelV y v
 | _,_,_,.cons r (.cons q .nil)=>⟨_,_,rfl,r,q⟩
theorem Vals.zero:∀ {us:List Value},Vals [] us→us=[]
 | _,.nil=>rfl
theorem Vals.dropLast{xs:List V}{us:List Value}(h:Vals xs us):Vals xs.dropLast us.dropLast:=by
 induction h with
 | nil=>exact .nil
 | cons r t ih=>
  cases t with
  | nil=>exact .nil
  | cons q t'=>exact .cons r ih
theorem Vals.reverse{xs:List V}{us:List Value}(h:Vals xs us):Vals xs.reverse us.reverse:=by
 induction h with
 | nil=>exact .nil
 | cons r t ih=>rw [List.reverse_cons,List.reverse_cons]; exact Vals.append ih (.cons r .nil)
theorem Bd{α:Type}(l:List α):l.eraseIdx (l.length - 1)=l.dropLast:=by
 induction l with
 | nil=>rfl
 | cons a r ih=>
  cases r with
  | nil=>rfl
  | cons b r=>
   have e:(a::b::r).length - 1=((b::r).length - 1)+1:=by
    have h1:(a::b::r).length=r.length+2:=rfl
    have h2:(b::r).length=r.length+1:=rfl
    omega
   rw [e,List.eraseIdx_cons_succ,ih]
   all_goals rfl
section
variable {X:Cx}{pins:List (Addr × Obj)}{σ:St}{H:Hp}{s:Shared}{l b:Addr}{xs ys zs:List V}
theorem Inv.Nv{its its':List Value}{n:Nat}{f:Array Value→Array Value}{t':Nat}(I:Inv X pins σ H s)(hH:H l=some (.lst xs))
  (e:s.heap.get? l=some { cls:=.type "list",data:=.seq its.toArray n }) (hf:f its.toArray=its'.toArray) (hv:Vals ys its') (hz:ys.length≤sizeLine) :
  Inv X pins σ (upd H l (.lst ys)) { s with heap:=s.heap.update l (Obj.mapSeq f),toks:=t' }:=by
 have q:=PySem.IsL.update e f
 rw [hf] at q
 refine I.write (x:=l) (e:=l) (by rw [hH]; exact trivial) (.inl rfl) (fun b' u hb hu=>(km s.heap (Obj.mapSeq f) (kK hb)).trans hu) ⟨_,q⟩ ?_
 exact⟨hz,its',_,hv,q⟩
theorem Inv.Mw{its:List Value}{t':Nat}(I:Inv X pins σ H s)(hv:Vals ys its)(hz:ys.length≤sizeLine) :
  Inv X pins σ (upd H s.heap.objs.size (.lst ys)) { s with heap:=s.heap.push { cls:=.type "list",data:=.seq its.toArray },toks:=t' }:=
 I.laid (fun _ _ q=>ar _ q) (am _) ⟨hz,its,0,hv,bn _ rfl⟩
theorem Inv.fresh(I:Inv X pins σ H s):H s.heap.objs.size=none:=I.hok.fresh (am _)
theorem Inv.G9(I:Inv X pins σ H s)(hH:H l=some (.lst xs)):xs.length≤sizeLine∧∃(its:List Value) (n:Nat),Vals xs its∧xs.length=its.length∧s.heap.get? l=some { cls:=.type "list",data:=.seq its.toArray n }:=by
 obtain ⟨z,its,n,r,e⟩:=I.hok l _ hH
 exact⟨z,its,n,r,r.length,e⟩
theorem Hs{n:Nat}(h:n≤sizeLine):Builtin.List.listTooLong n=false:=by
 unfold Builtin.List.listTooLong
 exact bv (by omega)
end
section
variable {X:Cx}
def J0:V→List V→Hp→VK→Prop:=fun x vs H Q=>∃ l xs y,x=.ref l∧vs=[y]∧H l=some (.lst xs)∧xs.length < sizeLine∧Q .non (upd H l (.lst (xs++[y])))
theorem iK:MtM X "list.append" J0:=by
 intro pins s σ H x vs v us Q I rx rv h
 obtain ⟨l,xs,y,rfl,rfl,hH,hz,q⟩:=h
 cases rx
 obtain ⟨u,rfl,ru⟩:=rv.one
 obtain ⟨z,its,n,r,hl,e⟩:=I.G9 hH
 refine call_meets F.slot_list_append ⟨_,e,rfl⟩ F.entry_list_append (F.args_list_append_2 _ _) (PySem.list_append l its.toArray n u (by rw [bo]; omega)) ⟨e,?_⟩
 refine⟨.non,_,I.Nv (its':=its++[u]) hH e (by simp) (r.append (.cons ru .nil)) ?_,rfl,q⟩
 rw [bz,dm]
 omega
def QB:V→List V→Hp→VK→Prop:=fun x vs H Q=>∃ l xs y,x=.ref l∧vs=[]∧H l=some (.lst xs)∧xs[xs.length - 1]?=some y∧Q y (upd H l (.lst xs.dropLast))
theorem Nu:MtM X "list.pop" QB:=by
 intro pins s σ H x vs v us Q I rx rv h
 obtain ⟨l,xs,y,rfl,rfl,hH,hy,q⟩:=h
 cases rx
 have hus:=rv.zero
 subst hus
 obtain ⟨z,its,n,r,hl,e⟩:=I.G9 hH
 obtain ⟨u,hu,ru⟩:=r.get hy
 have hy':its.toArray[its.toArray.size - 1]?=some u:=by
  show its.toArray[its.length - 1]?=some u
  rw [← ky,← hl]
  exact hu
 refine call_meets F.slot_list_pop ⟨_,e,rfl⟩ F.entry_list_pop (F.args_list_pop_1 _) (MeetsSeq.list_pop_last l its.toArray n u hy' (by rw [bo]; omega)) ⟨e,?_⟩
 refine⟨y,_,I.Nv (its':=its.dropLast) hH e ?_ r.dropLast ?_,ru,q⟩
 ·show its.toArray.eraseIdxIfInBounds (its.toArray.size - 1)=its.dropLast.toArray
  rw [bo,List.eraseIdxIfInBounds_toArray,Bd]
 ·rw [List.length_dropLast]
  omega
def QM:R2:=fun x y H Q=>∃ l b xs zs,x=.ref l∧y=.ref b∧H l=some (.lst xs)∧H b=some (.lst zs)∧xs.length+zs.length≤sizeLine∧∀ p,H p=none→Q (.ref p) (upd H p (.lst (xs++zs)))
theorem uN:OpR X (binaryOp .Add) QM:=by
 intro pins s σ H x y v u Q I rx ry h
 obtain ⟨l,b,xs,zs,rfl,rfl,hH,hB,hz,q⟩:=h
 cases rx
 cases ry
 obtain ⟨z,its,n,r,hl,e⟩:=I.G9 hH
 obtain ⟨z2,its2,n2,r2,hl2,e2⟩:=I.G9 hB
 refine PySem.P.add_list e e2 ?_ (by rw [bo,bo]; omega)
 have ea:its.toArray++its2.toArray=(its++its2).toArray:=by simp
 rw [ea]
 exact⟨.ref _,_,I.Mw (t':=s.toks) (r.append r2) (by rw [bz]; omega),rfl,q _ I.fresh⟩
end
section
variable {prog:Program}{w:World}{A:Around}{E:Value→Shared→Prop}{s:Shared}
set_option maxRecDepth 100000 in
end
section
variable {X:Cx}
end
end L2
end
section
namespace L2
open PySem PySem.Spec PyProof.Rows
section
variable {κ:Type}[DecidableEq κ]
def bZ(kvs:List (κ × V))(k:κ):Option V:=(kvs.find? fun kv=>decide (kv.1=k)).map (·.2)
def putK(kvs:List (κ × V))(k:κ)(v:V):List (κ × V):=
 if (kvs.any fun kv=>decide (kv.1=k))=true then kvs.map (fun kv=>if kv.1=k then (kv.1,v) else kv) else kvs++[(k,v)]
def Q7(kvs:List (κ × V))(k:κ):List (κ × V):=kvs.filter fun kv=>decide (kv.1≠k)
theorem fB{p:κ × V}{r:List (κ × V)}{k:κ}(e:p.1=k):bZ (p::r) k=some p.2:=by simp [bZ,ib,e]
theorem fU{p:κ × V}{r:List (κ × V)}{k:κ}(e:¬ p.1=k):bZ (p::r) k=bZ r k:=by simp [bZ,ib,e]
theorem mj(k:κ):∀ kvs:List (κ × V),(kvs.any fun kv=>decide (kv.1=k))=(bZ kvs k).isSome
 | []=>rfl
 | p::r=>by
  rw [kU]
  by_cases e:p.1=k
  ·simp only [fB e,ay e,Bool.true_or,Option.isSome_some]
  ·rw [fU e,bv e,Bool.false_or]; exact mj k r
theorem yR(k j:κ)(y:V):∀ kvs:List (κ × V),bZ (kvs.map fun kv=>if kv.1=k then (kv.1,y) else kv) j=(bZ kvs j).map fun x=>if j=k then y else x
 | []=>rfl
 | p::r=>by
  have ih:=yR k j y r
  rw [eL]
  by_cases h:p.1=k
  ·rw [ck h]
   by_cases e:p.1=j
   ·rw [fB (p:=(p.1,y)) e,fB e,ik,ck (e.symm.trans h)]
   ·rw [fU (p:=(p.1,y)) e,fU e,ih]
  ·rw [bX h]
   by_cases e:p.1=j
   ·rw [fB (p:=p) e,fB e,ik,bX (fun z=>h (e.trans z))]
   ·rw [fU (p:=p) e,fU e,ih]
theorem vN(k j:κ)(y:V):∀ kvs:List (κ × V),bZ kvs k=none→bZ (kvs++[(k,y)]) j=if j=k then some y else bZ kvs j
 | [],_=>by
  by_cases e:k=j
  ·rw [ck e.symm]; exact fB (p:=(k,y)) e
  ·rw [bX (fun z=>e z.symm)]; exact fU (p:=(k,y)) e
 | p::r,hn=>by
  rw [List.cons_append]
  have hk:¬ p.1=k:=fun z=>by rw [fB z] at hn; cases hn
  rw [fU hk] at hn
  have ih:=vN k j y r hn
  by_cases e:p.1=j
  ·rw [fB e,fB e,bX (fun z=>hk (e.trans z))]
  ·rw [fU e,fU e,ih]
theorem jC(kvs:List (κ × V))(k j:κ)(y:V):bZ (putK kvs k y) j=if j=k then some y else bZ kvs j:=by
 unfold putK
 by_cases a:(kvs.any fun kv=>decide (kv.1=k))=true
 ·rw [ck a,yR]
  rw [mj] at a
  by_cases e:j=k
  ·obtain ⟨x,hx⟩:=ff.mp a
   rw [ck e,e,hx,ik,ck rfl]
  ·rw [bX e]
   cases bZ kvs j with
   | none=>rfl
   | some x=>rw [ik,bX e]
 ·rw [bX a]
  refine vN k j y kvs ?_
  rw [mj] at a
  cases q:bZ kvs k with
  | none=>rfl
  | some x=>rw [q] at a; exact(a rfl).elim
theorem gB(kvs:List (κ × V))(k:κ)(v:V):(putK kvs k v).length≤kvs.length+1:=by
 unfold putK
 split
 ·rw [aa]; omega
 ·rw [bz,dQ,nE]; omega
theorem uw{kvs:List (κ × V)}{k:κ}(v:V)(h:bZ kvs k=none):putK kvs k v=kvs++[(k,v)]:=by
 unfold putK
 rw [mj,h]
 exact bX (by decide)
theorem sI.lU{o:Option V}{u:Option Value}(r:sI o u):o.isSome=u.isSome:=by
 cases o with
 | none=>cases u with
  | none=>rfl
  | some _=>exact(show False from r).elim
 | some _=>cases u with
  | none=>exact(show False from r).elim
  | some _=>rfl
theorem KV.val{kvs:List (κ × V)}{vs:List (κ × Value)}(r:KV kvs vs)(k:κ):sI (bZ kvs k) (valueAt vs k):=by
 unfold KV at r
 induction r with
 | nil=>exact True.intro
 | @cons p q ps qs h t ih=>
  obtain ⟨h1,h2⟩:=h
  by_cases e:p.1=k
  ·have e':q.1=k:=h1.symm.trans e
   have b:valueAt (q::qs) k=some q.2:=by simp [valueAt,ib,e']
   rw [fB e,b]; exact h2
  ·have e':¬ q.1=k:=fun z=>e (h1.trans z)
   have b:valueAt (q::qs) k=valueAt qs k:=by simp [valueAt,ib,e']
   rw [fU e,b]; exact ih
theorem KV.any{kvs:List (κ × V)}{vs:List (κ × Value)}(r:KV kvs vs)(k:κ):(kvs.any fun kv=>decide (kv.1=k))=vs.any fun kv=>decide (kv.1=k):=by
 unfold KV at r
 induction r with
 | nil=>rfl
 | cons h t ih=>rw [kU,kU,ih,h.1]
theorem KV.repl{kvs:List (κ × V)}{vs:List (κ × Value)}(r:KV kvs vs)(k:κ){y:V}{u:Value}(ry:RelV y u) :
  KV (kvs.map fun kv=>if kv.1=k then (kv.1,y) else kv) (vs.map fun kv=>if kv.1=k then (kv.1,u) else kv):=by
 unfold KV at r ⊢
 induction r with
 | nil=>exact .nil
 | @cons p q ps qs h t ih=>
  rw [eL,eL]
  refine .cons ?_ ih
  obtain ⟨h1,h2⟩:=h
  by_cases e:p.1=k
  ·rw [ck e,ck (h1.symm.trans e)]; exact⟨h1,ry⟩
  ·rw [bX e,bX (fun z=>e (h1.trans z))]; exact⟨h1,h2⟩
theorem KV.put{kvs:List (κ × V)}{vs:List (κ × Value)}(r:KV kvs vs)(k:κ){y:V}{u:Value}(ry:RelV y u):KV (putK kvs k y) (stored vs k u):=by
 unfold putK stored
 rw [r.any k]
 by_cases e:(vs.any fun kv=>decide (kv.1=k))=true
 ·rw [ck e,ck e]; exact r.repl k ry
 ·rw [bX e,bX e]; exact Paired.snoc r ⟨rfl,ry⟩
theorem KV.length{kvs:List (κ × V)}{vs:List (κ × Value)}(r:KV kvs vs):kvs.length=vs.length:=cS r
end
theorem wO{P:Program}{w:World}{k:Key}{u:Value}(r:RelV (kV k) u):(cG P w).is k u=true:=by
 cases k with
 | inl i=>obtain ⟨t,e⟩:=(show ∃ t,u=Value.int i t from r); subst e; exact Ab P w i t
 | inr x=>obtain ⟨t,e⟩:=(show ∃ t,u=Value.str x t from r); subst e; exact zQ P w x t
theorem wI{P:Program}{w:World}:∀ {ks:List Key} {us:List Value},Vals (ks.map kV) us→ItemsAre (cG P w) ks us
 | [],_,r=>by rw [List.map_nil] at r; cases r; exact .nil
 | k::ks,_,r=>by
  rw [eL] at r
  cases r with
  | cons h t=>exact .cons (wO h) (wI t)
abbrev KT(H:Hp):List (List Key × V)→List (List Key × Addr × Value)→Prop:=Paired fun p q=>p.1=q.1∧H q.2.1=some (.tup (p.1.map kV))∧RelV p.2 q.2.2
theorem KT.val{H:Hp}{kvs:List (List Key × V)}{xs:List (List Key × Addr × Value)}(r:KT H kvs xs)(k:List Key):sI (bZ kvs k) ((atKey xs k).map (·.2)):=by
 induction r with
 | nil=>exact True.intro
 | @cons p q ps qs h t ih=>
  obtain ⟨h1,_,h2⟩:=h
  by_cases e:p.1=k
  ·have e':q.1=k:=h1.symm.trans e
   have b:atKey (q::qs) k=some q.2:=by simp [atKey,ib,e']
   rw [fB e,b]; exact h2
  ·have e':¬ q.1=k:=fun z=>e (h1.trans z)
   have b:atKey (q::qs) k=atKey qs k:=by simp [atKey,ib,e']
   rw [fU e,b]; exact ih
theorem KT.repl{H:Hp}{kvs:List (List Key × V)}{xs:List (List Key × Addr × Value)}(r:KT H kvs xs)(k:List Key){y:V}{u:Value}(ry:RelV y u) :
  KT H (kvs.map fun kv=>if kv.1=k then (kv.1,y) else kv) (xs.map (putAt k u)):=by
 induction r with
 | nil=>exact .nil
 | @cons p q ps qs h t ih=>
  rw [eL,eL]
  refine .cons ?_ ih
  obtain ⟨h1,h2,h3⟩:=h
  unfold putAt
  by_cases e:p.1=k
  ·rw [ck e,ck (h1.symm.trans e)]; exact⟨h1,h2,ry⟩
  ·rw [bX e,bX (fun z=>e (h1.trans z))]; exact⟨h1,h2,h3⟩
theorem KT.put{H:Hp}{kvs:List (List Key × V)}{xs:List (List Key × Addr × Value)}(r:KT H kvs xs)(k:List Key){b:Addr}{y:V}{u:Value}(hb:H b=some (.tup (k.map kV)))(ry:RelV y u) :
  KT H (putK kvs k y) (storedH xs k b u):=by
 have e:(kvs.any fun kv=>decide (kv.1=k))=(atKey xs k).isSome:=by
  rw [mj,(r.val k).lU,Option.isSome_map]
 unfold putK storedH
 rw [e]
 by_cases q:(atKey xs k).isSome=true
 ·rw [ck q,ck q]; exact r.repl k ry
 ·rw [bX q,bX q]; exact Paired.snoc r ⟨rfl,hb,ry⟩
theorem KT.keeps{H H':Hp}{kvs:List (List Key × V)}{xs:List (List Key × Addr × Value)}(r:KT H kvs xs)(ht:∀ b ys,H b=some (.tup ys)→H' b=some (.tup ys)):KT H' kvs xs:=
 Paired.oN r fun _ _ z=>⟨z.1,ht _ _ z.2.1,z.2.2⟩
section
variable {P:Program}{w:World}{H:Hp}{h:Heap}{a:Addr}
theorem Lx{u:HO}(ok:HOk P w H h)(e:Rd H a u):cX P w H h a u:=e.ok ok
theorem zY{kvs:List (Key × V)}(ok:HOk P w H h)(e:Rd H a (.dK kvs)):kvs.length≤sizeLine∧(a == sysModules)=false∧∃ vs,KV kvs vs∧h.DictOf (cG P w) a vs:=
 show cX P w H h a (.dK kvs) from Lx ok e
theorem Lp{kvs:List (Key × V)}(ok:HOk P w H h)(e:H a=some (.dK kvs)):kvs.length≤sizeLine∧(a == sysModules)=false∧∃ vs,KV kvs vs∧h.DictOf (cG P w) a vs:=zY ok (.inl e)
theorem uU{ks:List Key}(ok:HOk P w H h)(e:H a=some (.tup (ks.map kV))):(tupleKind (cG P w)).is h ks a:=by
 obtain ⟨_,its,r,o,h1,h2,n,h3⟩:=(show cX P w H h a (.tup (ks.map kV)) from ok a _ e)
 exact⟨o,its.toArray,n,h1,h2,h3,by simpa using wI r⟩
theorem zG{kvs:List (List Key × V)}(ok:HOk P w H h)(e:Rd H a (.dT kvs)):kvs.length≤sizeLine∧(a == sysModules)=false∧
  ∃ xs,KT H kvs xs∧h.DictOfH (tupleKind (cG P w)) a xs:=by
 obtain ⟨z,y,xs,r,o,es,ep,h1,h2,h3,h4,h5⟩:=(show cX P w H h a (.dT kvs) from Lx ok e)
 refine⟨z,y,xs,r,o,es,ep,h1,h2,h3,h4,fun x hx=>?_,h5⟩
 have all:∀ {l:List (List Key × V)} {m:List (List Key × Addr × Value)},KT H l m→∀ x∈m,(tupleKind (cG P w)).is h x.1 x.2.1:=by
  intro l m q
  induction q with
  | nil=>intro x hx; exact nomatch hx
  | @cons p q ps qs hq t ih=>
   intro x hx
   rcases bu.mp hx with e | hx
   ·subst e
    exact uU ok (by rw [← hq.1]; exact hq.2.1)
   ·exact ih x hx
 exact all r x hx
theorem Oh{kvs:List (List Key × V)}(ok:HOk P w H h)(e:H a=some (.dT kvs)):kvs.length≤sizeLine∧(a == sysModules)=false∧
  ∃ xs,KT H kvs xs∧h.DictOfH (tupleKind (cG P w)) a xs:=zG ok (.inl e)
end
def kO(H:Hp)(a:Addr)(y:V)(r:Option V):Prop:=
 (∃ kvs k,Rd H a (.dK kvs)∧y=kV k∧r=bZ kvs k)∨∃ kvs k b,Rd H a (.dT kvs)∧y=.ref b∧H b=some (.tup (k.map kV))∧r=bZ kvs k
def rC(H:Hp)(a:Addr)(y v:V)(H':Hp):Prop:=
 (∃ kvs k,H a=some (.dK kvs)∧y=kV k∧kvs.length < sizeLine∧H'=upd H a (.dK (putK kvs k v)))∨
 ∃ kvs k b,H a=some (.dT kvs)∧y=.ref b∧H b=some (.tup (k.map kV))∧kvs.length < sizeLine∧H'=upd H a (.dT (putK kvs k v))
theorem kO.k{H:Hp}{a:Addr}{kvs:List (Key × V)}{k:Key}(e:H a=some (.dK kvs)):kO H a (kV k) (bZ kvs k):=.inl ⟨kvs,k,.inl e,rfl,rfl⟩
theorem rC.k{H:Hp}{a:Addr}{kvs:List (Key × V)}{k:Key}{v:V}(e:H a=some (.dK kvs))(hl:kvs.length < sizeLine):rC H a (kV k) v (upd H a (.dK (putK kvs k v))):=.inl ⟨kvs,k,e,rfl,hl,rfl⟩
section
variable {X:Cx}{pins:List (Addr × Obj)}{σ:St}{H:Hp}{s:Shared}{a:Addr}{y v:V}{u r:Value}{o:Option V}{A:Around}{E:Value→Shared→Prop}
theorem Inv.big(I:Inv X pins σ H s):sysModules < s.heap.objs.size:=by
 have h:mainGlobals < s.heap.objs.size:=(I.mod.glob.keeps I.bk).lt
 exact iP (by decide) h
theorem Eo{Q:Value→Shared→Prop}(hu:A.units+1 < cLine)(I:Inv X pins σ H s)(g:kO H a y (some v))(ry:RelV y u)(h:∀ w' s',Inv X pins σ H s'→RelV v w'→Q w' s') :
  wpAny (model X.prog X.w) A (getItem (.ref a) u) Q E s:=by
 rcases g with ⟨kvs,k,e,ey,l⟩ | ⟨kvs,k,b,e,ey,eb,l⟩
 ·subst ey
  obtain ⟨z,hd,vs,rel,dd⟩:=zY I.hok e
  obtain ⟨w',hw,rw'⟩:=sI.some_of (v:=v) (o:=valueAt vs k) (by rw [l]; exact rel.val k)
  exact wpAny_getItem_of (wO ry) dd.mapOf hw (h w' _ (I.tok _) rw')
 ·subst ey
  cases (show u=Value.ref b from ry)
  obtain ⟨z,hd,xs,rel,dd⟩:=zG I.hok e
  obtain ⟨w',hw,rw'⟩:=sI.some_of (v:=v) (o:=(atKey xs k).map (·.2)) (by rw [l]; exact rel.val k)
  obtain ⟨p,hp,hp2⟩:=Option.map_eq_some_iff.mp hw
  refine wpAny_getItem_heap (lr hu) (uU I.hok eb) dd hp ?_
  rw [hp2]
  exact h w' _ (I.tok _) rw'
theorem Qz{Q:Value→Shared→Prop}(hu:A.units+1 < cLine)(I:Inv X pins σ H s)(g:kO H a y o)(ry:RelV y u)(h:∀ s',Inv X pins σ H s'→Q (.bool o.isSome) s') :
  wpAny (model X.prog X.w) A (compareOp .In u (.ref a)) Q E s:=by
 rcases g with ⟨kvs,k,e,ey,l⟩ | ⟨kvs,k,b,e,ey,eb,l⟩
 ·subst ey
  obtain ⟨z,hd,vs,rel,dd⟩:=zY I.hok e
  refine wpAny_in_of (wO ry) hd dd.mapOf ?_
  rw [← (rel.val k).lU,← l]
  exact h _ (I.tok _)
 ·subst ey
  cases (show u=Value.ref b from ry)
  obtain ⟨z,hd,xs,rel,dd⟩:=zG I.hok e
  refine wpAny_in_heap (lr hu) (uU I.hok eb) hd dd ?_
  have q:=(rel.val k).lU
  rw [Option.isSome_map] at q
  rw [← q,← l]
  exact h _ (I.tok _)
theorem JK{Q:Value→Shared→Prop}(hu:A.units+1 < cLine)(I:Inv X pins σ H s)(g:kO H a y o)(ry:RelV y u)(h:∀ s',Inv X pins σ H s'→Q (.bool (!o.isSome)) s') :
  wpAny (model X.prog X.w) A (compareOp .NotIn u (.ref a)) Q E s:=by
 rcases g with ⟨kvs,k,e,ey,l⟩ | ⟨kvs,k,b,e,ey,eb,l⟩
 ·subst ey
  obtain ⟨z,hd,vs,rel,dd⟩:=zY I.hok e
  refine wpAny_notIn_of (wO ry) hd dd.mapOf ?_
  rw [← (rel.val k).lU,← l]
  exact h _ (I.tok _)
 ·subst ey
  cases (show u=Value.ref b from ry)
  obtain ⟨z,hd,xs,rel,dd⟩:=zG I.hok e
  refine wpAny_notIn_heap (lr hu) (uU I.hok eb) hd dd ?_
  have q:=(rel.val k).lU
  rw [Option.isSome_map] at q
  rw [← q,← l]
  exact h _ (I.tok _)
theorem yd{h':Heap}{t':Nat}{ob:HO}(I:Inv X pins σ H s)(mu:Mut (H a))(hs:Heap.SameBut a s.heap h')(he:∃ q,h'.get? a=some q)(new:cX X.prog X.w (upd H a ob) h' a ob) :
  Inv X pins σ (upd H a ob) { s with heap:=h',toks:=t' }:=
 I.write (x:=a) (e:=a) mu (.inl rfl) (fun b q hb z=>(hs.2 b hb).trans z) he new
theorem G5{P:Program}{w:World}{H':Hp}{h':Heap}{kvs:List (Key × V)}{vs:List (Key × Value)}(z:kvs.length≤sizeLine)(hd:(a == sysModules)=false)(rel:KV kvs vs)(dd:h'.DictOf (cG P w) a vs) :
  cX P w H' h' a (.dK kvs):=⟨z,hd,vs,rel,dd⟩
theorem En{H':Hp}{Q:Unit→Shared→Prop}(hu:A.units+1 < cLine)(I:Inv X pins σ H s)(g:rC H a y v H')(ry:RelV y u)(rv:RelV v r)(h:∀ s',Inv X pins σ H' s'→Q () s') :
  wpAny (model X.prog X.w) A (setItem (.ref a) u r) Q E s:=by
 rcases g with ⟨kvs,k,e,ey,l,eH⟩ | ⟨kvs,k,b,e,ey,eb,l,eH⟩
 ·subst ey eH
  obtain ⟨z,hd,vs,rel,dd⟩:=Lp I.hok e
  have hz:vs.length≤sizeLine:=by rw [← rel.length]; exact z
  have hl:(putK kvs k v).length≤sizeLine:=by have:=gB kvs k v; omega
  refine wpAny_setItem_pairs (hsz:=hz) (wO ry) dd fun h' dd' hs=>h _ ?_
  have he:∃ q,h'.get? a=some q:=let ⟨q,_,_,hq,_⟩:=dd'; ⟨q,hq⟩
  exact yd I (by rw [e]; exact True.intro) hs he (G5 hl hd (rel.put k rv) dd')
 ·subst ey eH
  cases (show u=Value.ref b from ry)
  obtain ⟨z,hd,xs,rel,dd⟩:=Oh I.hok e
  have hz:xs.length≤sizeLine:=by rw [← cS rel]; exact z
  have hl:(putK kvs k v).length≤sizeLine:=by have:=gB kvs k v; omega
  refine wpAny_setItem_heap (hsz:=hz) (lr hu) (uU I.hok eb) dd fun h' dd' hs=>h _ ?_
  obtain ⟨q,es,ep,hq,h2,h3,h4,_,h5⟩:=dd'
  refine yd I (by rw [e]; exact True.intro) hs ⟨q,hq⟩ ⟨hl,hd,_,(rel.put k eb rv).keeps fun c ys ec=>?_,q,es,ep,hq,h2,h3,h4,h5⟩
  rw [au (eG ec e (fun z=>nomatch z))]
  exact ec
end
section
variable {X:Cx}{pins:List (Addr × Obj)}{σ:St}{H:Hp}{s:Shared}{a:Addr}{kvs:List (Key × V)}{k:Key}{u:Value}{A:Around}{E:Value→Shared→Prop}
end
def Ov(i:Expr):Prop:=∀ ov iv,subscripted i false ov iv=operate [ov,iv] (getItem ov iv)
theorem Lb{prog:Program}{w:World}{A:Around}{E:Value→Shared→Prop}{s:Shared}{env:Env}{value slice:Expr}{pos:Pos}{T id:String}{Q:Value→Shared→Prop}
  (hl:typeLookup (.type T) "__getitem__" = pure (some (.builtin id))) (hs:Ov slice)
  (h:wpAny (model prog w) A (eval value env) (fun o s₁=>wpAny (model prog w) A (eval slice env) (fun i s₂=>s₂.TypeIs o T∧wpAny (model prog w) A (getItem o i) Q E s₂) E s₁) E s) :
  wpAny (model prog w) A (eval (.Subscript value slice pos) env) Q E s:=by
 refine Subscript_ (ic h (fun o s₁ h₁=>ic h₁ (fun i s₂ h₂=>?_) fun _ _ x=>x) fun _ _ x=>x)
 obtain ⟨hT,h₂⟩:=h₂
 unfold subscriptTail
 refine ac ?_
 rw [getitemInPython_of_ne hT.not_modules]
 refine ac (wpAny_specialOf hT hl ?_)
 have fin:wpAny (model prog w) A (subscripted slice false o i) (fun r s₃=>wpAny (model prog w) A (letTemporaryGo value o r >>= fun _=>pure r) Q E s₃) E s₂:=by
  rw [hs o i]
  exact wpAny_operating (ic h₂ (fun r s₃ h₃=>ac (wpAny_letTemporaryGo (aI h₃))) fun _ _ x=>x)
 first
  | exact aI (ac fin)
  | exact ac (aI (ac fin))
  | exact ac fin
theorem zX{X:Cx}{pins:List (Addr × Obj)}{σ:St}{H:Hp}{s:Shared}{a:Addr}{y:V}{o:Option V}(I:Inv X pins σ H s)(g:kO H a y o):s.TypeIs (.ref a) "dict" := by
 rcases g with ⟨kvs,k,e,_,_⟩ | ⟨kvs,k,b,e,_,_,_⟩
 ·obtain ⟨_,_,vs,_,dd⟩:=zY I.hok e
  exact dd.typeIs
 ·obtain ⟨_,_,xs,_,dd⟩:=zG I.hok e
  exact dd.typeIs
def Oi(td ty:TE):TE:=fun σ H Q=>td σ H fun x H1=>ty σ H1 fun y H2=>∃ a v,x=.ref a∧kO H2 a y (some v)∧Q v H2
def QC(ty td:TE):TE:=fun σ H Q=>ty σ H fun y H1=>td σ H1 fun x H2=>∃ a o,x=.ref a∧kO H2 a y o∧Q (.bl o.isSome) H2
def K4(ty td:TE):TE:=fun σ H Q=>ty σ H fun y H1=>td σ H1 fun x H2=>∃ a o,x=.ref a∧kO H2 a y o∧Q (.bl (!o.isSome)) H2
def PL(td ty tv:TE):TS:=fun D σ H=>tv σ H fun v H1=>td σ H1 fun x H2=>ty σ H2 fun y H3=>∃ a H4,x=.ref a∧rC H3 a y v H4∧D.nx σ H4
section
variable {X:Cx}{o i e value:Expr}{pos pos' tpos:Pos}{td ty tv:TE}
theorem dF(hu:X.A.units+1 < cLine)(ho:PE X o td)(hi:PE X i ty)(hs:Ov i):PE X (.Subscript o i pos) (Oi td ty):=by
 intro pins s σ H Q I h
 refine Lb PySem.F.slot_dict_getitem.lookup hs (thn (ho pins s σ H _ I h) fun u s1 ⟨x,H1,I1,rx,q1⟩=>thn (hi pins s1 σ H1 _ I1 q1) fun iv s2 ⟨y,H2,I2,ry,a,v,ex,g,q2⟩=>?_)
 subst ex
 obtain rfl:u=Value.ref a:=rx
 exact⟨zX I2 g,Eo hu I2 g ry fun w' s3 I3 rw'=>⟨v,H2,I3,rw',q2⟩⟩
theorem yg(hu:X.A.units+1 < cLine)(hi:PE X i ty)(ho:PE X o td):PC X .In i o (QC ty td):=by
 intro pins s σ H Q I h
 refine thn (hi pins s σ H _ I h) fun iv s1 ⟨y,H1,I1,ry,q1⟩=>thn (ho pins s1 σ H1 _ I1 q1) fun u s2 ⟨x,H2,I2,rx,a,ov,ex,g,q2⟩=>?_
 subst ex
 obtain rfl:u=Value.ref a:=rx
 exact Qz hu I2 g ry fun s3 I3=>⟨.bl ov.isSome,H2,I3,rfl,q2⟩
theorem mC(hu:X.A.units+1 < cLine)(hi:PE X i ty)(ho:PE X o td):PC X .NotIn i o (K4 ty td):=by
 intro pins s σ H Q I h
 refine thn (hi pins s σ H _ I h) fun iv s1 ⟨y,H1,I1,ry,q1⟩=>thn (ho pins s1 σ H1 _ I1 q1) fun u s2 ⟨x,H2,I2,rx,a,ov,ex,g,q2⟩=>?_
 subst ex
 obtain rfl:u=Value.ref a:=rx
 exact JK hu I2 g ry fun s3 I3=>⟨.bl (!ov.isSome),H2,I3,rfl,q2⟩
theorem jR(hu:X.A.units+1 < cLine)(ho:PE X o td)(hi:PE X i ty)(hv:PE X value tv)(hs:swapsWith value (some (.Subscript o i pos')) pos.line X.env=pure false) :
  PS X (.Assign [.Subscript o i pos'] value pos) (PL td ty tv):=by
 intro pins s σ H D I h
 refine wpAny_Assign_Subscript (thn (hv pins s σ H _ I h) fun r s1 ⟨v,H1,I1,rv,q1⟩=>thn (ho pins s1 σ H1 _ I1 q1) fun u s2 ⟨x,H2,I2,rx,q2⟩=>thn (hi pins s2 σ H2 _ I2 q2) fun iv s3 ⟨y,H3,I3,ry,a,H4,ex,g,q3⟩=>?_) hs
 subst ex
 obtain rfl:u=Value.ref a:=rx
 exact En hu I3 g ry rv fun s4 I4=>⟨σ,H4,I4,q3⟩
end
theorem tM{P:Program}{w:World}{H:Hp}(h:Heap)(hb:sysModules < h.objs.size):cX P w H (h.push { cls:=.type "dict",data:=.dict #[] }) h.objs.size (.dK []):=
 ⟨dq _,beq_eq_false_iff_ne.mpr (kK (dc hb)),[],.nil,Heap.DictOf.new h⟩
def Nq:TE:=fun _ H Q=>∀ p,H p=none→Q (.ref p) (upd H p (.dK []))
section
variable {X:Cx}{pos:Pos}
theorem j9:PE X (.Dict [] [] pos) Nq:=fun pins s σ H Q I h=>
 wpAny_Dict_empty ⟨.ref s.heap.objs.size,_,I.laid (a:=s.heap.objs.size) (o:=.dK []) (t':=s.toks) (fun _ _ q=>ar _ q) (am _) (tM s.heap I.big),rfl,h _ (I.hok.fresh (am _))⟩
end
def dN(kvs more:List (Key × V)):List (Key × V):=more.foldl (fun acc kv=>putK acc kv.1 kv.2) kvs
theorem lH:∀(more kvs:List (Key × V)),(dN kvs more).length≤kvs.length+more.length
 | [],kvs=>by show kvs.length≤kvs.length+0; omega
 | p::r,kvs=>by
  have h1:=lH r (putK kvs p.1 p.2)
  have h2:=gB kvs p.1 p.2
  show (dN (putK kvs p.1 p.2) r).length≤_
  rw [dQ]; omega
structure M1 (X:Cx) (o:Expr) (m:Str) (apos:Pos) (e:Expr) (cpos:Pos):Prop where
 base:attributeBase o m X.env (eval o X.env)=eval o X.env
 few:((backTo cpos (starEach [e] X.env)).all (fun x=>!x.1) && (backToKw cpos (keywordEach [] X.env)).all (fun x=>x.1.isSome)
  && decide (([e]:List Expr).length+([]:List Keyword).length+(if ([]:List Keyword).isEmpty then 0 else 1) < 30))=true
 line:(apos.endLine == cpos.line)=true
 trees:backTo cpos (starEach [e] X.env)=[(false,eval e X.env)]
structure M2 (X:Cx) (o:Expr) (m:Str) (apos:Pos) (e f:Expr) (cpos:Pos):Prop where
 base:attributeBase o m X.env (eval o X.env)=eval o X.env
 few:((backTo cpos (starEach [e,f] X.env)).all (fun x=>!x.1) && (backToKw cpos (keywordEach [] X.env)).all (fun x=>x.1.isSome)
  && decide (([e,f]:List Expr).length+([]:List Keyword).length+(if ([]:List Keyword).isEmpty then 0 else 1) < 30))=true
 line:(apos.endLine == cpos.line)=true
 trees:backTo cpos (starEach [e,f] X.env)=[(false,eval e X.env),(false,eval f X.env)]
section
variable {X:Cx}{pins:List (Addr × Obj)}{σ:St}{H:Hp}{s:Shared}{a:Addr}{y d:V}{u r:Value}{o:Option V}{A:Around}{E:Value→Shared→Prop}
end
section
variable {X:Cx}{o e f:Expr}{apos cpos:Pos}{td ty tx:TE}
end
section
variable {X:Cx}{pins:List (Addr × Obj)}{σ:St}{H:Hp}{s:Shared}{a:Addr}{kvs:List (Key × V)}{A:Around}{E:Value→Shared→Prop}
end
section
variable {X:Cx}{pins:List (Addr × Obj)}{σ:St}{H:Hp}{s:Shared}{a:Addr}{y:V}{u:Value}{A:Around}{E:Value→Shared→Prop}
end
end L2
end
section
namespace Att
open PySem PySem.W PySem.Calls PyProof.Rows
theorem rQ{P:Params}{h:Heap}:∀(ns:List Int) (vs:List Value),WellAll P h vs (ns.map WData.int)→IntsAre vs ns:=by
 intro ns
 induction ns with
 | nil=>
  intro vs w
  rw [List.map_nil] at w
  cases w
  exact .nil
 | cons n ns ih=>
  intro vs w
  rw [eL] at w
  cases w with
  | cons a b=>
   cases a
   exact .cons _ _ (ih _ b)
theorem FT{l:OpenLaw}{n:Nat}(hn:l.most=some n){P:Params}{h:Heap}{args:List WData}{vals:List Value}
  (hpre:l.row.toRowW.claim.pre args=true) (hwl:WellAll P h vals args) :
  ∃ a vs ns,vals=[Value.ref a]∧args=[WData.list (ns.map WData.int)]∧h.get? a=some { cls:=.type "list",data:=.seq vs.toArray }∧IntsAre vs ns∧ns.length≤n:=by
 have hsh:WShape.hasAll [] args [.list .int]=true:=(pre_splitW hpre).1
 have hc:l.pre.holds [] { args:=args }=true:=(pre_splitW hpre).2
 obtain ⟨d,r,rfl,h1,h2⟩:=hasAllW_cons hsh
 obtain rfl:=hasAllW_nil h2
 obtain ⟨xs,rfl,h3⟩:=hasW_list h1
 obtain ⟨ns,rfl⟩:=items_int h3
 have hlen:ns.length≤n:=by
  unfold OpenLaw.pre at hc
  have h4:(WTm.not (.lt (.lit (.int (n:Int))) (.len (.arg 0)))).holds [] { args:=[.list (ns.map .int)] }=true:=by
   have h4:=(holds_andW hc).1
   rw [hn] at h4
   exact h4
  have h5:=condW_of h4 (w_not (w_lt w_lit (w_len_list (w_arg rfl))))
  rw [aa] at h5
  refine Nat.le_of_not_lt fun q=>?_
  have q':(n:Int) < ((ns.length:Nat):Int):=by omega
  first
   | (rw [ay q'] at h5; exact absurd h5 (by decide))
   | (simp at h5; omega)
 cases hwl with
 | cons w1 w2=>
  cases w2
  cases w1 with
  | list ho hall=>exact⟨_,_,ns,rfl,rfl,ho,rQ ns _ hall,hlen⟩
theorem Et(l:OpenLaw)(args:List WData):l.row.toRowW.claim.post args (.bool true) args=true:=
 postW_of (r:=l.row.toRowW) (X:=(true == true))
  (show WShape.has [] (.bool true) .bool=true by first | rfl | decide | simp [WShape.has,WShape.arms,WShape.armsAll])
  (show (WTm.eq .res (.lit (.bool true))).value [] { args:=args,res:=some (.bool true),after:=args }=some (.bool (true == true)) from w_eq_bool (w_res rfl) w_lit) rfl
theorem zO{l:OpenLaw}{n:Nat}{q:Program}{loose:List Str}{XP:(Str→Option Value)→Heap→Prop}{YP:World→Heap→Prop}{d:DefRec}
  (hn:l.most=some n) (hdf:d.params.defaults=[])
  (call:∀(w:World) (s₀ s₁:Shared) (mg mb:Str→Option Value) (fa:Addr) (o:Obj) (pm cd doc:Value) (a:Addr) (vs:List Value) (ns:List Int),
   Ground q loose [] XP w s₀ mg mb s₁.heap→YP w s₁.heap→
   s₁.heap.get? fa=some o→o.data=.func (docDef d.name d.params d.body d.scope pm cd doc)→s₁.heap.CodeRec cd d.name→mg d.name=some (.ref fa)→
   s₁.heap.get? a=some { cls:=.type "list",data:=.seq vs.toArray }→IntsAre vs ns→ns.length≤n→s₁.gens=#[]→
   codeAny (model l.prog w) callerA (.call (.ref fa) ⟨[.ref a],[]⟩) (fun r s'=>r=.ok (.ret (.bool true))∧OldK s₁.heap s'.heap∧s'.os=s₁.os∧AllBare s'.gens) s₁) :
  WalkO q loose XP YP l.row.toRowW d [] (fun f vs=>PySem.call f vs):=by
 intro w s₀ s₁ mg mb G Y fa o pm cd doc dV kV ho hd hcd hD hmg hg args vals as hpre hlay hrd hwl hlo
 obtain rfl:dV=.none:=Dflts.none hD hdf
 obtain rfl:kV=.none:=Dflts.noKw hD
 obtain ⟨a,vs,ns,rfl,rfl,hobj,hints,hlen⟩:=FT hn hpre hwl
 refine enter_call (ke (call w s₀ s₁ mg mb fa o pm cd doc a vs ns G Y ho (fd_plain hd) hcd hmg hobj hints hlen hg) fun r s' hq=>?_)
 obtain ⟨rfl,h2,h3,h4⟩:=hq
 exact⟨.inl ⟨.bool true,.bool true,[],rfl,fun _=>rfl,.bool true,Et l _,fun _=>⟨List.Pairwise.nil,fun _ hm=>(nomatch hm)⟩⟩,h2,h3,h4⟩
section
variable {prog:Program}{w:World}{A:Around}{E:Value→Shared→Prop}{s:Shared}{K:Frag}
def ledger(h:Heap)(L d:Addr):List (Addr × Obj):=(List.range h.objs.size).filterMap fun a=>if a=L∨a=d then none else (h.get? a).map fun o=>(a,o)
end
end Att
namespace L2
open PySem PySem.Spec PyProof.Rows
theorem vO:∀ {vs:List Value} {ns:List Int},IntsAre vs ns→Vals (ns.map V.int) vs
 | _,_,.nil=>.nil
 | _,_,.cons n t h=>.cons ⟨t,rfl⟩ (vO h)
def Only(H:Hp):Prop:=∀ b,H b=none∨∃ o xs,H b=some (.frz o (.lst xs))
theorem HS{P:Program}{w:World}{K:PySem.W.Frag}{mg mb:Str→Option Value}{CX:CXT}{k:Nat}{fa a:Addr}{fd:FuncData}{x:Str}{sp:Sp}{s₁:Shared}{vs:List Value}{ns:List Int}
  (KX:K.In s₁.heap) (hns:s₁.heap.Ns mainGlobals mg) (hb:s₁.heap.Ns builtinsNs mb) (hbb:∀ x:Str,x≠ "__name__" → mb x=bootBuiltins x) (hlim:s₁.heap.NoLimit) (hg:s₁.gens=#[])
  (ha:s₁.heap.get? a=some { cls:=.type "list",data:=.seq vs.toArray }) (hi:IntsAre vs ns) (hl:ns.length≤sizeLine) (hr:kJ k callerA)
  (F:∀ base:Heap,K.In base→base.Ns mainGlobals mg→aW P w K mg base CX k fa fd [x] sp) (hbind:∀(s:Shared) (u:Value),BindsTo s fd ⟨[u],[]⟩ [(x,u)])
  (hsp:∀ H:Hp,Only H→SqL K H a (ns.map V.int)→sp [.ref a] H (fun v _=>v=.bl true) fun _ _ _=>False)
  (hCX:∀ H e s',CX [] H s₁ (fun _ _ _=>False) e s'→False) :
  codeAny (model P w) callerA (.call (.ref fa) ⟨[.ref a],[]⟩) (fun r s'=>r=.ok (.ret (.bool true))∧OldK s₁.heap s'.heap∧s'.os=s₁.os∧AllBare s'.gens) s₁:=by
 have rv:=vO hi
 have lenV:=hi.length
 have core:∀ H:Hp,Only H→SqL K H a (ns.map V.int)→HOk P w H s₁.heap→(∀ b,H b≠none→b=a)→(H a≠none→K.lookup a=none)→
   codeAny (model P w) callerA (.call (.ref fa) ⟨[.ref a],[]⟩) (fun r s'=>r=.ok (.ret (.bool true))∧OldK s₁.heap s'.heap∧s'.os=s₁.os∧AllBare s'.gens) s₁:=by
  intro H hO hS hok hA hK
  have base_of:∀ {b:Addr} {o:Obj},s₁.heap.get? b=some o→H b=none→(yG s₁.heap H).get? b=some o:=fun e n=>Hr e n
  have noA:∀ {b:Addr} {o:Obj} {es:Array DictEntry} {ep:Nat},s₁.heap.get? b=some o→o.data=.dict es ep→H b=none:=fun {b o es ep} e d=>by
   cases q:H b with
   | none=>rfl
   | some u=>
    have e':b=a:=hA b (by rw [q]; simp)
    subst e'
    rw [ha] at e; cases e
    have d':Data.seq vs.toArray _=Data.dict es ep:=d
    cases d'
  have nsK:∀ {b:Addr} {m:Str→Option Value},s₁.heap.Ns b m→(yG s₁.heap H).Ns b m:=fun {b m} ⟨o,es,ep,e,d,r⟩=>⟨o,es,ep,base_of e (noA e d),d,r⟩
  have hKb:K.In (yG s₁.heap H):=fun b o e=>base_of (KX b o e) (by
   cases q:H b with
   | none=>rfl
   | some u=>
    have e':b=a:=hA b (by rw [q]; simp)
    subst e'
    rw [hK (by rw [q]; simp)] at e; cases e)
  have hM:Mod K mg (yG s₁.heap H):=⟨hKb,nsK hns,⟨mb,nsK hb,hbb⟩,let ⟨mc,h1,h2⟩:=hlim; ⟨mc,nsK h1,h2⟩⟩
  have e0:Je P w K mg (yG s₁.heap H) callerA [] s₁ H:=⟨rfl,hM,fun b o e=>Ld e,Nat.le_of_eq (FZ _ _),trivial,fun b hb=>absurd (show b∈([]:List Addr) from hb) (by simp),hok,.of_eq hg⟩
  refine ke ((F _ hKb (nsK hns)).run callerA [] s₁ H ⟨[.ref a],[]⟩ [.ref a] [.ref a] _ _ hr e0 (hbind s₁ (.ref a)) (.cons rfl .nil) (hsp H hO hS)) fun r s' h=>?_
  cases r with
  | error e=>exact(hCX H e s' h).elim
  | ok fl=>
   cases fl with
   | next=>exact False.elim h
   | brk=>exact False.elim h
   | cont=>exact False.elim h
   | ret u=>
    obtain ⟨v,H',os,bare,un,hok',r',q⟩:=h
    have q':v=.bl true:=q
    subst q'
    obtain rfl:u=Value.bool true:=r'
    refine⟨rfl,OldK.of_keep fun b o e=>?_,os,bare⟩
    cases q:H b with
    | none=>exact un.keep b o e q (by intro z; exact absurd (show b∈([]:List Addr) from z) (by simp)) (by simp)
    | some u=>
     rcases hO b with z | ⟨ob,xs,z⟩
     ·rw [q] at z; cases z
     ·have z2:=un.uo b ob _ z
      obtain ⟨e1,_⟩:=hok b _ z
      obtain ⟨e2,_⟩:=hok' b _ z2
      rw [e] at e1; cases e1
      exact e2
 cases hk:K.lookup a with
 | some o=>
  have e:=KX a o hk
  rw [ha] at e
  cases e
  refine core (fun _=>none) (fun _=>.inl rfl) (.inr ⟨_,vs.toArray,_,hk,rfl,rfl,rfl,by rw [bo,lenV]; exact hl,by simpa using rv⟩) (fun b u z=>by have z':(none:Option HO)=some u:=z; cases z') (fun b z=>absurd rfl z) fun z=>absurd rfl z
 | none=>
  refine core (fun b=>if b=a then some (.frz { cls:=.type "list",data:=.seq vs.toArray } (.lst (ns.map V.int))) else none) (fun b=>?_) (.inl (.inr ⟨{ cls:=.type "list",data:=.seq vs.toArray },ck rfl⟩)) (fun b u z=>?_) (fun b z=>?_) fun _=>hk
  ·by_cases hb:b=a
   ·exact .inr ⟨_,_,ck hb⟩
   ·exact .inl (bX hb)
  ·by_cases hb:b=a
   ·have z':=(ck hb).symm.trans z
    cases z'
    subst hb
    exact⟨ha,by rw [aa]; exact hl,vs,_,rv,ha⟩
   ·have z':=(bX hb).symm.trans z
    cases z'
  ·by_cases hb:b=a
   ·exact hb
   ·exact absurd (bX hb) z
theorem K3{l:PySem.W.OpenLaw}{n k:Nat}{q:Program}{loose:List Str}{XP:(Str→Option Value)→Heap→Prop}{YP:World→Heap→Prop}{d:DefRec}{K:Params→PySem.W.Frag}{CX:World→CXT}{sp:World→Sp}{x:Str}
  (hn:l.most=some n) (hn2:n≤sizeLine) (hdf:d.params.defaults=[]) (hr:kJ k callerA)
  (hY:∀(w:World) (h:Heap),YP w h→(K w.params).In h)
  (F:∀(w:World) (mg:Str→Option Value) (fa:Addr) (h:Heap),(K w.params).In h→h.Ns mainGlobals mg→mg d.name=some (.ref fa)→
   ∃ fd:FuncData,(∀(s:Shared) (u:Value),BindsTo s fd ⟨[u],[]⟩ [(x,u)])∧
    ∀ base:Heap,(K w.params).In base→base.Ns mainGlobals mg→aW l.prog w (K w.params) mg base (CX w) k fa fd [x] (sp w))
  (hsp:∀(w:World) (H:Hp) (a:Addr) (ns:List Int),ns.length≤n→Only H→SqL (K w.params) H a (ns.map V.int)→sp w [.ref a] H (fun v _=>v=.bl true) fun _ _ _=>False)
  (hCX:∀(w:World) (H:Hp) (s:Shared) (e:Value) (s':Shared),CX w [] H s (fun _ _ _=>False) e s'→False) :
  PySem.W.WalkO q loose XP YP l.row.toRowW d [] (fun f vs=>PySem.call f vs):=by
 refine Att.zO hn hdf fun w s₀ s₁ mg mb fa o pm cd doc a vs ns G Y ho hd hcd hmg hobj hints hlen hg=>?_
 have KX:=hY w _ Y
 obtain ⟨fd,hb,hF⟩:=F w mg fa _ KX G.T.g hmg
 exact HS KX G.T.g G.T.b G.T.builtins G.T.nolimit hg hobj hints (dC hlen hn2) hr hF hb (fun H hO hS=>hsp w H a ns hlen hO hS) fun H e s'=>hCX w H s₁ e s'
def aK(s:Stmt):Arguments:=match s with
 | .FunctionDef _ a _ _ _ _ _ _ _ _=>a
 | _=>{ posonlyargs:=[],args:=[],vararg:=none,kwonlyargs:=[],kw_defaults:=[],kwarg:=none,defaults:=[] }
def aJ(s:Stmt):List Stmt:=match s with
 | .FunctionDef _ _ b _ _ _ _ _ _ _=>b
 | _=>[]
def aq(s:Stmt):Scope:=match s with
 | .FunctionDef _ _ _ _ _ _ sc _ _ _=>sc
 | _=>{ kind:=.function,names:=[],isGenerator:=false,isCoroutine:=false }
abbrev CX0:CXT:=fun _ _ _ _ _ _=>False
abbrev E0:XK:=fun _ _ _=>False
theorem Py{X:Cx}:Passes CX0 X E0:=fun _ _ _ _ _ _ _ h=>h.elim
structure Fun (K:PySem.W.Frag) (x qual:Str) (st:Stmt) (f:Addr) (fd:FuncData):Prop where
 ex:∃(oc:Value) (od:Option Addr) (kV doc pm:Value) (an:Option Addr) (cdv ct:Value) (osl:Array (Option Value)),
  fd=PySem.W.fnOf x qual (aK st) (aJ st) (aq st) .none kV doc pm an cdv ct∧K.lookup f=some ⟨oc,od,.func fd,osl⟩∧PySem.W.codeIn K cdv qual=true
 kp:PySem.W.keepIn K (.ref f)=true
section
variable {P:Program}{w:World}{K:PySem.W.Frag}{mg:Str→Option Value}{base:Heap}
theorem Fun.ok{x qual:Str}{st:Stmt}{f:Addr}{fd:FuncData}{N ps:List Str}{k:Nat}{sp:Sp}(F:Fun K x qual st f fd)(S:aZ N ps (aq st))(len:∀ vs H Q E,sp vs H Q E→vs.length=ps.length)
  (hbody:∀(cdv:Value) (A:Around) (outer:List Env) (s:Shared) (H:Hp) (vs:List V) (Q:VK) (E:XK),kJ k (A.deeper (envOfC qual (aq st) s.heap.objs.size f cdv))→sp vs H Q E→
   ∃ t,PSs (Fd CX0 P w K mg base N qual (aq st) f cdv A outer s H E).nox (aJ st) t∧t { nx:=fun _ H'=>Q .non H',rt:=Q } (start N vs) H):aW P w K mg base CX0 (k+1) f fd ps sp:=by
 obtain ⟨oc,od,kV,doc,pm,an,cdv,ct,osl,rfl,lk,hcd⟩:=F.ex
 refine Pk lk hcd S len fun A outer s H vs Q E hr hsp=>?_
 obtain ⟨t,h,q⟩:=hbody cdv A outer s H vs Q E hr hsp
 exact⟨t,h.nox,q⟩
theorem Fun.binds{x qual:Str}{st:Stmt}{f:Addr}{fd:FuncData}{ps:List Str}(F:Fun K x qual st f fd)
  (h:∀(kV doc pm:Value) (an:Option Addr) (cdv ct:Value) (us:List Value),us.length=ps.length→bindArgs (PySem.W.fnOf x qual (aK st) (aJ st) (aq st) .none kV doc pm an cdv ct) ⟨us,[]⟩=pure (ps.zip us)):Binds K fd ps []:=by
 obtain ⟨oc,od,kV,doc,pm,an,cdv,ct,osl,rfl,lk,hcd⟩:=F.ex
 exact .all (h kV doc pm an cdv ct)
theorem bH{x qual:Str}{st:Stmt}{f:Addr}{oc:Value}{od an:Option Addr}{osl:Array (Option Value)}{kV doc pm cdv ct:Value}(l:K.lookup f=some ⟨oc,od,.func (PySem.W.fnOf x qual (aK st) (aJ st) (aq st) .none kV doc pm an cdv ct),osl⟩)
  (c:PySem.W.codeIn K cdv qual=true) (k:PySem.W.keepIn K (.ref f)=true):Fun K x qual st f (PySem.W.fnOf x qual (aK st) (aJ st) (aq st) .none kV doc pm an cdv ct):=⟨⟨oc,od,kV,doc,pm,an,cdv,ct,osl,rfl,l,c⟩,k⟩
end
theorem cY{A:Around}{k:Nat}(hr:kJ k A):A.units+1 < cLine:=Nat.lt_of_le_of_lt (Nat.add_le_add_left (by decide:1≤64) _) hr.units
section
variable {X:Cx}
theorem pv(i:Nat){x:Str}{pos:Pos}(hN:X.N[i]?=some x:=by rfl)(hv:Vis X.env.scope x:=by first | exact Or.inl rfl | exact Or.inr (Or.inl rfl) | exact Or.inr (Or.inr rfl))(hd:(x == ("__debug__" : Str))=false:=by decide)
  (hcd:(x == ("__classdict__" : Str))=false:=by decide):PE X (.Name x pos) (KR i):=MJ hN hv hd hcd
end
theorem fY{A B:Prop}(h:B):if false=true then A else B:=by
 rw [bX aE]
 exact h
theorem dZ{A B:Prop}(h:A):if true=true then A else B:=by
 rw [ck rfl]
 exact h
theorem eX{c A B:Prop}[Decidable c](h1:c→A)(h2:¬ c→B):if c then A else B:=by
 by_cases h:c
 ·rw [ck h]
  exact h1 h
 ·rw [bX h]
  exact h2 h
def Same(H H':Hp):Prop:=∀ b o,H b=some o→H' b=some o
theorem Same.refl(H:Hp):Same H H:=fun _ _ h=>h
theorem Same.trans{H H1 H2:Hp}(a:Same H H1)(b:Same H1 H2):Same H H2:=fun c o h=>b c o (a c o h)
section
variable {κ:Type}[DecidableEq κ]
end
set_option autoImplicit false
def clo(cells:List (Str × Addr)):List (Str × NameKind)→List (Str × Addr)→List (Str × Addr)
 | [],acc=>acc
 | (n,k)::r,acc=>if k == .free then clo cells r ((n,(cells.lookup n).getD 0)::acc) else clo cells r acc
theorem Bc{cells:List (Str × Addr)}:∀ {names:List (Str × NameKind)} {acc:List (Str × Addr)} {x:Str} {c:Addr},(∀ y∈names,y.2=.free→∃ c,cells.lookup y.1=some c)→
  (clo cells names acc).lookup x=some c→cells.lookup x=some c∨acc.lookup x=some c
 | [],acc,x,c,_,h=>.inr h
 | (n,k)::r,acc,x,c,ha,h=>by
  have har:∀ y∈r,y.2=.free→∃ c,cells.lookup y.1=some c:=fun y hy=>ha y (cz _ hy)
  unfold clo at h
  by_cases hk:k=.free
  ·subst hk
   rw [ck (by rfl)] at h
   rcases Bc har h with q | q
   ·exact .inl q
   ·obtain ⟨c',e⟩:=ha (n,.free) aT rfl
    rw [gX] at q
    cases hx:x == n with
    | true=>
     rw [hx] at q
     have hx':x=n:=by simpa using hx
     have e':cells.lookup n=some c':=e
     rw [e'] at q
     rw [hx',e']
     exact .inl q
    | false=>
     rw [hx] at q
     exact .inr q
  ·rw [bX (by simpa using hk)] at h
   exact Bc har h
theorem xX{cells:List (Str × Addr)}:∀ {names:List (Str × NameKind)} {acc:List (Str × Addr)} {x:Str},(∃ c,acc.lookup x=some c)→∃ c,(clo cells names acc).lookup x=some c
 | [],_,_,h=>h
 | (n,k)::r,acc,x,h=>by
  unfold clo
  split
  ·refine xX ?_
   rw [gX]
   cases hx:x == n with
   | true=>exact⟨_,rfl⟩
   | false=>exact h
  ·exact xX h
theorem sH{cells:List (Str × Addr)}:∀ {names:List (Str × NameKind)} {acc:List (Str × Addr)} {x:Str},(x,NameKind.free)∈names→∃ c,(clo cells names acc).lookup x=some c
 | [],_,_,h=>by simp at h
 | (n,k)::r,acc,x,h=>by
  unfold clo
  rcases bu.mp h with e | e
  ·cases e
   rw [ck (by rfl)]
   exact xX ⟨(cells.lookup n).getD 0,by simp [gX]⟩
  ·split
   ·exact sH e
   ·exact sH e
theorem pJ{env:Env}{scope:Scope}
  (ha:∀ y∈scope.names,y.2=.free→∃ c,env.cells.lookup y.1=some c):closureFor scope env=pure (clo env.cells scope.names []):=by
 have go:∀(names:List (Str × NameKind)) (acc:List (Str × Addr)),(∀ y∈names,y.2=.free→∃ c,env.cells.lookup y.1=some c)→
   (forIn names acc fun(x:Str × NameKind) (cs:List (Str × Addr))=>(do
    if x.2 == .free then
     let c ← cellOf env x.1
     pure (ForInStep.yield ((x.1,c)::cs))
    else pure (ForInStep.yield cs):Sem (ForInStep (List (Str × Addr)))))=pure (clo env.cells names acc):=by
  intro names
  induction names with
  | nil=>intro acc _; rfl
  | cons y r ih=>
   intro acc h
   obtain ⟨n,k⟩:=y
   have hr:∀ y∈r,y.2=.free→∃ c,env.cells.lookup y.1=some c:=fun y hy=>h y (cz _ hy)
   rw [nI]
   unfold clo
   by_cases hk:k=.free
   ·subst hk
    obtain ⟨c,e⟩:=h (n,.free) aT rfl
    have e':env.cells.lookup n=some c:=e
    have hc:cellOf env n=pure c:=by
     unfold cellOf
     rw [e']
    simp only [beq_self_eq_true,iF,hc,pure_bind,e',Option.getD_some]
    exact ih _ hr
   ·have hb:(k == NameKind.free)=false:=by simpa using hk
    simp only [hb,gv,jp,pure_bind]
    exact ih _ hr
 have q:=go scope.names [] ha
 unfold closureFor
 simp only [bind_pure]
 exact q
theorem gY{scope:Scope}{env:Env}{x:Str}:∀ {names:List (Str × NameKind)},
  (names.map fun(n,k)=>if (k == NameKind.free && env.scope.kind == .function && env.kindOf n == some .cell) then (n,NameKind.cell) else (n,k)).lookup x =
   (names.lookup x).map fun k=>if (k == NameKind.free && env.scope.kind == .function && env.kindOf x == some .cell) then NameKind.cell else k
 | []=>rfl
 | (n,k)::r=>by
  have ih:=@gY scope env x r
  show List.lookup x ((if (k == NameKind.free && env.scope.kind == .function && env.kindOf n == some .cell)=true then (n,NameKind.cell) else (n,k))::_)=_
  cases hx:x == n with
  | true=>
   have hx':x=n:=by simpa using hx
   subst hx'
   by_cases hc:(k == NameKind.free && env.scope.kind == .function && env.kindOf x == some .cell)=true
   ·rw [ck hc]
    simp only [gX,hx,ik,hc,iF]
   ·rw [bX hc]
    simp only [gX,hx,ik,bX hc]
  | false=>
   by_cases hc:(k == NameKind.free && env.scope.kind == .function && env.kindOf n == some .cell)=true
   ·rw [ck hc]
    simp only [gX,hx]
    exact ih
   ·rw [bX hc]
    simp only [gX,hx]
    exact ih
theorem ju:∀(names:List (Str × NameKind)) (n:Nat) (acc:List (Str × Addr)),cellsFrom n names acc=cellsFrom n names []++acc
 | [],_,_=>rfl
 | (x,k)::r,n,acc=>by
  unfold cellsFrom
  split
  ·rw [ju r (n+1) ((x,n)::acc),ju r (n+1) [(x,n)],kA]
   rfl
  ·exact ju r n acc
theorem lY:∀ {names:List (Str × NameKind)} {n:Nat} {x:Str} {c:Addr},(x,c)∈cellsFrom n names []→(x,NameKind.cell)∈names∧n≤c
 | [],_,_,_,h=>by cases h
 | (y,k)::r,n,x,c,h=>by
  unfold cellsFrom at h
  split at h
  ·rename_i hk
   rw [ju] at h
   rcases bS.mp h with q | q
   ·obtain ⟨h1,h2⟩:=lY q
    exact⟨cz _ h1,by omega⟩
   ·cases aS.mp q
    have e:k=.cell:=by simpa using hk
    rw [e]
    exact⟨aT,am _⟩
  ·obtain ⟨h1,h2⟩:=lY h
   exact⟨cz _ h1,h2⟩
theorem qj{α:Type}{x:Str}:∀(l m:List (Str × α)),(l++m).lookup x=(l.lookup x).or (m.lookup x)
 | [],m=>by simp
 | (k,v)::r,m=>by
  rw [List.cons_append,gX,gX]
  cases x == k with
  | true=>rfl
  | false=>exact qj r m
theorem Du:∀ {names:List (Str × NameKind)} {x:Str} {k k':NameKind},(names.map (·.1)).Nodup→names.lookup x=some k→(x,k')∈names→k'=k
 | [],_,_,_,_,h,_=>by cases h
 | (y,j)::r,x,k,k',hn,h,hm=>by
  rw [eL] at hn
  obtain ⟨n1,n2⟩:=eW.mp hn
  rw [gX] at h
  rcases bu.mp hm with e | e
  ·cases e
   rw [show (y == y)=true by simp] at h
   exact dE h
  ·cases hx:x == y with
   | true=>
    have hx':x=y:=by simpa using hx
    subst hx'
    exact absurd (bg.mpr ⟨_,e,rfl⟩) n1
   | false=>
    rw [hx] at h
    exact Du n2 h e
abbrev oU(C:Addr)(cells:List (Str × Addr))(names:List (Str × NameKind)):List (Str × Addr):=cellsFrom (C+1) names (clo cells names [])
theorem jw{C:Addr}{cells:List (Str × Addr)}{names:List (Str × NameKind)}{x:Str}{c:Addr}(h:(oU C cells names).lookup x=some c) :
  ((x,c)∈cellsFrom (C+1) names []∧(x,NameKind.cell)∈names∧C+1≤c)∨(clo cells names []).lookup x=some c:=by
 unfold oU at h
 rw [ju,qj] at h
 cases q:(cellsFrom (C+1) names []).lookup x with
 | none=>
  rw [q] at h
  exact .inr h
 | some d=>
  rw [q] at h
  cases h
  have m:=fF q
  exact .inl ⟨m,lY m⟩
theorem wg{C:Addr}{cells:List (Str × Addr)}{names:List (Str × NameKind)}{x:Str}(hn:(names.map (·.1)).Nodup)(h:names.lookup x=some .free):(oU C cells names).lookup x=(clo cells names []).lookup x:=by
 unfold oU
 rw [ju,qj]
 cases q:(cellsFrom (C+1) names []).lookup x with
 | none=>rfl
 | some d=>
  have m:=(lY (fF q)).1
  cases Du hn h m
theorem zE{M:Model}{A:Around}{E:Value→Shared→Prop}{s:Shared}{scope:Scope}{cl:List (Str × Addr)}{env:Env}{Q:Env→Shared→Prop}
  (hQ:∀ h',h'.Ns s.heap.objs.size (fun _=>none)→(∀ b o,s.heap.get? b=some o→h'.get? b=some o)→CellsOk h' (s.heap.objs.size+1) (cellsFrom (s.heap.objs.size+1) scope.names [])→
   Q { scope:=scope,locals:=s.heap.objs.size,globals:=env.globals,cells:=cellsFrom (s.heap.objs.size+1) scope.names cl,qual:=env.qual,func:=none,code:=env.code,frame:=env.frame,builtins:=env.builtins } { s with heap:=h' }) :
  wpAny M A (newFunctionEnv scope env.globals cl [] env.qual none .none (some env)) Q E s:=by
 simp only [newFunctionEnv,Option.isSome_some,iF]
 refine ac (wpAny_alloc ?_)
 refine ac (wpAny_layCells _ (fun name kind cells=>by cases hkc:kind == NameKind.cell <;> simp [hkc]) _ _ _ _ ?_)
 have ok:=cellsFrom_ok scope.names (s.heap.push { cls:=.type "dict",data:=.dict #[] }) (s.heap.objs.size+1) [] ⟨fun _ _ hm=>(nomatch hm),List.Pairwise.nil⟩ (by rw [gE]; exact am _)
 rw [gE] at ok
 rw [show ({ s with heap:=s.heap.push { cls:=.type "dict",data:=.dict #[] } }:Shared).heap.objs.size=s.heap.objs.size+1 from gE ..]
 refine ac ?_
 rw [n9]
 exact aI (aI (hQ _ ((Heap.Ns.new s.heap (.type "dict")).keeps (pushCells_keeps _ _)) (fun b o e=>pushCells_keeps _ _ b o (ar _ e)) ok))
def kj(X:Cx)(scope:Scope)(cl:List (Str × Addr))(N:List Str)(C:Addr)(s₃:Shared)(H₃:Hp)(fp:List Addr):Cx where
 prog:=X.prog
 w:=X.w
 K:=X.K
 mg:=X.mg
 base:=X.base
 A:=X.A
 N:=N
 s₀:=s₃
 H₀:=H₃
 env:=compEnvC scope cl C X.env
 outer:=X.stack
 stack:=X.stack
 ex:=fp
 calm:=X.calm
 fn:=fun x=>scope.names.lookup x == some .cell
 pn:=[]
 xe:=fun _ _=>False
structure aL (X:Cx) (scope:Scope) (own:List Str) (fr:List Nat) (N:List Str):Prop where
 kind:scope.kind=.function
 nodup:(scope.names.map (·.1)).Nodup
 names:∀ y∈scope.names,y.2=.local→scope.names.lookup y.1=some .local
 free:∀ y∈scope.names,y.2=.free→X.env.kindOf y.1=some .cell∨X.env.kindOf y.1=some .free
 len:N.length=own.length+fr.length
 Mt:∀(j i:Nat),fr[j]?=some i→∃ x,N[own.length+j]?=some x∧X.N[i]?=some x∧scope.names.lookup x=some .free
 frs:∀(j:Nat) (x:Str),N[j]?=some x→j < own.length→own[j]?=some x
def frv(σ:St)(fr:List Nat):St:=fr.map fun i=>(σ[i]?).join
def PTs(X:Cx)(ifs:List Expr)(t:TT):Prop:=
 ∀(pins:List (Addr × Obj)) (s:Shared) (σ:St) (H:Hp) (Q:Bool→Hp→Prop),Inv X pins σ H s→t σ H Q→
  wpAny (model X.prog X.w) X.A (forIn ifs true fun c r=>if r=true then do let ok ← isTrue c X.env (eval c X.env); pure (ForInStep.yield ok) else pure (ForInStep.yield r)) (TP X pins σ Q) X.xe s
def O4:TT:=fun _ H Q=>Q true H
theorem cg{X:Cx}:PTs X [] O4:=fun _ _ _ H _ I h=>wpAny_tests_nil ⟨H,I,h⟩
theorem dM{X:Cx}{c:Expr}{t:TT}(h:PT X c t):PTs X [c] t:=fun pins s σ H Q I hq=>wpAny_tests_one (h pins s σ H Q I hq)
theorem yj{prog:Program}{w:World}{A:Around}{R:Result→Shared→Prop}{s:Shared}{elt target iter:Expr}{ifs:List Expr}{scope:Scope}{pos:Pos}{it acc:Value}{env:Env}(I:Nat→Shared→Prop)
  (turn:∀ n s,I n s→wpAny (model prog w) A (pyNext it) (fun r s₁=>match r with
   | none=>R (.ok .next) s₁
   | some v=>wpAny (model prog w) A (letOwnedTupleGo target it v) (fun _ s₁'=>wpAny (model prog w) A (assign target env v) (fun _ s₂=>
     wpAny (model prog w) A (forIn ifs true fun c r=>if r=true then do let ok ← isTrue c env (eval c env); pure (ForInStep.yield ok) else pure (ForInStep.yield r)) (fun ok s₃=>
      if ok=true then wpAny (model prog w) A (eval elt env) (fun x s₄=>
       wpAny (model prog w) A (call (.builtin "list.append") [acc,x]) (fun _ s₅=>∃ m,m < n∧I m s₅) (fun _ _=>False) s₄) (fun _ _=>False) s₃
      else ∃ m,m < n∧I m s₃) (fun _ _=>False) s₂) (fun _ _=>False) s₁') (fun _ _=>False) s₁) (fun _ _=>False) s)
  (n:Nat) (h:I n s) :
  codeAny (model prog w) A (.compLoop (.ListComp elt [⟨target,iter,ifs,0⟩] scope pos) 0 it acc env) R s:=by
 refine codeAny_loop rfl I (fun n s hI=>?_) n h
 show wpAny _ A ((compTurn (.ListComp elt [⟨target,iter,ifs,0⟩] scope pos) 0 it acc env).onRaise (fun x=>do noteFrame x env; theTreesLotGoes x)) _ _ s
 refine wpAny_noted ?_
 rw [compTurn_list]
 refine ac (wpAny_standAt (ac (ic (turn n s hI) (fun r s₁ h₁=>?_) fun _ _ h'=>h'.elim)))
 cases r with
 | none=>exact aI h₁
 | some v=>
  refine ac (ic h₁ (fun _ s₁' h₁'=>?_) fun _ _ h'=>h'.elim)
  refine ac (ic h₁' (fun _ s₂ h₂=>ac (ic h₂ (fun ok s₃ h₃=>?_) fun _ _ h'=>h'.elim)) fun _ _ h'=>h'.elim)
  cases ok with
  | false=>exact aI ⟨rfl,h₃⟩
  | true=>
   exact ac (ac (ic h₃ (fun x s₄ h₄=>ac (ic h₄ (fun _ s₅ h₅=>aI (aI ⟨rfl,h₅⟩)) fun _ _ h'=>h'.elim)) fun _ _ h'=>h'.elim))
section
variable {X:Cx}{scope:Scope}{own N:List Str}{fr:List Nat}{pins:List (Addr × Obj)}{σ:St}{H2 H3:Hp}{s2 s3:Shared}
theorem aL.clo(S:aL X scope own fr N)(ok:X.Ok):∀ y∈scope.names,y.2=.free→∃ c,X.env.cells.lookup y.1=some c:=fun y hy e=>ok.has y.1 (S.free y hy e)
theorem aL.sub(S:aL X scope own fr N)(ok:X.Ok){x:Str}{c:Addr}(h:(L2.clo X.env.cells scope.names []).lookup x=some c):X.env.cells.lookup x=some c:=by
 rcases Bc (S.clo ok) h with q | q
 ·exact q
 ·simp at q
theorem aL.look(S:aL X scope own fr N)(ok:X.Ok){x:Str}(h:scope.names.lookup x=some .free){cl:List (Str × Addr)}{C:Addr} :
  (compEnvC scope cl C X.env).kindOf x=some .cell∨(compEnvC scope cl C X.env).kindOf x=some .free:=by
 show ((relabel scope X.env).names.lookup x)=_∨((relabel scope X.env).names.lookup x)=_
 unfold relabel
 show List.lookup x (List.map _ _)=_∨List.lookup x (List.map _ _)=_
 rw [gY (scope:=scope),h]
 simp only [ik]
 split
 ·exact .inl rfl
 ·exact .inr rfl
theorem DR(S:aL X scope own fr N)(I:Inv X pins σ H3 s3){fp:List Addr}(hf:∀ b∈fp,nG X pins H3 b)(hlt:∀ b∈fp,b < s3.heap.objs.size) :
  (kj X scope (oU s3.heap.objs.size X.env.cells scope.names) N s3.heap.objs.size s3 H3 fp).Ok where
 mod:=I.ok.mod
 kind:=S.kind
 glob:=I.ok.glob
 blt:=I.ok.blt
 above:=am _
 inj:=fun x y c h1 h2=>by
  have old:∀ {z:Str},(L2.clo X.env.cells scope.names []).lookup z=some c→c < s3.heap.objs.size:=fun {z} h=>by
   obtain ⟨v,q⟩:=I.cell z c (S.sub I.ok h)
   exact q.lt
  have ap:=(cellsFrom_ok scope.names (s3.heap.push { cls:=.type "dict",data:=.dict #[] }) (s3.heap.objs.size+1) [] ⟨fun _ _ hm=>(nomatch hm),List.Pairwise.nil⟩ (by rw [gE]; exact am _)).apart
  rw [gE] at ap
  rcases jw h1 with ⟨m1,_,l1⟩ | q1
  ·rcases jw h2 with ⟨m2,_,_⟩ | q2
   ·exact name_of_addr ap m1 m2
   ·exact absurd (iP l1 (old q2)) (iE _)
  ·rcases jw h2 with ⟨m2,_,l2⟩ | q2
   ·exact absurd (iP l2 (old q1)) (iE _)
   ·exact I.ok.inj x y c (S.sub I.ok q1) (S.sub I.ok q2)
 has:=fun x hx=>by
  have hx:(relabel scope X.env).names.lookup x=some .cell∨(relabel scope X.env).names.lookup x=some .free:=hx
  unfold relabel at hx
  have hx:List.lookup x (scope.names.map _)=some NameKind.cell∨List.lookup x (scope.names.map _)=some NameKind.free:=hx
  rw [gY (scope:=scope)] at hx
  cases e:scope.names.lookup x with
  | none=>rw [e] at hx; simp at hx
  | some k=>
   have hm:=fF e
   rw [e] at hx
   simp only [ik] at hx
   have hk:k=.free∨k=.cell:=by
    by_cases hk:k=.free
    ·exact .inl hk
    ·have hb:(k == NameKind.free)=false:=by simpa using hk
     simp only [hb,Bool.false_and,gv,jp] at hx
     rcases hx with z | z
     ·exact .inr (dE z)
     ·exact .inl (dE z)
   rcases hk with hk | hk
   ·subst hk
    obtain ⟨c,q⟩:=sH (cells:=X.env.cells) (acc:=[]) hm
    exact⟨c,(wg S.nodup e).trans q⟩
   ·subst hk
    exact ff.mp (kg scope.names _ _ (.inl e))
 cab:=fun x c h q=>by
  have e:scope.names.lookup x=some .cell:=beq_iff_eq.mp h
  show s3.heap.objs.size≤c
  have q':(oU s3.heap.objs.size X.env.cells scope.names).lookup x=some c:=q
  unfold oU at q'
  rw [ju,qj] at q'
  obtain ⟨d,z⟩:=ff.mp (kg scope.names (s3.heap.objs.size+1) [] (.inl e))
  rw [z] at q'
  cases q'
  have:=(lY (fF z)).2
  omega
 hd:=I.ok.hd
 frames:=I.ok.frames
 stk:=.inl rfl
 exf:=fun b hb=>⟨dc (hlt b hb),fun x c e=>by
  rcases jw e with ⟨_,_,l⟩ | q
  ·exact fe (iP (hlt b hb) l)
  ·exact(hf b hb).2.2.2.2.1 x c (S.sub I.ok q)⟩
 bs:=I.bs
 bsz:=dC I.ok.bsz I.sz
 Fv:=fun b o e hb=>by
  rcases (hf b hb).2.2.2.1 with z | z
  ·exact I.ok.Fv b o e z
  ·exact absurd (eA (eA (cr e) I.ok.bsz) z) (iE _)
 FW:=fun b hb hm=>by
  rcases bu.mp (I.Ar b hm) with z | z
  ·exact(hf b hb).2.1 z
  ·exact(hf b hb).2.2.1 z
 rP:=I.stack
 frf:=I.Cv
theorem JB(S:aL X scope own fr N)(I:Inv X pins σ H3 s3){fp:List Addr}(hf:∀ b∈fp,nG X pins H3 b)(hlt:∀ b∈fp,b < s3.heap.objs.size){h1:Heap}{t:Nat}{m:Str→Option Value}
  (hn:h1.Ns s3.heap.objs.size m) (hk:∀ b o,s3.heap.get? b=some o→h1.get? b=some o) (hco:CellsOk h1 (s3.heap.objs.size+1) (cellsFrom (s3.heap.objs.size+1) scope.names [])) :
  Inv (kj X scope (oU s3.heap.objs.size X.env.cells scope.names) N s3.heap.objs.size s3 H3 fp) [] (List.replicate own.length none++frv σ fr) H3 { s3 with heap:=h1,toks:=t } where
 ok:=DR S I hf hlt
 os:=rfl
 bare:=I.bare
 base:=Un.kept hk
 loc:=by
  refine⟨m,hn,fun j x v e1 e2 e3=>?_⟩
  have e1:N[j]?=some x:=e1
  by_cases hj:j < own.length
  ·rw [g6 (by simpa using hj),List.getElem?_replicate] at e2
   split at e2 <;> cases e2
  ·rw [fz (by simpa using hj),i8] at e2
   unfold frv at e2
   rw [bc] at e2
   cases ef:fr[j - own.length]? with
   | none=>rw [ef] at e2; cases e2
   | some i=>
    rw [ef] at e2
    obtain ⟨x',n1,n2,n3⟩:=S.Mt _ _ ef
    rw [show own.length+(j - own.length)=j by omega,e1] at n1
    cases n1
    have e4:(σ[i]?).join=some v:=by simpa using e2
    have e5:σ[i]?=some (some v):=by
     cases q:σ[i]? with
     | none=>rw [q] at e4; cases e4
     | some z=>rw [q] at e4; have e4:z=some v:=e4; rw [e4]
    have hfree:=S.free _ (fF n3) rfl
    obtain ⟨mX,hnX,hl⟩:=I.loc
    have hv:Vis X.env.scope x:=by
     rcases hfree with z | z
     ·exact .inr (.inl z)
     ·exact .inr (.inr z)
    obtain ⟨u,r,l⟩:=hl i x v n2 e5 hv
    refine⟨u,r,.inr ⟨S.look I.ok n3,?_⟩⟩
    rcases l with ⟨z,_⟩ | ⟨_,c,ec,hc⟩
    ·rcases hfree with y | y
     ·rw [z] at y; cases y
     ·rw [z] at y; cases y
    ·obtain ⟨c',e'⟩:=sH (cells:=X.env.cells) (acc:=[]) (fF n3)
     have:=S.sub I.ok e'
     rw [ec] at this
     cases this
     exact⟨c,(wg S.nodup n3).trans e',hc.keeps hk⟩
 cell:=fun x c e=>by
  rcases jw e with ⟨mm,_,_⟩ | q
  ·exact⟨none,(hco.empty x c mm).1⟩
  ·obtain ⟨v,z⟩:=I.cell x c (S.sub I.ok q)
   exact⟨v,z.keeps hk⟩
 free:=I.hok.fresh (am _)
 lQ:=fun x c e=>by
  rcases jw e with ⟨_,_,l⟩ | q
  ·exact I.hok.fresh (lP l)
  ·exact I.lQ x c (S.sub I.ok q)
 pin:=fun p hp=>by
  have hp:p∈([]:List (Addr × Obj)):=hp
  simp at hp
 hok:=I.hok.kept hk
 len:=by
  show _=N.length
  rw [S.len,bz,i8]
  unfold frv
  rw [aa]
end
def qK(own:Nat)(fr:List Nat)(g:TG)(tc:TT)(te:TE)(σ:St)(Q:VK)(J:It)(D:Addr)(H0:Hp):Prop:=∃ W:Nat→Nat→List V→Hp→Prop,(∃ m,W 0 m [] H0)∧
 ∀ i m ys H,W i m ys H→(J.stop i H∧Q (.ref D) H)∨(J.go i H∧∀ x H',J.yld i H x H'→∀ σo:St,σo.length=own→g x (σo++frv σ fr) H' fun σ2 H2=>(∃ σo':St,σo'.length=own∧σ2=σo'++frv σ fr)∧
  tc σ2 H2 fun b H3=>if b=true then te σ2 H3 fun y H4=>ys.length < sizeLine∧H4 D=some (.lst ys)∧∃ m',m' < m∧W (i+1) m' (ys++[y]) (upd H4 D (.lst (ys++[y]))) else ∃ m',m' < m∧W (i+1) m' ys H3)
def Lg(own:Nat)(fr:List Nat)(wi:TI)(g:TG)(tc:TT)(te:TE):TE:=fun σ H Q=>wi σ H fun J H1=>∀ D,H1 D=none→qK own fr g tc te σ Q J D (upd H1 D (.lst []))
structure oG (X:Cx) (scope:Scope) (N:List Str) (tg elt:Expr) (ifs:List Expr) (g:TG) (tc:TT) (te:TE):Prop where
 tg:∀(cl:List (Str × Addr)) (C:Addr) (s₃:Shared) (H₃:Hp) (fp:List Addr),PG (kj X scope cl N C s₃ H₃ fp) tg g
 ifs:∀(cl:List (Str × Addr)) (C:Addr) (s₃:Shared) (H₃:Hp) (fp:List Addr),PTs (kj X scope cl N C s₃ H₃ fp) ifs tc
 elt:∀(cl:List (Str × Addr)) (C:Addr) (s₃:Shared) (H₃:Hp) (fp:List Addr),PE (kj X scope cl N C s₃ H₃ fp) elt te
section
variable {X:Cx}{scope:Scope}{own N:List Str}{fr:List Nat}{tg elt iter:Expr}{ifs:List Expr}{g:TG}{tc:TT}{te:TE}{wi:TI}{pos:Pos}
theorem ug(hc:X.calm=true)(S:aL X scope own fr N)(CP:oG X scope N tg elt ifs g tc te){pins:List (Addr × Obj)}{σ:St}{H2:Hp}{s2:Shared}(I2:Inv X pins σ H2 s2){it:Addr}{fp:List Addr}{tn:Nat→Heap→Prop}{J:It}
  (T:Turn X.prog X.w X.K tg J fp it tn) (st2:tn 0 s2.heap) (f2:∀ b∈fp,nG X pins H2 b) {Q:VK} {E:Value→Shared→Prop} {RR:Value→Addr→Result→Shared→Prop}
  (hw:∀ D,H2 D=none→qK own.length fr g tc te σ Q J D (upd H2 D (.lst [])))
  (hR:∀ D C s' H' m,Inv X pins σ H' s'→nG X pins H' C→s'.heap.Ns C m→Q (.ref D) H'→RR (.ref D) C (.ok .next) s') :
  wpAny (model X.prog X.w) X.A (newList []) (fun acc s₃=>wpAny (model X.prog X.w) X.A (newFunctionEnv scope X.env.globals (clo X.env.cells scope.names []) [] X.env.qual none .none (some X.env)) (fun cenv s₄=>
   codeAny (model X.prog X.w) X.A (.compStart (.ListComp elt [⟨tg,iter,ifs,0⟩] scope pos) 0 (.ref it) acc { cenv with scope:=relabel scope X.env }) (RR acc cenv.locals) s₄) E s₃) E s2:=by
 have hD:H2 s2.heap.objs.size=none:=I2.hok.fresh (am _)
 have I3:Inv X pins σ (upd H2 s2.heap.objs.size (.lst [])) { s2 with heap:=s2.heap.push { cls:=.type "list",data:=.seq ([]:List Value).toArray } }:=
  I2.Mw (t':=s2.toks) (ys:=[]) (its:=[]) .nil (dq _)
 have hltf:∀ b∈fp,b < s2.heap.objs.size:=fun b hb=>by
  obtain ⟨o,e,_⟩:=T.obj _ _ st2 b hb
  exact cr e
 have f3:∀ b∈fp,nG X pins (upd H2 s2.heap.objs.size (.lst [])) b:=fun b hb=>⟨by rw [au (dc (hltf b hb))]; exact(f2 b hb).1,(f2 b hb).2⟩
 obtain ⟨W,⟨m0,w0⟩,turn⟩:=hw _ hD
 refine fv (zE fun h₁ hns₁ old₁ hco₁=>?_)
 suffices main:∀ s3:Shared,s3={ s2 with heap:=s2.heap.push { cls:=.type "list",data:=.seq ([]:List Value).toArray } }→Inv X pins σ (upd H2 s2.heap.objs.size (.lst [])) s3→∀ m:Str→Option Value,h₁.Ns s3.heap.objs.size m→
   (∀ b o,s3.heap.get? b=some o→h₁.get? b=some o)→CellsOk h₁ (s3.heap.objs.size+1) (cellsFrom (s3.heap.objs.size+1) scope.names [])→codeAny (model X.prog X.w) X.A (.compStart (.ListComp elt [⟨tg,iter,ifs,0⟩] scope pos) 0 (.ref it) (.ref s2.heap.objs.size) (compEnvC scope (oU s3.heap.objs.size X.env.cells scope.names) s3.heap.objs.size X.env))
    (RR (.ref s2.heap.objs.size) s3.heap.objs.size) { s3 with heap:=h₁,toks:=s3.toks } from
  main _ rfl I3 _ hns₁ old₁ hco₁
 clear hns₁ old₁ hco₁
 intro s3 hH3 I3 m3 hns₁ old hco
 have e3:s3.heap=s2.heap.push { cls:=.type "list",data:=.seq ([]:List Value).toArray }:=by rw [hH3]
 have hs3:s2.heap.objs.size < s3.heap.objs.size:=by rw [e3,gE]; exact mI _
 have hlt3:∀ b∈fp,b < s3.heap.objs.size:=fun b hb=>iP (hltf b hb) hs3
 have I4:=JB S I3 f3 hlt3 (t:=s3.toks) hns₁ old hco
 have ok':=DR S I3 f3 hlt3
 have st4:tn 0 h₁:=T.keep 0 s2.heap h₁ st2 fun b hb o e=>old b o (by rw [e3]; exact ar _ e)
 have stat:∀ {H':Hp},(∀ b∈fp,H' b=none)→∀ b∈fp,nG (kj X scope (oU s3.heap.objs.size X.env.cells scope.names) N s3.heap.objs.size s3 (upd H2 s2.heap.objs.size (.lst [])) fp) [] H' b:=fun {H'} hn b hb=>
  ⟨hn b hb,dc (hlt3 b hb),ok'.FW b hb,.inl hb,(ok'.exf b hb).2,fun p hp=>by
   have hp:p∈([]:List (Addr × Obj)):=hp
   simp at hp⟩
 have loop:∀ s₄:Shared,s₄={ s3 with heap:=h₁,toks:=s3.toks }→
   codeAny (model X.prog X.w) X.A (.compLoop (.ListComp elt [⟨tg,iter,ifs,0⟩] scope pos) 0 (.ref it) (.ref s2.heap.objs.size) (compEnvC scope (oU s3.heap.objs.size X.env.cells scope.names) s3.heap.objs.size X.env))
    (RR (.ref s2.heap.objs.size) s3.heap.objs.size) s₄:=by
  rintro s₄ rfl
  refine yj (fun n s'=>∃ i ys σo H',σo.length=own.length∧Inv (kj X scope (oU s3.heap.objs.size X.env.cells scope.names) N s3.heap.objs.size s3 (upd H2 s2.heap.objs.size (.lst [])) fp) [] (σo++frv σ fr) H' s'∧
   tn i s'.heap∧(∀ b∈fp,H' b=none)∧W i n ys H') ?_ m0 ⟨0,[],List.replicate own.length none,_,i8,I4,st4,fun b hb=>(f3 b hb).1,w0⟩
  rintro n s5 ⟨i,ys,σo,H5,hσ,I5,st5,fr5,w5⟩
  rcases turn i n ys H5 w5 with ⟨stop,qn⟩ | ⟨go,step⟩
  ·refine thn (T.done (kj X scope (oU s3.heap.objs.size X.env.cells scope.names) N s3.heap.objs.size s3 (upd H2 s2.heap.objs.size (.lst [])) fp) rfl rfl rfl hc i [] s5 (σo++frv σ fr) H5 _ I5 (stat fr5) st5 stop) fun r s6 ⟨hr,I6⟩=>?_
   subst hr
   obtain ⟨m,hn6,_⟩:=I6.loc
   refine hR _ _ s6 H5 m (I3.call' (ch:=fp) I6.os I6.base I6.hok I6.bare fun b hb=>⟨(f3 b hb).2.2.2.1,(f3 b hb).2.1,(f3 b hb).2.2.2.2.1,(f3 b hb).2.2.2.2.2⟩) (I3.lK (am _) I6.free) hn6 qn
  ·refine thn (T.item (kj X scope (oU s3.heap.objs.size X.env.cells scope.names) N s3.heap.objs.size s3 (upd H2 s2.heap.objs.size (.lst [])) fp) rfl rfl rfl hc i [] s5 (σo++frv σ fr) H5 _ I5 (stat fr5) st5 go) fun r s6 ⟨u,hr,h6⟩=>?_
   subst hr
   refine thn h6 fun _ s7 ⟨x,H7,I7,r7,y7,st7,fr7⟩=>?_
   have I7':=I7.pinned (stat fr7) (T.obj _ _ st7)
   have again:∀ {σ8:St} {H8:Hp} {s8:Shared} {zs:List V},Inv (kj X scope (oU s3.heap.objs.size X.env.cells scope.names) N s3.heap.objs.size s3 (upd H2 s2.heap.objs.size (.lst [])) fp) ([]++uO fp s7.heap) (σ8++frv σ fr) H8 s8→σ8.length=own.length→
     (∃ m',m' < n∧W (i+1) m' zs H8)→∃ m,m < n∧∃ i ys σo H',σo.length=own.length∧Inv (kj X scope (oU s3.heap.objs.size X.env.cells scope.names) N s3.heap.objs.size s3 (upd H2 s2.heap.objs.size (.lst [])) fp) [] (σo++frv σ fr) H' s8∧
      tn i s8.heap∧(∀ b∈fp,H' b=none)∧W i m ys H':=fun {σ8 H8 s8 zs} I8 h8 ⟨m',hm,w8⟩=>by
    refine⟨m',hm,i+1,zs,σ8,H8,h8,I8.pP,T.keep _ _ _ st7 fun b hb o e=>(I8.pin (b,o) (cE _ (cE _ (mY hb e)))).1,fun b hb=>?_,w8⟩
    obtain ⟨o,e,d⟩:=T.obj _ _ st7 b hb
    exact(I8.pin (b,o) (cE _ (cE _ (mY hb e)))).2.1
   refine thn (CP.tg _ _ _ _ _ _ s7 _ H7 x u _ I7' r7 (step x H7 y7 σo hσ)) fun _ s8 ⟨σ8,H8,I8,⟨σo',hσ',eσ⟩,q8⟩=>?_
   subst eσ
   refine thn (CP.ifs _ _ _ _ _ _ s8 _ H8 _ I8 q8) fun b s9 ⟨H9,I9,q9⟩=>?_
   cases b with
   | false=>
    rw [bX aE] at q9 ⊢
    exact again I9 hσ' q9
   | true=>
    rw [ck rfl] at q9 ⊢
    refine thn (CP.elt _ _ _ _ _ _ s9 _ H9 _ I9 q9) fun z s10 ⟨y,H10,I10,r10,hz,hD10,q10⟩=>?_
    exact thn (iK _ s10 _ H10 (.ref s2.heap.objs.size) [y] (.ref s2.heap.objs.size) [z] (fun _ H=>∃ m',m' < n∧W (i+1) m' (ys++[y]) H) I10 rfl (.cons r10 .nil) ⟨_,ys,y,rfl,rfl,hD10,hz,q10⟩)
     fun _ s11 ⟨_,H11,I11,_,q11⟩=>again I11 hσ' q11
 exact codeAny_compStart_list (loop _ rfl) (T.self _ 0 _ _ _ st4 (loop _ rfl))
theorem bL(hc:X.calm=true)(S:aL X scope own fr N)(CP:oG X scope N tg elt ifs g tc te)(hi:PI X tg iter wi)(hs:∀ x,foldedSetIterable iter X.env x=pure x:=by intro _; rfl) :
  PE X (.ListComp elt [⟨tg,iter,ifs,0⟩] scope pos) (Lg own.length fr wi g tc te):=by
 intro pins s σ H Q I h
 rw [eval_ListComp]
 refine kX (use:=none) (g:=⟨tg,iter,ifs,0⟩) (gs:=[]) rfl hs (pJ (S.clo I.ok)) S.kind S.names (thn (hi pins s σ H _ I h) fun v s1 h1=>thn h1 fun itv s2 h2=>?_)
 obtain ⟨it,fp,tn,J,H2,e,I2,T,st2,f2,hw⟩:=h2
 subst e
 exact ug (RR:=fun acc C=>compPost (model X.prog X.w) X.A X.xe none (EP X pins σ Q) acc C) hc S CP I2 T st2 f2 hw fun D C s' H' m I' fC hn q=>
  ⟨m,hn,fun h' hb=>⟨.ref D,H',I'.turned (t':=s'.toks) (fun b o hne e=>hb.extBut b o hne e) fC.1 fC.2.1 fC.2.2.2.1 fC.2.2.2.2.1 fC.2.2.2.2.2,rfl,q⟩⟩
theorem jP{i:Nat}{x:Str}{posc pos':Pos}(hc:X.calm=true)(hN:X.N.Nodup)(hi':X.N[i]?=some x)(hx:Loc X.env.scope x)(S:aL X scope own fr N)(CP:oG X scope N tg elt ifs g tc te)(hi:PI X tg iter wi)
  (hsw:swapsWith (.ListComp elt [⟨tg,iter,ifs,0⟩] scope posc) (some (.Name x pos')) pos.line X.env=pure true:=by rfl)
  (hf:X.fn x=true∨X.env.scope.names.lookup x=some .local:=by first | exact .inl rfl | exact .inr rfl | assumption) (hs:∀ x,foldedSetIterable iter X.env x=pure x:=by intro _; rfl) :
  PS X (.Assign [.Name x pos'] (.ListComp elt [⟨tg,iter,ifs,0⟩] scope posc) pos) (MF (Lg own.length fr wi g tc te) (yQ i)):=by
 intro pins s σ H D I h
 rw [exec_Assign_Name_used _ _ _ _ hsw]
 refine ac (wpAny_standAt (ac ?_))
 show wpAny _ X.A (do let _ ← comprehension (.ListComp elt [⟨tg,iter,ifs,0⟩] scope posc) scope X.env _ (newList []) false (eval iter X.env) (some (assign (.Name x pos') X.env))) _ _ s
 refine ac (ic (kX (use:=some (assign (.Name x pos') X.env)) (g:=⟨tg,iter,ifs,0⟩) (gs:=[]) (Q:=fun _ s'=>SP X pins D .next s') rfl hs (pJ (S.clo I.ok)) S.kind S.names
  (thn (hi pins s σ H _ I h) fun v s1 h1=>thn h1 fun itv s2 h2=>?_)) (fun _ _ q=>aI (aI q)) fun _ _ e=>e)
 obtain ⟨it,fp,tn,J,H2,e,I2,T,st2,f2,hw⟩:=h2
 subst e
 refine ug (Q:=fun x H1=>yQ i x σ H1 D.nx) (RR:=fun acc C=>compPost (model X.prog X.w) X.A X.xe (some (assign (.Name x pos') X.env)) (fun _ s'=>SP X pins D .next s') acc C) hc S CP I2 T st2 f2 hw fun Dd C s' H' m I' fC hn q=>?_
 refine wpAny_assign_Name (wH I' hN hi' hx (show RelV (.ref Dd) (.ref Dd) from rfl) (fun s'' I'' ⟨a,hsb,ha⟩=>?_) hf)
 have hCa:C≠a:=by
  rcases ha with z | z
  ·rw [z]; exact fC.2.1
  ·exact fun e=>fC.2.2.2.2.1 x a z e.symm
 refine⟨m,hn.sameBut hsb hCa,fun h' hb=>?_⟩
 exact⟨_,H',I''.turned (t':=s''.toks) (fun b o hne e=>hb.extBut b o hne e) fC.1 fC.2.1 fC.2.2.2.1 fC.2.2.2.2.1 fC.2.2.2.2.2,q⟩
end
inductive T where
 | non | int (i:Int) | str (x:Str) | tup (ts:List T)
mutual
def Dp(H:Hp):T→V→Prop
 | .non,v=>v=V.non
 | .int i,v=>v=V.int i
 | .str x,v=>v=V.str x
 | .tup ts,v=>∃ a xs,v=V.ref a∧H a=some (.tup xs)∧DpL H ts xs
def DpL(H:Hp):List T→List V→Prop
 | [],xs=>xs=[]
 | t::ts,xs=>∃ x r,xs=x::r∧Dp H t x∧DpL H ts r
end
def gD(H H':Hp):Prop:=∀ a xs,H a=some (.tup xs)→H' a=some (.tup xs)
theorem gD.trans{H H1 H2:Hp}(a:gD H H1)(b:gD H1 H2):gD H H2:=fun c o h=>b c o (a c o h)
theorem Same.tups{H H':Hp}(h:Same H H'):gD H H':=fun a xs e=>h a _ e
mutual
theorem Dp.mono{H H':Hp}(h:gD H H'):∀ {t:T} {v:V},Dp H t v→Dp H' t v
 | .non,_,e=>by rw [Dp] at e ⊢; exact e
 | .int _,_,e=>by rw [Dp] at e ⊢; exact e
 | .str _,_,e=>by rw [Dp] at e ⊢; exact e
 | .tup ts,v,e=>by
  rw [Dp] at e ⊢
  obtain ⟨a,xs,e,ha,hl⟩:=e
  exact⟨a,xs,e,h a xs ha,DpL.mono h hl⟩
theorem DpL.mono{H H':Hp}(h:gD H H'):∀ {ts:List T} {xs:List V},DpL H ts xs→DpL H' ts xs
 | [],_,e=>by rw [DpL] at e ⊢; exact e
 | t::ts,xs,e=>by
  rw [DpL] at e ⊢
  obtain ⟨x,r,e,h1,h2⟩:=e
  exact⟨x,r,e,Dp.mono h h1,DpL.mono h h2⟩
end
theorem DpL.nil{H:Hp}:DpL H [] []:=by rw [DpL]
theorem DpL.cons{H:Hp}{t:T}{ts:List T}{x:V}{xs:List V}(h:Dp H t x)(r:DpL H ts xs):DpL H (t::ts) (x::xs):=by
 rw [DpL]
 exact⟨x,xs,rfl,h,r⟩
theorem DpL.cases{H:Hp}{t:T}{ts:List T}{xs:List V}(h:DpL H (t::ts) xs):∃ x r,xs=x::r∧Dp H t x∧DpL H ts r:=by
 rw [DpL] at h
 exact h
theorem DpL.tH{H:Hp}{xs:List V}(h:DpL H [] xs):xs=[]:=by
 rw [DpL] at h
 exact h
theorem Dp.int{H:Hp}(i:Int):Dp H (.int i) (.int i):=by rw [Dp]
theorem Dp.str{H:Hp}(x:Str):Dp H (.str x) (.str x):=by rw [Dp]
theorem Dp.G4{H:Hp}{i:Int}{v:V}(h:Dp H (.int i) v):v=.int i:=by
 rw [Dp] at h
 exact h
theorem Dp.lE{H:Hp}{x:Str}{v:V}(h:Dp H (.str x) v):v=.str x:=by
 rw [Dp] at h
 exact h
theorem Dp.cR{H:Hp}{ts:List T}{v:V}(h:Dp H (.tup ts) v):∃ a xs,v=V.ref a∧H a=some (.tup xs)∧DpL H ts xs:=by
 rw [Dp] at h
 exact h
theorem Dp.tup{H:Hp}{ts:List T}{a:Addr}{xs:List V}(h:H a=some (.tup xs))(r:DpL H ts xs):Dp H (.tup ts) (.ref a):=by
 rw [Dp]
 exact⟨a,xs,rfl,h,r⟩
theorem DpL.length{H:Hp}:∀ {ts:List T} {xs:List V},DpL H ts xs→xs.length=ts.length
 | [],xs,h=>by rw [h.tH]; rfl
 | t::ts,xs,h=>by
  obtain ⟨x,r,rfl,_,h2⟩:=h.cases
  rw [dQ,dQ,h2.length]
theorem DpL.get{H:Hp}:∀ {ts:List T} {xs:List V} {i:Nat} {t:T},DpL H ts xs→ts[i]?=some t→∃ x,xs[i]?=some x∧Dp H t x
 | [],_,_,_,_,e=>by simp at e
 | t::ts,xs,0,t',h,e=>by
  obtain ⟨x,r,rfl,h1,_⟩:=h.cases
  simp at e
  subst e
  exact⟨x,rfl,h1⟩
 | t::ts,xs,i+1,t',h,e=>by
  obtain ⟨x,r,rfl,_,h2⟩:=h.cases
  obtain ⟨y,e1,e2⟩:=h2.get (i:=i) (t:=t') (by simpa using e)
  exact⟨y,by simpa using e1,e2⟩
theorem DpL.append{H:Hp}:∀ {ts us:List T} {xs ys:List V},DpL H ts xs→DpL H us ys→DpL H (ts++us) (xs++ys)
 | [],_,xs,_,h,g=>by rw [h.tH]; exact g
 | t::ts,us,xs,ys,h,g=>by
  obtain ⟨x,r,rfl,h1,h2⟩:=h.cases
  exact .cons h1 (h2.append g)
theorem DpL.strs{H:Hp}:∀(ns:List Str),DpL H (ns.map T.str) (ns.map V.str)
 | []=>.nil
 | n::ns=>.cons (Dp.str n) (DpL.strs ns)
theorem DpL.lC{H:Hp}:∀ {ns:List Str} {xs:List V},DpL H (ns.map T.str) xs→xs=ns.map V.str
 | [],_,h=>h.tH
 | n::ns,xs,h=>by
  obtain ⟨x,r,rfl,h1,h2⟩:=DpL.cases (t:=T.str n) (ts:=ns.map T.str) h
  rw [h1.lE,DpL.lC h2]
  rfl
noncomputable def dcd (p:Prop):Bool:=@decide p (Classical.propDecidable p)
theorem je{p:Prop}(h:p):dcd p=true:=@ay p (Classical.propDecidable p) h
theorem iW{p:Prop}(h:¬ p):dcd p=false:=@bv p (Classical.propDecidable p) h
theorem KN{p:Prop}:dcd p=true↔p:=⟨fun h=>@cy p (Classical.propDecidable p) h,je⟩
theorem Ml{p q:Prop}(h:p↔q):dcd p=dcd q:=by rw [propext h]
theorem Mj{p:Prop}{b:Bool}(h:b=true↔p):b=dcd p:=by
 by_cases hp:p
 ·rw [je hp]
  exact h.mpr hp
 ·rw [iW hp]
  cases b with
  | false=>rfl
  | true=>exact absurd (h.mp rfl) hp
section
variable {X:Cx}{pins:List (Addr × Obj)}{σ:St}{H:Hp}{s:Shared}
theorem Bw(I:Inv X pins σ H s){a:Addr}{xs:List V}(h:H a=some (.tup xs)):∃ its:List Value,Vals xs its∧s.heap.IsTuple a its.toArray:=by
 obtain ⟨its,r,p,_⟩:=I.tuple (SqT.of h)
 exact⟨its,r,p⟩
end
section
variable {X:Cx}
end
end L2
end
section
namespace L2
open PySem PySem.Spec PyProof.Rows
section
variable {X:Cx}
def QJ:V→Option Int→Option Int→Hp→VK→Prop:=fun x lo hi H Q=>∃ z,x=.str z∧z.length≤sizeLine∧Q (.str (Txt.slice z lo hi)) H
theorem uP:SlR X QJ:=by
 intro pins s σ H x v vl vu lo hi sl Q I rx hs pl pu h
 obtain ⟨z,rfl,hz,q⟩:=h
 obtain ⟨t,rfl⟩:=rx
 obtain ⟨o,ho,hc,hd⟩:=hs
 have fin:∀ (t':Tok) (k:Nat),EP X pins σ Q (.str (Txt.slice z lo hi) t') { s with toks:=k }:=fun t' k=>⟨.str _,H,I.tok k,⟨_,rfl⟩,q⟩
 refine⟨"str",_,F.slot_str_getitem.lookup,typeIs_str _ _ _,?_⟩
 cases pl with
 | none=>
  cases pu with
  | none=>exact jv (l:=none) (u:=none) (st:=none) ⟨o,ho,hc,hd⟩ rfl (nK ⟨dC (nX z _ _) hz,fin⟩)
  | int j uj=>exact jv (l:=none) (u:=some (j,uj)) (st:=none) ⟨o,ho,hc,hd⟩ rfl (nK ⟨dC (nX z _ _) hz,fin⟩)
 | int i ui=>
  cases pu with
  | none=>exact jv (l:=some (i,ui)) (u:=none) (st:=none) ⟨o,ho,hc,hd⟩ rfl (nK ⟨dC (nX z _ _) hz,fin⟩)
  | int j uj=>exact jv (l:=some (i,ui)) (u:=some (j,uj)) (st:=none) ⟨o,ho,hc,hd⟩ rfl (nK ⟨dC (nX z _ _) hz,fin⟩)
def Ql(K:PySem.W.Frag)(te tk:TE):TE:=fun σ H Q=>te σ H fun x H1=>tk σ H1 fun y H2=>∃ a xs i,x=.ref a∧y=.int i∧SqL K H2 a xs∧
 ((i=1∧∀ p,H2 p=none→Q (.ref p) (upd H2 p (.lst xs)))∨(i=-1∧∀ p,H2 p=none→Q (.ref p) (upd H2 p (.lst xs.reverse))))
theorem GK(its:List Value):slicePick its.toArray none none (some 1)=its.toArray:=by
 have e:slicePick its.toArray none none (some 1)=slicePick its.toArray none none none:=rfl
 rw [e,oZ]
 simp [HT.sIx]
theorem Hx{e k:Expr}{te tk:TE}{pos p2:Pos}(he:PE X e te)(hk:PE X k tk):PE X (.Subscript e (.Slice none none (some k) p2) pos) (Ql X.K te tk):=by
 intro pins s σ H Q I h
 refine Subscript_ (thn (he pins s σ H _ I h) fun v s1 ⟨x,H1,I1,r1,q1⟩=>?_)
 refine wpAny_Slice ?_
 rw [oB]
 refine aI ?_
 refine aI ?_
 rw [evalPart_some]
 refine thn (hk pins s1 σ H1 _ I1 q1) fun vk s3 ⟨y,H3,I3,r3,q3⟩=>?_
 obtain ⟨a,xs,i,rfl,rfl,hq,q⟩:=q3
 cases r1
 obtain ⟨t,rfl⟩:=r3
 have I4:Inv X pins σ H3 { s3 with heap:=s3.heap.push { cls:=.type "slice",data:=.fields #[.none,.none,.int i t] } }:=I3.kept (t':=s3.toks) fun b ob q=>ar _ q
 obtain ⟨its,r,ht,hz⟩:=I4.list hq
 have hlen:its.toArray.size=xs.length:=by rw [bo]; exact r.length.symm
 show wpAny (model X.prog X.w) X.A (subscriptTail e (.Slice none none (some k) p2) (.ref a) (.ref s3.heap.objs.size)) (EP X pins σ Q) X.xe { s3 with heap:=s3.heap.push { cls:=.type "slice",data:=.fields #[.none,.none,.int i t] } }
 have fin:∀ ys:List V,ys.length≤sizeLine→∀ jts:List Value,Vals ys jts→(∀ p,H3 p=none→Q (.ref p) (upd H3 p (.lst ys)))→
   EP X pins σ Q (.ref (s3.heap.push { cls:=.type "slice",data:=.fields #[.none,.none,.int i t] }).objs.size)
    { s3 with heap:=(s3.heap.push { cls:=.type "slice",data:=.fields #[.none,.none,.int i t] }).push { cls:=.type "list",data:=.seq jts.toArray } }:=fun ys hy jts rj hQ=>
  ⟨.ref _,_,I4.Mw (t':=s3.toks) rj hy,rfl,hQ _ I4.fresh⟩
 rcases q with ⟨rfl,q⟩ | ⟨rfl,q⟩
 ·refine tail_any (ops:=[.ref a,.ref s3.heap.objs.size]) ht.isList.typeIs mi.lookup (kT ht.isList (lj ..) .none .none (.int 1 t) (by decide) ?_ (by rw [hlen]; exact hz)) (by with_unfolding_all rfl)
  rw [GK]
  exact fin xs hz its r q
 ·refine tail_any (ops:=[.ref a,.ref s3.heap.objs.size]) ht.isList.typeIs mi.lookup (kT ht.isList (lj ..) .none .none (.int (-1) t) (by decide) ?_ (by rw [hlen]; exact hz)) (by with_unfolding_all rfl)
  rw [PySem.W.krv_pick,List.toList_toArray]
  exact fin xs.reverse (by rw [jn]; exact hz) its.reverse r.reverse q
end
end L2
end
section
namespace L2
open PySem PySem.Spec PyProof.Rows
open AutoSeq1 (wpAny_loadPart') in
open MeetsSeq MeetsSeq2 MeetsSeq3 SeqRoads2 SeqAt in
section
variable {prog:Program}{w:World}{A:Around}{E:Value→Shared→Prop}{s:Shared}
theorem mV{it t:Addr}{i:Nat}{items:Array Value}{x:Value}{Q:Value→Shared→Prop}(hit:s.heap.IsTupleIter it t i)(ht:s.heap.IsTuple t items)(hx:items[i]?=some x)
  (hQ:∀ h',h'.IsTupleIter it t (i+1)→Heap.SameBut it s.heap h'→Q x { s with heap:=h' }):wpAny (model prog w) A (Builtin.SmallTypes.nextOf (.ref it)) Q E s:=by
 obtain ⟨ob,e1,e2,e3⟩:=id hit
 obtain ⟨ot,g1,_,nn,g2⟩:=ht
 unfold Builtin.SmallTypes.nextOf
 refine ac (fg (name:=Str.ofString "__next__") hit.typeIs i6 (fN i6 hit.typeIs F.entry_tuple_iterator_next ?_ (F.args_tuple_iterator_next_1 _)))
 show wpAny _ _ (field (.ref it) 0 >>= _) _ _ s; refine ac (eT e1 e3 (x:=.ref t) rfl ?_)
 show wpAny _ _ (if (Value.ref t == Value.none)=true then _ else _) _ _ s; rw [bX (show ¬ ((Value.ref t == Value.none)=true) from aE)]
 show wpAny _ _ (field (.ref it) 1 >>= _) _ _ s; refine ac (eT e1 e3 (x:=.int i 0) rfl ?_)
 show wpAny _ _ (seqItems? (.ref t) >>= _) _ _ s; refine ac (hU g1 g2 ?_)
 simp only [Int.toNat_natCast,hx]
 refine ac (wpAny_setField e1 e3 (by simp) (aI ⟨x,rfl,aI (hQ _ ⟨_,Heap.get?_update_self _ e1 (Obj.isFreed_of_fields (Obj.data_mapFields e3 _)),(Obj.cls_mapFields ..).trans e2,?_⟩ (Heap.SameBut.update ..))⟩))
 rw [Obj.data_mapFields e3]; simp [rawInt]
theorem rA{it t:Addr}{i:Nat}{items:Array Value}{Q:Value→Shared→Prop}(hh:A.handled=none)(hit:s.heap.IsTupleIter it t i)(ht:s.heap.IsTuple t items)(hx:items[i]?=none)
  (hE:∀ h' e,Heap.ExtBut it s.heap h'→(∃ o,h'.get? e=some o∧o.cls=.type "StopIteration")→E (.ref e) { s with heap:=h' }):wpAny (model prog w) A (Builtin.SmallTypes.nextOf (.ref it)) Q E s:=by
 obtain ⟨ob,e1,e2,e3⟩:=id hit
 obtain ⟨ot,g1,_,nn,g2⟩:=ht
 unfold Builtin.SmallTypes.nextOf
 refine ac (fg (name:=Str.ofString "__next__") hit.typeIs i6 (fN i6 hit.typeIs F.entry_tuple_iterator_next ?_ (F.args_tuple_iterator_next_1 _)))
 show wpAny _ _ (field (.ref it) 0 >>= _) _ _ s; refine ac (eT e1 e3 (x:=.ref t) rfl ?_)
 show wpAny _ _ (if (Value.ref t == Value.none)=true then _ else _) _ _ s; rw [bX (show ¬ ((Value.ref t == Value.none)=true) from aE)]
 show wpAny _ _ (field (.ref it) 1 >>= _) _ _ s; refine ac (eT e1 e3 (x:=.int i 0) rfl ?_)
 show wpAny _ _ (seqItems? (.ref t) >>= _) _ _ s; refine ac (hU g1 g2 ?_)
 simp only [Int.toNat_natCast,hx]
 refine ac (kn (ac (wpAny_setField e1 e3 (by simp) ?_)))
 show wpAny _ _ (newExc (.type "StopIteration") [] >>= _) _ _ _; refine ac ?_
 simp only [newExc,newTuple]; refine ac (fv ?_ (by size_fits))
 refine ac (m:=firstArgMember _ _) (wpAny_of_eq (a:=Value.none) (by first | rfl | (simp only [firstArgMember]; rfl)) ?_)
 refine fv ?_ (by size_fits); simp only [raiseNew]; refine ac (wpAny_handled ?_)
 first | rw [show A.in1.handled=none from hh] | rw [hh]
 refine ac (aI (wpAny_throw (hE _ _ (((Heap.SameBut.update ..).extBut.push _).push _) ⟨_,bn _ rfl,rfl⟩)))
structure ZA (z TI TO i1 i2 t1 t2:Addr):Prop where
 a1:TI≠z
 a2:TO≠z
 a3:i1≠z
 a4:i2≠z
 a5:TI≠TO
 a6:TI≠i1
 a7:TI≠i2
 a8:TO≠i1
 a9:TO≠i2
 b1:i1≠i2
 b2:t1≠z
 b3:t1≠TO
 b4:t1≠i1
 b5:t1≠i2
 b6:t2≠z
 b7:t2≠TO
 b8:t2≠i1
 b9:t2≠i2
theorem Eu{z TI TO i1 i2 t1 t2:Addr}{k:Nat}{xs ys:Array Value}{x y a b:Value}{Q:Value→Shared→Prop}(D:ZA z TI TO i1 i2 t1 t2)
  (hz:IsZip s.heap z TI TO .none) (hTI:IsPair s.heap TI (.ref i1) (.ref i2)) (hTO:IsPair s.heap TO a b) (h1:s.heap.IsTupleIter i1 t1 k) (h2:s.heap.IsTupleIter i2 t2 k)
  (hl1:s.heap.IsTuple t1 xs) (hl2:s.heap.IsTuple t2 ys) (hx:xs[k]?=some x) (hy:ys[k]?=some y)
  (hQ:∀ h',IsZip h' z TI TO (rawInt s.heap.objs.size)→IsPair h' TO x y→h'.IsTupleIter i1 t1 (k+1)→h'.IsTupleIter i2 t2 (k+1)→IsPair h' s.heap.objs.size x y→
   (∀ c o,c≠z→c≠TO→c≠i1→c≠i2→s.heap.get? c=some o→h'.get? c=some o)→Q (.ref s.heap.objs.size) { s with heap:=h' }) :
  wpAny (model prog w) A (Builtin.«zip.__next__» ⟨[.ref z],[]⟩) (fun fin s'=>∃ v,fin=.done (.ret v)∧Q v s') E s:=by
 show wpAny _ _ (field (.ref z) 2 >>= _) _ _ _; refine ac (eT hz rfl (x:=.bool false) rfl ?_)
 show wpAny _ _ (field (.ref z) 3 >>= _) _ _ _; refine ac (eT hz rfl (x:=.ref TI) rfl (ac (hU hTI rfl ?_)))
 show wpAny _ _ (Builtin.SmallTypes.ownedTupleIsFree (.ref z) >>= _) _ _ _
 unfold Builtin.SmallTypes.ownedTupleIsFree
 refine ac (ac (eT hz rfl (x:=.none) rfl (aI ?_)))
 simp only [iF]
 refine ac (kn (ac (eT hz rfl (x:=.ref TO) rfl (ac (fE hz (by simp) fun g1 z1 q1=>?_)))))
 replace z1:IsZip g1 z TI TO .ellipsis:=z1
 simp only [List.zipIdx_cons,List.zipIdx_nil,nI,n9]
 refine ac (ac (ac (mS ?_)))
 show wpAny _ _ (Builtin.SmallTypes.nextOf (.ref i1) >>= _) _ _ _
 refine ac (mV (h1.extBut q1.extBut D.a3) (hl1.extBut q1.extBut D.b2) hx fun g2 j2 q2=>aI ?_)
 have p2:IsPair g2 TO a b:=q2.extBut _ _ D.a8 (q1.extBut _ _ D.a2 hTO)
 refine ac (hU p2 rfl (ac (nw p2 fun g3 p3 q3=>ac (oz (aI ?_)))))
 replace p3:IsPair g3 TO x b:=p3
 refine ac (ac (mS ?_))
 show wpAny _ _ (Builtin.SmallTypes.nextOf (.ref i2) >>= _) _ _ _
 refine ac (mV (((h2.extBut q1.extBut D.a4).extBut q2.extBut D.b1.symm).extBut q3.extBut D.a9.symm) (((hl2.extBut q1.extBut D.b6).extBut q2.extBut D.b8).extBut q3.extBut D.b7) hy fun g4 j4 q4=>aI ?_)
 have p4:IsPair g4 TO x b:=q4.extBut _ _ D.a9 p3
 refine ac (hU p4 rfl (ac (nw p4 fun g5 p5 q5=>ac (oz (aI (aI ?_))))))
 replace p5:IsPair g5 TO x y:=p5
 refine ac (hU p5 rfl (ac (oq ?_)))
 have sz:g5.objs.size=s.heap.objs.size:=by rw [q5.1,q4.1,q3.1,q2.1,q1.1]
 have z5:IsZip g5 z TI TO .ellipsis:=q5.extBut _ _ D.a2.symm (q4.extBut _ _ D.a4.symm (q3.extBut _ _ D.a2.symm (q2.extBut _ _ D.a3.symm z1)))
 have k5:∀ c o,c≠z→c≠TO→c≠i1→c≠i2→s.heap.get? c=some o→g5.get? c=some o:=fun c o c1 c2 c3 c4 e=>q5.extBut _ _ c2 (q4.extBut _ _ c4 (q3.extBut _ _ c2 (q2.extBut _ _ c3 (q1.extBut _ _ c1 e))))
 have j5:g5.IsTupleIter i1 t1 (k+1):=((j2.extBut q3.extBut D.a8.symm).extBut q4.extBut D.b1).extBut q5.extBut D.a8.symm
 have l5:g5.IsTupleIter i2 t2 (k+1):=j4.extBut q5.extBut D.a9.symm
 have zl:z < g5.objs.size:=cr z5
 show wpAny _ _ (Builtin.SmallTypes.ownedTupleHandOut (.ref z) (.ref g5.objs.size) >>= _) _ _ _
 refine ac ?_
 unfold Builtin.SmallTypes.ownedTupleHandOut
 have z6:IsZip (g5.push { cls:=.type "tuple",data:=.seq #[x,y] }) z TI TO .ellipsis:=ar _ z5
 refine ac (fE z6 (by simp) fun g7 z7 q7=>?_)
 replace z7:IsZip g7 z TI TO (rawInt g5.objs.size):=z7
 refine fE z7 (by simp) fun g8 z8 q8=>?_
 replace z8:IsZip g8 z TI TO (rawInt g5.objs.size):=z8
 have up:∀ c o,c≠z→g5.get? c=some o→g8.get? c=some o:=fun c o c1 e=>q8.extBut _ _ c1 (q7.extBut _ _ c1 (ar _ e))
 have n8:IsPair g8 g5.objs.size x y:=q8.extBut _ _ (fe zl) (q7.extBut _ _ (fe zl) (bn _ rfl))
 rw [sz] at z8 n8
 refine aI ⟨_,rfl,?_⟩
 show Q (.ref g5.objs.size) _
 rw [sz]
 refine hQ g8 z8 (up _ _ D.a2 p5) ?_ ?_ n8 fun c o c1 c2 c3 c4 e=>up c o c1 (k5 c o c1 c2 c3 c4 e)
 ·obtain ⟨o,e,r⟩:=j5; exact⟨o,up _ o D.a3 e,r⟩
 ·obtain ⟨o,e,r⟩:=l5; exact⟨o,up _ o D.a4 e,r⟩
theorem Ij{z TI TO i1 i2 t1 t2:Addr}{k:Nat}{xs:Array Value}{a b:Value}{Q:Fin→Shared→Prop}(hh:A.handled=none)(D:ZA z TI TO i1 i2 t1 t2)
  (hz:IsZip s.heap z TI TO .none) (hTI:IsPair s.heap TI (.ref i1) (.ref i2)) (hTO:IsPair s.heap TO a b) (h1:s.heap.IsTupleIter i1 t1 k) (hl1:s.heap.IsTuple t1 xs) (hx:xs[k]?=none)
  (hE:∀ h' e,(∀ c o,c≠z→c≠TO→c≠i1→c≠i2→s.heap.get? c=some o→h'.get? c=some o)→(∃ o,h'.get? e=some o∧o.cls=.type "StopIteration")→E (.ref e) { s with heap:=h' }) :
  wpAny (model prog w) A (Builtin.«zip.__next__» ⟨[.ref z],[]⟩) Q E s:=by
 show wpAny _ _ (field (.ref z) 2 >>= _) _ _ _; refine ac (eT hz rfl (x:=.bool false) rfl ?_)
 show wpAny _ _ (field (.ref z) 3 >>= _) _ _ _; refine ac (eT hz rfl (x:=.ref TI) rfl (ac (hU hTI rfl ?_)))
 show wpAny _ _ (Builtin.SmallTypes.ownedTupleIsFree (.ref z) >>= _) _ _ _
 unfold Builtin.SmallTypes.ownedTupleIsFree
 refine ac (ac (eT hz rfl (x:=.none) rfl (aI ?_)))
 simp only [iF]
 refine ac (kn (ac (eT hz rfl (x:=.ref TO) rfl (ac (fE hz (by simp) fun g1 z1 q1=>?_)))))
 replace z1:IsZip g1 z TI TO .ellipsis:=z1
 simp only [List.zipIdx_cons,List.zipIdx_nil,nI,n9]
 refine ac (ac (ac (mS ?_)))
 show wpAny _ _ (Builtin.SmallTypes.nextOf (.ref i1) >>= _) _ _ _
 refine ac (rA hh (h1.extBut q1.extBut D.a3) (hl1.extBut q1.extBut D.b2) hx fun g2 e q2 ⟨oe,e1,e2⟩=>?_)
 have z2:IsZip g2 z TI TO .ellipsis:=q2 _ _ D.a3.symm z1
 have hez:e≠z:=fun x=>by subst x; rw [z2] at e1; cases e1; simp at e2
 exact fE z2 (by simp) fun g3 _ q3=>hE g3 e (fun c o c1 _ c3 _ x=>q3.extBut _ _ c1 (q2 _ _ c3 (q1.extBut _ _ c1 x))) ⟨oe,q3.extBut _ _ hez e1,e2⟩
end
theorem Inv.uF{X:Cx}{pins:List (Addr × Obj)}{σ:St}{H:Hp}{s:Shared}{h':Heap}{fp:List Addr}{a:Addr}{o:HO}{t':Nat}(I:Inv X pins σ H s)(hf:∀ b∈fp,nG X pins H b)
  (k:∀ b u,b ∉ fp→s.heap.get? b=some u→h'.get? b=some u) (hp:s.heap.objs.size≤a) (new:cX X.prog X.w (upd H a o) h' a o):Inv X pins σ (upd H a o) { s with heap:=h',toks:=t' }:=by
 have hn:H a=none:=I.hok.fresh hp
 have nf:∀ b u,H b=some u→b ∉ fp:=fun b u e hb=>by rw [(hf b hb).1] at e; cases e
 refine I.step (g':=s.gens) (d':=s.drawn) (ch:=fp) (fun b hb=>⟨(hf b hb).2.2.2.1,(hf b hb).2.1,(hf b hb).2.2.2.2.1,(hf b hb).2.2.2.2.2⟩) (fun b u _ _ hc e _=>k b u hc e) (fun b u _ _ hc e _=>⟨u.slots,k b u hc e⟩)
  (fun b u _ e n=>by rw [au (dc (eA (cr e) hp))]; exact n) (fun b u hc e=>⟨u,k b u hc e⟩) (fun b xs e=>by rw [au (aB e hn)]; exact e)
  (fun b u v e=>by rw [au (aB e hn)]; exact e) (fun b ps e=>⟨#[],by rw [au (aB e hn),e]; simp⟩) (fun m hm=>?_) (fun b u e=>?_) I.bare
 ·obtain ⟨ob,es,ep,ho,r⟩:=hm
  exact⟨ob,es,ep,k _ ob (fun z=>(hf _ z).2.1 rfl) ho,r⟩
 ·by_cases hb:b=a
  ·subst hb
   rw [ak] at e
   cases e
   exact new
  ·rw [au hb] at e
   refine(I.hok b u e).stay (fun c v hc q=>k c v ?_ q) (fun c q=>by rw [au (aB q hn)]; exact q) fun c xs q=>by rw [au (aB q hn)]; exact q
   rcases hc with z | z
   ·rw [z]; exact nf b u e
   ·exact nf c _ z
theorem Inv.rW{X:Cx}{pins:List (Addr × Obj)}{σ:St}{H:Hp}{s:Shared}{h':Heap}{fp:List Addr}{t':Nat}(I:Inv X pins σ H s)(hf:∀ b∈fp,nG X pins H b)
  (k:∀ b u,b ∉ fp→s.heap.get? b=some u→h'.get? b=some u):Inv X pins σ H { s with heap:=h',toks:=t' }:=by
 have nf:∀ b u,H b=some u→b ∉ fp:=fun b u e hb=>by rw [(hf b hb).1] at e; cases e
 refine I.step (g':=s.gens) (d':=s.drawn) (ch:=fp) (fun b hb=>⟨(hf b hb).2.2.2.1,(hf b hb).2.1,(hf b hb).2.2.2.2.1,(hf b hb).2.2.2.2.2⟩) (fun b u _ _ hc e _=>k b u hc e) (fun b u _ _ hc e _=>⟨u.slots,k b u hc e⟩)
  (fun b u _ e n=>n) (fun b u hc e=>⟨u,k b u hc e⟩) (fun b xs e=>e) (fun b u v e=>e) (fun b ps e=>⟨#[],by rw [e]; simp⟩) (fun m hm=>?_) (fun b u e=>?_) I.bare
 ·obtain ⟨ob,es,ep,ho,r⟩:=hm
  exact⟨ob,es,ep,k _ ob (fun z=>(hf _ z).2.1 rfl) ho,r⟩
 ·refine(I.hok b u e).stay (fun c v hc q=>k c v ?_ q) (fun c q=>q) fun c xs q=>q
  rcases hc with z | z
  ·rw [z]; exact nf b u e
  ·exact nf c _ z
def Itz(K:PySem.W.Frag)(t1 t2:Addr):It:=
 ⟨fun i H=>∃ xs ys x y,SqT K H t1 xs∧SqT K H t2 ys∧xs[i]?=some x∧ys[i]?=some y,fun i H v H'=>∃ p,H p=none∧v=.ref p∧∀ xs ys x y,SqT K H t1 xs→SqT K H t2 ys→xs[i]?=some x→ys[i]?=some y→H'=upd H p (.tup [x,y]),
  fun i H=>∃ xs,SqT K H t1 xs∧xs.length≤i⟩
theorem mF{P:Program}{w:World}{K:PySem.W.Frag}{elts:List Expr}{x1:Nat}{tpos:Pos}{z TI TO i1 i2 t1 t2:Addr}(D:ZA z TI TO i1 i2 t1 t2):Turn P w K (.Tuple elts x1 tpos) (Itz K t1 t2) [z,TI,TO,i1,i2] z
  (fun i h=>IsZip h z TI TO .none∧IsPair h TI (.ref i1) (.ref i2)∧(∃ a b,IsPair h TO a b)∧h.IsTupleIter i1 t1 i∧h.IsTupleIter i2 t2 i) where
 mem:=by simp
 obj:=fun i h st b hb=>by
  obtain ⟨hz,hTI,⟨a,c,hTO⟩,⟨o1,e1,_,d1⟩,⟨o2,e2,_,d2⟩⟩:=st
  simp only [bu,dL,gN] at hb
  rcases hb with rfl | rfl | rfl | rfl | rfl
  ·exact⟨_,hz,fun v q=>nomatch q⟩
  ·exact⟨_,hTI,fun v q=>nomatch q⟩
  ·exact⟨_,hTO,fun v q=>nomatch q⟩
  ·exact⟨_,e1,fun v q=>by rw [d1] at q; cases q⟩
  ·exact⟨_,e2,fun v q=>by rw [d2] at q; cases q⟩
 keep:=fun i h h' st k=>by
  obtain ⟨hz,hTI,⟨a,c,hTO⟩,⟨o1,e1,r1⟩,⟨o2,e2,r2⟩⟩:=st
  exact⟨k z (by simp) _ hz,k TI (by simp) _ hTI,⟨a,c,k TO (by simp) _ hTO⟩,⟨o1,k i1 (by simp) _ e1,r1⟩,⟨o2,k i2 (by simp) _ e2,r2⟩⟩
 item:=by
  intro X hP hw hK hc i pins s σ H E I hf st hg
  subst hP hw hK
  obtain ⟨xs,ys,x,y,q1,q2,e1,e2⟩:=hg
  obtain ⟨its,rv,p,hz'⟩:=I.tuple q1
  obtain ⟨jts,rw',p',hz''⟩:=I.tuple q2
  obtain ⟨u,hu,ru⟩:=rv.get e1
  obtain ⟨u',hu',ru'⟩:=rw'.get e2
  obtain ⟨hz,hTI,⟨a,c,hTO⟩,h1,h2⟩:=st
  have hT:s.TypeIs (.ref z) "zip" := ⟨_,hz,rfl⟩
  unfold pyNext
  refine ac (nh (fg (name:=Str.ofString "__next__") hT kr (fN kr hT F.entry_zip_next
   (Eu D hz hTI hTO h1 h2 (show s.heap.IsTuple t1 its.toArray from p) (show s.heap.IsTuple t2 jts.toArray from p') (x:=u) (y:=u') (by simpa using hu) (by simpa using hu') fun h' a1 a2 a3 a4 a5 a6=>aI ?_) (F.args_zip_next_1 _))))
  refine⟨_,rfl,wpAny_letOwnedTupleGo_zip a1 fun h2' a1' q'=>?_⟩
  have hn:H s.heap.objs.size=none:=I.hok.fresh (am _)
  have zlt:z < s.heap.objs.size:=cr hz
  have tlt:TO < s.heap.objs.size:=cr hTO
  have i1lt:i1 < s.heap.objs.size:=by obtain ⟨_,e,_⟩:=h1; exact cr e
  have i2lt:i2 < s.heap.objs.size:=by obtain ⟨_,e,_⟩:=h2; exact cr e
  have kk:∀ b ob,b ∉ [z,TI,TO,i1,i2]→s.heap.get? b=some ob→h2'.get? b=some ob:=fun b ob hb e=>by
   simp only [bu,dL,gN,oC] at hb
   exact q'.extBut _ _ hb.1 (a6 b ob hb.1 hb.2.2.1 hb.2.2.2.1 hb.2.2.2.2 e)
  have I1:Inv X pins σ (upd H s.heap.objs.size (.tup [x,y])) { s with heap:=h2' }:=I.uF (t':=s.toks) hf kk (am _)
   ⟨⟨by show 2≤sizeLine; decide,fun o e=>by rw [q'.extBut _ _ (fe zlt) a5] at e; cases e; rfl⟩,[u,u'],.cons ru (.cons ru' .nil),⟨_,q'.extBut _ _ (fe zlt) a5,rfl,_,rfl⟩⟩
  refine⟨.ref s.heap.objs.size,_,I1,rfl,⟨_,hn,rfl,fun xs' ys' x' y' k1 k2 k3 k4=>?_⟩,⟨a1',q'.extBut _ _ D.a1 (a6 _ _ D.a1 D.a5 D.a6 D.a7 hTI),⟨_,_,q'.extBut _ _ D.a2 a2⟩,a3.extBut q'.extBut D.a3,a4.extBut q'.extBut D.a4⟩,fun b hb=>?_⟩
  ·rw [I.ou k1 q1,e1] at k3
   rw [I.ou k2 q2,e2] at k4
   cases k3
   cases k4
   rfl
  ·have hb':=hb
   simp only [bu,dL,gN] at hb'
   have hlt:b < s.heap.objs.size:=by
    rcases hb' with rfl | rfl | rfl | rfl | rfl
    ·exact zlt
    ·exact cr hTI
    ·exact tlt
    ·exact i1lt
    ·exact i2lt
   rw [au (dc hlt)]
   exact(hf b hb).1
 done:=by
  intro X hP hw hK hc i pins s σ H E I hf st hg
  subst hP hw hK
  obtain ⟨xs,q1,e1⟩:=hg
  obtain ⟨its,rv,p,hz'⟩:=I.tuple q1
  obtain ⟨hz,hTI,⟨a,c,hTO⟩,h1,h2⟩:=st
  have hT:s.TypeIs (.ref z) "zip" := ⟨_,hz,rfl⟩
  have hl:=rv.length
  unfold pyNext
  refine ac (nh (fg (name:=Str.ofString "__next__") hT kr (fN kr hT F.entry_zip_next
   (Ij (I.ok.hd hc) D hz hTI hTO h1 (show s.heap.IsTuple t1 its.toArray from p) (by simp; omega) fun h' e kk ⟨o,ho,hcl⟩=>?_) (F.args_zip_next_1 _))))
  refine ac (wpAny_isInstance (T:= "StopIteration") (b:=true) ⟨o,ho,hcl⟩ isSubtype_stop (aI ⟨rfl,I.rW (t':=s.toks) hf fun b u hb q=>?_⟩))
  simp only [bu,dL,gN,oC] at hb
  exact kk b u hb.1 hb.2.2.1 hb.2.2.2.1 hb.2.2.2.2 q
 self:=fun _ _ _ _ _ st h=>wpAny_pyIter_zip st.1 h
abbrev zq1(h:Heap)(l1:Addr):Heap:=h.push { cls:=.type "tuple_iterator",data:=.fields #[.ref l1,.int 0 0] }
abbrev zq2(h:Heap)(l1 l2:Addr):Heap:=(zq1 h l1).push { cls:=.type "tuple_iterator",data:=.fields #[.ref l2,.int 0 0] }
abbrev zq3(h:Heap)(l1 l2:Addr):Heap:=(zq2 h l1 l2).push { cls:=.type "tuple",data:=.seq #[.ref h.objs.size,.ref (zq1 h l1).objs.size] }
abbrev zq4(h:Heap)(l1 l2:Addr):Heap:=(zq3 h l1 l2).push { cls:=.type "tuple",data:=.seq #[.none,.none] }
abbrev zq5(h:Heap)(l1 l2:Addr):Heap:=(zq4 h l1 l2).push { cls:=.type "zip",data:=.fields #[.none,.bool false,.bool false,.ref (zq2 h l1 l2).objs.size,.ref (zq3 h l1 l2).objs.size] }
theorem Og(l1 l2:Addr)(xs ys:Array Value):Meets (Builtin.«zip.__new__» ⟨[.type "zip",.ref l1,.ref l2],[]⟩) (fun _ R s=>s.heap.IsTuple l1 xs∧s.heap.IsTuple l2 ys∧R (.ok (.ret (.ref (zq4 s.heap l1 l2).objs.size))) { s with heap:=zq5 s.heap l1 l2 }):=
 .of_wp fun prog w A R s h=>by
  obtain ⟨hp,g,d,tk,os⟩:=s
  obtain ⟨hl1,hl2,h⟩:=h
  have hsub:=sub_zip
  have hL1:Heap.IsTuple (Shared.heap ⟨hp,g,d,tk,os⟩) l1 xs:=hl1
  have hL2:Heap.IsTuple (Shared.heap ⟨hp.push { cls:=.type "tuple_iterator",data:=.fields #[.ref l1,.int 0 0] },g,d,tk,os⟩) l2 ys:=Heap.IsTuple.push hl2 _
  wp_walk using wpAny_pyIter_tuple hL1,wpAny_pyIter_tuple hL2
  exact⟨_,rfl,h⟩
theorem K1{prog:Program}{w:World}{A:Around}{E:Value→Shared→Prop}{s:Shared}{l1 l2:Addr}{xs ys:Array Value}{Q:Value→Shared→Prop}(hl1:s.heap.IsTuple l1 xs)(hl2:s.heap.IsTuple l2 ys)
  (h:Q (.ref (zq4 s.heap l1 l2).objs.size) { s with heap:=zq5 s.heap l1 l2 }):wpAny (model prog w) A (call (.type "zip") [.ref l1,.ref l2]) Q E s:=by
 refine callType_new F.called_zip (by decide) (F.typeCall_zip_2 _ _) (F.newCall_zip_2 _ _) (fun obj=>F.args_object_init_3 obj _ _) F.entry_zip_new (Og l1 l2 xs ys) ⟨hl1,hl2,?_⟩
 show _∧_
 exact⟨⟨_,bn _ rfl,rfl⟩,h⟩
theorem O5{n t1 t2:Nat}(h1:t1 < n)(h2:t2 < n):ZA (n+4) (n+2) (n+3) n (n+1) t1 t2:=by
 constructor <;> (change @Ne Nat _ _; omega)
section
variable {X:Cx}
theorem nJ(hc:X.calm=true):gn X (.builtin "all") (fun xs H Q=>∃(p:Addr) (bs:List Bool),xs=[.ref p]∧SqL X.K H p (bs.map V.bl)∧Q (.bl (bs.all id)) H):=by
 intro pins s σ H xs us Q I r h
 obtain ⟨p,bs,rfl,hq,q⟩:=h
 obtain ⟨u,rfl,ru⟩:=vals1 r
 cases ru
 obtain ⟨its,rv,pl,hz⟩:=I.list hq
 have hl:=rv.length
 rw [aa] at hl
 refine call_all_walk (iN pl.isList ?_)
 have plt:p < s.heap.objs.size:=by obtain ⟨o,e,_⟩:=pl.isList; exact cr e
 refine⟨s.heap.objs.size,_,_,_,_,_,fun i=>bs.getD i true,rfl,Walks.list (A:=X.A.in1) (I.ok.hd hc) s.heap.objs.size p (dc plt) its.toArray,⟨⟨_,bn _ rfl,rfl,rfl⟩,pl.isList.push _⟩,fun i v s' Q' E' hv hQ=>?_,fun h' tk kk=>?_⟩
 ·have hi:i < bs.length:=by
   have:=(Array.getElem?_eq_some_iff.mp hv).1
   rw [bo] at this
   omega
  obtain ⟨u,hu,ru⟩:=rv.get (i:=i) (x:=V.bl bs[i]) (by simp [hi])
  have hv':its[i]?=some v:=by simpa using hv
  rw [hv'] at hu
  cases hu
  cases ru
  refine fR ?_
  simpa [hi] using hQ
 ·have ee:((List.range its.toArray.size).all fun i=>bs.getD i true)=bs.all id:=by
   rw [bo,← hl]
   apply fm.mpr
   rw [eQ,eQ]
   constructor
   ·intro h b hb
    obtain ⟨i,hi,rfl⟩:=fc hb
    have:=h i (gy.mpr hi)
    simpa [hi] using this
   ·intro h i hi
    have hi':=gy.mp hi
    have:=h bs[i] (cn hi')
    simpa [hi'] using this
  rw [ee]
  have I1:Inv X pins σ H { s with heap:=s.heap.push { cls:=.type "list_iterator",data:=.fields #[.ref p,.int 0 0] } }:=I.kept (t':=s.toks) fun b o e=>ar _ e
  refine⟨.bl _,H,I1.turned (t':=tk) (it:=s.heap.objs.size) (fun b o hb e=>kk b o (by simpa using hb) e) (I.hok.fresh (am _)) (fe I.lt) (.inr I.sz) ?_ ?_,rfl,q⟩
  ·exact(I.lK (am _) (I.hok.fresh (am _))).2.2.2.2.1
  ·exact(I.lK (am _) (I.hok.fresh (am _))).2.2.2.2.2
def Its(x:Str):It:=⟨fun i _=>i < x.cps.size,fun i H v H'=>H'=H∧∃ c,x.cps[i]?=some c∧v=.str ⟨#[c]⟩,fun i _=>x.cps.size≤i⟩
theorem Hv{P:Program}{w:World}{K:PySem.W.Frag}{tg:Expr}(x:Str)(t:Tok)(it:Addr):Turn P w K tg (Its x) [it] it (fun i h=>h.IsStrIter it "str_ascii_iterator" x t i) where
 mem:=by simp
 obj:=fun i h st b hb=>by
  have e:b=it:=by simpa using hb
  subst e
  obtain ⟨o,e,c,d⟩:=st
  exact⟨o,e,fun v z=>by rw [d] at z; cases z⟩
 keep:=fun i h h' st k=>by
  obtain ⟨o,e,r⟩:=st
  exact⟨o,k it (by simp) o e,r⟩
 item:=by
  intro X hP hw hK hc i pins s σ H E I hf st hg
  subst hP hw hK
  have hg:i < x.cps.size:=hg
  obtain ⟨f0,f1,f2,f3,f4,f5⟩:=hf it (by simp)
  refine wpAny_pyNext_ascii_item st (c:=x.cps[i]) (by simp [hg]) fun h' st' sb=>?_
  have I1:Inv X pins σ H { s with heap:=h',toks:=s.toks+1 }:=I.turned (fun b o hb e=>(sb.2 b hb).trans e) f0 f1 f3 f4 f5
  obtain ⟨o,e,c,d⟩:=id st'
  exact⟨_,rfl,yN (s:={ s with heap:=h',toks:=s.toks+1 }) e c d (by decide) ⟨.str ⟨#[x.cps[i]]⟩,H,I1,⟨_,rfl⟩,⟨rfl,_,by simp [hg],rfl⟩,st',fun b hb=>(hf b hb).1⟩⟩
 done:=by
  intro X hP hw hK hc i pins s σ H E I hf st hg
  subst hP hw hK
  have hg:x.cps.size≤i:=hg
  obtain ⟨f0,f1,f2,f3,f4,f5⟩:=hf it (by simp)
  exact wpAny_pyNext_ascii_end (I.ok.hd hc) st (by simp [hg]) fun h' eb=>⟨rfl,I.turned (t':=s.toks) (fun b o hb e=>eb b o hb e) f0 f1 f3 f4 f5⟩
 self:=fun _ _ _ _ _ st h=>wpAny_pyIter_striter_ascii st h
def QF(te:TE):TI:=fun σ H R=>te σ H fun v H1=>∃ x,v=.str x∧x.cps.all (· < 128)=true∧R (Its x) H1
theorem Jc{tg e:Expr}{te:TE}(he:PE X e te):PI X tg e (QF te):=by
 intro pins s σ H R I h
 refine thn (he pins s σ H _ I h) fun v s1 ⟨y,H1,I1,r1,x,e,hx,q⟩=>?_
 subst e
 obtain ⟨t,rfl⟩:=r1
 refine wpAny_pyIter_ascii hx ?_
 refine⟨s1.heap.objs.size,[s1.heap.objs.size],_,_,H1,rfl,I1.kept (t':=s1.toks) fun b o e=>ar _ e,Hv x t _,⟨_,bn _ rfl,rfl,rfl⟩,fun b hb=>?_,q⟩
 have e:b=s1.heap.objs.size:=by simpa using hb
 subst e
 exact I1.lK (am _) (I1.hok.fresh (am _))
theorem bR:gn X (.builtin "isinstance") (fun xs H Q=>∃ x n t b,xs=[x,.ty n]∧qF X.K H x t∧PySem.W.kitOne X.K t (.type n)=some b∧Q (.bl b) H):=by
 intro pins s σ H xs us Q I r h
 obtain ⟨x,n,t,b,rfl,ty,e,q⟩:=h
 obtain ⟨u,w',rfl,ru,rw'⟩:=vals2 r
 cases rw'
 exact Fe I ru ty e fun tk=>⟨.bl b,H,I.tok _,rfl,q⟩
theorem iu(K:PySem.W.Frag)(n:String):PySem.W.kitOne K (.type n) (.type n)=some true:=by
 unfold PySem.W.kitOne
 rw [ck (by simp)]
end
end L2
end
section
namespace L2
open PySem PySem.Spec PyProof.Rows
theorem cX.ex{P:Program}{w:World}{H:Hp}{h:Heap}{a:Addr}{o:HO}(x:cX P w H h a o):∃ ob,h.get? a=some ob:=by
 cases o with
 | lst xs=>obtain ⟨_,_,_,_,e⟩:=x; exact⟨_,e⟩
 | tup xs=>obtain ⟨_,_,_,ob,e,_⟩:=x; exact⟨_,e⟩
 | dK kvs=>obtain ⟨_,_,_,_,o,_,_,e,_⟩:=x; exact⟨_,e⟩
 | dT kvs=>obtain ⟨_,_,_,_,o,_,_,e,_⟩:=x; exact⟨_,e⟩
 | set S n=>obtain ⟨o,_,_,_,e,_⟩:=x; exact⟨_,e⟩
 | ins C dx fs=>obtain ⟨_,_,_,e,_⟩:=x; exact⟨_,e⟩
 | own y=>exact x
 | xd fs=>obtain ⟨_,⟨_,_,_,e,_⟩,_⟩:=x; exact⟨_,e⟩
 | rng lo hi=>obtain ⟨_,_,_,e⟩:=x; exact⟨_,e⟩
 | frz ob u=>exact⟨_,x.1⟩
 | tbl ps=>exact⟨_,x⟩
 | met f y=>exact⟨_,x⟩
 | ext φ=>exact x.2.1
structure Pa (P:Program) (w:World) (outer:List Env) (H:Hp) (s:Shared) (e:Addr) (cls:Value) (H':Hp) (B:Heap) (a0:Value) (s':Shared):Prop where
 os:s'.os=s.os
 bare:AllBare s'.gens
 un:Un (frs outer) [] H H' s.heap s'.heap
 hok:HOk P w H' s'.heap
 fl:Heap.FlyingW B outer e cls a0 s'.heap
 Rc:∀ b,H' b≠none→∃ o,B.get? b=some o
 Ri:∀ b o,s.heap.get? b=some o→b ∉ frs outer→∃ o,B.get? b=some o
section
variable {P:Program}{w:World}{outer:List Env}{H H':Hp}{s s':Shared}{e:Addr}{cls a0:Value}{B h2:Heap}
end
section
variable {X:Cx}{pins:List (Addr × Obj)}{σ:St}{H H':Hp}{s s':Shared}{e:Addr}{cls a0:Value}{B h2:Heap}
end
section
variable {P:Program}{w:World}{K:PySem.W.Frag}{mg:Str→Option Value}{base:Heap}{N:List Str}{qual:Str}{scope:Scope}{f:Addr}{cd:Value}{A:Around}{outer:List Env}{s:Shared}{H:Hp}{E:XK}
end
def Qg(ea C:Addr)(h:Heap):Prop:=∃ ob,h.get? ea=some ob∧ob.cls=.ref C
structure XIn (K:PySem.W.Frag) (C:Addr):Prop where
 ga:PySem.W.findIn K (.ref C) "__getattribute__" = some (some (.builtin "BaseException.__getattribute__"))
 hk:PySem.W.findIn K (.ref C) "__getattr__" = some none
 ca:PySem.W.findIn K (.ref C) "__class__" = some (some (.builtin "object.__class__"))
 gt:PySem.W.specialIn K (.builtin "object.__class__") "__get__" = some (some (.builtin "getset_descriptor.__get__"))
 tk:PySem.W.takesIn K (.builtin "object.__class__")=some true
 ob:PySem.W.mroIn K C (.type "object")=some true
 be:PySem.W.mroIn K C (.type "BaseException")=some true
 cl:(PySem.W.clsIn K C).isSome=true
section
open Builtin Builtin.ObjectAttr Builtin.Getset_descriptor PySem.W
variable {prog:Program}{w:World}{K:PySem.W.Frag}{ea C:Addr}
end
end L2
end
section
namespace L2
open PySem PySem.Spec PyProof.Rows
def Rg(ea C:Addr):HO:=.ext (Qg ea C)
section
variable {X:Cx}
end
structure Rf (K:PySem.W.Frag) (mg:Str→Option Value) (x:Str) (C:Addr):Prop where
 m:mg x=some (.ref C)
 ex:PySem.W.excIn K C [.type "ValueError",.type "Exception",.type "BaseException",.type "object"] "ValueError.__new__" = true
 i:XIn K C
structure Fnd (K:PySem.W.Frag) (mg:Str→Option Value) (x:Str) (st:Stmt) (ps:List Str) (f:Addr) (fd:FuncData):Prop where
 fn:Fun K x x st f fd
 b:Binds K fd ps []
 m:mg x=some (.ref f)
theorem aH{X:Cx}{x:Str}{st:Stmt}{ps:List Str}{f:Addr}{fd:FuncData}{k:Nat}{sp:Sp}{e:Expr}{es:List Expr}{t:TA}{p pos:Pos}(D:Fnd X.K X.mg x st ps f fd)(G:aW X.prog X.w X.K X.mg X.base CX0 k f fd ps sp)(hr:kJ k X.A)(hg:Gl X x)(ha:PA X (e::es) t)
  (hdb:(x == ("__debug__" : Str))=false:=by decide) (he:starEach (e::es) X.env=(false,eval e X.env)::starEach es X.env:=by rfl) (hpl:(backTo pos (starEach es X.env)).any (·.1)=false:=by rfl):PE X (.Call (.Name x p) (e::es) [] pos) (LR sp [] E0 t):=
 Ka G hr hg D.m D.fn.kp D.b .nil Py ha hdb he hpl
theorem eE:bootBuiltins "len" = some (.builtin "len"):=by decide +kernel
theorem bI:bootBuiltins "isinstance" = some (.builtin "isinstance"):=by decide +kernel
theorem Cm:bootBuiltins "int" = some (.type "int"):=by decide +kernel
theorem sE:bootBuiltins "bool" = some (.type "bool"):=by decide +kernel
theorem pH:bootBuiltins "str" = some (.type "str"):=by decide +kernel
theorem bY:bootBuiltins "tuple" = some (.type "tuple"):=by decide +kernel
theorem rY:bootBuiltins "list" = some (.type "list"):=by decide +kernel
theorem Nj:bootBuiltins "abs" = some (.builtin "abs"):=by decide +kernel
theorem uQ:bootBuiltins "all" = some (.builtin "all"):=by decide +kernel
theorem sW:bootBuiltins "any" = some (.builtin "any"):=by decide +kernel
theorem GD:bootBuiltins "max" = some (.builtin "max"):=by decide +kernel
theorem Jj:bootBuiltins "min" = some (.builtin "min"):=by decide +kernel
def Pb(t u:TS):TS:=fun D σ H=>∃ M:St→Hp→Prop,t { D with nx:=M } σ H∧∀ σ' H',M σ' H'→u D σ' H'
theorem j8{X:Cx}{st:Stmt}{rest:List Stmt}{t u:TS}(h1:PS X st t)(h2:PSs X rest u):PSs X (st::rest) (Pb t u):=by
 intro pins s σ H D I h
 obtain ⟨M,h,hM⟩:=h
 refine wpAny_execs_cons (thn (h1 pins s σ H _ I h) fun f s1 q=>?_)
 cases f with
 | next=>
  obtain ⟨σ1,H1,I1,m1⟩:=q
  exact h2 pins s1 σ1 H1 D I1 (hM σ1 H1 m1)
 | brk=>exact q
 | cont=>exact q
 | ret u=>exact q
def Off(p:Addr)(H H':Hp):Prop:=∀ b o,b≠p→H b=some o→H' b=some o
theorem Off.refl(p:Addr)(H:Hp):Off p H H:=fun _ _ _ e=>e
theorem Off.trans{p:Addr}{H H1 H2:Hp}(a:Off p H H1)(b:Off p H1 H2):Off p H H2:=fun c o n e=>b c o n (a c o n e)
theorem Off.upd{p:Addr}{H:Hp}{o:HO}:Off p H (upd H p o):=fun c u n e=>by rw [au n]; exact e
theorem Off.new{p q:Addr}{H:Hp}{o:HO}(h:H q=none):Off p H (L2.upd H q o):=fun c u _ e=>by rw [au (aB e h)]; exact e
theorem Same.off{p:Addr}{H H':Hp}(h:Same H H'):Off p H H':=fun c u _ e=>h c u e
theorem Same.new{q:Addr}{H:Hp}{o:HO}(h:H q=none):Same H (upd H q o):=fun c u e=>by rw [au (aB e h)]; exact e
theorem yh{α:Type}{xs:List α}{i:Int}(h0:0≤i)(h1:i < xs.length):∃ v,atI xs i=some v∧v∈xs∧xs[i.toNat]?=some v:=by
 have h:i.toNat < xs.length:=by omega
 refine⟨xs[i.toNat],?_,cn h,ae h⟩
 have:=aG (xs:=xs) (j:=i.toNat) (v:=xs[i.toNat]) (ae h)
 rw [Int.toNat_of_nonneg h0] at this
 exact this
theorem Gu{ns:List Str}{i:Int}(h0:0≤i)(h1:i < ns.length):∃ x,atI (ns.map V.str) i=some (.str x)∧x∈ns∧ns[i.toNat]?=some x:=by
 obtain ⟨v,e,m,g⟩:=yh (xs:=ns.map V.str) h0 (by rw [aa]; exact h1)
 rw [bc] at g
 cases q:ns[i.toNat]? with
 | none=>rw [q] at g; cases g
 | some x=>
  rw [q] at g
  cases g
  exact⟨x,e,eJ q,rfl⟩
theorem Kz{as:List Str}{a b c:Int}:¬ HO.lst [.int a,.int b,.int c]=HO.lst (as.map V.str):=by
 intro h
 cases as with
 | nil=>cases h
 | cons x r=>
  injection h with h
  injection h with h
  cases h
theorem cB{x:Str}{ns:List Str}:inV (.str x) (ns.map V.str)=decide (x∈ns):=by
 unfold inV
 rw [List.any_map]
 apply fm.mpr
 rw [gL,i7]
 constructor
 ·rintro ⟨y,hy,e⟩
  have:(y == x)=true:=e
  rw [beq_iff_eq] at this
  rw [← this]
  exact hy
 ·intro h
  exact⟨x,h,by show (x == x)=true; simp⟩
theorem cH(ns:List Str):(ns.map V.str).all pZ=true:=by
 rw [n4,eQ]
 exact fun _ _=>rfl
theorem lu{X:Cx}{K:PySem.W.Frag}(h:X.K=K):OpR X (compareOp .In) (rIn K false):=by subst h; exact oF
theorem pG{X:Cx}{K:PySem.W.Frag}(h:X.K=K):OpR X (compareOp .NotIn) (rIn K true):=by subst h; exact jQ
theorem mz{X:Cx}{K:PySem.W.Frag}(h:X.K=K):IxR X (JZ K):=by subst h; exact cu
theorem bB{X:Cx}{K:PySem.W.Frag}(h:X.K=K):IxR X (J6 K):=by subst h; exact aX
theorem Ge{X:Cx}{K:PySem.W.Frag}(h:X.K=K):SlR X (JQ K):=by subst h; exact qL
theorem sX{X:Cx}{K:PySem.W.Frag}(h:X.K=K):SlR X (JV K):=by subst h; exact xO
theorem qN{X:Cx}{K:PySem.W.Frag}{es:List Expr}{k:Nat}{t:TGs}{n:Nat}{pos:Pos}(hk:X.K=K)(hc:X.calm=true)(h:PGs X es t)(hn:(assignEach es X.env).length=n:=by rfl)(hst:(assignEach es X.env).findIdx? (·.1)=none:=by rfl) :
  PG X (.Tuple es k pos) (Pj K n t):=by subst hk; exact uJ hc h hn hst
def okF(scope:Scope)(N0 N own:List Str)(fr:List Nat)(j:Nat):Bool:=match fr[j]? with
 | none=>false
 | some i=>match N[own.length+j]?,N0[i]? with
  | some x,some y=>(x == y) && (scope.names.lookup x == some .free)
  | _,_=>false
def CSc(scX:Scope)(N0:List Str)(scope:Scope)(own:List Str)(fr:List Nat)(N:List Str):Prop:=
 scope.kind=.function∧(scope.names.map (·.1)).Nodup∧(∀ y∈scope.names,y.2=.local→scope.names.lookup y.1=some .local)∧(∀ y∈scope.names,y.2=.free→scX.names.lookup y.1=some .cell∨scX.names.lookup y.1=some .free)∧
  N.length=own.length+fr.length∧(∀ j∈List.range fr.length,okF scope N0 N own fr j=true)∧N.take own.length=own
instance (scX:Scope) (N0:List Str) (scope:Scope) (own:List Str) (fr:List Nat) (N:List Str):Decidable (CSc scX N0 scope own fr N):=by
 unfold CSc
 infer_instance
theorem aL.of{X:Cx}{scope:Scope}(own:List Str)(fr:List Nat)(N:List Str)(scX:Scope)(N0:List Str)(hsc:X.env.scope=scX)(hN:X.N=N0)(h:CSc scX N0 scope own fr N):aL X scope own fr N where
 kind:=h.1
 nodup:=h.2.1
 names:=h.2.2.1
 free:=fun y hy e=>by
  show X.env.scope.names.lookup y.1=_∨X.env.scope.names.lookup y.1=_
  rw [hsc]
  exact h.2.2.2.1 y hy e
 len:=h.2.2.2.2.1
 Mt:=fun j i e=>by
  have hj:j < fr.length:=(bj.mp e).1
  have q:=h.2.2.2.2.2.1 j (gy.mpr hj)
  unfold okF at q
  rw [e] at q
  simp only at q
  cases e1:N[own.length+j]? with
  | none=>rw [e1] at q; simp at q
  | some x=>
   cases e2:N0[i]? with
   | none=>rw [e1,e2] at q; simp at q
   | some y=>
    rw [e1,e2] at q
    simp only [gT,beq_iff_eq] at q
    exact⟨x,rfl,by rw [hN,e2,q.1],q.2⟩
 frs:=fun j x e hj=>by
  rw [← h.2.2.2.2.2.2,ja hj]
  exact e
theorem jJ{env:Env}{scope:Scope}{x:Str}(h:scope.names.lookup x=some .cell):(relabel scope env).names.lookup x=some .cell:=by
 unfold relabel
 show List.lookup x (List.map _ _)=_
 rw [gY (scope:=scope),h]
 rfl
theorem aL.of2{X:Cx}{scope sc0:Scope}{e0:Env}(own:List Str)(fr:List Nat)(N:List Str)(N0:List Str)(hsc:X.env.scope=relabel sc0 e0)(hN:X.N=N0)(h:CSc sc0 N0 scope own fr N):aL X scope own fr N where
 kind:=h.1
 nodup:=h.2.1
 names:=h.2.2.1
 free:=fun y hy e=>by
  show X.env.scope.names.lookup y.1=_∨X.env.scope.names.lookup y.1=_
  rw [hsc]
  rcases h.2.2.2.1 y hy e with z | z
  ·exact .inl (jJ z)
  ·unfold relabel
   show List.lookup y.1 (List.map _ _)=_∨List.lookup y.1 (List.map _ _)=_
   rw [gY (scope:=sc0),z]
   simp only [ik]
   split
   ·exact .inl rfl
   ·exact .inr rfl
 len:=h.2.2.2.2.1
 Mt:=fun j i e=>by
  have hj:j < fr.length:=(bj.mp e).1
  have q:=h.2.2.2.2.2.1 j (gy.mpr hj)
  unfold okF at q
  rw [e] at q
  simp only at q
  cases e1:N[own.length+j]? with
  | none=>rw [e1] at q; simp at q
  | some x=>
   cases e2:N0[i]? with
   | none=>rw [e1,e2] at q; simp at q
   | some y=>
    rw [e1,e2] at q
    simp only [gT,beq_iff_eq] at q
    exact⟨x,rfl,by rw [hN,e2,q.1],q.2⟩
 frs:=fun j x e hj=>by
  rw [← h.2.2.2.2.2.2,ja hj]
  exact e
end L2
end
section
namespace L2
open PySem PySem.Spec PyProof.Rows
section
variable {X:Cx}{pins:List (Addr × Obj)}{σ:St}{H:Hp}{s:Shared}
abbrev Cx.suite(X:Cx)(ea:Addr):Cx:={ X with A:=X.A.mark (some (.ref ea)),calm:=false,xe:=fun _ _=>False }
end
def XP(X:Cx)(pins:List (Addr × Obj))(σ:St)(E:XK)(e:Value)(s':Shared):Prop:=∃ ea C H s H' B a0,e=.ref ea∧Inv X pins σ H s∧Pa X.prog X.w X.stack H s ea (.ref C) H' B a0 s'∧E (.ref C) none H'
structure Pr (k:Nat) (A:Around):Prop where
 dp:A.depth+3 * k+5 < recursionLimit
 un:A.units+16 * k+200 < cLine
structure Ra (P:Program) (w:World) (K:PySem.W.Frag) (mg:Str→Option Value) (base:Heap) (k:Nat) (f:Addr) (fd:FuncData) (ps:List Str) (sp:Sp):Prop where
 len:∀ vs H Q E,sp vs H Q E→vs.length=ps.length
 run:∀(A:Around) (outer:List Env) (s:Shared) (H:Hp) (args:Args) (us:List Value) (vs:List V) (Q:VK),Pr k A→Je P w K mg base A outer s H→BindsTo s fd args (ps.zip us)→Vals vs us→sp vs H Q E0→
  codeAny (model P w) A (.call (.ref f) args) (CR CX0 outer P w H s Q E0) s
def PB(_ j:Int):Prop:=0 < j∧j < 1606938044258990275541962092341162602522202993782792835301376
theorem Jl{X:Cx}:OpR X (binaryOp .FloorDiv) (rI PB fun i j=>.int (i / j)):=opI fun i j _ _ _ _ _ hc q=>by
 have h1:(0:Int) < j:=hc.1
 have h2:j < 1606938044258990275541962092341162602522202993782792835301376:=hc.2
 refine floordiv_int (by omega) (by rw [Int.fdiv_eq_ediv_of_nonneg i (by omega)]; exact q) (.inl (PyProof.noPylong_of_log2 ?_))
 have h3:j.natAbs≠0:=by omega
 have h4:j.natAbs < 2 ^ 200:=by
  have e:(2:Nat) ^ 200=1606938044258990275541962092341162602522202993782792835301376:=by decide +kernel
  rw [e]
  omega
 exact iP ((Nat.log2_lt h3).mpr h4) (by decide)
def Jq:R2:=fun x y H Q=>∃(a b:Addr) (ys:List V),x=.ref a∧y=.ref b∧H a=some (.tup [])∧H b=some (.tup ys)∧Q (.ref b) H
theorem za{X:Cx}:OpR X (binaryOp .Add) Jq:=by
 intro pins s σ H x y v u Q I rx ry h
 obtain ⟨a,b,ys,rfl,rfl,ha,hb,q⟩:=h
 cases rx
 cases ry
 obtain ⟨its,r,p⟩:=Bw I ha
 obtain ⟨its2,r2,p2⟩:=Bw I hb
 have e0:its=[]:=r.lB.mpr rfl
 subst e0
 obtain ⟨⟨cls,dd,data,sl⟩,ho,hc,n,hd⟩:=id p
 obtain ⟨⟨cls2,dd2,data2,sl2⟩,ho2,hc2,n2,hd2⟩:=id p2
 simp only at hc hd hc2 hd2
 subst hc hd hc2 hd2
 exact concat_meets ⟨_,ho,rfl⟩ ⟨_,ho2,rfl⟩ noFill_tuple_add seq_tuple_add mf lz (kS _ _) (tuple_addW0 a b [].toArray its2.toArray n n2 dd dd2 sl sl2 rfl) ⟨ho,ho2,⟨.ref b,H,I,rfl,q⟩⟩
theorem Gv{X:Cx}:OpR X (binaryOp .Add) (fun x y H Q=>Ls X.K x y H Q∨Jq x y H Q):=Dr.or za
end L2
end
section
namespace L2
open PySem PySem.Spec PyProof.Rows
section
variable {X:Cx}{pins:List (Addr × Obj)}{σ:St}{H:Hp}{s:Shared}{d:Addr}{u u':HO}
theorem Inv.swap(I:Inv X pins σ H s)(e:H d=some u)(h1:∀ xs,u≠.tup xs)(h2:∀ o v,X.H₀ d≠some (.frz o v))(h3:∀ ps,u≠.tbl ps)(h4:∀ y,u≠.own y)(new:cX X.prog X.w (upd H d u') s.heap d u'):Inv X pins σ (upd H d u') s:=by
 have nd:∀ b,H b=none→b≠d:=fun b h z=>by rw [z,e] at h; cases h
 refine⟨I.ok,I.os,I.bare,⟨I.base.keep,I.base.slot,fun b o q n nx=>?_,I.base.there,fun b xs q=>?_,fun b o v q=>?_,fun b ps q=>?_⟩,I.loc,I.cell,?_,fun x c q=>?_,fun p hp=>?_,fun b o q=>?_,I.len⟩
 ·have:=I.base.free b o q n nx
  rw [au (nd b this)]
  exact this
 ·have:=I.base.tups b xs q
  rw [au (fun z=>by rw [z,e] at this; exact h1 xs (dE this))]
  exact this
 ·have:=I.base.uo b o v q
  rw [au (fun z=>by rw [z] at q; exact h2 o v q)]
  exact this
 ·obtain ⟨more,this⟩:=I.base.yK b ps q
  exact⟨more,by rw [au (fun z=>by rw [z,e] at this; exact h3 _ (dE this))]; exact this⟩
 ·rw [au (nd _ I.free)]
  exact I.free
 ·rw [au (nd _ (I.lQ x c q))]
  exact I.lQ x c q
 ·obtain ⟨q1,q2,q3,q4,q5⟩:=I.pin p hp
  exact⟨q1,by rw [au (nd _ q2)]; exact q2,q3,q4,q5⟩
 ·by_cases hb:b=d
  ·subst hb
   rw [ak] at q
   cases q
   exact new
  ·rw [au hb] at q
   refine(I.hok b o q).stay (fun _ _ _ z=>z) (fun c z=>?_) fun c xs z=>?_
   ·rw [au (fun w=>by rw [w,e] at z; exact h4 _ (dE z))]
    exact z
   ·rw [au (fun w=>by rw [w,e] at z; exact h1 _ (dE z))]
    exact z
theorem GX{kvs:List (Key × V)}(I:Inv X pins σ H s)(e:H d=some (.dK kvs)):∀ o v,X.H₀ d≠some (.frz o v):=fun o v q=>by
 have:=I.base.uo d o v q
 rw [e] at this
 cases this
theorem Inv.freeze{kvs:List (Key × V)}(I:Inv X pins σ H s)(e:H d=some (.dK kvs)):∃ o,s.heap.get? d=some o∧Inv X pins σ (upd H d (.frz o (.dK kvs))) s:=by
 obtain ⟨o,ho⟩:=(I.hok d _ e).ex
 exact⟨o,ho,I.swap e (fun _ z=>nomatch z) (GX I e) (fun _ z=>nomatch z) (fun _ z=>nomatch z) ⟨ho,I.hok d _ e⟩⟩
theorem Inv.Qu{kvs:List (Key × V)}{o:Obj}(I:Inv X pins σ H s)(e:H d=some (.frz o (.dK kvs)))(h:∀ o v,X.H₀ d≠some (.frz o v)):Inv X pins σ (upd H d (.dK kvs)) s:=by
 refine I.swap e (fun _ z=>nomatch z) h (fun _ z=>nomatch z) (fun _ z=>nomatch z) ?_
 have q:cX X.prog X.w H s.heap d (.frz o (.dK kvs)):=I.hok d _ e
 exact q.2
end
def Itd(o:Obj)(d:Addr)(kvs:List (Key × V)):It:=
 ⟨fun i H=>H d=some (.frz o (.dK kvs))∧i < kvs.length,fun i H x H'=>H'=H∧∃ kv,kvs[i]?=some kv∧x=kV kv.1,fun i H=>H d=some (.frz o (.dK kvs))∧kvs.length≤i⟩
theorem tE{P:Program}{w:World}{k:Key}{v:Value}(h:(cG P w).is k v=true):RelV (kV k) v:=by
 rw [Bo] at h
 rcases d8 h with ⟨i,t,rfl,rfl⟩ | ⟨x,t,rfl,rfl⟩
 ·exact⟨t,rfl⟩
 ·exact⟨t,rfl⟩
theorem fV{α β:Type}{F:α→β→Prop}:∀ {l₁:List α} {l₂:List β},Paired F l₁ l₂→∀(i:Nat) (h1:i < l₁.length) (h2:i < l₂.length),F l₁[i] l₂[i]
 | _,_,.nil,i,h1,_=>by simp at h1
 | _,_,.cons r t,0,_,_=>r
 | _,_,.cons r t,i+1,h1,h2=>fV t i (by simpa using h1) (by simpa using h2)
theorem xq{P:Program}{w:World}{K:PySem.W.Frag}{tg:Expr}{o:Obj}{es:Array DictEntry}{ep:Nat}(hd:o.data=.dict es ep)(d it:Addr)(kvs:List (Key × V)):Turn P w K tg (Itd o d kvs) [it] it (fun i h=>h.IsKeyIter it d i kvs.length ep) where
 mem:=by simp
 obj:=fun i h st b hb=>by
  have e:b=it:=by simpa using hb
  subst e
  obtain ⟨o,e,c,d⟩:=st
  exact⟨o,e,fun v z=>by rw [d] at z; cases z⟩
 keep:=fun i h h' st k=>st.at fun o e=>k it (by simp) o e
 item:=by
  intro X hP hw hK hc i pins s σ H E I hf st hg
  subst hP hw hK
  obtain ⟨hq,hi⟩:=hg
  obtain ⟨ho,hz,hs,vs,rv,od,es',ep',ho',r1,r2,r3⟩:=(show cX X.prog X.w H s.heap d (.frz o (.dK kvs)) from I.hok d _ hq)
  rw [ho] at ho'
  cases ho'
  rw [hd] at r2
  cases r2
  have hl:vs.length=kvs.length:=(cS rv).symm
  have hm:s.heap.DictAt (cG X.prog X.w) d vs ep:=⟨_,_,ho,r1,hd,r3⟩
  obtain ⟨f0,f1,f2,f3,f4,f5⟩:=hf it (by simp)
  have hv:vs[i]?=some ((vs[i]'(by omega)).1,(vs[i]'(by omega)).2):=ae (by omega)
  have hk:(kvs[i]).1=(vs[i]'(by omega)).1:=(fV rv i hi (by omega)).1
  rw [← hl] at st
  refine wpAny_pyNext_dict_item st hm hv fun key h' hkey st' sb=>?_
  have I1:Inv X pins σ H { s with heap:=h' }:=I.turned (t':=s.toks) (fun b o hb e=>(sb.2 b hb).trans e) f0 f1 f3 f4 f5
  obtain ⟨oi,ei,ci,di⟩:=id st'
  refine⟨key,rfl,yN ei ci di (by decide) ⟨kV (kvs[i]).1,H,I1,by rw [hk]; exact tE hkey,⟨rfl,kvs[i],ae hi,rfl⟩,by rw [← hl]; exact st',fun b hb=>by
   have e:b=it:=by simpa using hb
   rw [e]; exact f0⟩⟩
 done:=by
  intro X hP hw hK hc i pins s σ H E I hf st hg
  subst hP hw hK
  obtain ⟨hq,hi⟩:=hg
  obtain ⟨ho,hz,hs,vs,rv,od,es',ep',ho',r1,r2,r3⟩:=(show cX X.prog X.w H s.heap d (.frz o (.dK kvs)) from I.hok d _ hq)
  rw [ho] at ho'
  cases ho'
  rw [hd] at r2
  cases r2
  have hl:vs.length=kvs.length:=(cS rv).symm
  have hm:s.heap.DictAt (cG X.prog X.w) d vs ep:=⟨_,_,ho,r1,hd,r3⟩
  obtain ⟨f0,f1,f2,f3,f4,f5⟩:=hf it (by simp)
  rw [← hl] at st
  exact wpAny_pyNext_dict_end (I.ok.hd hc) st hm (List.getElem?_eq_none (by omega)) fun h' eb=>⟨rfl,I.turned (t':=s.toks) (fun b o hb e=>eb b o hb e) f0 f1 f3 f4 f5⟩
 self:=fun _ _ _ _ _ st h=>wpAny_pyIter_keyiter st h
section
variable {X:Cx}
theorem wM{pins:List (Addr × Obj)}{σ:St}{H:Hp}{s:Shared}{d:Addr}{kvs:List (Key × V)}{tg:Expr}{R:It→Hp→Prop}{E:Value→Shared→Prop}(I:Inv X pins σ H s)(hd:H d=some (.dK kvs))(h:∀ o,R (Itd o d kvs) (upd H d (.frz o (.dK kvs)))) :
  wpAny (model X.prog X.w) X.A (pyIter (.ref d)) (PIE X pins σ tg R) E s:=by
 obtain ⟨o,ho,I1⟩:=I.freeze hd
 obtain ⟨hz,hs,vs,rv,od,es,ep,ho',r1,r2,r3⟩:=(show cX X.prog X.w H s.heap d (.dK kvs) from I.hok d _ hd)
 rw [ho] at ho'
 cases ho'
 have hl:vs.length=kvs.length:=(cS rv).symm
 refine wpAny_pyIter_dict (knd:=cG X.prog X.w) (kvs:=vs) (ep:=ep) hs ⟨_,_,ho,r1,r2,r3⟩ ?_
 have I2:=I1.kept (t':=s.toks) (h':=s.heap.push { cls:=.type "dict_keyiterator",data:=.fields #[.ref d,.int 0 0,.int vs.length 0,.int ep 0] }) fun b o e=>ar _ e
 refine⟨s.heap.objs.size,[s.heap.objs.size],_,_,_,rfl,I2,xq r2 d s.heap.objs.size kvs,?_,fun b hb=>?_,h o⟩
 ·exact⟨_,bn _ rfl,rfl,by rw [hl]; rfl⟩
 ·have e:b=s.heap.objs.size:=by simpa using hb
  subst e
  exact I1.lK (am _) (I1.hok.fresh (am _))
def M6(own:Nat)(fr:List Nat)(tl:TE)(g:TG)(tc:TT)(te:TE):TE:=fun σ H Q=>tl σ H fun x H1=>∃(d:Addr) (kvs:List (Key × V)),x=.ref d∧H1 d=some (.dK kvs)∧
 ∀ o D,(upd H1 d (.frz o (.dK kvs))) D=none→qK own fr g tc te σ (fun v H2=>H2 d=some (.frz o (.dK kvs))∧Q v (upd H2 d (.dK kvs))) (Itd o d kvs) D (upd (upd H1 d (.frz o (.dK kvs))) D (.lst []))
theorem Jo{scope:Scope}{own N:List Str}{fr:List Nat}{tg elt iter:Expr}{ifs:List Expr}{g:TG}{tc:TT}{te tl:TE}{pos:Pos}(hc:X.calm=true)(S:aL X scope own fr N)(CP:oG X scope N tg elt ifs g tc te)(hi:PE X iter tl)(hs:∀ x,foldedSetIterable iter X.env x=pure x:=by intro _; rfl) :
  PE X (.ListComp elt [⟨tg,iter,ifs,0⟩] scope pos) (M6 own.length fr tl g tc te):=by
 intro pins s σ H Q I h
 rw [eval_ListComp]
 refine kX (use:=none) (g:=⟨tg,iter,ifs,0⟩) (gs:=[]) rfl hs (pJ (S.clo I.ok)) S.kind S.names (thn (hi pins s σ H _ I h) fun v s1 ⟨x,H1,I1,r,d,kvs,e,hd,q⟩=>?_)
 subst e
 cases r
 have nf:=GX I1 hd
 refine thn (wM (tg:=tg) (R:=fun J H2=>∀ D,H2 D=none→qK own.length fr g tc te σ (fun v H3=>∃ o,H3 d=some (.frz o (.dK kvs))∧Q v (upd H3 d (.dK kvs))) J D (upd H2 D (.lst []))) I1 hd fun o D hD=>?_) fun itv s2 h2=>?_
 ·obtain ⟨W,h1,h2⟩:=q o D hD
  refine⟨W,h1,fun i m ys H3 w=>?_⟩
  rcases h2 i m ys H3 w with ⟨a,b⟩ | z
  ·exact .inl ⟨a,o,b⟩
  ·exact .inr z
 ·obtain ⟨it,fp,tn,J,H2,e,I2,T,st2,f2,hw⟩:=h2
  subst e
  exact ug (RR:=fun acc C=>compPost (model X.prog X.w) X.A X.xe none (EP X pins σ Q) acc C) hc S CP I2 T st2 f2 hw fun D C s' H' m I' fC hn ⟨o,q1,q2⟩=>
   ⟨m,hn,fun h' hb=>⟨.ref D,_,(I'.turned (t':=s'.toks) (fun b o hne e=>hb.extBut b o hne e) fC.1 fC.2.1 fC.2.2.2.1 fC.2.2.2.2.1 fC.2.2.2.2.2).Qu q1 nf,rfl,q2⟩⟩
theorem qw(hc:X.calm=true):gn X (.builtin "any") (fun xs H Q=>∃(p:Addr) (bs:List Bool),xs=[.ref p]∧SqL X.K H p (bs.map V.bl)∧Q (.bl (bs.any id)) H):=by
 intro pins s σ H xs us Q I r h
 obtain ⟨p,bs,rfl,hq,q⟩:=h
 obtain ⟨u,rfl,ru⟩:=vals1 r
 cases ru
 obtain ⟨its,rv,pl,hz⟩:=I.list hq
 have hl:=rv.length
 rw [aa] at hl
 refine call_any_walk (iN pl.isList ?_)
 have plt:p < s.heap.objs.size:=by obtain ⟨o,e,_⟩:=pl.isList; exact cr e
 refine⟨s.heap.objs.size,_,_,_,_,_,fun i=>bs.getD i false,rfl,Walks.list (A:=X.A.in1) (I.ok.hd hc) s.heap.objs.size p (dc plt) its.toArray,⟨⟨_,bn _ rfl,rfl,rfl⟩,pl.isList.push _⟩,fun i v s' Q' E' hv hQ=>?_,fun h' tk kk=>?_⟩
 ·have hi:i < bs.length:=by
   have:=(Array.getElem?_eq_some_iff.mp hv).1
   rw [bo] at this
   omega
  obtain ⟨u,hu,ru⟩:=rv.get (i:=i) (x:=V.bl bs[i]) (by simp [hi])
  have hv':its[i]?=some v:=by simpa using hv
  rw [hv'] at hu
  cases hu
  cases ru
  refine fR ?_
  simpa [hi] using hQ
 ·have ee:((List.range its.toArray.size).any fun i=>bs.getD i false)=bs.any id:=by
   rw [bo,← hl]
   apply fm.mpr
   rw [gL,gL]
   constructor
   ·rintro ⟨i,hi,h⟩
    have hi':=gy.mp hi
    exact⟨bs[i],cn hi',by simpa [hi'] using h⟩
   ·rintro ⟨b,hb,h⟩
    obtain ⟨i,hi,rfl⟩:=fc hb
    exact⟨i,gy.mpr hi,by simpa [hi] using h⟩
  rw [ee]
  have I1:Inv X pins σ H { s with heap:=s.heap.push { cls:=.type "list_iterator",data:=.fields #[.ref p,.int 0 0] } }:=I.kept (t':=s.toks) fun b o e=>ar _ e
  refine⟨.bl _,H,I1.turned (t':=tk) (it:=s.heap.objs.size) (fun b o hb e=>kk b o (by simpa using hb) e) (I.hok.fresh (am _)) (fe I.lt) (.inr I.sz) ?_ ?_,rfl,q⟩
  ·exact(I.lK (am _) (I.hok.fresh (am _))).2.2.2.2.1
  ·exact(I.lK (am _) (I.hok.fresh (am _))).2.2.2.2.2
end
def Ite(K:PySem.W.Frag)(a:Addr):It:=
 ⟨fun i H=>∃ xs x,SqL K H a xs∧xs[i]?=some x,fun i H v H'=>∃ p,H p=none∧v=.ref p∧∀ xs x,SqL K H a xs→xs[i]?=some x→H'=upd H p (.tup [.int i,x]),fun i H=>∃ xs,SqL K H a xs∧xs.length≤i⟩
theorem wV{P:Program}{w:World}{K:PySem.W.Frag}{elts:List Expr}{x1:Nat}{tpos:Pos}{e it l:Addr}(hne:e≠it):Turn P w K (.Tuple elts x1 tpos) (Ite K l) [e,it] e
  (fun i h=>(∃ old,IsEnum h e it i old)∧h.IsListIter it l i) where
 mem:=by simp
 obj:=fun i h st b hb=>by
  obtain ⟨⟨old,he⟩,o,ei,c,d⟩:=st
  simp only [bu,dL,gN] at hb
  rcases hb with rfl | rfl
  ·exact⟨_,he,fun v q=>nomatch q⟩
  ·exact⟨o,ei,fun v z=>by rw [d] at z; cases z⟩
 keep:=fun i h h' st k=>by
  obtain ⟨⟨old,he⟩,o,ei,r⟩:=st
  exact⟨⟨old,k e (by simp) _ he⟩,o,k it (by simp) _ ei,r⟩
 item:=by
  intro X hP hw hK hc i pins s σ H E I hf st hg
  subst hP hw hK
  obtain ⟨xs,x,hq,hx⟩:=hg
  obtain ⟨its,rv,p,hz⟩:=I.list hq
  obtain ⟨u,hu,ru⟩:=rv.get hx
  obtain ⟨⟨old,he⟩,hit⟩:=st
  refine wpAny_pyNext_enum_item he hit p.isList (x:=u) (by simpa using hu) hne fun h' a1 a2 a3 a4 a5=>?_
  refine⟨_,rfl,wpAny_letOwnedTupleGo_enum a1 fun h2' a1' q'=>?_⟩
  have hn:H s.heap.objs.size=none:=I.hok.fresh (am _)
  have elt:e < s.heap.objs.size:=cr he
  have ilt:it < s.heap.objs.size:=by obtain ⟨_,e,_⟩:=hit; exact cr e
  have kk:∀ b ob,b ∉ [e,it]→s.heap.get? b=some ob→h2'.get? b=some ob:=fun b ob hb ee=>by
   simp only [bu,dL,gN,oC] at hb
   exact q'.extBut _ _ hb.1 (a5 b ob hb.1 hb.2 ee)
  have I1:Inv X pins σ (upd H s.heap.objs.size (.tup [.int i,x])) { s with heap:=h2',toks:=s.toks+1 }:=I.uF (t':=s.toks+1) hf kk (am _)
   ⟨⟨by show 2≤sizeLine; decide,fun o ee=>by rw [q'.extBut _ _ (fe elt) a3] at ee; cases ee; rfl⟩,[.int i s.toks,u],.cons ⟨_,rfl⟩ (.cons ru .nil),⟨_,q'.extBut _ _ (fe elt) a3,rfl,_,rfl⟩⟩
  refine⟨.ref s.heap.objs.size,_,I1,rfl,⟨_,hn,rfl,fun xs' x' k1 k3=>?_⟩,⟨⟨_,by simpa using a1'⟩,a2.extBut q'.extBut hne.symm⟩,fun b hb=>?_⟩
  ·rw [I.zP k1 hq,hx] at k3
   cases k3
   rfl
  ·have hb':=hb
   simp only [bu,dL,gN] at hb'
   have hlt:b < s.heap.objs.size:=by
    rcases hb' with rfl | rfl
    ·exact elt
    ·exact ilt
   rw [au (dc hlt)]
   exact(hf b hb).1
 done:=by
  intro X hP hw hK hc i pins s σ H E I hf st hg
  subst hP hw hK
  obtain ⟨xs,hq,hx⟩:=hg
  obtain ⟨its,rv,p,hz⟩:=I.list hq
  obtain ⟨⟨old,he⟩,hit⟩:=st
  have hl:=rv.length
  refine wpAny_pyNext_enum_end (I.ok.hd hc) he hit p.isList (by simp; omega) fun h' eb=>⟨rfl,I.rW (t':=s.toks) hf fun b u hb q=>?_⟩
  simp only [bu,dL,gN,oC] at hb
  exact eb b u hb.2 q
 self:=fun _ _ _ _ _ st h=>by
  obtain ⟨⟨old,he⟩,_⟩:=st
  exact kB he h
section
variable {X:Cx}
def O9(K:PySem.W.Frag)(ta:TA):TI:=fun σ H R=>ta σ H fun vs H1=>∃ a xs,vs=[.ref a]∧SqL K H1 a xs∧R (Ite K a) H1
theorem xP{elts:List Expr}{x1:Nat}{tpos:Pos}{a:Expr}{ta:TA}{p pos:Pos}(hg:Gl X "enumerate")(hm:X.mg "enumerate" = none)(ha:PA X [a] ta)
  (he:starEach [a] X.env=(false,eval a X.env)::starEach [] X.env:=by rfl) (hpl:(backTo pos (starEach [] X.env)).any (·.1)=false:=by rfl):PI X (.Tuple elts x1 tpos) (.Call (.Name "enumerate" p) [a] [] pos) (O9 X.K ta):=by
 intro pins s σ H R I h
 have boot_enum:bootBuiltins "enumerate" = some (.type "enumerate"):=by decide +kernel
 refine i5 (pN I hg hm boot_enum ?_)
 refine ie (thn (ha pos pins s σ H _ I h) fun us s1 ⟨vs,H1,I1,r1,t1,xs,e,q1,q⟩=>?_) he hpl
 subst e
 obtain ⟨u,rfl,ru⟩:=vals1 r1
 cases ru
 obtain ⟨its,rv,p1,hz1⟩:=I1.list q1
 refine call_enumerate_list p1.isList fun h' hE hI hsz hk=>?_
 refine kB hE ?_
 have I2:Inv X pins σ H1 { s1 with heap:=h' }:=I1.kept (t':=s1.toks) hk
 have hne:s1.heap.objs.size+1≠s1.heap.objs.size:=by change @Ne Nat _ _; omega
 refine⟨s1.heap.objs.size+1,[s1.heap.objs.size+1,s1.heap.objs.size],_,Ite X.K t1,H1,rfl,I2,wV hne,⟨⟨_,hE⟩,hI⟩,fun b hb=>?_,q⟩
 have hle:s1.heap.objs.size≤b:=by
  simp only [bu,dL,gN] at hb
  rcases hb with h | h <;> rw [h] <;> first | exact am _ | exact i4 _ _
 exact I1.lK hle (I1.hok.fresh hle)
end
theorem oE:entryFor table "dict.update.loop" = some Builtin.«dict.update.loop»:=entryFor_of_fast (by kernel_rfl)
theorem jf:plainId "dict.update.loop" = true:=by decide +kernel
theorem Ac:typeLookup (.type "tuple") "keys" = pure none:=by rw [typeLookup_type,builtinLookup_eq_fast]; kernel_rfl
section
variable {prog:Program}{w:World}{A:Around}{E:Value→Shared→Prop}{s:Shared}
theorem FQ{a:Addr}{o:Obj}{xs:Array Value}{k:Nat}{Q:Option Value→Shared→Prop}(hx:s.heap.get? a=some o)(hc:o.cls=.type "tuple")(hdat:o.data=.seq xs k)(hd:o.dict=none)(hA:A.handled=none)
  (h:∀ h' tk,(∀ b o,s.heap.get? b=some o→h'.get? b=some o)→Q none { s with heap:=h',toks:=tk }):wpAny (model prog w) A (getAttr? (.ref a) "keys") Q E s:=by
 obtain ⟨c,dct,dat,sl⟩:=o
 simp only at hc hdat hd
 subst hc hdat hd
 obtain ⟨hp,g,d,tk,os⟩:=s
 have hT:∀ tk',(⟨hp,g,d,tk',os⟩:Shared).TypeIs (.ref a) "tuple" := fun _=>⟨_,hx,rfl⟩
 have f1:=sub_AttributeError
 have f3:=kN.lookup
 have f4:=kN.bind (.ref a)
 have f5:=am_tuple_getattr_none
 have hm:=Ac
 unfold getAttr? getAttrBy? getAttrBy
 repeat (any_goals (first | assumption | exact hT _ | ((with_reducible show wpAny _ _ (call (Value.builtin "tuple.__getattribute__") _ _) _ _ _); refine call_meets kN (hT _) am_entry_tuple_getattribute (F.args_tuple_getattribute_2 _ _) (meets_getattribute_miss_tuple a xs k sl "keys" _ hm (by decide +kernel)) ⟨hx,hA,fun h' tk' e hx'=>?_⟩) | wp_step))
 have kk:=hx'.keeps
 obtain ⟨t',u',he⟩:=hx'.there
 show wpAny _ _ (getattributeRaised _ _ _ _ _ _ _) _ _ _
 unfold getattributeRaised
 repeat (any_goals (first | assumption | wp_step))
 all_goals exact h _ _ kk
end
end L2
end
section
namespace L2
open PySem PySem.Spec PyProof.Rows
section
variable {X:Cx}{pins:List (Addr × Obj)}{σ:St}{A:Around}
def qg(H:Hp)(xs:List V)(kvs:List (Key × V)):Prop:=xs.length=kvs.length∧∀(i:Nat) (kv:Key × V),kvs[i]?=some kv→∃ p,xs[i]?=some (.ref p)∧H p=some (.tup [kV kv.1,kv.2])
theorem Li{H:Hp}{s:Shared}{d:Addr}{kvs:List (Key × V)}{k:Key}{v:V}{u r:Value}{E:Value→Shared→Prop}{Q:Unit→Shared→Prop}(I:Inv X pins σ H s)(e:H d=some (.dK kvs))(l:kvs.length < sizeLine)(ry:RelV (kV k) u)(rv:RelV v r)
  (h:∀ h',Heap.SameBut d s.heap h'→Inv X pins σ (upd H d (.dK (putK kvs k v))) { s with heap:=h',toks:=s.toks+1 }→Q () { s with heap:=h',toks:=s.toks+1 }):wpAny (model X.prog X.w) A (dictSet d u r) Q E s:=by
 obtain ⟨z,hd,vs,rel,dd⟩:=Lp I.hok e
 have hz:vs.length≤sizeLine:=by rw [← rel.length]; exact z
 have hl:(putK kvs k v).length≤sizeLine:=by have:=gB kvs k v; omega
 refine wpAny_dictSet_pairs (hsz:=hz) (wO ry) dd fun h' dd' hs=>h _ hs ?_
 have he:∃ q,h'.get? d=some q:=let ⟨q,_,_,hq,_⟩:=dd'; ⟨q,hq⟩
 exact yd (t':=s.toks+1) I (by rw [e]; exact True.intro) hs he (G5 hl hd (rel.put k rv) dd')
theorem rN(kvs:List (Key × V))(kv:Key × V):dN [] (kvs++[kv])=putK (dN [] kvs) kv.1 kv.2:=by
 unfold dN
 rw [List.foldl_append]
 rfl
theorem KZ{H:Hp}{a d it:Addr}{xs:List V}{kvs:List (Key × V)}{R:Result→Shared→Prop}(hh:A.handled=none)(ha:H a=some (.tup xs))(hp:qg H xs kvs)(hn:kvs.length≤1000)(hd:H d=none)(hid:it≠d)(hia:it≠a)
  (hR:∀ s',Inv X pins σ (upd H d (.dK (dN [] kvs))) s'→R (.ok (.ret .none)) s') :
  ∀(k i:Nat) (s:Shared),kvs.length - i=k→i≤kvs.length→Inv X pins σ (upd H d (.dK (dN [] (kvs.take i)))) s→s.heap.IsTupleIter it a i→(∀ H':Hp,H' it=none→nG X pins H' it)→H it=none→
   codeAny (model X.prog X.w) A (.builtin "dict.update.loop" ⟨[.ref d,.ref it,rawInt i,.none],[]⟩) R s:=by
 intro k
 have had:a≠d:=aB ha hd
 have hz:sizeLine=16777216:=cK
 induction k with
 | zero=>
  intro i s hk hi I hit hf hi0
  have hin:i=kvs.length:=by omega
  have ha':(upd H d (.dK (dN [] (kvs.take i)))) a=some (.tup xs):=by rw [au had]; exact ha
  obtain ⟨its,rv,p,_⟩:=I.tuple (SqT.of ha')
  have hit0:(upd H d (.dK (dN [] (kvs.take i)))) it=none:=by rw [au hid]; exact hi0
  obtain ⟨f0,f1,f2,f3,f4,f5⟩:=hf _ hit0
  refine gI oE ?_
  rw [fS jf _]
  show wpAny _ A.in1 (pyNext (.ref it) >>= _) _ _ s
  refine ac (lT hh hit (show s.heap.IsTuple a its.toArray from p) (by have:=rv.length; have:=hp.1; simp; omega) fun h' eb=>?_)
  refine ac (aI (aI ?_))
  have I1:=I.turned (t':=s.toks) (fun b o hb e=>eb b o hb e) f0 f1 f3 f4 f5
  rw [hin,av (am _)] at I1
  exact hR _ I1
 | succ k ih=>
  intro i s hk hi I hit hf hi0
  have hlt:i < kvs.length:=by omega
  have ha':(upd H d (.dK (dN [] (kvs.take i)))) a=some (.tup xs):=by rw [au had]; exact ha
  obtain ⟨its,rv,p,_⟩:=I.tuple (SqT.of ha')
  have hit0:(upd H d (.dK (dN [] (kvs.take i)))) it=none:=by rw [au hid]; exact hi0
  obtain ⟨f0,f1,f2,f3,f4,f5⟩:=hf _ hit0
  obtain ⟨pr,ex,hpr⟩:=hp.2 i kvs[i] (ae hlt)
  obtain ⟨u,hu,ru⟩:=rv.get ex
  cases ru
  refine gI oE ?_
  rw [fS jf _]
  show wpAny _ A.in1 (pyNext (.ref it) >>= _) _ _ s
  refine ac (ly hit (show s.heap.IsTuple a its.toArray from p) (x:=.ref pr) (by simpa using hu) fun h' hit' sb=>?_)
  have I1:=I.turned (t':=s.toks) (fun b o hb e=>sb.extBut b o hb e) f0 f1 f3 f4 f5
  have hpd:pr≠d:=aB hpr hd
  obtain ⟨jts,rj,⟨oj,gj,cj,nj,dj⟩,_⟩:=I1.tuple (SqT.of (show (upd H d (.dK (dN [] (kvs.take i)))) pr=some (.tup [kV kvs[i].1,kvs[i].2]) by rw [au hpd]; exact hpr))
  obtain ⟨v1,v2,rfl,r1,r2⟩:=rj.two
  have hT:({ s with heap:=h' }:Shared).TypeIs (.ref pr) "tuple" := ⟨oj,gj,cj⟩
  refine ac (fk ?_)
  refine ac (wpAny_tryCatch ?_)
  unfold Builtin.Dict.pairItems
  refine ac (wpAny_typeOf hT ?_)
  rw [ck (by decide)]
  refine ac (hU gj dj (aI ?_))
  show wpAny _ _ (holding [v1,v2] (dictSet d v1 v2)) _ _ _
  refine fk (Li I1 ak ?_ r1 r2 fun h2 sb2 I2=>?_)
  ·have:=lH (kvs.take i) []
   rw [br,nE] at this
   omega
  rw [bO] at I2
  have et:kvs.take (i+1)=kvs.take i++[kvs[i]]:=by
   rw [ii,ae hlt]
   rfl
  rw [← rN,← et] at I2
  refine aI ⟨iS jf _,?_⟩
  exact ih (i+1) _ (by omega) hlt I2 (hit'.extBut sb2.extBut hid) hf hi0
end
end L2
end
section
namespace L2
open PySem PySem.Spec PyProof.Rows
section
variable {X:Cx}
theorem tV(hc:X.calm=true):gn X (.type "dict") (fun xs H Q=>∃ a ps kvs,xs=[.ref a]∧H a=some (.tup ps)∧qg H ps kvs∧kvs.length≤1000∧∀ d,H d=none→Q (.ref d) (upd H d (.dK (dN [] kvs)))):=by
 intro pins s σ H xs us Q I r h
 obtain ⟨a,ps,kvs,rfl,ha,hp,hn,q⟩:=h
 obtain ⟨u,rfl,ru⟩:=vals1 r
 cases ru
 have hh:X.A.handled=none:=I.ok.hd hc
 refine callType_codes (Q₁:=fun obj s₁=>obj=.ref s.heap.objs.size∧s₁={ s with heap:=s.heap.push { cls:=.type "dict",data:=.dict #[] } }) F.kt_called_dict (F.kt_typeCall_dict_1 _) F.entry_dict_init (kt_code_dict_new _ ⟨rfl,rfl⟩) ?_
 rintro obj s₁ ⟨rfl,rfl⟩
 have hd:H s.heap.objs.size=none:=I.hok.fresh (am _)
 have I1:Inv X pins σ (upd H s.heap.objs.size (.dK [])) { s with heap:=s.heap.push { cls:=.type "dict",data:=.dict #[] } }:=
  I.laid (t':=s.toks) (fun b o e=>ar _ e) (am _) (tM s.heap (eA I.big (am _)))
 have had:a≠s.heap.objs.size:=aB ha hd
 have ha1:(upd H s.heap.objs.size (.dK [])) a=some (.tup ps):=by rw [au had]; exact ha
 obtain ⟨⟨_,nd⟩,its,rv,o,go,co,n,dto⟩:=I1.hok a _ ha1
 have hnew:(s.heap.push { cls:=.type "dict",data:=.dict #[] }).DictOf (cG X.prog X.w) s.heap.objs.size []:=Heap.DictOf.new s.heap
 refine⟨hnew.typeIs,F.args_dict_init_2 _ _,?_⟩
 unfold Builtin.«dict.__init__»
 refine ac ?_
 unfold Builtin.Dict.selfAndRest
 refine ac (wpAny_notOrdered_dict hnew.typeIs ?_)
 show wpAny _ _ (pure (s.heap.objs.size,[Value.ref a])) _ _ _
 refine aI ?_
 show wpAny _ _ (Builtin.Dict.updateFrom "dict.__init__" s.heap.objs.size (.ref a) [] .none) _ _ _
 unfold Builtin.Dict.updateFrom
 have hT:({ s with heap:=s.heap.push { cls:=.type "dict",data:=.dict #[] } }:Shared).TypeIs (.ref a) "tuple" := ⟨o,go,co⟩
 refine ac (wpAny_typeOf hT ?_)
 rw [ck (by decide)]
 refine ac (FQ go co dto (nd o go) hh fun h2 tk2 k2=>?_)
 rw [ck (by rfl)]
 have I2:=I1.kept (t':=tk2) k2
 refine ac (kn ?_)
 refine ac (wpAny_pyIter_tuple (show Heap.IsTuple h2 a its.toArray from ⟨o,k2 a o go,co,n,dto⟩) ?_)
 have I3:=I2.kept (t':=tk2) (h':=h2.push { cls:=.type "tuple_iterator",data:=.fields #[.ref a,.int 0 0] }) fun b o e=>ar _ e
 have hle:s.heap.objs.size < h2.objs.size:=by
  obtain ⟨o',e'⟩:∃ o',(s.heap.push { cls:=.type "dict",data:=.dict #[] }).get? s.heap.objs.size=some o':=⟨_,bn _ rfl⟩
  exact cr (k2 _ _ e')
 have hif:(upd H s.heap.objs.size (.dK [])) h2.objs.size=none:=I2.hok.fresh (am _)
 refine aI ⟨iS jf _,?_⟩
 have al:a < h2.objs.size:=cr (k2 a o go)
 have hi0:H h2.objs.size=none:=by rw [au (fe hle)] at hif; exact hif
 refine KZ (A:=X.A.in1) (H:=H) (a:=a) (d:=s.heap.objs.size) (it:=h2.objs.size) (xs:=ps) (kvs:=kvs) hh ha hp hn hd (fe hle) (fe al) (fun s' I'=>?_) kvs.length 0 _ (by simp) (dq _) I3 ⟨_,bn _ rfl,rfl,rfl⟩ (fun H' hH'=>?_) hi0
 ·exact⟨rfl,⟨.ref s.heap.objs.size,_,I',rfl,q _ hd⟩⟩
 ·obtain ⟨g1,g2⟩:=I2.lK (am _) hif
  exact⟨hH',g2⟩
end
end L2
end
section
namespace L2
open PySem PySem.Spec PyProof.Rows
section
variable {X:Cx}
theorem Bk(hc:X.calm=true):gn X (.type "list") (fun xs H Q=>∃ d kvs,xs=[.ref d]∧Rd H d (.dK kvs)∧∀ l,H l=none→Q (.ref l) (upd H l (.lst (kvs.map fun kv=>kV kv.1)))):=by
 intro pins s σ H xs us Q I r h
 obtain ⟨d,kvs,rfl,hd,q⟩:=h
 obtain ⟨u,rfl,ru⟩:=vals1 r
 cases ru
 have hh:X.A.handled=none:=I.ok.hd hc
 obtain ⟨hz,hs,vs,rv,od,es,ep,ho,r1,r2,r3⟩:=(show cX X.prog X.w H s.heap d (.dK kvs) from hd.ok I.hok)
 have hl:vs.length=kvs.length:=(cS rv).symm
 refine PySem.W.kdl_call (PySem.W.kdl_dict (knd:=cG X.prog X.w) (kvs:=vs) (ep:=ep) hs) hh ⟨_,_,ho,r1,r2,r3⟩ (by omega) fun h' tk acc c kp e it=>?_
 obtain ⟨i1,i2⟩:=it
 refine⟨.ref s.heap.objs.size,_,I.laid (o:=.lst (kvs.map fun kv=>kV kv.1)) kp (am _) ⟨by rw [aa]; exact hz,acc.toList,c,?_,by simpa using e⟩,rfl,q _ (I.hok.fresh (am _))⟩
 have key:∀(ks:List (Key × V)) (ws:List (Key × Value)) (us:List Value),KV ks ws→us.length=ws.length→(∀(j:Nat) (v:Value),us[j]?=some v→∃ k x,ws[j]?=some (k,x)∧(cG X.prog X.w).is k v=true)→Vals (ks.map fun kv=>kV kv.1) us:=by
  intro ks ws us rr
  induction rr generalizing us with
  | nil=>
   intro hl _
   cases us with
   | nil=>exact .nil
   | cons _ _=>cases hl
  | @cons p w' ks ws r t ih=>
   intro hl hi
   cases us with
   | nil=>cases hl
   | cons u us=>
    obtain ⟨k,x,e1,e2⟩:=hi 0 u rfl
    cases e1
    refine .cons (by show RelV (kV p.1) u; rw [r.1]; exact tE e2) (ih us (by simpa using hl) fun j v e=>?_)
    exact hi (j+1) v e
 exact key kvs vs acc.toList rv (by rw [eI]; exact i1) fun j v e=>i2 j v (by simpa using e)
theorem K6(l:Addr)(items:Array Value)(n:Nat)(b:Addr)(items2:Array Value)(n2:Nat)(dd:Option Addr)(sl:Array (Option Value))(hs0:¬(!items.isEmpty && Builtin.List.listTooLong (items.size+items2.size))=true)(hs1:items.size≤sizeLine)(hs2:items.size+items2.size≤sizeLine+1) :
  Meets (Builtin.«list.extend» ⟨[.ref l,.ref b],[]⟩) (fun _ R s=>s.heap.get? l=some { cls:=.type "list",dict:=none,data:=.seq items n,slots:=#[] }∧s.heap.get? b=some { cls:=.type "tuple",dict:=dd,data:=.seq items2 n2,slots:=sl }∧R (.ok (.ret Value.none)) { s with heap:=s.heap.update l (Obj.mapSeq fun x=>x++items2),toks:=s.toks }):=
 .of_wp fun prog w A R s h=>by
  obtain ⟨hp,g,d,tk,os⟩:=s
  obtain ⟨hl,hb,h⟩:=h
  have f1:=AutoSeq1.idx_int
  have f2:=AutoSeq1.sub_tuple_tuple
  have f3:=AutoSeq1.sub_list_list
  have f4:=AutoSeq1.sub_tuple_list
  have f5:=AutoSeq1.sub_list_tuple
  have hz':(items++items2).size≤sizeLine+1:=by rw [Array.size_append]; exact hs2
  wp_walk using (wpAny_updateSeq hl rfl (hz:=hs1) (_hz':=hz')),ia hl,ia hb
  exact⟨_,rfl,h⟩
def GP:V→List V→Hp→VK→Prop:=fun x vs H Q=>∃ l b xs zs,x=.ref l∧vs=[.ref b]∧H l=some (.lst xs)∧H b=some (.tup zs)∧xs.length+zs.length≤sizeLine∧Q .non (upd H l (.lst (xs++zs)))
theorem Bx:MtM X "list.extend" GP:=by
 intro pins s σ H x vs v us Q I rx rv h
 obtain ⟨l,b,xs,zs,rfl,rfl,hH,hB,hz,q⟩:=h
 cases rx
 obtain ⟨u,rfl,ru⟩:=rv.one
 cases ru
 obtain ⟨z,its,n,r,hl,e⟩:=I.G9 hH
 obtain ⟨its2,r2,⟨⟨c2,d2,dt2,sl2⟩,e2,c2',n2,d2'⟩,hz2⟩:=I.tuple (SqT.of hB)
 simp only at c2' d2'
 subst c2' d2'
 have hl2:=r2.length
 have hsz:its.toArray.size+its2.toArray.size≤sizeLine:=by rw [bo,bo]; omega
 have hlong:¬ (!its.toArray.isEmpty && Builtin.List.listTooLong (its.toArray.size+its2.toArray.size))=true:=by
  rw [Hs hsz,Bool.and_false]
  exact aE
 refine call_meets F.slot_list_extend ⟨_,e,rfl⟩ F.entry_list_extend (F.args_list_extend_2 _ _)
  (K6 l its.toArray n b its2.toArray n2 d2 sl2 hlong (by rw [bo]; omega) (by omega)) ⟨e,e2,?_⟩
 refine⟨.non,_,I.Nv (its':=its++its2) hH e (by simp) (r.append r2) ?_,rfl,q⟩
 rw [bz]
 omega
abbrev zN:=@Builtin.Str.tooLong
theorem size_rep(xs:Array Nat):∀(k:Nat) (acc:Array Nat),(List.foldl (fun x1 x2=>x1++x2) acc (List.replicate k xs)).size=acc.size+k * xs.size
 | 0,acc=>by simp
 | k+1,acc=>by
  rw [List.replicate_succ,List.foldl_cons,size_rep xs k,Array.size_append,Nat.succ_mul]
  omega
def jF(x:Str)(n:Int):Str:=if n < 1 then Str.empty else if (n == 1 || x.length == 0)=true then x else ⟨(List.replicate n.toNat x.cps).foldl (·++·) #[]⟩
theorem KJ:OpR X (binaryOp .Mult) (fun a b H Q=>∃ x n,a=.str x∧b=.int n∧0≤n∧n≤1000∧x.length≤1000∧Q (.str (jF x n)) H):=by
 intro pins s σ H a b u v Q I ra rb h
 obtain ⟨x,n,rfl,rfl,h0,h1,hx,q⟩:=h
 obtain ⟨t,rfl⟩:=ra
 obtain ⟨t',rfl⟩:=rb
 have hz:sizeLine=16777216:=cK
 have hm:x.length * n.toNat≤1000000:=by
  have:x.length * n.toNat≤1000 * 1000:=Nat.mul_le_mul hx (by omega)
  omega
 have h3:zN (x.length * n.toNat)=false:=by
  unfold zN
  exact bv (by omega)
 refine P.mul_str ?_ ?_ (fun _ _=>h3) ?_
 ·rw [bv (by omega),bv (by omega)]
  rfl
 ·intro hn _ hgt
  have h4:(x.length:Int) * n≤2 ^ 63 - 1:=by
   have:(x.length:Int) * n≤1000 * 1000:=Int.mul_le_mul (by omega) h1 h0 (by decide)
   omega
  have:=(Int.le_ediv_iff_mul_le (by omega:0 < n)).mpr h4
  omega
 ·unfold jF at q
  by_cases c1:n < 1
  ·rw [ck c1] at q ⊢
   exact⟨by decide,.str _,H,I.tok _,⟨_,rfl⟩,q⟩
  ·rw [bX c1] at q ⊢
   by_cases c2:(n == 1 || x.length == 0)=true
   ·rw [ck c2] at q ⊢
    exact⟨.str _,H,I,⟨_,rfl⟩,q⟩
   ·rw [bX c2] at q ⊢
    refine⟨?_,.str _,H,I.tok _,⟨_,rfl⟩,q⟩
    show (List.foldl (fun x1 x2=>x1++x2) #[] (List.replicate n.toNat x.cps)).size≤sizeLine
    rw [size_rep]
    have:x.cps.size=x.length:=rfl
    have:n.toNat * x.cps.size=x.length * n.toNat:=by rw [this,Nat.mul_comm]
    rw [Array.size_empty]
    omega
end
end L2
end
section
namespace L2
open PySem PySem.Spec PyProof.Rows PySem.W
def KOk{α:Type}(n:Nat)(P:α→Prop):KasT α→Prop
 | .ret a=>P a
 | .ask i j k=>i < n∧j < n∧∀ b,KOk n P (k b)
theorem KOk.bind{α β:Type}{n:Nat}{P:α→Prop}{Q:β→Prop}{f:α→KasT β}(hf:∀ a,P a→KOk n Q (f a)):∀ {t:KasT α},KOk n P t→KOk n Q (t.bind f)
 | .ret a,h=>hf a h
 | .ask i j k,h=>⟨h.1,h.2.1,fun b=>KOk.bind hf (h.2.2 b)⟩
theorem KOk.wp{α:Type}{n:Nat}{P:α→Prop}{Q:α→Shared→Prop}{s:Shared}{cmp:Nat→Nat→(Bool→Shared→Prop)→Shared→Prop}(hc:∀ i j C,i < n→j < n→(∀ b,C b s)→cmp i j C s)(hq:∀ a,P a→Q a s):∀ {t:KasT α},KOk n P t→t.kasWp cmp Q s
 | .ret a,h=>hq a h
 | .ask i j k,h=>hc i j _ h.1 h.2.1 fun b=>KOk.wp hc hq (h.2.2 b)
def Pm(n:Nat)(p:Array Nat):Prop:=p.Perm (List.range n).toArray
theorem Pm.lt{n:Nat}{p:Array Nat}(h:Pm n p)(h0:0 < n)(i:Nat):p.getD i 0 < n:=by
 by_cases hi:i < p.size
 ·have e:p.getD i 0=p[i]:=by simp [Array.getD,hi]
  rw [e]
  have m:p[i]∈(List.range n).toArray:=h.mem_iff.mp (Array.getElem_mem hi)
  simpa using m
 ·have e:p.getD i 0=0:=by simp [Array.getD,hi]
  rw [e]
  exact h0
theorem Pm.rev{n:Nat}{p:Array Nat}(h:Pm n p)(i j:Nat):Pm n (kas_rev p i j):=Array.Perm.trans (mirror_perm p i j _) h
theorem Pm.bub{n:Nat}{p:Array Nat}(h:Pm n p)(k d:Nat):Pm n (bubble p k d):=Array.Perm.trans (bubble_perm p k d) h
section
variable {n:Nat}(h0:0 < n)
include h0
theorem Bj{p:Array Nat}(h:Pm n p):∀(f m:Nat),KOk n (fun _=>True) (kas_asc p f m)
 | 0,m=>trivial
 | f+1,m=>⟨h.lt h0 _,h.lt h0 _,fun b=>by
   cases b with
   | true=>exact trivial
   | false=>exact Bj h f (m+1)⟩
theorem sG:∀(f:Nat) {p:Array Nat} (m q:Nat),Pm n p→KOk n (fun r=>Pm n r.1) (kas_desc f p m q)
 | 0,p,m,q,h=>h
 | f+1,p,m,q,h=>⟨h.lt h0 _,h.lt h0 _,fun b=>by
   cases b with
   | true=>
    show KOk n _ (if true=true then _ else _)
    rw [ck rfl]
    split
    ·exact sG f _ _ (h.rev _ _)
    ·exact sG f _ _ h
   | false=>
    refine⟨h.lt h0 _,h.lt h0 _,fun d=>?_⟩
    cases d with
    | true=>exact h
    | false=>exact sG f _ _ h⟩
theorem yL(m nrem:Nat){p:Array Nat}(h:Pm n p):KOk n (fun r=>Pm n r.2) (kas_tail3 m nrem p):=by
 unfold kas_tail3
 refine KOk.bind (P:=fun _=>True) (fun a _=>?_) (Bj h0 (h.rev 0 m) _ _)
 exact h.rev 0 m
theorem rH(m nrem:Nat){p:Array Nat}(h:Pm n p):KOk n (fun r=>Pm n r.2) (kas_descPart m nrem p):=by
 refine KOk.bind (fun r hr=>?_) (sG h0 _ _ _ h)
 split
 ·exact yL h0 _ _ (hr.rev _ _)
 ·exact yL h0 _ _ hr
theorem IV(nrem:Nat){p:Array Nat}(h:Pm n p):KOk n (fun r=>Pm n r.2) (kas_count nrem p):=by
 refine KOk.bind (fun r _=>?_) (Bj h0 h _ _)
 split
 ·exact h
 ·split
  ·refine⟨h.lt h0 _,h.lt h0 _,fun b=>?_⟩
   cases b with
   | true=>exact h
   | false=>exact rH h0 _ _ (h.rev _ _)
  ·exact rH h0 _ _ h
theorem uT{p:Array Nat}(h:Pm n p)(k:Nat):∀(f l r:Nat),KOk n (fun _=>True) (kas_place p k f l r)
 | 0,l,r=>trivial
 | f+1,l,r=>by
  unfold kas_place
  split
  ·exact trivial
  ·refine⟨h.lt h0 _,h.lt h0 _,fun b=>?_⟩
   cases b with
   | true=>exact uT h k f _ _
   | false=>exact uT h k f _ _
theorem Hz:∀(f:Nat) {p:Array Nat} (k:Nat),Pm n p→KOk n (Pm n) (kas_bin f p k)
 | 0,p,k,h=>h
 | f+1,p,k,h=>KOk.bind (fun l _=>Hz f (k+1) (h.bub _ _)) (uT h0 h k _ _ _)
theorem yw:KOk n (Pm n) (kas_sort n):=by
 refine KOk.bind (fun r hr=>?_) (IV h0 n (Array.Perm.refl _))
 split
 ·exact Hz h0 _ _ hr
 ·exact hr
end
theorem Pm.out{vs:List Value}{p:Array Nat}(h:Pm vs.length p):(p.toList.map fun i=>vs.getD i Value.none).Perm vs:=by
 have h1:p.toList.Perm (List.range vs.length):=by simpa using h.toList
 have h2:=h1.map fun i=>vs.getD i Value.none
 have h3:(List.range vs.length).map (fun i=>vs.getD i Value.none)=vs:=by
  apply mM (by simp)
  intro i a b
  simp [b]
 rw [h3] at h2
 exact h2
section
variable {prog:Program}{w:World}{A:Around}{E:Value→Shared→Prop}{s:Shared}
structure NZ (prog:Program) (w:World) (A:Around) (κ:SortKind) (vs:List Value) (h:Heap):Prop where
 kind:∀ (s':Shared) (Q:SortKind→Shared→Prop) (E:Value→Shared→Prop),(∀ b o,h.get? b=some o→s'.heap.get? b=some o)→Q κ s'→wpAny (model prog w) A (keyKind' vs.toArray) Q E s'
 lt:∀ x∈vs,∀ y∈vs,∀ (s':Shared) (C:Bool→Shared→Prop),(∀ b o,h.get? b=some o→s'.heap.get? b=some o)→(∀ b,C b s')→wpAny (model prog w) A (keyLt' κ x y) C (fun _ _=>False) s'
theorem vJ{a:Addr}{vs:List Value}{n:Nat}{P:Fin→Shared→Prop}{h₀:Heap}{κ:SortKind}(ho:s.heap.get? a=some (seqObj "list" vs.toArray n))(h64:vs.length < 64)(keep:∀ b o,h₀.get? b=some o→s.heap.get? b=some o∧b≠a)
  (hc:2≤vs.length→NZ prog w A κ vs h₀)
  (h:∀ out:Array Value,out.toList.Perm vs→P (.done (.ret .none)) { s with heap:=sortedHeap s.heap a vs out }) :
  wpAny (model prog w) A (Builtin.«list.sort» ⟨[.ref a],[]⟩) P E s:=by
 rw [list_sort_plain]
 have ha:a < s.heap.objs.size:=cr ho
 refine ac (listItems_at ho rfl ?_)
 refine ac (oP ho rfl ?_ (by rw [bo,cK]; omega) (dq _))
 obtain ⟨e1,ho1⟩:∃ e1,(s.heap.update a (Obj.mapSeq fun _=>#[])).get? a=some (seqObj "list" #[] e1):=⟨_,get?_update_seq ho (fun _=>#[])⟩
 refine ac (seqEpoch_at ho1 rfl ?_)
 refine ac (oq ?_ (by show vs.length≤_; rw [cK]; omega))
 refine ac (nk ?_ (dq _))
 refine fk ?_
 have ho6:(((s.heap.update a (Obj.mapSeq fun _=>#[])).push (seqObj "tuple" vs.toArray 0)).push (seqObj "list" #[] 0)).get? a=some (seqObj "list" #[] e1):=by
  rw [ij _ _ _ (by rw [size_push',jI]; exact dc (gu ha)),ij _ _ _ (by rw [jI]; exact dc ha)]
  exact ho1
 have kp:∀ b o,h₀.get? b=some o→(((s.heap.update a (Obj.mapSeq fun _=>#[])).push (seqObj "tuple" vs.toArray 0)).push (seqObj "list" #[] 0)).get? b=some o:=fun b o e=>by
  obtain ⟨e',ne⟩:=keep b o e
  exact ar _ (ar _ ((km _ _ (kK ne)).trans e'))
 show wpAny (model prog w) A _ P E { s with heap:=((s.heap.update a (Obj.mapSeq fun _=>#[])).push (seqObj "tuple" vs.toArray 0)).push (seqObj "list" #[] 0) }
 dsimp only
 have hsz:vs.toArray.size=vs.length:=by simp
 have fin:∀ st':SortSt,failedOf st'=none→((arrOf st').map (·.2)).toList.Perm vs→wpAny (model prog w) A (do
   let touched:=(← seqEpoch a) != e1
   Builtin.List.listUpdate (.ref a) fun _=>(arrOf st').map (·.2)
   if let some e:=failedOf st' then rule "list.sort.comparison-raised"; throw e
   if touched then rule "list.sort.modified"; raiseError "ValueError" "list modified during sort"
   ret .none) P E { s with heap:=((s.heap.update a (Obj.mapSeq fun _=>#[])).push (seqObj "tuple" vs.toArray 0)).push (seqObj "list" #[] 0) }:=fun st' hf hp=>by
  refine ac (seqEpoch_at ho6 rfl ?_)
  refine ac (oP ho6 rfl ?_ (dq _) (by
   have:=hp.length_eq
   rw [eI] at this
   show ((arrOf st').map (·.2)).size≤_
   rw [this,cK]
   omega))
  rw [hf]
  simp only [bne_self_eq_false,gv,jp]
  exact aI (h _ hp)
 by_cases h2:vs.toArray.size < 2
 ·rw [ck h2,ck h2]
  refine ac (aI ?_)
  rw [StateT.run_pure]
  refine ac (aI ?_)
  refine fin (SortSt.mk' general' (vs.toArray.zip vs.toArray) #[] 7 none) rfl ?_
  have e:((vs.toArray.zip vs.toArray).map (·.2)).toList=vs:=by
   simp only [List.zip_toArray,List.map_toArray]
   exact List.map_snd_zip (am _)
  show ((vs.toArray.zip vs.toArray).map (·.2)).toList.Perm vs
  rw [e]
 ·rw [bX h2,bX h2]
  rw [hsz] at h2
  have C:=hc (by omega)
  refine ac (C.kind _ _ _ kp ?_)
  refine ac (ic (kat_run (ks:=vs) (Q:=fun st' s'=>s'={ s with heap:=((s.heap.update a (Obj.mapSeq fun _=>#[])).push (seqObj "tuple" vs.toArray 0)).push (seqObj "list" #[] 0) }∧failedOf st'=none∧((arrOf st').map (·.2)).toList.Perm vs)
   (G:=fun p s'=>s'={ s with heap:=((s.heap.update a (Obj.mapSeq fun _=>#[])).push (seqObj "tuple" vs.toArray 0)).push (seqObj "list" #[] 0) }∧Pm vs.length p) rfl (by omega) h64 (fun p st' s' _ e1 e2 ⟨e3,e4⟩=>⟨e3,e2,?_⟩) ?_) ?_ fun _ _ e=>e)
  ·rw [kat_snds rfl e1]
   exact e4.out
  ·refine KOk.wp (fun i j Cc hi hj hC=>?_) (fun p hp=>⟨rfl,hp⟩) (yw (by omega))
   have gm:∀ i,i < vs.length→vs.getD i Value.none∈vs:=fun i hi=>by
    have:vs.getD i Value.none=vs[i]:=by simp [hi]
    rw [this]
    exact cn hi
   exact C.lt _ (gm i hi) _ (gm j hj) _ _ kp hC
  ·rintro ⟨⟨⟩,st'⟩ s' ⟨rfl,hf,hp⟩
   exact fin st' hf hp
theorem Cg{l:Addr}{vs:List Value}{Q:Value→Shared→Prop}{κ:SortKind}(hl:s.heap.IsList l vs.toArray)(h64:vs.length < 64)(hc:2≤vs.length→NZ prog w A.in1.in1 κ vs s.heap)
  (h:∀ out:Array Value,out.toList.Perm vs→Q (.ref (s.heap.objs.size+1)) { s with heap:=sortedAll s.heap vs out }) :
  wpAny (model prog w) A (call (.builtin "sorted") [.ref l]) Q E s:=by
 refine kP kind_sorted plain_sorted entry_sorted (args_sorted1 _) ?_
 unfold Builtin.«sorted»
 refine ac (m:=checkCount "sorted" 1 1 _) (aI ?_)
 refine ac (collect_list hl ?_ (by rw [cK]; omega))
 refine ac (nk ?_ (by rw [cK]; omega))
 have hsz:((s.heap.push (seqObj "list" #[] 0)).update s.heap.objs.size (Obj.mapSeq (·++vs.toArray))).objs.size=s.heap.objs.size+1:=by
  rw [jI,size_push']
 have hoL:(((s.heap.push (seqObj "list" #[] 0)).update s.heap.objs.size (Obj.mapSeq (·++vs.toArray))).push (seqObj "list" vs.toArray 0)).get? (s.heap.objs.size+1)=some (seqObj "list" vs.toArray 0):=by
  rw [← hsz]; exact bn _ rfl
 have keep:∀ b o,s.heap.get? b=some o→(((s.heap.push (seqObj "list" #[] 0)).update s.heap.objs.size (Obj.mapSeq (·++vs.toArray))).push (seqObj "list" vs.toArray 0)).get? b=some o∧b≠s.heap.objs.size+1:=fun b o q=>by
  have hlt:b < s.heap.objs.size:=cr q
  refine⟨?_,dc (gu hlt)⟩
  rw [ij _ _ _ (by rw [hsz]; exact dc (gu hlt)),Heap.get?_update_ne _ _ _ _ (dc hlt),ij _ _ _ (dc hlt)]
  exact q
 show wpAny _ _ _ _ _ { s with heap:=((s.heap.push (seqObj "list" #[] 0)).update s.heap.objs.size (Obj.mapSeq (·++vs.toArray))).push (seqObj "list" vs.toArray 0) }
 rw [hsz]
 refine ac (fk (fN slot_list_sort ⟨_,hoL,rfl⟩ entry_list_sort (vJ hoL h64 keep hc fun out a1=>⟨_,rfl,?_⟩) (args_list_sort _)))
 exact aI ⟨_,rfl,h out a1⟩
end
theorem Vals.perm:∀ {us ws:List Value},us.Perm ws→∀ {xs:List V},Vals xs ws→∃ ys,ys.Perm xs∧Vals ys us:=by
 intro us ws h
 induction h with
 | nil=>exact fun {xs} r=>⟨xs,.refl _,r⟩
 | cons a _ ih=>
  intro xs r
  cases r with
  | cons q t=>
   obtain ⟨ys,p,r'⟩:=ih t
   exact⟨_::ys,p.cons _,.cons q r'⟩
 | swap a b l=>
  intro xs r
  cases r with
  | cons q t=>
   cases t with
   | cons q' t'=>exact⟨_,.swap _ _ _,.cons q' (.cons q t')⟩
 | trans _ _ i1 i2=>
  intro xs r
  obtain ⟨ys,p,r'⟩:=i2 r
  obtain ⟨zs,p',r''⟩:=i1 r'
  exact⟨zs,p'.trans p,r''⟩
def NK(b:Bool)(y:V):Prop:=if b then (∃ x,y=.str x) else ∃ i,y=.int i
section
variable {X:Cx}
theorem zA(b:Bool):gn X (.builtin "sorted") (fun xs H Q=>∃ l ps,xs=[.ref l]∧SqL X.K H l ps∧ps.length < 64∧(∀ x∈ps,∃ p i y,x=.ref p∧H p=some (.tup [.int i,y])∧NK b y)∧∀ d qs,qs.Perm ps→H d=none→Q (.ref d) (upd H d (.lst qs))):=by
 intro pins s σ H xs us Q I r h
 obtain ⟨l,ps,rfl,hl,h64,hp,q⟩:=h
 obtain ⟨u,rfl,ru⟩:=vals1 r
 cases ru
 obtain ⟨its,rv,pl,hz⟩:=I.list hl
 have hlen:=rv.length
 have item:∀ v∈its,∃(p:Addr) (o:Obj) (i:Int) (t:Tok) (y:Value) (n:Nat),v=.ref p∧s.heap.get? p=some o∧o.cls=.type "tuple" ∧ o.data=.seq #[.int i t,y] n∧(if b then ∃ x t',y=Value.str x t' else ∃ j t',y=Value.int j t'):=fun v hv=>by
  obtain ⟨i,hi,rfl⟩:=fc hv
  have hi':i < ps.length:=by omega
  obtain ⟨w',hw,rw'⟩:=rv.get (i:=i) (x:=ps[i]) (ae hi')
  rw [ae hi] at hw
  cases hw
  obtain ⟨p,j,y,e,hH,hy⟩:=hp ps[i] (cn hi')
  rw [e] at rw'
  have rw':its[i]=.ref p:=rw'
  obtain ⟨jts,rj,⟨o,go,co,n,dn⟩,_⟩:=I.tuple (SqT.of hH)
  obtain ⟨v1,v2,rfl,⟨t,rfl⟩,r2⟩:=rj.two
  refine⟨p,o,j,t,v2,n,rw',go,co,dn,?_⟩
  unfold NK at hy
  cases b with
  | true=>
   obtain ⟨x,rfl⟩:=(by simpa using hy:∃ x,y=V.str x)
   obtain ⟨t',rfl⟩:=r2
   simp
  | false=>
   obtain ⟨x,rfl⟩:=(by simpa using hy:∃ x,y=V.int x)
   obtain ⟨t',rfl⟩:=r2
   simp
 have hcmp:2≤its.length→NZ X.prog X.w X.A.in1.in1 (tuples' ((Value.type "int") != Value.type "tuple")) its s.heap:=fun h2=>by
  refine⟨fun s' Q' E' kp hq=>?_,fun x hx y hy s' C kp hC=>?_⟩
  ·have tups:∀ vs:List Value,(∀ v∈vs,v∈its)→∃ fs:List Value,KatTups s'.heap vs fs∧fs.length=vs.length∧∀ f∈fs,∃ i t,f=Value.int i t:=by
    intro vs
    induction vs with
    | nil=>exact fun _=>⟨[],.nil,rfl,fun _ h=>nomatch h⟩
    | cons v vs ih=>
     intro hm
     obtain ⟨fs,k,e,hf⟩:=ih fun v hv=>hm v (cz _ hv)
     obtain ⟨p,o,i,t,y,n,rfl,go,co,dn,_⟩:=item v (hm v aT)
     refine⟨.int i t::fs,.cons (kp p o go) co dn rfl k,by rw [dQ,dQ,e],fun f hf'=>?_⟩
     rcases bu.mp hf' with rfl | h'
     ·exact⟨i,t,rfl⟩
     ·exact hf f h'
   obtain ⟨fs,k,e,hf⟩:=tups its fun _ h=>h
   refine kat_kind (T:=.type "int") k (by omega) (fun v hv=>?_) rfl hq
   obtain ⟨i,t,rfl⟩:=hf v hv
   exact .now
  ·obtain ⟨p,o,i,t,y1,n,rfl,go,co,dn,h1⟩:=item x hx
   obtain ⟨p',o',i',t',y2,n',rfl,go',co',dn',h1'⟩:=item y hy
   refine kat_lt (kp p o go) dn (kp p' o' go') dn' ?_
   show KatLex _ _ _ _ _ _ [(Value.int i t,Value.int i' t'),(y1,y2)] 0 s'
   refine kat_cons (mE (kat_go (fun _=>kat_yes ?_) fun _=>kat_no ?_))
   ·cases b with
    | true=>
     obtain ⟨x1,u1,rfl⟩:=(by simpa using h1:∃ x t',y1=Value.str x t')
     obtain ⟨x2,u2,rfl⟩:=(by simpa using h1':∃ x t',y2=Value.str x t')
     refine kat_cons (wpAny_eqBool_str (kat_go (fun _=>kat_yes (kat_nil (hC _))) fun _=>kat_no ?_))
     exact kat_one _ _ (lt_str (hC _))
    | false=>
     obtain ⟨x1,u1,rfl⟩:=(by simpa using h1:∃ x t',y1=Value.int x t')
     obtain ⟨x2,u2,rfl⟩:=(by simpa using h1':∃ x t',y2=Value.int x t')
     refine kat_cons (mE (kat_go (fun _=>kat_yes (kat_nil (hC _))) fun _=>kat_no ?_))
     exact kat_one _ _ (PyProof.Rows.lt_int (hC _))
   ·exact oneLt_int (hC _)
 refine Cg pl.isList (by omega) hcmp fun out hperm=>?_
 obtain ⟨ys,py,ry⟩:=rv.perm hperm
 obtain ⟨e,he⟩:=sortedAll_at s.heap its out
 have hd:H (s.heap.objs.size+1)=none:=I.hok.fresh (lI _)
 refine⟨.ref (s.heap.objs.size+1),_,I.laid (t':=s.toks) (o:=.lst ys) (fun b o q=>sortedAll_old q) (lI _) ⟨by rw [py.length_eq]; exact hz,out.toList,e,ry,by rw [kF]; exact he⟩,rfl,q _ ys py hd⟩
end
end L2
end
section
namespace L2
open PySem PySem.Spec PyProof.Rows
theorem rm:bootBuiltins "sorted" = some (.builtin "sorted"):=by decide +kernel
theorem yu:bootBuiltins "dict" = some (.type "dict"):=by decide +kernel
section
variable {X:Cx}{K:PySem.W.Frag}
theorem wk{tg l:Expr}{tl:TE}(h:X.K=K)(hl:PE X l tl):PI X tg l (LK K tl):=by subst h; exact gU hl
theorem IK{tg l:Expr}{tl:TE}(h:X.K=K)(hl:PE X l tl):PI X tg l (Qa K tl):=by subst h; exact cU hl
theorem Ay(h:X.K=K)(hc:X.calm=true):gn X (.builtin "any") (fun xs H Q=>∃(p:Addr) (bs:List Bool),xs=[.ref p]∧SqL K H p (bs.map V.bl)∧Q (.bl (bs.any id)) H):=by subst h; exact qw hc
end
end L2
end
section
namespace L2
open PySem PyProof.Rows
theorem bA{J:It}{n own:Nat}{fr:List Nat}{g:TG}{tc:TT}{te:TE}{σ:St}{Q:VK}{D:Addr}{H0:Hp}(Pv:Nat→List V→Hp→Prop)(h0:Pv 0 [] H0)(stop:∀ ys H,Pv n ys H→J.stop n H∧Q (.ref D) H)
  (go:∀ i ys H,i < n→Pv i ys H→J.go i H∧∀ x H',J.yld i H x H'→∀ σo:St,σo.length=own→g x (σo++frv σ fr) H' fun σ2 H2=>(∃ σo':St,σo'.length=own∧σ2=σo'++frv σ fr)∧
   tc σ2 H2 fun b H3=>if b=true then te σ2 H3 fun y H4=>ys.length < sizeLine∧H4 D=some (.lst ys)∧∃ m',m' < n - i∧(m'=n - (i+1)∧i+1≤n∧Pv (i+1) (ys++[y]) (upd H4 D (.lst (ys++[y])))) else ∃ m',m' < n - i∧(m'=n - (i+1)∧i+1≤n∧Pv (i+1) ys H3)) :
  qK own fr g tc te σ Q J D H0:=by
 refine⟨fun i m ys H=>m=n - i∧i≤n∧Pv i ys H,⟨n,by simp,dq _,h0⟩,?_⟩
 rintro i m ys H ⟨rfl,hi,p⟩
 by_cases hlt:i < n
 ·exact .inr (go i ys H hlt p)
 ·have e:i=n:=by omega
  subst e
  exact .inl (stop ys H p)
theorem aR{n i:Nat}(h:i < n){P:Prop}(p:P):∃ m',m' < n - i∧(m'=n - (i+1)∧i+1≤n∧P):=⟨n - (i+1),by omega,rfl,h,p⟩
theorem own1{σo:St}(h:σo.length=1):∃ o,σo=[o]:=by
 cases σo with
 | nil=>cases h
 | cons o r=>
  cases r with
  | nil=>exact⟨o,rfl⟩
  | cons _ _=>cases h
theorem Ku{σo:St}(h:σo.length=2):∃ o o',σo=[o,o']:=by
 cases σo with
 | nil=>cases h
 | cons o r=>
  cases r with
  | nil=>cases h
  | cons o' r=>
   cases r with
   | nil=>exact⟨o,o',rfl⟩
   | cons _ _=>cases h
theorem rz{α β:Type}{f:α→β}:∀ {l:List α},(∀ a∈l,∀ b∈l,f a=f b→a=b)→l.Nodup→(l.map f).Nodup
 | [],_,_=>iL
 | a::r,hi,hn=>by
  obtain ⟨h1,h2⟩:=eW.mp hn
  rw [eL]
  refine eW.mpr ⟨fun m=>?_,rz (fun x hx y hy=>hi x (cz _ hx) y (cz _ hy)) h2⟩
  obtain ⟨b,hb,e⟩:=bg.mp m
  exact h1 (hi b (cz _ hb) a aT e ▸ hb)
theorem cL{α:Type}[DecidableEq α]:∀ {l m:List α},l.Nodup→(∀ x∈l,x∈m)→l.length≤m.length
 | [],_,_,_=>dq _
 | a::r,m,hn,hs=>by
  obtain ⟨h1,h2⟩:=eW.mp hn
  have hm:a∈m:=hs a aT
  have:=cL (l:=r) (m:=m.erase a) h2 fun x hx=>by
   have ne:x≠a:=fun e=>h1 (e ▸ hx)
   exact(List.mem_erase_of_ne ne).mpr (hs x (cz _ hx))
  have e:=List.length_erase_of_mem hm
  have p:0 < m.length:=List.length_pos_of_mem hm
  rw [dQ]
  omega
theorem QT{A:Around}{k:Nat}(hr:kJ k A):A.units+10 < cLine:=by
 have:=hr.units
 omega
def Pu(H:Hp)(p:Addr):Prop:=∃ a b c:Int,H p=some (.lst [.int a,.int b,.int c])
theorem Pu.ne{H:Hp}{p u:Addr}{us:List Str}(h:Pu H p)(g:H u=some (.lst (us.map V.str))):u≠p:=by
 obtain ⟨a,b,c,e⟩:=h
 exact(eG e g Kz).symm
theorem Pu.upd{H:Hp}{p:Addr}{a b c:Int}:Pu (upd H p (.lst [.int a,.int b,.int c])) p:=⟨a,b,c,ak⟩
theorem Pu.same{H H':Hp}{p:Addr}(h:Pu H p)(s:Same H H'):Pu H' p:=by
 obtain ⟨a,b,c,e⟩:=h
 exact⟨a,b,c,s p _ e⟩
theorem Pu.neN{H:Hp}{p q:Addr}(h:Pu H p)(g:H q=none):p≠q:=by
 obtain ⟨a,b,c,e⟩:=h
 exact aB e g
theorem Pu.au{H:Hp}{p q:Addr}{o:HO}(h:Pu H p)(g:p≠q):Pu (L2.upd H q o) p:=by
 obtain ⟨a,b,c,e⟩:=h
 exact⟨a,b,c,by rw [L2.au g]; exact e⟩
theorem iR{c A B:Prop}[Decidable c](h:c)(a:A):if c then A else B:=by
 rw [ck h]
 exact a
theorem iQ{c A B:Prop}[Decidable c](h:¬ c)(b:B):if c then A else B:=by
 rw [bX h]
 exact b
def abc:Str:= "abcdefghijklmnopqrstuvwxyz"
def letters:List Str:=abc.cps.toList.map fun c=>⟨#[c]⟩
theorem rO:letters.length=26:=by decide +kernel
theorem rZ:abc.cps.size=26:=by decide +kernel
theorem jD:∀ x∈letters,x.length=1:=by
 intro x hx
 obtain ⟨c,_,rfl⟩:=bg.mp hx
 rfl
theorem vK:letters.Nodup:=by decide +kernel
theorem zp{a b z:Str}(ha:a.length=1)(hb:b.length=1)(h:a++z=b++z):a=b:=by
 obtain ⟨⟨a⟩⟩:=a
 obtain ⟨⟨b⟩⟩:=b
 have h':(a++z.cps.toList)=(b++z.cps.toList):=by
  have e:∀ y:List Nat,((⟨⟨y⟩⟩:Str)++z).cps.toList=y++z.cps.toList:=fun y=>by
   show ((⟨y⟩:Array Nat)++z.cps).toList=_
   rw [nS]
  rw [← e,← e,h]
 have:=List.append_cancel_right h'
 rw [this]
theorem jg(a b:Str):(a++b).length=a.length+b.length:=by
 show (a.cps++b.cps).size=_
 rw [Array.size_append]
 rfl
theorem yW{us:List Str}(h:us.length≤25)(z:Str):∃ c∈letters,¬ (c++z)∈us:=by
 apply dA
 intro hn
 have all:∀ c∈letters,(c++z)∈us:=fun c hc=>dA fun hx=>hn ⟨c,hc,hx⟩
 have nd:(letters.map (·++z)).Nodup:=by
  exact rz (fun a ha b hb e=>zp (jD a ha) (jD b hb) e) vK
 have:=cL nd fun x hx=>by
  obtain ⟨c,hc,rfl⟩:=bg.mp hx
  exact all c hc
 rw [aa,rO] at this
 omega
theorem qX(z:Str)(lo hi:Option Int):(Txt.slice z lo hi).length≤z.length:=nX z lo hi
theorem Iu{K:PySem.W.Frag}{a:Addr}{xs:List V}{g:TG}{tb:TS}{D:Ends}{σ:St}{H:Hp}(Pv:Nat→St→Hp→Prop)(h0:Pv 0 σ H)(hl:∀ i σ H,i≤xs.length→Pv i σ H→SqL K H a xs)
  (hs:∀ i x σ H p,xs[i]?=some x→Pv i σ H→H p=none→g (.ref p) σ (upd H p (.tup [.int i,x])) fun σ2 H2=>tb { D with nx:=Pv (i+1),ct:=Pv (i+1),bk:=D.nx } σ2 H2) (hd:∀ σ H,Pv xs.length σ H→D.nx σ H) :
  ∃ W:Nat→Nat→St→Hp→Prop,(∃ m,W 0 m σ H)∧∀ i m σ H,W i m σ H→
   ((Ite K a).stop i H∧D.nx σ H)∨((Ite K a).go i H∧∃ N:St→Hp→Prop,(∀ σ' H',N σ' H'→∃ m',m' < m∧W (i+1) m' σ' H')∧∀ x H',(Ite K a).yld i H x H'→g x σ H' fun σ2 H2=>tb { D with nx:=N,ct:=N,bk:=D.nx } σ2 H2):=by
 refine⟨fun i m σ H=>m=xs.length - i∧i≤xs.length∧Pv i σ H,⟨xs.length,by simp,dq _,h0⟩,?_⟩
 rintro i m σ H ⟨rfl,hi,p⟩
 have q:=hl i σ H hi p
 by_cases hlt:i < xs.length
 ·refine .inr ⟨⟨xs,xs[i],q,by simp [hlt]⟩,Pv (i+1),fun σ' H' p'=>⟨xs.length - (i+1),by omega,rfl,hlt,p'⟩,fun x H' y=>?_⟩
  obtain ⟨r,hr,rfl,y⟩:=y
  have e:=y xs xs[i] q (by simp [hlt])
  subst e
  exact hs i xs[i] σ _ r (by simp [hlt]) p hr
 ·have e:i=xs.length:=by omega
  subst e
  exact .inl ⟨⟨xs,q,am _⟩,hd σ H p⟩
theorem Gs{o:Obj}{d:Addr}{kvs:List (Key × V)}{g:TG}{tb:TS}{D:Ends}{σ:St}{H:Hp}(Pv:Nat→St→Hp→Prop)(h0:Pv 0 σ H)(hl:∀ i σ H,i≤kvs.length→Pv i σ H→H d=some (.frz o (.dK kvs)))
  (hs:∀ i kv σ H,kvs[i]?=some kv→Pv i σ H→g (kV kv.1) σ H fun σ2 H2=>tb { D with nx:=Pv (i+1),ct:=Pv (i+1),bk:=D.nx } σ2 H2) (hd:∀ σ H,Pv kvs.length σ H→D.nx σ H) :
  ∃ W:Nat→Nat→St→Hp→Prop,(∃ m,W 0 m σ H)∧∀ i m σ H,W i m σ H→
   ((Itd o d kvs).stop i H∧D.nx σ H)∨((Itd o d kvs).go i H∧∃ N:St→Hp→Prop,(∀ σ' H',N σ' H'→∃ m',m' < m∧W (i+1) m' σ' H')∧∀ x H',(Itd o d kvs).yld i H x H'→g x σ H' fun σ2 H2=>tb { D with nx:=N,ct:=N,bk:=D.nx } σ2 H2):=by
 refine⟨fun i m σ H=>m=kvs.length - i∧i≤kvs.length∧Pv i σ H,⟨kvs.length,by simp,dq _,h0⟩,?_⟩
 rintro i m σ H ⟨rfl,hi,p⟩
 have q:=hl i σ H hi p
 by_cases hlt:i < kvs.length
 ·refine .inr ⟨⟨q,hlt⟩,Pv (i+1),fun σ' H' p'=>⟨kvs.length - (i+1),by omega,rfl,hlt,p'⟩,fun x H' y=>?_⟩
  obtain ⟨rfl,kv,e,rfl⟩:=y
  exact hs i kv σ _ e p
 ·have e:i=kvs.length:=by omega
  subst e
  exact .inl ⟨⟨q,am _⟩,hd σ H p⟩
end L2
end
section
namespace L2
open PySem PySem.Spec PyProof.Rows
section
variable {X:Cx}{K:PySem.W.Frag}
def Qj(K:PySem.W.Frag):R2:=fun x y H Q=>∃(a b:Addr) (xs:List V),x=.ref a∧y=.ref b∧SqL K H a xs∧SqL K H b []∧Q (.bl (!xs.isEmpty)) H
def Q5(K:PySem.W.Frag):R2:=fun x y H Q=>∃(a b:Addr) (xs:List V),x=.ref a∧y=.ref b∧SqL K H a xs∧SqL K H b []∧Q (.bl xs.isEmpty) H
theorem Jy(hK:X.K=K)(hu:X.A.units < cLine):OpR X (compareOp .NotEq) (Qj K):=by
 subst hK
 intro pins s σ H x y v u Q I rx ry h
 obtain ⟨a,b,xs,rfl,rfl,ha,hb,q⟩:=h
 cases rx
 cases ry
 obtain ⟨its,r,p,_⟩:=I.list ha
 obtain ⟨its2,r2,p2,_⟩:=I.list hb
 have e2:its2=[]:=r2.lB.mpr rfl
 subst e2
 cases xs with
 | nil=>
  have e1:its=[]:=r.lB.mpr rfl
  subst e1
  exact SeqAt.RcNeAt.lists (A:=X.A) (s:=s) (e:=fun _=>true) p.isList p2.isList rfl hu (fun j h1 _=>by simp at h1) X.prog X.w X.xe _ ⟨.bl false,H,I,rfl,q⟩
 | cons x0 xr=>
  have hl:=r.length
  refine SeqAt.RcNeAt.lists_lengths (A:=X.A) (s:=s) p.isList p2.isList ?_ hu X.prog X.w X.xe _ ⟨.bl true,H,I,rfl,q⟩
  rw [dQ] at hl
  have:its.length≠0:=by omega
  simpa using this
theorem M7(hK:X.K=K)(hu:X.A.units < cLine):OpR X (compareOp .Eq) (Q5 K):=by
 subst hK
 intro pins s σ H x y v u Q I rx ry h
 obtain ⟨a,b,xs,rfl,rfl,ha,hb,q⟩:=h
 cases rx
 cases ry
 obtain ⟨its,r,p,_⟩:=I.list ha
 obtain ⟨its2,r2,p2,_⟩:=I.list hb
 have e2:its2=[]:=r2.lB.mpr rfl
 subst e2
 cases xs with
 | nil=>
  have e1:its=[]:=r.lB.mpr rfl
  subst e1
  exact SeqAt.RcAt.lists (A:=X.A) (s:=s) (e:=fun _=>true) p.isList p2.isList rfl hu (fun j h1 _=>by simp at h1) X.prog X.w X.xe _ ⟨.bl true,H,I,rfl,q⟩
 | cons x0 xr=>
  have hl:=r.length
  refine SeqAt.RcAt.lists_lengths (A:=X.A) (s:=s) p.isList p2.isList ?_ hu X.prog X.w X.xe _ ⟨.bl false,H,I,rfl,q⟩
  rw [dQ] at hl
  have:its.length≠0:=by omega
  simpa using this
def Qt(K:PySem.W.Frag)(tl:TE):TI:=fun σ H R=>tl σ H fun x H1=>∃ a,x=.ref a∧((∃ xs,SqT K H1 a xs∧R (Itt K a) H1)∨∃ xs,SqL K H1 a xs∧R (Itl K a) H1)
theorem qU{tg l:Expr}{tl:TE}(hl:PE X l tl)(hK:X.K=K):PI X tg l (Qt K tl):=by
 subst hK
 intro pins s σ H R I h
 refine thn (hl pins s σ H _ I h) fun v s1 ⟨x,H1,I1,r1,a,e,q1⟩=>?_
 subst e
 cases r1
 rcases q1 with ⟨xs,hq,q⟩ | ⟨xs,hq,q⟩
 ·obtain ⟨its,rv,p,hz⟩:=I1.tuple hq
  refine wpAny_pyIter_tuple (show s1.heap.IsTuple a its.toArray from p) ?_
  refine⟨s1.heap.objs.size,[s1.heap.objs.size],_,_,H1,rfl,I1.kept (t':=s1.toks) fun b o e=>ar _ e,vq a _,⟨_,bn _ rfl,rfl,rfl⟩,fun b hb=>?_,q⟩
  have e:b=s1.heap.objs.size:=by simpa using hb
  subst e
  exact I1.lK (am _) (I1.hok.fresh (am _))
 ·obtain ⟨its,rv,p,hz⟩:=I1.list hq
  refine iN p.isList ?_
  refine⟨s1.heap.objs.size,[s1.heap.objs.size],_,_,H1,rfl,I1.kept (t':=s1.toks) fun b o e=>ar _ e,wC a _,⟨_,bn _ rfl,rfl,rfl⟩,fun b hb=>?_,q⟩
  have e:b=s1.heap.objs.size:=by simpa using hb
  subst e
  exact I1.lK (am _) (I1.hok.fresh (am _))
def QD(K:PySem.W.Frag)(neg:Bool):R2:=fun x y H Q=>∃(p:Addr) (xs:List V),x=.non∧y=.ref p∧SqL K H p xs∧(∀ z∈xs,z=.non∨∃ a ys,z=.ref a∧H a=some (.tup ys))∧Q (.bl (if neg then !decide (V.non∈xs) else decide (V.non∈xs))) H
theorem Gi(hK:X.K=K)(hu:X.A.units+10 < cLine):OpR X (compareOp .NotIn) (QD K true):=by
 subst hK
 intro pins s σ H x y v u Q I rx ry h
 obtain ⟨p,xs,rfl,rfl,hp,hx,q⟩:=h
 cases rx
 cases ry
 obtain ⟨its,r,pl,_⟩:=I.list hp
 have key:∀ {zs:List V} {us:List Value},Vals zs us→(∀ z∈zs,z=.non∨∃ a ys,z=.ref a∧H a=some (.tup ys))→(∀ u∈us,SeqAt.EqAt X.A.in1 s u .none (decide (u=Value.none)))∧us.any (fun u=>decide (u=Value.none))=decide (V.non∈zs):=by
  intro zs us hr
  induction hr with
  | nil=>exact fun _=>⟨(fun _ h=>by cases h),rfl⟩
  | @cons z u' zs us r0 t ih=>
   intro hz
   obtain ⟨i1,i2⟩:=ih fun z hz'=>hz z (cz _ hz')
   rcases hz z aT with rfl | ⟨a,ys,rfl,ha⟩
   ·have e:u'=Value.none:=r0
    subst e
    refine⟨fun w hw=>?_,by simp⟩
    rcases bu.mp hw with rfl | h
    ·have:=SeqAt.EqAt.same (A:=X.A.in1) (s:=s) Value.none
     rw [ay rfl]
     exact this
    ·exact i1 w h
   ·have e:u'=Value.ref a:=r0
    subst e
    obtain ⟨jts,_,pt⟩:=Bw I ha
    refine⟨fun w hw=>?_,?_⟩
    ·rcases bu.mp hw with rfl | h
     ·rw [bv (by intro z; cases z)]
      exact SeqAt.EqAt.tuple_none pt (by show X.A.units+1 < cLine; omega)
     ·exact i1 w h
    ·rw [kU,i2,bv (by intro z; cases z),Bool.false_or]
     simp
 obtain ⟨k1,k2⟩:=key r hx
 refine SeqAt.notIn_listAt (fun u=>decide (u=Value.none)) pl.isList (fun y hy=>k1 y (by simpa using hy)) ?_
 rw [List.any_toArray,k2]
 exact⟨.bl _,H,I,rfl,q⟩
theorem vD(hK:X.K=K):gn X (.builtin "len") (fun xs H Q=>∃ p ys,xs=[.ref p]∧(SqL K H p ys∨SqT K H p ys)∧Q (.int ys.length) H):=by subst hK; exact bC
theorem vC(hK:X.K=K):gn X (.type "list") (fun xs H Q=>∃ p ys,xs=[.ref p]∧(SqL K H p ys∨SqT K H p ys)∧∀ l,H l=none→Q (.ref l) (upd H l (.lst ys))):=by subst hK; exact mW
end
end L2
end
section
namespace L2
open PySem PySem.Spec PyProof.Rows
section
variable {X:Cx}{K:PySem.W.Frag}
def iy(H:Hp)(v:V)(ys:List V):Prop:=∃ p,v=.ref p∧(H p=some (.lst ys)∨H p=some (.tup ys))
theorem DN{pins:List (Addr × Obj)}{σ:St}{H:Hp}{A:Around}{R:Result→Shared→Prop}{it:Addr}{xs:List V}{bs:List Bool}(tn:Nat→Heap→Prop)(hb:bs.length=xs.length)
  (item:∀(i:Nat) (hi:i < xs.length) (s:Shared) (Q:Option Value→Shared→Prop) (E:Value→Shared→Prop),Inv X pins σ H s→tn i s.heap→(∀ u h',RelV xs[i] u→Inv X pins σ H { s with heap:=h' }→tn (i+1) h'→Q (some u) { s with heap:=h' })→wpAny (model X.prog X.w) A.in1 (pyNext (.ref it)) Q E s)
  (done:∀(s:Shared) (Q:Option Value→Shared→Prop) (E:Value→Shared→Prop),Inv X pins σ H s→tn xs.length s.heap→(∀ h',Inv X pins σ H { s with heap:=h' }→Q none { s with heap:=h' })→wpAny (model X.prog X.w) A.in1 (pyNext (.ref it)) Q E s)
  (tru:∀(i:Nat) (hi:i < xs.length) (hj:i < bs.length),∃ ys,iy H xs[i] ys∧bs[i]=!ys.isEmpty)
  (hR:∀ s',Inv X pins σ H s'→R (.ok (.ret (.bool (bs.any id)))) s') :
  ∀(k i:Nat) (s:Shared),xs.length - i=k→i≤xs.length→(∀(j:Nat) (hj:j < bs.length),j < i→bs[j]=false)→Inv X pins σ H s→tn i s.heap→codeAny (model X.prog X.w) A (.builtin "any.loop" ⟨[.ref it],[]⟩) R s:=by
 intro k
 induction k with
 | zero=>
  intro i s hk hi hf I ht
  have hin:i=xs.length:=by omega
  subst hin
  refine gI F.entry_any_loop ?_
  rw [fS kL _]
  show wpAny _ A.in1 (pyNext (.ref it) >>= _) _ _ s
  refine ac (done s _ _ I ht fun h' I'=>?_)
  refine ac (kn (aI ?_))
  have e:bs.any id=false:=by
   apply Bool.eq_false_iff.mpr
   intro h
   obtain ⟨b,hb',hb1⟩:=gL.mp h
   obtain ⟨j,hj,rfl⟩:=fc hb'
   rw [hf j hj (by omega)] at hb1
   cases hb1
  have:=hR _ I'
  rw [e] at this
  exact this
 | succ k ih=>
  intro i s hk hi hf I ht
  have hlt:i < xs.length:=by omega
  have hlb:i < bs.length:=by omega
  refine gI F.entry_any_loop ?_
  rw [fS kL _]
  show wpAny _ A.in1 (pyNext (.ref it) >>= _) _ _ s
  refine ac (item i hlt s _ _ I ht fun u h' ru I' ht'=>?_)
  obtain ⟨ys,⟨p,ep,hp⟩,eb⟩:=tru i hlt hlb
  rw [ep] at ru
  cases ru
  have hs:sizeLine=16777216:=cK
  have hl63:=nP
  have step:∀(s2:Shared),Inv X pins σ H s2→s2.heap=h'→wpAny (model X.prog X.w) A.in1 (do
    letGo [Value.ref p]
    if bs[i]=true then do rule "any.true-item"; ret (.bool true) else again (.builtin "any.loop" ⟨[.ref it],[]⟩)) (fun fin s'=>(match fin with | .done f=>R (.ok f) s' | .again c=>Code.quiet c∧codeAny (model X.prog X.w) A c R s')) (fun e s'=>R (.error e) s') s2:=fun s2 I2 e2=>by
   refine ac (oz ?_)
   cases hbi:bs[i] with
   | true=>
    simp only [iF]
    refine ac (kn (aI ?_))
    have e:bs.any id=true:=gL.mpr ⟨bs[i],cn hlb,hbi⟩
    have:=hR _ I2
    rw [e] at this
    exact this
   | false=>
    simp only [gv,jp]
    refine aI ⟨iS kL _,ih (i+1) _ (by omega) hlt (fun j hj hji=>?_) I2 (by rw [e2]; exact ht')⟩
    by_cases hji':j=i
    ·subst hji'
     exact hbi
    ·exact hf j hj (by omega)
  rcases hp with hp | hp
  ·obtain ⟨its,r,pl,hz⟩:=I'.list (SqL.of hp)
   have hlen:=r.length
   refine ac (fk (wpAny_truthy_list pl.isList (by simp only [bo]; omega) ?_))
   rw [mO r,← eb]
   exact step _ (I'.tok _) rfl
  ·obtain ⟨its,r,pl,hz⟩:=I'.tuple (SqT.of hp)
   have hlen:=r.length
   refine ac (fk (truthy_tuple pl (by simp only [bo]; omega) ?_))
   rw [mO r,← eb]
   exact step _ (I'.tok _) rfl
end
end L2
end
section
namespace L2
open PySem PySem.Spec PyProof.Rows
section
variable {X:Cx}{K:PySem.W.Frag}
theorem Fy(hc:X.calm=true):gn X (.builtin "any") (fun vs H Q=>∃(p:Addr) (xs:List V) (bs:List Bool),vs=[.ref p]∧(H p=some (.lst xs)∨H p=some (.tup xs))∧bs.length=xs.length∧
  (∀(i:Nat) (hi:i < xs.length) (hj:i < bs.length),∃ ys,iy H xs[i] ys∧bs[i]=!ys.isEmpty)∧Q (.bl (bs.any id)) H):=by
 intro pins s σ H xs us Q I r h
 obtain ⟨p,xs,bs,rfl,hp,hb,tru,q⟩:=h
 obtain ⟨u,rfl,ru⟩:=vals1 r
 cases ru
 have hh:X.A.handled=none:=I.ok.hd hc
 refine call_function_tree F.kind_any F.plain_any F.entry_any (F.args_any1 _) ?_
 unfold Builtin.«any»
 refine ac (m:=oneArg "any" _) (aI ?_)
 rcases hp with hp | hp
 ·obtain ⟨its,rv,pl,hz⟩:=I.list (SqL.of hp)
  have hl:=rv.length
  refine ac (iN pl.isList ?_)
  have I1:=I.kept (t':=s.toks) (h':=s.heap.push { cls:=.type "list_iterator",data:=.fields #[.ref p,.int 0 0] }) fun b o e=>ar _ e
  have fp:=I.lK (am _) (I.hok.fresh (am s.heap.objs.size))
  obtain ⟨f0,f1,f2,f3,f4,f5⟩:=fp
  refine aI ⟨iS kL _,DN (X:=X) (pins:=pins) (σ:=σ) (H:=H) (A:=X.A) (it:=s.heap.objs.size) (xs:=xs) (bs:=bs) (fun i h=>h.IsListIter s.heap.objs.size p i) hb ?_ ?_ tru (fun s' I'=>?_) xs.length 0 _ (by simp) (dq _) (by intro j hj h; omega) I1 ⟨_,bn _ rfl,rfl,rfl⟩⟩
  ·intro i hi s2 Q2 E2 I2 t2 k
   obtain ⟨its2,rv2,pl2,_⟩:=I2.list (SqL.of hp)
   obtain ⟨u,hu,ru⟩:=rv2.get (i:=i) (x:=xs[i]) (ae hi)
   exact lS t2 pl2.isList (x:=u) (by simpa using hu) fun h' st' sb=>k u h' ru (I2.turned (t':=s2.toks) (fun b o hb e=>(sb.2 b hb).trans e) f0 f1 f3 f4 f5) st'
  ·intro s2 Q2 E2 I2 t2 k
   obtain ⟨its2,rv2,pl2,_⟩:=I2.list (SqL.of hp)
   have hl2:=rv2.length
   exact mB hh t2 pl2.isList (by simp; omega) fun h' eb=>k h' (I2.turned (t':=s2.toks) (fun b o hb e=>eb b o hb e) f0 f1 f3 f4 f5)
  ·exact⟨.bl _,H,I',rfl,q⟩
 ·obtain ⟨its,rv,pl,hz⟩:=I.tuple (SqT.of hp)
  have hl:=rv.length
  refine ac (wpAny_pyIter_tuple (show s.heap.IsTuple p its.toArray from pl) ?_)
  have I1:=I.kept (t':=s.toks) (h':=s.heap.push { cls:=.type "tuple_iterator",data:=.fields #[.ref p,.int 0 0] }) fun b o e=>ar _ e
  have fp:=I.lK (am _) (I.hok.fresh (am s.heap.objs.size))
  obtain ⟨f0,f1,f2,f3,f4,f5⟩:=fp
  refine aI ⟨iS kL _,DN (X:=X) (pins:=pins) (σ:=σ) (H:=H) (A:=X.A) (it:=s.heap.objs.size) (xs:=xs) (bs:=bs) (fun i h=>h.IsTupleIter s.heap.objs.size p i) hb ?_ ?_ tru (fun s' I'=>?_) xs.length 0 _ (by simp) (dq _) (by intro j hj h; omega) I1 ⟨_,bn _ rfl,rfl,rfl⟩⟩
  ·intro i hi s2 Q2 E2 I2 t2 k
   obtain ⟨its2,rv2,pl2,_⟩:=I2.tuple (SqT.of hp)
   obtain ⟨u,hu,ru⟩:=rv2.get (i:=i) (x:=xs[i]) (ae hi)
   exact ly t2 (show s2.heap.IsTuple p its2.toArray from pl2) (x:=u) (by simpa using hu) fun h' st' sb=>k u h' ru (I2.turned (t':=s2.toks) (fun b o hb e=>sb.extBut b o hb e) f0 f1 f3 f4 f5) st'
  ·intro s2 Q2 E2 I2 t2 k
   obtain ⟨its2,rv2,pl2,_⟩:=I2.tuple (SqT.of hp)
   have hl2:=rv2.length
   exact lT hh t2 (show s2.heap.IsTuple p its2.toArray from pl2) (by simp; omega) fun h' eb=>k h' (I2.turned (t':=s2.toks) (fun b o hb e=>eb b o hb e) f0 f1 f3 f4 f5)
  ·exact⟨.bl _,H,I',rfl,q⟩
theorem Cu{a:Expr}{ta:TE}(hK:X.K=K)(ha:PE X a ta)(he:∀ whole,isTrue a X.env whole=(do let v ← whole; standAt a.pos; holding [v] (truthy v))) :
  PT X a (fun σ H Q=>ta σ H fun x H'=>∃ k,Kp K x H' k∧Q k H'):=by subst hK; exact qu ha he
theorem DW(hK:X.K=K):SlR X (fun x lo hi H Q=>JV K x lo hi H Q∨JQ K x lo hi H Q):=by subst hK; exact xO.or qL
theorem qy(hK:X.K=K):IxR X (fun x y H Q=>J6 K x y H Q∨JZ K x y H Q):=by subst hK; exact aX.or cu
end
end L2
end
section
namespace L2
open PySem PySem.Spec PyProof.Rows PySem.W
section
variable {prog:Program}{w:World}{A:Around}{E:Value→Shared→Prop}{s:Shared}{T:String}{r d:Addr}{n:Nat}{P:Nat→Value→Prop}{OK:Heap→Prop}
theorem Ah{Q:List Value→Shared→Prop}(K:KdlSrc prog w T r d n P OK)(hh:A.handled=none)(hok:OK s.heap)(hn:n≤sizeLine)
  (hQ:∀ (h':Heap) (tk:Nat) (acc:Array Value),(∀ b o,s.heap.get? b=some o→h'.get? b=some o)→ItemsOf P acc n→Q acc.toList { s with heap:=h',toks:=tk }):wpAny (model prog w) A (collect (.ref r)) Q E s:=by
 obtain ⟨l1,l2⟩:=K.there _ hok
 unfold collect
 refine ac (wpAny_runValue (gI F.entry_proto_collect ?_))
 rw [fS F.plain_proto_collect _]
 show wpAny _ A.in1 (newList [] >>= fun l=>again (.builtin "list.__iadd__" ⟨[l,.ref r],[]⟩)) _ _ s
 refine ac (fv ?_)
 refine aI ⟨iS F.plain_list_iadd _,gI F.entry_list_iadd ?_⟩
 rw [fS F.plain_list_iadd _]
 show wpAny _ A.in1 (Builtin.List.listExtendWith (.ref s.heap.objs.size) (.ref r) (.ref s.heap.objs.size)) _ _ _
 have fin':∀ s':Shared,(∃ (h':Heap) (tk:Nat) (acc:Array Value) (c:Nat),s'={ s with heap:=h',toks:=tk }∧(∀ b o,s.heap.get? b=some o→h'.get? b=some o)∧h'.get? s.heap.objs.size=some { cls:=.type "list",dict:=none,data:=.seq acc c,slots:=#[] }∧ItemsOf P acc n)→
   wpAny (model prog w) A (do
    let o ← load s.heap.objs.size
    match o.data with
    | .seq xs _=>pure xs.toList
    | _=>unsupported "internal:collect") Q E s':=by
  rintro s' ⟨h',tk,acc,c,rfl,kp,hS,hacc⟩
  exact ac (wpAny_load hS (aI (hQ h' tk acc kp hacc)))
 refine ic (kdl_extend (s:={ s with heap:=s.heap.push { cls:=.type "list",data:=.seq ([]:List Value).toArray } }) (A:=A)
  (R:=fun r' s'=>r'=.ok (.ret (.ref s.heap.objs.size))∧∃ (h':Heap) (tk:Nat) (acc:Array Value) (c:Nat),s'={ s with heap:=h',toks:=tk }∧(∀ b o,s.heap.get? b=some o→h'.get? b=some o)∧h'.get? s.heap.objs.size=some { cls:=.type "list",dict:=none,data:=.seq acc c,slots:=#[] }∧ItemsOf P acc n)
  K hh (K.keep _ _ hok fun b _ o e=>ar _ e) s.heap.objs.size (fe l1) (fe l2) _ 0 (bn _ rfl)
  (fun h' tk acc c kp hS hacc=>⟨rfl,h',tk,acc,c,rfl,fun b o e=>kp b o (dc (cr e)) (ar _ e),hS,hacc⟩) hn) (fun fin s' h=>?_) (fun e s' h=>?_)
 ·cases fin with
  | done f=>
   obtain ⟨e,h⟩:=h
   cases e
   exact fin' s' h
  | again c'=>exact⟨h.1,ke h.2 fun r s'' hr=>by obtain ⟨rfl,hr⟩:=hr; exact fin' s'' hr⟩
 ·exact absurd h.1 (by simp)
theorem sY{Q:Value→Shared→Prop}(K:KdlSrc prog w "dict" r d n P OK)(hh:A.handled=none)(hok:OK s.heap)(hn:n≤sizeLine)
  (hQ:∀ (h':Heap) (tk:Nat) (acc:Array Value),(∀ b o,s.heap.get? b=some o→h'.get? b=some o)→ItemsOf P acc n→Q (.ref h'.objs.size) { s with heap:=h'.push { cls:=.type "tuple",data:=.seq acc },toks:=tk }) :
  wpAny (model prog w) A (call (.type "tuple") [.ref r]) Q E s:=by
 refine callType_codes (Q₁:=fun obj s₁=>s₁.TypeIs obj "tuple" ∧ Q obj s₁) F.called_tuple (F.typeCall_tuple_1 _) F.entry_object_init (ny (by decide +kernel) F.entry_tuple_new (wpAny_of_eq (F.newCall_tuple_1 _) ?_)) fun obj s₁ h₁=>?_
 ·have hT:∀ tk',({ s with toks:=tk' }:Shared).TypeIs (.ref r) "dict" := fun tk'=>K.type _ hok
  obtain ⟨hp,g,dd,tk,os⟩:=s
  have hsub:=sub_tuple_self
  have hinit:=init_tuple_lookup
  have hmh:=madeHere_tuple
  have hT0:Shared.TypeIs ⟨hp,g,dd,tk,os⟩ (.ref r) "dict" := hT tk
  wp_walk using wpAny_typeOf hT0,Ah (A:=A.in1.in1) K hh hok hn
  intro h' tk' acc kp hacc
  show wpAny _ _ (Builtin.Tuple.tupleExact acc.toList.toArray >>= fun v=>ret v) _ _ _
  unfold Builtin.Tuple.tupleExact
  refine ac (fv ?_ (by show acc.toList.toArray.size≤sizeLine; simp; rw [hacc.1]; exact hn))
  have e:acc.toList.toArray=acc:=by simp
  rw [e]
  refine aI ⟨⟨_,bn _ rfl,rfl⟩,hQ h' tk' acc kp hacc⟩
 ·exact⟨h₁.1,F.args_object_init_2 _ _,object_init_meets F.called_tuple.init.lookup F.called_tuple.made (by decide) prog w A.in1 _ s₁ ⟨h₁.1,rfl,h₁.2⟩⟩
end
end L2
end
section
namespace L2
open PySem PySem.Spec PyProof.Rows
section
variable {X:Cx}
theorem Ej{X:Cx}:∀(ks:List (Key × V)) (ws:List (Key × Value)) (us:List Value),KV ks ws→us.length=ws.length→(∀(j:Nat) (v:Value),us[j]?=some v→∃ k x,ws[j]?=some (k,x)∧(cG X.prog X.w).is k v=true)→Vals (ks.map fun kv=>kV kv.1) us:=by
 intro ks ws us rr
 induction rr generalizing us with
 | nil=>
  intro hl _
  cases us with
  | nil=>exact .nil
  | cons _ _=>cases hl
 | @cons p w' ks ws r t ih=>
  intro hl hi
  cases us with
  | nil=>cases hl
  | cons u us=>
   obtain ⟨k,x,e1,e2⟩:=hi 0 u rfl
   cases e1
   exact .cons (by show RelV (kV p.1) u; rw [r.1]; exact tE e2) (ih us (by simpa using hl) fun j v e=>hi (j+1) v e)
theorem yS(hc:X.calm=true):gn X (.type "tuple") (fun xs H Q=>∃ d kvs,xs=[.ref d]∧Rd H d (.dK kvs)∧∀ l,H l=none→Q (.ref l) (upd H l (.tup (kvs.map fun kv=>kV kv.1)))):=by
 intro pins s σ H xs us Q I r h
 obtain ⟨d,kvs,rfl,hd,q⟩:=h
 obtain ⟨u,rfl,ru⟩:=vals1 r
 cases ru
 have hh:X.A.handled=none:=I.ok.hd hc
 obtain ⟨hz,hs,vs,rv,od,es,ep,ho,r1,r2,r3⟩:=(show cX X.prog X.w H s.heap d (.dK kvs) from hd.ok I.hok)
 have hl:vs.length=kvs.length:=(cS rv).symm
 refine sY (PySem.W.kdl_dict (knd:=cG X.prog X.w) (kvs:=vs) (ep:=ep) hs) hh ⟨_,_,ho,r1,r2,r3⟩ (by omega) fun h' tk acc kp it=>?_
 obtain ⟨i1,i2⟩:=it
 have rk:=Ej (X:=X) kvs vs acc.toList rv (by rw [eI]; exact i1) fun j v e=>i2 j v (by simpa using e)
 have I1:Inv X pins σ H { s with heap:=h',toks:=tk }:=I.kept (t':=tk) kp
 have I2:Inv X pins σ (upd H h'.objs.size (.tup (kvs.map fun kv=>kV kv.1))) { s with heap:=h'.push { cls:=.type "tuple",data:=.seq acc },toks:=tk }:=
  I1.laid (t':=tk) (fun b o e=>ar _ e) (am _) (show cX X.prog X.w _ _ _ (.tup (kvs.map fun kv=>kV kv.1)) from ⟨⟨by rw [aa]; exact hz,lR _ _⟩,acc.toList,rk,by rw [kF]; exact IsTup.new _ _⟩)
 exact⟨.ref h'.objs.size,_,I2,rfl,q _ (I1.hok.fresh (am _))⟩
end
section
variable {prog:Program}{w:World}{A:Around}{E:Value→Shared→Prop}{s:Shared}
theorem Ed(l:Addr)(items:Array Value)(n:Nat)(dct:Option Addr)(sl:Array (Option Value)) :
  Meets (Builtin.«enumerate.__new__» ⟨[.type "enumerate",.ref l],[]⟩) (fun _ R s=>s.heap.get? l=some { cls:=.type "tuple",dict:=dct,data:=.seq items n,slots:=sl }∧
   R (.ok (.ret (.ref (s.heap.push { cls:=.type "tuple_iterator",data:=.fields #[.ref l,.int 0 0] }).objs.size)))
    { s with heap:=(s.heap.push { cls:=.type "tuple_iterator",data:=.fields #[.ref l,.int 0 0] }).push { cls:=.type "enumerate",data:=.fields #[.none,.bool false,.ref s.heap.objs.size,rawInt 0,.none,.none] } }):=
 .of_wp fun prog w A R s h=>by
  obtain ⟨hp,g,d,tk,os⟩:=s
  obtain ⟨hl,h⟩:=h
  have hsub:=sub_enumerate
  have hL:Heap.IsTuple (Shared.heap ⟨hp,g,d,tk,os⟩) l items:=⟨_,hl,rfl,n,rfl⟩
  wp_walk using ia hl
  refine wpAny_stack_any fun st=>aI ?_
  split
  ·rename_i c _ _ _ _ _
   cases (c == Value.type "enumerate")
   ·wp_walk using ia hl,wpAny_pyIter_tuple hL
    exact⟨_,rfl,h⟩
   ·wp_walk using ia hl,wpAny_pyIter_tuple hL
    exact⟨_,rfl,h⟩
  ·wp_walk using ia hl,wpAny_pyIter_tuple hL
   exact⟨_,rfl,h⟩
theorem Bf{l:Addr}{items:Array Value}{Q:Value→Shared→Prop}(hL:s.heap.IsTuple l items)
  (h:∀ h',IsEnum h' (s.heap.objs.size+1) s.heap.objs.size 0 .none→h'.IsTupleIter s.heap.objs.size l 0→(∀ b o,s.heap.get? b=some o→h'.get? b=some o)→Q (.ref (s.heap.objs.size+1)) { s with heap:=h' }) :
  wpAny (model prog w) A (call (.type "enumerate") [.ref l]) Q E s:=by
 obtain ⟨⟨c,dct,dt,sl⟩,hl,hc,n,hd⟩:=hL
 have hc:c=.type "tuple" := hc
 have hd:dt=.seq items n:=hd
 subst hc hd
 refine callType_new F.called_enumerate (by decide) (F.typeCall_enumerate_1 _) (F.newCall_enumerate_1 _) (fun obj=>F.args_object_init_2 obj _) F.entry_enumerate_new (Ed l items n dct sl) ⟨hl,?_⟩
 have hz:(s.heap.push { cls:=.type "tuple_iterator",data:=.fields #[.ref l,.int 0 0] }).objs.size=s.heap.objs.size+1:=gE ..
 show _∧_
 rw [hz]
 have he:IsEnum ((s.heap.push { cls:=.type "tuple_iterator",data:=.fields #[.ref l,.int 0 0] }).push { cls:=.type "enumerate",data:=.fields #[.none,.bool false,.ref s.heap.objs.size,rawInt 0,.none,.none] }) (s.heap.objs.size+1) s.heap.objs.size 0 .none:=by
  rw [← hz]
  exact bn _ rfl
 exact⟨⟨_,he,rfl⟩,h _ he ⟨_,ar _ (bn _ rfl),rfl,rfl⟩ fun b o e=>ar _ (ar _ e)⟩
end
end L2
end
section
namespace L2
open PySem PySem.Spec PyProof.Rows
section
variable {prog:Program}{w:World}{A:Around}{E:Value→Shared→Prop}{s:Shared}
theorem Av{e it l:Addr}{i:Nat}{c:Int}{items:Array Value}{x old:Value}{Q:Value→Shared→Prop}(he:IsEnum s.heap e it c old)(hit:s.heap.IsTupleIter it l i)(hl:s.heap.IsTuple l items)(hx:items[i]?=some x)(hne:e≠it)
  (hQ:∀ h',IsEnumOut h' e it (c+1) x s.heap.objs.size→h'.IsTupleIter it l (i+1)→h'.get? s.heap.objs.size=some { cls:=.type "tuple",data:=.seq #[.int c s.toks,x] }→
   (∀ b o,b≠e→b≠it→s.heap.get? b=some o→h'.get? b=some o)→Q (.ref s.heap.objs.size) { s with heap:=h',toks:=s.toks+1 }) :
  wpAny (model prog w) A (Builtin.«enumerate.__next__» ⟨[.ref e],[]⟩) (fun fin s'=>∃ v,fin=.done (.ret v)∧Q v s') E s:=by
 obtain ⟨hp,g,d,tk,os⟩:=s
 have elt:e < hp.objs.size:=cr he
 show wpAny _ _ (field (.ref e) 2 >>= _) _ _ _
 refine ac (eT he rfl (x:=.ref it) rfl ?_)
 refine ac (mV hit hl hx fun h1 t1 b1=>?_)
 have e1:IsEnum h1 e it c old:=(b1.2 e hne).trans he
 show wpAny _ _ (field (.ref e) 3 >>= _) _ _ ⟨h1,g,d,tk,os⟩
 refine ac (eT e1 rfl (x:=rawInt c) rfl ?_)
 show wpAny _ _ (field (.ref e) 4 >>= _) _ _ ⟨h1,g,d,tk,os⟩
 refine ac (eT e1 rfl (x:=.none) rfl ?_)
 show wpAny _ _ (mkInt c >>= _) _ _ ⟨h1,g,d,tk,os⟩
 refine ac (wpAny_mkInt ?_)
 show wpAny _ _ (setField (.ref e) 3 (rawInt (c+1)) >>= _) _ _ ⟨h1,g,d,tk+1,os⟩
 refine ac (fE e1 (by simp) fun h2 e2 b2=>?_)
 replace e2:IsEnum h2 e it (c+1) old:=e2
 show wpAny _ _ (setField (.ref e) 4 .none >>= _) _ _ ⟨h2,g,d,tk+1,os⟩
 refine ac (fE e2 (by simp) fun h3 e3 b3=>?_)
 replace e3:IsEnum h3 e it (c+1) old:=e3
 show wpAny _ _ (newTuple [.int c tk,x] >>= _) _ _ ⟨h3,g,d,tk+1,os⟩
 refine ac (oq ?_)
 have hsz:h3.objs.size=hp.objs.size:=b3.1.trans (b2.1.trans b1.1)
 have e4:IsEnum (h3.push { cls:=.type "tuple",data:=.seq #[.int c tk,x] }) e it (c+1) old:=ar _ e3
 have g4:(h3.push { cls:=.type "tuple",data:=.seq #[.int c tk,x] }).get? hp.objs.size=some { cls:=.type "tuple",data:=.seq #[.int c tk,x] }:=by
  rw [← hsz]
  exact bn _ rfl
 have k4:∀ b o,b≠e→b≠it→hp.get? b=some o→(h3.push { cls:=.type "tuple",data:=.seq #[.int c tk,x] }).get? b=some o:=fun b o c1 c2 z=>
  ar _ (b3.extBut b o c1 (b2.extBut b o c1 (b1.extBut b o c2 z)))
 have t4:(h3.push { cls:=.type "tuple",data:=.seq #[.int c tk,x] }).IsTupleIter it l (i+1):=by
  obtain ⟨o,ho,r⟩:=(t1.extBut b2.extBut (kK hne)).extBut b3.extBut (kK hne)
  exact⟨o,ar _ ho,r⟩
 have gt:hp.objs.size≠e:=fe elt
 show wpAny _ _ (Builtin.SmallTypes.ownedTupleIsFree (.ref e) >>= _) _ _ ⟨h3.push { cls:=.type "tuple",data:=.seq #[.int c tk,x] },g,d,tk+1,os⟩
 rw [hsz]
 generalize h3.push { cls:=.type "tuple",data:=.seq #[.int c tk,x] }=h4 at e4 g4 k4 t4
 refine ac ?_
 unfold Builtin.SmallTypes.ownedTupleIsFree
 refine ac (eT e4 rfl (x:=.none) rfl (aI ?_))
 simp only [iF]
 refine ac (kn ?_)
 refine ac (eT e4 rfl (x:=old) rfl ?_)
 refine ac (fE e4 (by simp) fun h5 e5 b5=>?_)
 replace e5:IsEnum h5 e it (c+1) x:=e5
 show wpAny _ _ (Builtin.SmallTypes.ownedTupleHandOut (.ref e) (.ref hp.objs.size) >>= _) _ _ ⟨h5,g,d,tk+1,os⟩
 refine ac ?_
 unfold Builtin.SmallTypes.ownedTupleHandOut
 refine ac (fE e5 (by simp) fun h6 e6 b6=>?_)
 replace e6:IsEnumOut h6 e it (c+1) x hp.objs.size:=e6
 refine fE e6 (by simp) fun h7 e7 b7=>?_
 replace e7:IsEnumOut h7 e it (c+1) x hp.objs.size:=e7
 refine ac (oz (aI ⟨_,rfl,hQ h7 e7 ?_ ?_ ?_⟩))
 ·exact((t4.extBut b5.extBut (kK hne)).extBut b6.extBut (kK hne)).extBut b7.extBut (kK hne)
 ·exact b7.extBut _ _ gt (b6.extBut _ _ gt (b5.extBut _ _ gt g4))
 ·exact fun b o c1 c2 z=>b7.extBut b o c1 (b6.extBut b o c1 (b5.extBut b o c1 (k4 b o c1 c2 z)))
theorem Cd{e it l:Addr}{i:Nat}{c:Int}{items:Array Value}{x old:Value}{Q:Option Value→Shared→Prop}(he:IsEnum s.heap e it c old)(hit:s.heap.IsTupleIter it l i)(hl:s.heap.IsTuple l items)(hx:items[i]?=some x)(hne:e≠it)
  (hQ:∀ h',IsEnumOut h' e it (c+1) x s.heap.objs.size→h'.IsTupleIter it l (i+1)→h'.get? s.heap.objs.size=some { cls:=.type "tuple",data:=.seq #[.int c s.toks,x] }→
   (∀ b o,b≠e→b≠it→s.heap.get? b=some o→h'.get? b=some o)→Q (some (.ref s.heap.objs.size)) { s with heap:=h',toks:=s.toks+1 }) :
  wpAny (model prog w) A (pyNext (.ref e)) Q E s:=by
 have hT:s.TypeIs (.ref e) "enumerate" := ⟨_,he,rfl⟩
 unfold pyNext
 exact ac (nh (fg (name:=Str.ofString "__next__") hT kz (fN kz hT F.entry_enumerate_next (Av he hit hl hx hne fun h' a b c k=>aI (hQ h' a b c k)) (F.args_enumerate_next_1 _))))
theorem El{e it l:Addr}{i:Nat}{c:Int}{items:Array Value}{old:Value}{Q:Option Value→Shared→Prop}(hh:A.handled=none)(he:IsEnum s.heap e it c old)(hit:s.heap.IsTupleIter it l i)(hl:s.heap.IsTuple l items)(hx:items[i]?=none)
  (hQ:∀ h',Heap.ExtBut it s.heap h'→Q none { s with heap:=h' }):wpAny (model prog w) A (pyNext (.ref e)) Q E s:=by
 have hT:s.TypeIs (.ref e) "enumerate" := ⟨_,he,rfl⟩
 unfold pyNext
 refine ac (nh (fg (name:=Str.ofString "__next__") hT kz (fN kz hT F.entry_enumerate_next ?_ (F.args_enumerate_next_1 _))))
 show wpAny _ _ (field (.ref e) 2 >>= _) _ _ _
 refine ac (eT he rfl (x:=.ref it) rfl ?_)
 refine ac (rA hh hit hl hx fun h' x' k' hx'=>?_)
 obtain ⟨o,ho,hc⟩:=hx'
 exact ac (wpAny_isInstance (T:= "StopIteration") (b:=true) ⟨o,ho,hc⟩ isSubtype_stop (aI (hQ _ k')))
end
def Km(K:PySem.W.Frag)(a:Addr):It:=
 ⟨fun i H=>∃ xs x,SqT K H a xs∧xs[i]?=some x,fun i H v H'=>∃ p,H p=none∧v=.ref p∧∀ xs x,SqT K H a xs→xs[i]?=some x→H'=upd H p (.tup [.int i,x]),fun i H=>∃ xs,SqT K H a xs∧xs.length≤i⟩
theorem BJ{P:Program}{w:World}{K:PySem.W.Frag}{elts:List Expr}{x1:Nat}{tpos:Pos}{e it l:Addr}(hne:e≠it):Turn P w K (.Tuple elts x1 tpos) (Km K l) [e,it] e
  (fun i h=>(∃ old,IsEnum h e it i old)∧h.IsTupleIter it l i) where
 mem:=by simp
 obj:=fun i h st b hb=>by
  obtain ⟨⟨old,he⟩,o,ei,c,d⟩:=st
  simp only [bu,dL,gN] at hb
  rcases hb with rfl | rfl
  ·exact⟨_,he,fun v q=>nomatch q⟩
  ·exact⟨o,ei,fun v z=>by rw [d] at z; cases z⟩
 keep:=fun i h h' st k=>by
  obtain ⟨⟨old,he⟩,o,ei,r⟩:=st
  exact⟨⟨old,k e (by simp) _ he⟩,o,k it (by simp) _ ei,r⟩
 item:=by
  intro X hP hw hK hc i pins s σ H E I hf st hg
  subst hP hw hK
  obtain ⟨xs,x,hq,hx⟩:=hg
  obtain ⟨its,rv,p,hz⟩:=I.tuple hq
  obtain ⟨u,hu,ru⟩:=rv.get hx
  obtain ⟨⟨old,he⟩,hit⟩:=st
  refine Cd he hit (show s.heap.IsTuple l its.toArray from p) (x:=u) (by simpa using hu) hne fun h' a1 a2 a3 a5=>?_
  refine⟨_,rfl,wpAny_letOwnedTupleGo_enum a1 fun h2' a1' q'=>?_⟩
  have hn:H s.heap.objs.size=none:=I.hok.fresh (am _)
  have elt:e < s.heap.objs.size:=cr he
  have ilt:it < s.heap.objs.size:=by obtain ⟨_,e,_⟩:=hit; exact cr e
  have kk:∀ b ob,b ∉ [e,it]→s.heap.get? b=some ob→h2'.get? b=some ob:=fun b ob hb ee=>by
   simp only [bu,dL,gN,oC] at hb
   exact q'.extBut _ _ hb.1 (a5 b ob hb.1 hb.2 ee)
  have I1:Inv X pins σ (upd H s.heap.objs.size (.tup [.int i,x])) { s with heap:=h2',toks:=s.toks+1 }:=I.uF (t':=s.toks+1) hf kk (am _)
   ⟨⟨by show 2≤sizeLine; decide,fun o ee=>by rw [q'.extBut _ _ (fe elt) a3] at ee; cases ee; rfl⟩,[.int i s.toks,u],.cons ⟨_,rfl⟩ (.cons ru .nil),⟨_,q'.extBut _ _ (fe elt) a3,rfl,_,rfl⟩⟩
  refine⟨.ref s.heap.objs.size,_,I1,rfl,⟨_,hn,rfl,fun xs' x' k1 k3=>?_⟩,⟨⟨_,by simpa using a1'⟩,a2.extBut q'.extBut hne.symm⟩,fun b hb=>?_⟩
  ·rw [I.ou k1 hq,hx] at k3
   cases k3
   rfl
  ·have hb':=hb
   simp only [bu,dL,gN] at hb'
   have hlt:b < s.heap.objs.size:=by
    rcases hb' with rfl | rfl
    ·exact elt
    ·exact ilt
   rw [au (dc hlt)]
   exact(hf b hb).1
 done:=by
  intro X hP hw hK hc i pins s σ H E I hf st hg
  subst hP hw hK
  obtain ⟨xs,hq,hx⟩:=hg
  obtain ⟨its,rv,p,hz⟩:=I.tuple hq
  obtain ⟨⟨old,he⟩,hit⟩:=st
  have hl:=rv.length
  refine El (I.ok.hd hc) he hit (show s.heap.IsTuple l its.toArray from p) (by simp; omega) fun h' eb=>⟨rfl,I.rW (t':=s.toks) hf fun b u hb q=>?_⟩
  simp only [bu,dL,gN,oC] at hb
  exact eb b u hb.2 q
 self:=fun _ _ _ _ _ st h=>by
  obtain ⟨⟨old,he⟩,_⟩:=st
  exact kB he h
section
variable {X:Cx}{K:PySem.W.Frag}
def NP(K:PySem.W.Frag)(ta:TA):TI:=fun σ H R=>ta σ H fun vs H1=>∃ a,vs=[.ref a]∧((∃ xs,SqL K H1 a xs∧R (Ite K a) H1)∨∃ xs,SqT K H1 a xs∧R (Km K a) H1)
theorem Iw{elts:List Expr}{x1:Nat}{tpos:Pos}{a:Expr}{ta:TA}{p pos:Pos}(hK:X.K=K)(hg:Gl X "enumerate")(hm:X.mg "enumerate" = none)(ha:PA X [a] ta)
  (he:starEach [a] X.env=(false,eval a X.env)::starEach [] X.env:=by rfl) (hpl:(backTo pos (starEach [] X.env)).any (·.1)=false:=by rfl):PI X (.Tuple elts x1 tpos) (.Call (.Name "enumerate" p) [a] [] pos) (NP K ta):=by
 subst hK
 intro pins s σ H R I h
 have boot_enum:bootBuiltins "enumerate" = some (.type "enumerate"):=by decide +kernel
 refine i5 (pN I hg hm boot_enum ?_)
 refine ie (thn (ha pos pins s σ H _ I h) fun us s1 ⟨vs,H1,I1,r1,t1,e,q1⟩=>?_) he hpl
 subst e
 obtain ⟨u,rfl,ru⟩:=vals1 r1
 cases ru
 have hne:s1.heap.objs.size+1≠s1.heap.objs.size:=by change @Ne Nat _ _; omega
 have fp:∀ b∈[s1.heap.objs.size+1,s1.heap.objs.size],nG X pins H1 b:=fun b hb=>by
  have hle:s1.heap.objs.size≤b:=by
   simp only [bu,dL,gN] at hb
   rcases hb with h | h <;> rw [h] <;> first | exact am _ | exact i4 _ _
  exact I1.lK hle (I1.hok.fresh hle)
 rcases q1 with ⟨xs,q1,q⟩ | ⟨xs,q1,q⟩
 ·obtain ⟨its,rv,p1,hz1⟩:=I1.list q1
  refine call_enumerate_list p1.isList fun h' hE hI hsz hk=>?_
  refine kB hE ?_
  exact⟨s1.heap.objs.size+1,[s1.heap.objs.size+1,s1.heap.objs.size],_,Ite X.K t1,H1,rfl,I1.kept (t':=s1.toks) hk,wV hne,⟨⟨_,hE⟩,hI⟩,fp,q⟩
 ·obtain ⟨its,rv,p1,hz1⟩:=I1.tuple q1
  refine Bf (show s1.heap.IsTuple t1 its.toArray from p1) fun h' hE hI hk=>?_
  refine kB hE ?_
  exact⟨s1.heap.objs.size+1,[s1.heap.objs.size+1,s1.heap.objs.size],_,Km X.K t1,H1,rfl,I1.kept (t':=s1.toks) hk,BJ hne,⟨⟨_,hE⟩,hI⟩,fp,q⟩
end
end L2
end
section
namespace L2
open PySem PyProof.Rows
abbrev O2(g:TG)(tb:TS)(D:Ends)(σ:L2.St)(J:It)(H1:Hp):Prop:=∃ W:Nat→Nat→L2.St→Hp→Prop,(∃ m,W 0 m σ H1)∧∀ i m σ H,W i m σ H→
 (J.stop i H∧D.nx σ H)∨(J.go i H∧∃ N:L2.St→Hp→Prop,(∀ σ' H',N σ' H'→∃ m',m' < m∧W (i+1) m' σ' H')∧∀ x H',J.yld i H x H'→g x σ H' fun σ2 H2=>tb { D with nx:=N,ct:=N,bk:=D.nx } σ2 H2)
theorem iy.same{H H':Hp}{v:V}{ys:List V}(h:iy H v ys)(s:Same H H'):iy H' v ys:=by
 obtain ⟨p,e,h⟩:=h
 exact⟨p,e,h.elim (fun z=>.inl (s p _ z)) fun z=>.inr (s p _ z)⟩
theorem xW{K:PySem.W.Frag}{a:Addr}{xs:List V}{g:TG}{tb:TS}{D:Ends}{σ:L2.St}{H:Hp}(hq:iy H (.ref a) xs)(Pv:Nat→L2.St→Hp→Prop)(h0:Pv 0 σ H)
  (keep:∀ i σ H',i≤xs.length→Pv i σ H'→∀ o,H a=some o→H' a=some o)
  (hs:∀ i x σ H,xs[i]?=some x→Pv i σ H→g x σ H fun σ2 H2=>tb { D with nx:=Pv (i+1),ct:=Pv (i+1),bk:=D.nx } σ2 H2) (hd:∀ σ H,Pv xs.length σ H→D.nx σ H) :
  (∃ xs,SqT K H a xs∧O2 g tb D σ (Itt K a) H)∨∃ xs,SqL K H a xs∧O2 g tb D σ (Itl K a) H:=by
 obtain ⟨p,e,h⟩:=hq
 cases e
 rcases h with h | h
 ·exact .inr ⟨xs,SqL.of h,nF (K:=K) (a:=a) (xs:=xs) Pv h0 (fun i σ H' hi p=>SqL.of (keep i σ H' hi p _ h)) hs hd⟩
 ·exact .inl ⟨xs,SqT.of h,nW (K:=K) (a:=a) (xs:=xs) Pv h0 (fun i σ H' hi p=>SqT.of (keep i σ H' hi p _ h)) hs hd⟩
theorem sO{K:PySem.W.Frag}{a:Addr}{xs:List V}{own:Nat}{fr:List Nat}{g:TG}{tc:TT}{te:TE}{σ:L2.St}{Q:VK}{H:Hp}(hq:iy H (.ref a) xs)(Pv:Addr→Nat→List V→Hp→Prop)
  (h0:∀ D,H D=none→Pv D 0 [] (upd H D (.lst []))) (keep:∀ D i ys H',H D=none→Pv D i ys H'→∀ o,H a=some o→H' a=some o) (stop:∀ D ys H',H D=none→Pv D xs.length ys H'→Q (.ref D) H')
  (go:∀ D i x ys H',H D=none→i < xs.length→xs[i]?=some x→Pv D i ys H'→∀ σo:L2.St,σo.length=own→g x (σo++frv σ fr) H' fun σ2 H2=>(∃ σo':L2.St,σo'.length=own∧σ2=σo'++frv σ fr)∧
   tc σ2 H2 fun b H3=>if b=true then te σ2 H3 fun y H4=>ys.length < sizeLine∧H4 D=some (.lst ys)∧∃ m',m' < xs.length - i∧(m'=xs.length - (i+1)∧i+1≤xs.length∧Pv D (i+1) (ys++[y]) (upd H4 D (.lst (ys++[y])))) else ∃ m',m' < xs.length - i∧(m'=xs.length - (i+1)∧i+1≤xs.length∧Pv D (i+1) ys H3)) :
  (∃ xs,SqT K H a xs∧∀ D,H D=none→qK own fr g tc te σ Q (Itt K a) D (upd H D (.lst [])))∨∃ xs,SqL K H a xs∧∀ D,H D=none→qK own fr g tc te σ Q (Itl K a) D (upd H D (.lst [])):=by
 obtain ⟨p,e,h⟩:=hq
 cases e
 rcases h with h | h
 ·refine .inr ⟨xs,SqL.of h,fun D hD=>bA (n:=xs.length) (Pv D) (h0 D hD) (fun ys H' p=>⟨⟨xs,SqL.of (keep D _ ys H' hD p _ h),am _⟩,stop D ys H' hD p⟩) fun i ys H' hi p=>?_⟩
  have ex:xs[i]?=some xs[i]:=ae hi
  have hl:=SqL.of (K:=K) (keep D i ys H' hD p _ h)
  refine⟨⟨xs,xs[i],hl,ex⟩,?_⟩
  rintro x H2 ⟨rfl,yy⟩ σo ho
  exact go D i x ys H2 hD hi (yy xs hl) p σo ho
 ·refine .inl ⟨xs,SqT.of h,fun D hD=>bA (n:=xs.length) (Pv D) (h0 D hD) (fun ys H' p=>⟨⟨xs,SqT.of (keep D _ ys H' hD p _ h),am _⟩,stop D ys H' hD p⟩) fun i ys H' hi p=>?_⟩
  have ex:xs[i]?=some xs[i]:=ae hi
  have hl:=SqT.of (K:=K) (keep D i ys H' hD p _ h)
  refine⟨⟨xs,xs[i],hl,ex⟩,?_⟩
  rintro x H2 ⟨rfl,yy⟩ σo ho
  exact go D i x ys H2 hD hi (yy xs hl) p σo ho
theorem Aq{K:PySem.W.Frag}{a:Addr}{xs:List V}{own:Nat}{fr:List Nat}{g:TG}{tc:TT}{te:TE}{σ:L2.St}{Q:VK}{H:Hp}(hq:iy H (.ref a) xs)(Pv:Addr→Nat→List V→Hp→Prop)
  (h0:∀ D,H D=none→Pv D 0 [] (upd H D (.lst []))) (keep:∀ D i ys H',H D=none→Pv D i ys H'→∀ o,H a=some o→H' a=some o) (stop:∀ D ys H',H D=none→Pv D xs.length ys H'→Q (.ref D) H')
  (go:∀ D i x ys H' p,H D=none→i < xs.length→xs[i]?=some x→Pv D i ys H'→H' p=none→∀ σo:L2.St,σo.length=own→g (.ref p) (σo++frv σ fr) (upd H' p (.tup [.int i,x])) fun σ2 H2=>(∃ σo':L2.St,σo'.length=own∧σ2=σo'++frv σ fr)∧
   tc σ2 H2 fun b H3=>if b=true then te σ2 H3 fun y H4=>ys.length < sizeLine∧H4 D=some (.lst ys)∧∃ m',m' < xs.length - i∧(m'=xs.length - (i+1)∧i+1≤xs.length∧Pv D (i+1) (ys++[y]) (upd H4 D (.lst (ys++[y])))) else ∃ m',m' < xs.length - i∧(m'=xs.length - (i+1)∧i+1≤xs.length∧Pv D (i+1) ys H3)) :
  (∃ xs,SqL K H a xs∧∀ D,H D=none→qK own fr g tc te σ Q (Ite K a) D (upd H D (.lst [])))∨∃ xs,SqT K H a xs∧∀ D,H D=none→qK own fr g tc te σ Q (Km K a) D (upd H D (.lst [])):=by
 obtain ⟨p,e,h⟩:=hq
 cases e
 rcases h with h | h
 ·refine .inl ⟨xs,SqL.of h,fun D hD=>bA (n:=xs.length) (Pv D) (h0 D hD) (fun ys H' p=>⟨⟨xs,SqL.of (keep D _ ys H' hD p _ h),am _⟩,stop D ys H' hD p⟩) fun i ys H' hi p=>?_⟩
  have ex:xs[i]?=some xs[i]:=ae hi
  have hl:=SqL.of (K:=K) (keep D i ys H' hD p _ h)
  refine⟨⟨xs,xs[i],hl,ex⟩,?_⟩
  rintro x H2 ⟨q,hq,rfl,yy⟩ σo ho
  have e2:=yy xs xs[i] hl ex
  subst e2
  exact go D i xs[i] ys H' q hD hi ex p hq σo ho
 ·refine .inr ⟨xs,SqT.of h,fun D hD=>bA (n:=xs.length) (Pv D) (h0 D hD) (fun ys H' p=>⟨⟨xs,SqT.of (keep D _ ys H' hD p _ h),am _⟩,stop D ys H' hD p⟩) fun i ys H' hi p=>?_⟩
  have ex:xs[i]?=some xs[i]:=ae hi
  have hl:=SqT.of (K:=K) (keep D i ys H' hD p _ h)
  refine⟨⟨xs,xs[i],hl,ex⟩,?_⟩
  rintro x H2 ⟨q,hq,rfl,yy⟩ σo ho
  have e2:=yy xs xs[i] hl ex
  subst e2
  exact go D i xs[i] ys H' q hD hi ex p hq σo ho
def Q8(H:Hp)(vs:List V)(rows:List (List Str)):Prop:=Paired (fun(v:V) (r:List Str)=>iy H v (r.map V.str)) vs rows
end L2
end
section
namespace L2
open PySem PySem.Spec PyProof.Rows
section
variable {X:Cx}
def Ax(te:TE):TI:=fun σ H R=>te σ H fun x H1=>∃(d:Addr) (kvs:List (Key × V)),x=.ref d∧((H1 d=some (.dK kvs)∧∀ o,R (Itd o d kvs) (upd H1 d (.frz o (.dK kvs))))∨∃ o,H1 d=some (.frz o (.dK kvs))∧R (Itd o d kvs) H1)
theorem Ir{l:Expr}{tg:Expr}{te:TE}(hl:PE X l te):PI X tg l (Ax te):=by
 intro pins s σ H R I h
 refine thn (hl pins s σ H _ I h) fun v s1 ⟨x,H1,I1,r,d,kvs,e,q⟩=>?_
 subst e
 cases r
 rcases q with ⟨hd,q⟩ | ⟨o,hd,q⟩
 ·exact wM I1 hd q
 ·obtain ⟨ho,hz,hs,vs,rv,od,es,ep,ho',r1,r2,r3⟩:=(show cX X.prog X.w H1 s1.heap d (.frz o (.dK kvs)) from I1.hok d _ hd)
  rw [ho] at ho'
  cases ho'
  have hl:vs.length=kvs.length:=(cS rv).symm
  refine wpAny_pyIter_dict (knd:=cG X.prog X.w) (kvs:=vs) (ep:=ep) hs ⟨_,_,ho,r1,r2,r3⟩ ?_
  have I2:=I1.kept (t':=s1.toks) (h':=s1.heap.push { cls:=.type "dict_keyiterator",data:=.fields #[.ref d,.int 0 0,.int vs.length 0,.int ep 0] }) fun b o e=>ar _ e
  refine⟨s1.heap.objs.size,[s1.heap.objs.size],_,_,_,rfl,I2,xq r2 d s1.heap.objs.size kvs,?_,fun b hb=>?_,q⟩
  ·exact⟨_,bn _ rfl,rfl,by rw [hl]; rfl⟩
  ·have e:b=s1.heap.objs.size:=by simpa using hb
   subst e
   exact I1.lK (am _) (I1.hok.fresh (am _))
end
def Qy:Key→PyData
 | .inl i=>.int i
 | .inr x=>.str x
mutual
def noL:PyData→Bool
 | .none | .bool _ | .int _ | .str _=>true
 | .list _=>false
 | .tuple xs=>Ol xs
 | .dict kvs=>Om kvs
def Ol:List PyData→Bool
 | []=>true
 | x::xs=>noL x && Ol xs
def Om:List (PyData × PyData)→Bool
 | []=>true
 | (_,v)::r=>noL v && Om r
end
mutual
inductive RdV (H:Hp):V→PyData→Prop
 | non:RdV H .non .none
 | bl (b:Bool):RdV H (.bl b) (.bool b)
 | int (i:Int):RdV H (.int i) (.int i)
 | str (x:Str):RdV H (.str x) (.str x)
 | tup {a:Addr} {xs:List V} {ds:List PyData}:H a=some (.tup xs)→RdA H xs ds→RdV H (.ref a) (.tuple ds)
 | lst {a:Addr} {xs:List V} {ds:List PyData}:H a=some (.lst xs)→RdA H xs ds→RdV H (.ref a) (.list ds)
 | dct {a:Addr} {kvs:List (Key × V)} {ds:List PyData}:H a=some (.dK kvs)→RdA H (kvs.map (·.2)) ds→RdV H (.ref a) (.dict ((kvs.map fun p=>Qy p.1).zip ds))
inductive RdA (H:Hp):List V→List PyData→Prop
 | nil:RdA H [] []
 | cons {v:V} {d:PyData} {vs:List V} {ds:List PyData}:RdV H v d→RdA H vs ds→RdA H (v::vs) (d::ds)
end
theorem RdA.length{H:Hp}:∀ {vs:List V} {ds:List PyData},RdA H vs ds→vs.length=ds.length
 | _,_,.nil=>rfl
 | _,_,.cons _ r=>by simp [RdA.length r]
section
variable {X:Cx}{pins:List (Addr × Obj)}{σ:St}{H:Hp}{s:Shared}
end
def Lw(x:Str):Prop:=∀ c∈x.cps.toList,c∈abc.cps.toList
theorem Lw.empty:Lw Str.empty:=fun c hc=>nomatch hc
theorem Lw.nil:Lw "" := by
 unfold Lw
 decide +kernel
theorem Lw.app{x y:Str}(h:Lw x)(g:Lw y):Lw (x++y):=fun c hc=>by
 have hc:c∈(x.cps++y.cps).toList:=hc
 rw [nS] at hc
 rcases bS.mp hc with q | q
 ·exact h c q
 ·exact g c q
theorem Lw.one{c:Nat}(h:c∈abc.cps.toList):Lw ⟨#[c]⟩:=fun d hd=>by
 rw [aS.mp (show d∈[c] from hd)]
 exact h
theorem Lw.letter{x:Str}(h:x∈letters):Lw x:=by
 obtain ⟨c,hc,rfl⟩:=bg.mp h
 exact Lw.one hc
theorem Lw.slice{x:Str}(h:Lw x)(lo hi:Option Int):Lw (Txt.slice x lo hi):=by
 unfold Txt.slice
 split
 ·exact h
 ·intro c hc
  obtain ⟨i,_,e⟩:=kc.mp (show c∈(List.filterMap (x.cps[·]?) _) from hc)
  exact h c (nr.mpr (Array.mem_of_getElem? e))
theorem Dy{c:Nat}{xs:Array Nat}:∀ {k:Nat} {acc:Array Nat},c∈(List.foldl (fun x1 x2=>x1++x2) acc (List.replicate k xs)).toList→c∈acc.toList∨c∈xs.toList
 | 0,_,h=>.inl h
 | k+1,acc,h=>by
  rcases Dy (k:=k) (acc:=acc++xs) h with q | q
  ·rw [nS] at q
   exact bS.mp q
  ·exact .inr q
theorem Lw.rep{x:Str}(h:Lw x)(n:Int):Lw (jF x n):=by
 unfold jF
 split
 ·exact Lw.empty
 ·split
  ·exact h
  ·intro c hc
   rcases Dy hc with q | q
   ·exact nomatch q
   ·exact h c q
theorem Mu:∀ c∈abc.cps.toList,97≤c∧c≤122:=by decide +kernel
theorem uz{xs:List Nat}{i:Int}{c:Nat}(h:atI xs i=some c):c∈xs:=by
 unfold atI at h
 obtain ⟨j,_,e⟩:=Option.bind_eq_some_iff.mp h
 exact eJ e
def Q9(H:Hp)(us:List V)(tbl:List (List Int)):Prop:=Paired (fun(v:V) (js:List Int)=>∃ a,v=.ref a∧H a=some (.tup (js.map V.int))) us tbl
end L2
end
section
namespace L2
open PySem PySem.Spec PyProof.Rows
section
variable {prog:Program}{w:World}{A:Around}{E:Value→Shared→Prop}{s:Shared}
theorem rJ{l:Addr}{T:String}{o:Obj}{vs:List Value}{n:Nat}{ss:List Str}{Q:Value→Shared→Prop}(hT:T = "list" ∨ T = "tuple")(ho:s.heap.get? l=some o)(hc:o.cls=.type T)(hd:o.data=.seq vs.toArray n)(hS:StrsAre vs ss)(h64:vs.length < 64)
  (h:∀(h1:Heap) (out:Array Value) (ss':List Str),(∀ b o',s.heap.get? b=some o'→h1.get? b=some o')→StrsAre out.toList ss'→ss'.Perm ss→sortedS ss'=true→Q (.ref h1.objs.size) { s with heap:=sortedHeap (h1.push (seqObj "list" vs.toArray 0)) h1.objs.size vs out }) :
  wpAny (model prog w) A (call (.builtin "sorted") [.ref l]) Q E s:=by
 refine kP kind_sorted plain_sorted entry_sorted (args_sorted1 _) ?_
 unfold Builtin.«sorted»
 refine ac (m:=checkCount "sorted" 1 1 _) (aI ?_)
 refine ac (wpAny_collect_seq l hT ho hc hd (fun h1 kp=>?_) (by rw [bo,cK]; omega))
 have e0:vs.toArray.toList=vs:=by simp
 rw [e0]
 refine ac (nk ?_ (by rw [cK]; omega))
 have hoL:(h1.push (seqObj "list" vs.toArray 0)).get? h1.objs.size=some (seqObj "list" vs.toArray 0):=bn _ rfl
 show wpAny _ _ _ _ _ { s with heap:=h1.push (seqObj "list" vs.toArray 0) }
 refine ac (fk (fN slot_list_sort ⟨_,hoL,rfl⟩ entry_list_sort (list_sort_treeK strKind_oneLt hoL hS.keysOf (fun v₁ v₂ rest e=>keyKind_strs (by rw [← e]; exact hS)) h64 fun st' a1 a2=>⟨_,rfl,?_⟩) (args_list_sort _)))
 obtain ⟨ss',b1,b2,b3⟩:=sorted_out_str hS a1 a2
 exact aI ⟨_,rfl,h h1 _ ss' kp b1 b2 b3⟩
end
theorem pO:∀ {ss:List Str} {us:List Value},Vals (ss.map V.str) us→StrsAre us ss
 | [],_,.nil=>.nil
 | x::ss,_,.cons r t=>by
  obtain ⟨k,rfl⟩:=r
  exact .cons x k (pO t)
theorem pX:∀ {ss:List Str} {us:List Value},StrsAre us ss→Vals (ss.map V.str) us
 | _,_,.nil=>.nil
 | _,_,.cons y t h=>.cons ⟨t,rfl⟩ (pX h)
def leS(a b:Str):Prop:=a.cps.toList≤b.cps.toList
theorem Il{a b:Str}(h:ltCps b.cps.toList a.cps.toList=false):leS a b:=by
 rw [ltCps_eq] at h
 exact List.not_lt.mp (of_decide_eq_false h)
theorem wF{a b c:Str}(h:leS a b)(g:leS b c):leS a c:=List.le_trans h g
theorem Jf{a b:Str}(h:leS a b)(g:leS b a):a=b:=by
 have e:a.cps.toList=b.cps.toList:=List.le_antisymm h g
 have e2:a.cps=b.cps:=Array.toList_inj.mp e
 cases a
 cases b
 cases e2
 rfl
theorem wU:∀(l:List Str) (p:Str),risingS p l=true→(p::l).Pairwise leS
 | [],p,_=>List.pairwise_singleton _ _
 | x::r,p,h=>by
  have h:(!ltCps x.cps.toList p.cps.toList && risingS x r)=true:=h
  rw [gT,Bool.not_eq_true'] at h
  have h1:=Il h.1
  have ih:=wU r x h.2
  refine List.pairwise_cons.mpr ⟨fun y hy=>?_,ih⟩
  rcases bu.mp hy with rfl | hy
  ·exact h1
  ·exact wF h1 (List.rel_of_pairwise_cons ih hy)
section
variable {X:Cx}
theorem yp:gn X (.builtin "sorted") (fun xs H Q=>∃ p ss,xs=[.ref p]∧(SqL X.K H p (ss.map V.str)∨SqT X.K H p (ss.map V.str))∧ss.length < 64∧∀ d ss',ss'.Perm ss→sortedS ss'=true→H d=none→Q (.ref d) (upd H d (.lst (ss'.map V.str)))):=by
 intro pins s σ H xs us Q I r h
 obtain ⟨p,ss,rfl,hq,h64,q⟩:=h
 obtain ⟨u,rfl,rx⟩:=vals1 r
 cases rx
 have fin:∀(its:List Value) (h1:Heap) (out:Array Value) (ss':List Str),(∀ b o',s.heap.get? b=some o'→h1.get? b=some o')→StrsAre out.toList ss'→ss'.Perm ss→sortedS ss'=true→EP X pins σ Q (.ref h1.objs.size) { s with heap:=sortedHeap (h1.push (seqObj "list" its.toArray 0)) h1.objs.size its out }:=fun its h1 out ss' kp b1 b2 b3=>by
  have I1:Inv X pins σ H { s with heap:=h1 }:=I.kept (t':=s.toks) kp
  have hoL:(h1.push (seqObj "list" its.toArray 0)).get? h1.objs.size=some (seqObj "list" its.toArray 0):=bn _ rfl
  obtain ⟨e,he⟩:=sortedHeap_at (out:=out) hoL
  refine⟨.ref h1.objs.size,_,I1.laid (t':=s.toks) (o:=.lst (ss'.map V.str)) (fun b o e'=>?_) (am _) ⟨?_,out.toList,e,pX b1,by rw [kF]; exact he⟩,rfl,q _ ss' b2 b3 (I1.hok.fresh (am _))⟩
  ·have hlt:b < h1.objs.size:=cr e'
   rw [sortedHeap_old (dc hlt) (by rw [size_push']; exact gu hlt)]
   exact ar _ e'
  ·rw [aa,b2.length_eq,cK]
   omega
 rcases hq with hq | hq
 ·obtain ⟨its,r',pl,hz⟩:=I.list hq
  have hlen:=r'.length
  rw [aa] at hlen
  obtain ⟨o,ho,hc,n,hd⟩:=pl.isList
  exact rJ (.inl rfl) ho hc hd (pO r') (by omega) (fin its)
 ·obtain ⟨its,r',pl,hz⟩:=I.tuple hq
  have hlen:=r'.length
  rw [aa] at hlen
  obtain ⟨o,ho,hc,n,hd⟩:=pl
  exact rJ (.inr rfl) ho hc hd (pO r') (by omega) (fin its)
end
end L2
end
section
namespace L2
open PySem PySem.Spec PyProof.Rows
section
variable {X:Cx}
end
end L2
end
section
namespace HT
open PySem PySem.Spec PyProof.Rows
section
variable {prog:Program}{w:World}{A:Around}{E:Value→Shared→Prop}{s:Shared}
theorem oO{t sl:Addr}{items:Array Value}{vl vu:Value}{lo hi:Option Int}{Q:Value→Shared→Prop}(ht:IsTup s.heap t items)(hs:s.heap.IsSliceOf sl vl vu .none)(pl:IsPart vl lo)(pu:IsPart vu hi)
  (hw:sIx items.size 0 lo=0∧sIx items.size items.size hi=items.size) (h:Q (.ref t) s):wpAny (model prog w) A (getItem (.ref t) (.ref sl)) Q E s:=by
 obtain ⟨os,hos,hcs,hds⟩:=id hs
 have hTs:s.TypeIs (.ref sl) "slice" := ⟨os,hos,hcs⟩
 unfold getItem
 try with_reducible refine fk ?_
 first | refine ac (aI ?_) | skip
 refine ac (wpAny_sequenceKey ht.typeIs (by decide) ?_)
 refine ac (fg (name:=Str.ofString "__getitem__") ht.typeIs eR
  (fN eR ht.typeIs nN ?_ (args_tuple_getitem _ _)))
 show wpAny _ _ (Builtin.Tuple.tupleItemsOf (.ref t) >>= _) _ _ s
 refine ac (tupleItemsOf_ ht ?_)
 refine ac (wpAny_typeOf hTs ?_)
 rw [ck (by decide)]
 refine ac (lX hs pl pu ?_)
 have hyes:(((sIx items.size 0 lo:Nat):Int) == 0 && (1:Int) == 1 && (sIx items.size items.size hi - sIx items.size 0 lo) == items.size)=true:=by
  rw [hw.1,hw.2]
  simp
 show wpAny _ _ (if (((sIx items.size 0 lo:Nat):Int) == 0 && (1:Int) == 1 && (sIx items.size items.size hi - sIx items.size 0 lo) == items.size)=true then _ else _) _ _ s
 rw [ck hyes]
 unfold Builtin.Tuple.tupleIsExact
 refine ac (ac (wpAny_typeOf ht.typeIs (aI ?_)))
 rw [ck (by decide)]
 refine ac (kn ?_)
 exact aI ⟨_,rfl,aI h⟩
end
end HT
namespace L2
open PySem PySem.Spec PyProof.Rows
section
variable {X:Cx}
def Qv(K:PySem.W.Frag):V→Option Int→Option Int→Hp→VK→Prop:=fun x lo hi H Q=>∃ a xs,x=.ref a∧H a=some (.tup xs)∧
 ∀ p H',H' p=some (.tup (eF xs lo hi))→Same H H'→Q (.ref p) H'
theorem Ko:SlR X (Qv X.K):=by
 intro pins s σ H x v vl vu lo hi sl Q I rx hs pl pu h
 obtain ⟨a,xs,rfl,hx,q⟩:=h
 by_cases hw:HT.sIx xs.length 0 lo=0∧HT.sIx xs.length xs.length hi=xs.length
 ·cases rx
  obtain ⟨its,r,ht,hz⟩:=I.tuple (SqT.of (K:=X.K) hx)
  have hlen:its.toArray.size=xs.length:=by rw [bo]; exact r.length.symm
  refine⟨"tuple",_,eR.lookup,ht.typeIs,?_⟩
  refine HT.oO ht hs pl pu (by rw [hlen]; exact hw) ?_
  have e:eF xs lo hi=xs:=by
   unfold eF
   rw [hw.1,hw.2]
   simp
  exact⟨.ref a,H,I,rfl,q a H (by rw [e]; exact hx) (Same.refl H)⟩
 ·exact xO pins s σ H (.ref a) v vl vu lo hi sl Q I rx hs pl pu ⟨a,xs,rfl,SqT.of hx,hw,fun p hp=>q p _ ak (Same.new hp)⟩
def Oj:R2:=fun x y H Q=>∃ a b xs ys,x=.ref a∧y=.ref b∧H a=some (.tup xs)∧H b=some (.tup ys)∧xs≠[]∧xs.length+ys.length≤sizeLine∧∀ p H',H' p=some (.tup (xs++ys))→Same H H'→Q (.ref p) H'
theorem KH:OpR X (binaryOp .Add) Oj:=by
 intro pins s σ H x y v u Q I rx ry h
 obtain ⟨a,b,xs,ys,rfl,rfl,ha,hb,hne,hz,q⟩:=h
 exact Dr pins s σ H (.ref a) (.ref b) v u Q I rx ry ⟨a,b,xs,ys,rfl,rfl,SqT.of ha,SqT.of hb,hne,hz,fun e=>q a H (by rw [e,eB]; exact ha) (Same.refl H),fun _ p hp=>q p _ ak (Same.new hp)⟩
end
end L2
end
section
namespace L2
open PySem PySem.Spec PyProof.Rows
section
variable {prog:Program}{w:World}{A:Around}{E:Value→Shared→Prop}{s:Shared}
theorem Fj{z TI TO i1 i2 t1 t2:Addr}{k:Nat}{xs ys:Array Value}{x a b:Value}{Q:Fin→Shared→Prop}(hh:A.handled=none)(D:ZA z TI TO i1 i2 t1 t2)
  (hz:IsZip s.heap z TI TO .none) (hTI:IsPair s.heap TI (.ref i1) (.ref i2)) (hTO:IsPair s.heap TO a b) (h1:s.heap.IsTupleIter i1 t1 k) (h2:s.heap.IsTupleIter i2 t2 k) (hl1:s.heap.IsTuple t1 xs) (hl2:s.heap.IsTuple t2 ys) (hx:xs[k]?=some x) (hy:ys[k]?=none)
  (hE:∀ h' e,(∀ c o,c≠z→c≠TO→c≠i1→c≠i2→s.heap.get? c=some o→h'.get? c=some o)→(∃ o,h'.get? e=some o∧o.cls=.type "StopIteration")→E (.ref e) { s with heap:=h' }) :
  wpAny (model prog w) A (Builtin.«zip.__next__» ⟨[.ref z],[]⟩) Q E s:=by
 show wpAny _ _ (field (.ref z) 2 >>= _) _ _ _; refine ac (eT hz rfl (x:=.bool false) rfl ?_)
 show wpAny _ _ (field (.ref z) 3 >>= _) _ _ _; refine ac (eT hz rfl (x:=.ref TI) rfl (ac (hU hTI rfl ?_)))
 show wpAny _ _ (Builtin.SmallTypes.ownedTupleIsFree (.ref z) >>= _) _ _ _
 unfold Builtin.SmallTypes.ownedTupleIsFree
 refine ac (ac (eT hz rfl (x:=.none) rfl (aI ?_)))
 simp only [iF]
 refine ac (kn (ac (eT hz rfl (x:=.ref TO) rfl (ac (fE hz (by simp) fun g1 z1 q1=>?_)))))
 replace z1:IsZip g1 z TI TO .ellipsis:=z1
 simp only [List.zipIdx_cons,List.zipIdx_nil,nI,n9]
 refine ac (ac (ac (mS ?_)))
 show wpAny _ _ (Builtin.SmallTypes.nextOf (.ref i1) >>= _) _ _ _
 refine ac (mV (h1.extBut q1.extBut D.a3) (hl1.extBut q1.extBut D.b2) hx fun g2 j2 q2=>aI ?_)
 have p2:IsPair g2 TO a b:=q2.extBut _ _ D.a8 (q1.extBut _ _ D.a2 hTO)
 refine ac (hU p2 rfl (ac (nw p2 fun g3 p3 q3=>ac (oz (aI ?_)))))
 refine ac (ac (mS ?_))
 show wpAny _ _ (Builtin.SmallTypes.nextOf (.ref i2) >>= _) _ _ _
 refine ac (rA hh (((h2.extBut q1.extBut D.a4).extBut q2.extBut D.b1.symm).extBut q3.extBut D.a9.symm) (((hl2.extBut q1.extBut D.b6).extBut q2.extBut D.b8).extBut q3.extBut D.b7) hy fun g4 e q4 ⟨oe,e1,e2⟩=>?_)
 have z4:IsZip g4 z TI TO .ellipsis:=q4 _ _ D.a4.symm (q3.extBut _ _ D.a2.symm (q2.extBut _ _ D.a3.symm z1))
 have hez:e≠z:=fun x=>by subst x; rw [z4] at e1; cases e1; simp at e2
 exact fE z4 (by simp) fun g5 _ q5=>hE g5 e (fun c o c1 c2 c3 c4 x=>q5.extBut _ _ c1 (q4 _ _ c4 (q3.extBut _ _ c2 (q2.extBut _ _ c3 (q1.extBut _ _ c1 x))))) ⟨oe,q5.extBut _ _ hez e1,e2⟩
end
def M9(K:PySem.W.Frag)(t1 t2:Addr):It:=
 ⟨fun i H=>∃ xs ys x y,SqT K H t1 xs∧SqT K H t2 ys∧xs[i]?=some x∧ys[i]?=some y,fun i H v H'=>∃ p,H p=none∧v=.ref p∧∀ xs ys x y,SqT K H t1 xs→SqT K H t2 ys→xs[i]?=some x→ys[i]?=some y→H'=upd H p (.tup [x,y]),
  fun i H=>∃ xs ys,SqT K H t1 xs∧SqT K H t2 ys∧(xs.length≤i∨ys.length≤i)⟩
theorem Gm{P:Program}{w:World}{K:PySem.W.Frag}{elts:List Expr}{x1:Nat}{tpos:Pos}{z TI TO i1 i2 t1 t2:Addr}(D:ZA z TI TO i1 i2 t1 t2):Turn P w K (.Tuple elts x1 tpos) (M9 K t1 t2) [z,TI,TO,i1,i2] z
  (fun i h=>IsZip h z TI TO .none∧IsPair h TI (.ref i1) (.ref i2)∧(∃ a b,IsPair h TO a b)∧h.IsTupleIter i1 t1 i∧h.IsTupleIter i2 t2 i) where
 mem:=(mF (P:=P) (w:=w) (K:=K) (elts:=elts) (x1:=x1) (tpos:=tpos) D).mem
 obj:=(mF (P:=P) (w:=w) (K:=K) (elts:=elts) (x1:=x1) (tpos:=tpos) D).obj
 keep:=(mF (P:=P) (w:=w) (K:=K) (elts:=elts) (x1:=x1) (tpos:=tpos) D).keep
 item:=(mF (P:=P) (w:=w) (K:=K) (elts:=elts) (x1:=x1) (tpos:=tpos) D).item
 done:=by
  intro X hP hw hK hc i pins s σ H E I hf st hg
  subst hP hw hK
  obtain ⟨xs,ys,q1,q2,e1⟩:=hg
  by_cases hx:xs.length≤i
  ·exact(mF (P:=X.prog) (w:=X.w) (K:=X.K) (elts:=elts) (x1:=x1) (tpos:=tpos) D).done X rfl rfl rfl hc i pins s σ H E I hf st ⟨xs,q1,hx⟩
  ·have hy:=e1.resolve_left hx
   obtain ⟨its,rv,p,hz'⟩:=I.tuple q1
   obtain ⟨jts,rw',p',hz''⟩:=I.tuple q2
   have hl:=rv.length
   have hl2:=rw'.length
   have hxi:i < xs.length:=by omega
   obtain ⟨u,hu,ru⟩:=rv.get (ae hxi)
   obtain ⟨hz,hTI,⟨a,c,hTO⟩,h1,h2⟩:=st
   have hT:s.TypeIs (.ref z) "zip" := ⟨_,hz,rfl⟩
   unfold pyNext
   refine ac (nh (fg (name:=Str.ofString "__next__") hT kr (fN kr hT F.entry_zip_next
    (Fj (I.ok.hd hc) D hz hTI hTO h1 h2 (show s.heap.IsTuple t1 its.toArray from p) (show s.heap.IsTuple t2 jts.toArray from p') (x:=u) (by simpa using hu) (by simp; omega) fun h' e kk ⟨o,ho,hcl⟩=>?_) (F.args_zip_next_1 _))))
   refine ac (wpAny_isInstance (T:= "StopIteration") (b:=true) ⟨o,ho,hcl⟩ isSubtype_stop (aI ⟨rfl,I.rW (t':=s.toks) hf fun b u hb q=>?_⟩))
   simp only [bu,dL,gN,oC] at hb
   exact kk b u hb.1 hb.2.2.1 hb.2.2.2.1 hb.2.2.2.2 q
 self:=(mF (P:=P) (w:=w) (K:=K) (elts:=elts) (x1:=x1) (tpos:=tpos) D).self
section
variable {X:Cx}
def Qe(K:PySem.W.Frag)(ta:TA):TI:=fun σ H R=>ta σ H fun vs H1=>∃ a b xs ys,vs=[.ref a,.ref b]∧SqT K H1 a xs∧SqT K H1 b ys∧R (M9 K a b) H1
theorem K8{elts:List Expr}{x1:Nat}{tpos:Pos}{a b:Expr}{ta:TA}{p pos:Pos}(hg:Gl X "zip")(hm:X.mg "zip" = none)(ha:PA X [a,b] ta)
  (he:starEach [a,b] X.env=(false,eval a X.env)::starEach [b] X.env:=by rfl) (hpl:(backTo pos (starEach [b] X.env)).any (·.1)=false:=by rfl):PI X (.Tuple elts x1 tpos) (.Call (.Name "zip" p) [a,b] [] pos) (Qe X.K ta):=by
 intro pins s σ H R I h
 refine i5 (pN I hg hm boot_zip ?_)
 refine ie (thn (ha pos pins s σ H _ I h) fun us s1 ⟨vs,H1,I1,r1,t1,t2,xs,ys,e,q1,q2,q⟩=>?_) he hpl
 subst e
 obtain ⟨u,w',rfl,ru,rw'⟩:=vals2 r1
 cases ru
 cases rw'
 obtain ⟨its,rv,p1,hz1⟩:=I1.tuple q1
 obtain ⟨jts,rv2,p2,hz2⟩:=I1.tuple q2
 refine K1 (show s1.heap.IsTuple t1 its.toArray from p1) (show s1.heap.IsTuple t2 jts.toArray from p2) ?_
 have b1:(zq1 s1.heap t1).objs.size=s1.heap.objs.size+1:=gE ..
 have b2:(zq2 s1.heap t1 t2).objs.size=s1.heap.objs.size+2:=by rw [gE,b1]
 have b3:(zq3 s1.heap t1 t2).objs.size=s1.heap.objs.size+3:=by rw [gE,b2]
 have b4:(zq4 s1.heap t1 t2).objs.size=s1.heap.objs.size+4:=by rw [gE,b3]
 have c1:t1 < s1.heap.objs.size:=p1.lt
 have c2:t2 < s1.heap.objs.size:=p2.lt
 have hz:IsZip (zq5 s1.heap t1 t2) (zq4 s1.heap t1 t2).objs.size (zq2 s1.heap t1 t2).objs.size (zq3 s1.heap t1 t2).objs.size .none:=bn _ rfl
 have DD:ZA (zq4 s1.heap t1 t2).objs.size (zq2 s1.heap t1 t2).objs.size (zq3 s1.heap t1 t2).objs.size s1.heap.objs.size (zq1 s1.heap t1).objs.size t1 t2:=by
  rw [b4,b2,b3,b1]
  exact O5 c1 c2
 refine wpAny_pyIter_zip hz ?_
 have I2:Inv X pins σ H1 { s1 with heap:=zq5 s1.heap t1 t2 }:=I1.kept (t':=s1.toks) fun b o e=>ar _ (ar _ (ar _ (ar _ (ar _ e))))
 refine⟨(zq4 s1.heap t1 t2).objs.size,[(zq4 s1.heap t1 t2).objs.size,(zq2 s1.heap t1 t2).objs.size,(zq3 s1.heap t1 t2).objs.size,s1.heap.objs.size,(zq1 s1.heap t1).objs.size],_,M9 X.K t1 t2,H1,rfl,I2,
  Gm DD,⟨hz,?_,⟨.none,.none,?_⟩,?_,?_⟩,fun b hb=>?_,q⟩
 ·exact ar _ (ar _ (bn _ rfl))
 ·exact ar _ (bn _ rfl)
 ·exact⟨_,ar _ (ar _ (ar _ (ar _ (bn _ rfl)))),rfl,rfl⟩
 ·exact⟨_,ar _ (ar _ (ar _ (bn _ rfl))),rfl,rfl⟩
 ·have hle:s1.heap.objs.size≤b:=by
   rw [b4,b2,b3,b1] at hb
   simp only [bu,dL,gN] at hb
   rcases hb with h | h | h | h | h <;> rw [h] <;> first | exact am _ | exact i4 _ _
  exact I1.lK hle (I1.hok.fresh hle)
end
end L2
end
section
namespace L2
open PySem PySem.Spec PyProof.Rows
section
variable {X:Cx}
def OJ:R2:=fun x y H Q=>∃ a b xs ys,x=.ref a∧y=.ref b∧H a=some (.tup xs)∧H b=some (.tup ys)∧xs.length+ys.length≤sizeLine∧∀ p H',H' p=some (.tup (xs++ys))→Same H H'→Q (.ref p) H'
theorem oJ:OpR X (binaryOp .Add) OJ:=by
 intro pins s σ H x y v u Q I rx ry h
 obtain ⟨a,b,xs,ys,rfl,rfl,ha,hb,hz,q⟩:=h
 cases xs with
 | nil=>exact za pins s σ H (.ref a) (.ref b) v u Q I rx ry ⟨a,b,ys,rfl,rfl,ha,hb,q b H hb (Same.refl H)⟩
 | cons x0 xr=>exact KH pins s σ H (.ref a) (.ref b) v u Q I rx ry ⟨a,b,x0::xr,ys,rfl,rfl,ha,hb,jS _ _,hz,q⟩
end
end L2
end
section
namespace L2
open PySem PySem.Spec PyProof.Rows
section
variable {X:Cx}
end
structure Shw (d:PyData) (n k:Nat):Prop where
 sh:d.showable=true
 sz:d.shown.length≤n
 dp:d.depth≤k
def Cps(x:Str):Prop:=∀ c∈x.cps.toList,c < 16 ^ 8
mutual
def toD:T→PyData
 | .non=>.none
 | .int i=>.int i
 | .str x=>.str x
 | .tup ts=>.tuple (Qc ts)
def Qc:List T→List PyData
 | []=>[]
 | t::ts=>toD t::Qc ts
end
end L2
end
section
namespace L2
open PySem PySem.Spec PyProof.Rows
section
variable {X:Cx}{K:PySem.W.Frag}
end
end L2
end
section
namespace L2
open PySem PyProof.Rows
section
variable {prog:Program}{w:World}{A:Around}{R:Result→Shared→Prop}{I:Addr}{fp wr:List Addr}{G:Array GenState→Array GenState→Prop}{n:Nat}{P:Nat→Value→Prop}{St:Nat→Shared→Prop}
theorem uV{knd:KeyKind prog w Str}{h h':Heap}{a:Addr}{S:Str→Bool}{n:Nat}(x:h.SetOf knd a S n)(k:∀ o,h.get? a=some o→h'.get? a=some o):h'.SetOf knd a S n:=by
 obtain ⟨o,es,ep,t,ho,rest⟩:=x
 exact⟨o,es,ep,t,k _ ho,rest⟩
end
section
variable {X:Cx}
def JW(P:Program)(w:World)(a:Addr)(n:Nat):HO:=.ext fun h=>∃ S:Str→Bool,h.SetOf (strKind P w) a S n
theorem vH:gn X (.builtin "len") (fun xs H Q=>∃ a n,xs=[.ref a]∧H a=some (JW X.prog X.w a n)∧Q (.int n) H):=by
 intro pins s σ H xs us Q I r h
 obtain ⟨a,n,rfl,ha,q⟩:=h
 obtain ⟨u,rfl,ru⟩:=vals1 r
 cases ru
 obtain ⟨⟨S,o,es,ep,t,ho,hex,hd,_,_,hb,hf,rfl⟩,_⟩:=I.hok a _ ha
 refine call_len_set ho hex hd hf (by unfold scanBound at hb; omega) ⟨.int es.size,H,I.tok _,⟨_,rfl⟩,q⟩
end
def un(ns:List Str):Nat→Nat
 | 0=>0
 | i+1=>if decide (ns.getD i "" ∈ ns.take i)=true then un ns i else un ns i+1
theorem GQ(ns:List Str):∀ i,un ns i≤i
 | 0=>am _
 | i+1=>by
  have:=GQ ns i
  rw [un]
  split <;> omega
theorem Lh(ns:List Str):∀ i,i≤ns.length→(un ns i=i↔(ns.take i).Nodup)
 | 0,_=>by simp [un]
 | i+1,h=>by
  have ih:=Lh ns i (by omega)
  have hl:=GQ ns i
  have hil:i < ns.length:=h
  have ex:ns.getD i "" = ns[i]:=by simp [hil]
  have et:ns.take (i+1)=ns.take i++[ns[i]]:=by rw [ii,ae hil]; rfl
  rw [un,ex,et,g9]
  by_cases hm:ns[i]∈ns.take i
  ·rw [ck (ay hm)]
   refine⟨fun e=>by omega,fun q=>absurd rfl (q.2.2 _ hm _ aT)⟩
  ·rw [bX (by rw [bv hm]; exact aE)]
   refine⟨fun e=>⟨ih.mp (by omega),by simp,fun a ha b hb e'=>?_⟩,fun q=>by rw [ih.mpr q.1]⟩
   rw [aS.mp hb] at e'
   exact hm (e' ▸ ha)
theorem Gq(ns:List Str):un ns ns.length=ns.length↔ns.Nodup:=by
 rw [Lh ns ns.length (am _),av (am _)]
section
variable {prog:Program}{w:World}{A:Around}{R:Result→Shared→Prop}{I:Addr}{fp wr:List Addr}{G:Array GenState→Array GenState→Prop}{n:Nat}{P:Nat→Value→Prop}{St:Nat→Shared→Prop}
theorem zq(W:WalksS prog w A.in1 I fp wr G n P St)(S:Addr)(hSf:S ∉ fp)(ns:List Str)(hn:ns.length=n)
  (hval:∀ i v,P i v→∃ t,v=.str (ns.getD i "") t) (hb:n+1 < scanBound) :
  ∀(k i:Nat) (s:Shared),n - i=k→i≤n→St i s→s.heap.SetOf (strKind prog w) S (fun k'=>decide (k'∈ns.take i)) (un ns i)→
   (∀ s',Moved (S::wr) G s s'→s'.heap.SetOf (strKind prog w) S (fun k'=>decide (k'∈ns.take n)) (un ns n)→R (.ok (.ret .none)) s')→
   codeAny (model prog w) A (.builtin "set.update.loop" ⟨[.ref S,.ref I],[]⟩) R s:=by
 have hSw:S ∉ wr:=fun h=>hSf (W.sub _ h)
 have hsub:∀ b∈wr,b∈S::wr:=fun b hb=>cz _ hb
 intro k
 induction k with
 | zero=>
  intro i s hk hi hst hS hR
  have hin:i=n:=by omega
  subst hin
  refine gI F.entry_set_update_loop ?_
  rw [fS lL _]
  show wpAny _ A.in1 (pyNext (.ref I) >>= _) _ _ s
  refine ac (W.done s _ _ hst fun s' hm=>?_)
  show wpAny _ A.in1 (ret Value.none) _ _ s'
  exact aI (hR s' (hm.mono hsub) (uV hS fun o e=>hm.heap S _ hSw e))
 | succ k ih=>
  intro i s hk hi hst hS hR
  have hlt:i < n:=by omega
  refine gI F.entry_set_update_loop ?_
  rw [fS lL _]
  show wpAny _ A.in1 (pyNext (.ref I) >>= _) _ _ s
  refine ac (W.item i s _ _ hlt hst fun v s' hP hst' hm=>?_)
  obtain ⟨t,rfl⟩:=hval i v hP
  have hS':=uV hS fun o e=>hm.heap S o hSw e
  have hil:i < ns.length:=by omega
  have ex:ns.getD i "" = ns[i]:=by simp [hil]
  rw [ex]
  show wpAny _ A.in1 (holding [Value.str ns[i] t] (setAdd S (.str ns[i] t)) >>= _) _ _ s'
  refine ac (fk ?_)
  unfold setAdd
  refine fk ?_
  refine ac ((strKind prog w).pyHash (k:=ns[i]) (strKind_is _ _ _ _) ?_)
  refine wpAny_setAddHashed_of (knd:=strKind prog w) (s:={ s' with toks:=s'.toks+1 }) (strKind_is _ _ _ _) rfl hS' (by have:=GQ ns i; omega) fun h' hsb hS2=>?_
  have hSi:h'.SetOf (strKind prog w) S (fun k'=>decide (k'∈ns.take (i+1))) (un ns (i+1)):=
   SetOf_congr hS2 (fun k'=>by
    rw [ii,ae hil]
    show (decide (k'∈ns.take i) || decide (k'=ns[i]))=decide (k'∈ns.take i++[ns[i]])
    rw [fm,Bool.or_eq_true,kC,kC,kC,bS,aS]) (by rw [un,ex])
  refine aI ⟨iS lL _,ih (i+1) _ (by omega) hlt (W.frame _ s' _ _ hst' (lI _) fun b hb o e=>?_) hSi fun s'' hm'' hS''=>?_⟩
  ·rw [hsb.2 b (fun h:b=S=>hSf (by rw [← h]; exact hb))]; exact e
  ·refine hR s'' (Moved.trans W.gtrans ((hm.mono hsub).then_heap (lI _) fun b o hb e=>?_) hm'') hS''
   rw [hsb.2 b (fun h:b=S=>hb (by rw [h]; exact aT))]; exact e
end
theorem Es{prog:Program}{w:World}{A:Around}{E:Value→Shared→Prop}{s:Shared}{l:Addr}{its:List Value}{ns:List Str}{Q:Value→Shared→Prop}(hh:A.handled=none)(hl:s.heap.IsList l its.toArray)
  (hi:∀(i:Nat) v,its[i]?=some v→∃ t,v=.str (ns.getD i "") t) (hn:ns.length=its.length) (hb:ns.length+1 < scanBound)
  (h:∀ (h':Heap) (tk:Nat) (S:Str→Bool),h'.SetOf (strKind prog w) s.heap.objs.size S (un ns ns.length)→(∀ b o,b < s.heap.objs.size→s.heap.get? b=some o→h'.get? b=some o)→Q (.ref s.heap.objs.size) { s with heap:=h',toks:=tk }) :
  wpAny (model prog w) A (call (.type "set") [.ref l]) Q E s:=by
 obtain ⟨c,tl,hmro⟩:=gx.mro
 have hmade:=gx.made
 have hsub:=gx.sub
 refine wpAny_call (codeAny_of_tree ?_)
 show wpAny _ _ (callAny (.type "set") _) _ _ _
 refine aI ⟨Code.quiet_builtin _ (by decide +kernel),gI F.entry_type_call ?_⟩
 rw [Around.under_plain (weight_type_call_type "set" [.ref l] []) rfl]
 have h1:=gx.notType
 have h2:=gx.canCreate
 have hct:=F.typeCall_set_1 (.ref l)
 repeat (any_goals (first | assumption | wp_step))
 refine ke (code_set_new_1 (.ref l) (E:=E) (Q₁:=fun obj s₁=>∃ led:Bool,obj=.ref s.heap.objs.size∧s₁={ s with heap:=s.heap.push { cls:=.type "set",dict:=none,data:=.set #[] 0 (.fresh 0 0 led) } }) fun led=>⟨led,rfl,rfl⟩) fun r s₁ hr=>?_
 cases r with
 | error e=>exact hr
 | ok fl=>
  cases fl with
  | ret obj=>
   obtain ⟨led,rfl,rfl⟩:=hr
   have e0:(s.heap.push { cls:=.type "set",dict:=none,data:=.set #[] 0 (.fresh 0 0 led) }).objs.size=s.heap.objs.size+1:=gE ..
   have old:∀ b o,s.heap.get? b=some o→(s.heap.push { cls:=.type "set",dict:=none,data:=.set #[] 0 (.fresh 0 0 led) }).get? b=some o:=fun b o e=>ar _ e
   have hS:(s.heap.push { cls:=.type "set",dict:=none,data:=.set #[] 0 (.fresh 0 0 led) }).get? s.heap.objs.size=some { cls:=.type "set",dict:=none,data:=.set #[] 0 (.fresh 0 0 led) }:=bn _ rfl
   have hl1:(s.heap.push { cls:=.type "set",dict:=none,data:=.set #[] 0 (.fresh 0 0 led) }).IsList l its.toArray:=hl.push _
   generalize s.heap.push { cls:=.type "set",dict:=none,data:=.set #[] 0 (.fresh 0 0 led) }=h0 at e0 old hS hl1
   have hT:Shared.TypeIs { s with heap:=h0 } (.ref s.heap.objs.size) "set" := ⟨_,hS,rfl⟩
   have hli:=gx.init.lookup
   have hbi:=gx.init.bind (.ref s.heap.objs.size)
   repeat (any_goals (first | assumption | wp_step))
   refine ke (ny (R:=wants (fun r s₂=>r=.none∧∃ h' tk S,s₂={ s with heap:=h',toks:=tk }∧
     h'.SetOf (strKind prog w) s.heap.objs.size S (un ns ns.length)∧(∀ b o,b < s.heap.objs.size→s.heap.get? b=some o→h'.get? b=some o)) E) gx.init.plain F.entry_set_init (check_set_init_1 hT ?_)) fun r₂ s₂ hr₂=>?_
   ·have hll:l < s.heap.objs.size:=by
     obtain ⟨ol,hol,_⟩:=hl
     exact cr hol
    obtain ⟨ol,hol,hcl,nl,hdl⟩:=id hl1
    obtain ⟨ocls,odict,odata,oslots⟩:=ol
    simp only at hcl hdl
    subst hcl; subst hdl
    have hsls:=F.sub_list_set
    have hslf:=F.sub_list_frozenset
    have hne:(Value.type "list" == Value.type "dict")=false:=by decide
    unfold Builtin.«set.__init__» noKeywords Builtin.Frozenset.updateFrom
    generalize hPI:pyIter=PI
    wp_walk
    subst hPI
    refine iN hl1 ?_
    refine ac (wpAny_runValue ?_)
    have hh3:A.in1.in1.in1.handled=none:=by simp [hh]
    have hneI:l≠h0.objs.size:=by rw [e0]; exact dc (gu hll)
    have hSf:s.heap.objs.size ∉ [h0.objs.size,l]:=by
     simp only [bu,aS,dL,gN,oC]
     exact⟨by rw [e0]; exact dc (mI _),fe hll⟩
    have hsz:its.toArray.size=ns.length:=by rw [bo,hn]
    refine zq ((Walks.list hh3 _ l hneI its.toArray).toS) s.heap.objs.size hSf ns hsz.symm (fun i v hv=>hi i v (by simpa using hv)) (by omega) (its.toArray.size - 0) 0 _ (by omega) (dq _)
     ⟨⟨_,bn _ rfl,rfl,rfl⟩,(hl1.push _)⟩ ?hS0 ?hR
    case hS0=>
     exact SetOf_congr ((setObjOf_fresh (knd:=strKind prog w) led).setOf (ar _ hS) (by unfold scanBound; omega)) (fun _=>rfl) rfl
    case hR=>
     intro s' hm hS'
     obtain ⟨h',g',d',tk',os'⟩:=s'
     have eg:g'=s.gens:=hm.gens
     have ed:d'=s.drawn:=hm.drawn
     have eo:os'=s.os:=hm.os
     subst eg; subst ed; subst eo
     show wpAny _ _ _ _ _ _
     refine aI ?_
     show wpAny _ _ (ret Value.none) _ _ _
     refine aI ⟨rfl,h',tk',_,rfl,by rw [hsz] at hS'; exact hS',fun b o hb e=>?_⟩
     exact hm.heap b o (by simp only [bu,aS,dL,gN,oC]; exact⟨dc hb,by rw [e0]; exact dc (gu hb)⟩) (ar _ (old b o e))
   ·cases r₂ with
    | error e=>exact hr₂
    | ok fl₂=>
     cases fl₂ with
     | ret r=>
      obtain ⟨rfl,h',tk,S,rfl,hS',hk'⟩:=hr₂
      repeat (any_goals (first | assumption | wp_step))
      exact h _ _ _ hS' hk'
     | _=>exact hr₂.elim
  | _=>exact hr.elim
theorem Eb{prog:Program}{w:World}{A:Around}{E:Value→Shared→Prop}{s:Shared}{l:Addr}{its:List Value}{ns:List Str}{Q:Value→Shared→Prop}(hh:A.handled=none)(hl:s.heap.IsTuple l its.toArray)
  (hi:∀(i:Nat) v,its[i]?=some v→∃ t,v=.str (ns.getD i "") t) (hn:ns.length=its.length) (hb:ns.length+1 < scanBound)
  (h:∀ (h':Heap) (tk:Nat) (S:Str→Bool),h'.SetOf (strKind prog w) s.heap.objs.size S (un ns ns.length)→(∀ b o,b < s.heap.objs.size→s.heap.get? b=some o→h'.get? b=some o)→Q (.ref s.heap.objs.size) { s with heap:=h',toks:=tk }) :
  wpAny (model prog w) A (call (.type "set") [.ref l]) Q E s:=by
 obtain ⟨c,tl,hmro⟩:=gx.mro
 have hmade:=gx.made
 have hsub:=gx.sub
 refine wpAny_call (codeAny_of_tree ?_)
 show wpAny _ _ (callAny (.type "set") _) _ _ _
 refine aI ⟨Code.quiet_builtin _ (by decide +kernel),gI F.entry_type_call ?_⟩
 rw [Around.under_plain (weight_type_call_type "set" [.ref l] []) rfl]
 have h1:=gx.notType
 have h2:=gx.canCreate
 have hct:=F.typeCall_set_1 (.ref l)
 repeat (any_goals (first | assumption | wp_step))
 refine ke (code_set_new_1 (.ref l) (E:=E) (Q₁:=fun obj s₁=>∃ led:Bool,obj=.ref s.heap.objs.size∧s₁={ s with heap:=s.heap.push { cls:=.type "set",dict:=none,data:=.set #[] 0 (.fresh 0 0 led) } }) fun led=>⟨led,rfl,rfl⟩) fun r s₁ hr=>?_
 cases r with
 | error e=>exact hr
 | ok fl=>
  cases fl with
  | ret obj=>
   obtain ⟨led,rfl,rfl⟩:=hr
   have e0:(s.heap.push { cls:=.type "set",dict:=none,data:=.set #[] 0 (.fresh 0 0 led) }).objs.size=s.heap.objs.size+1:=gE ..
   have old:∀ b o,s.heap.get? b=some o→(s.heap.push { cls:=.type "set",dict:=none,data:=.set #[] 0 (.fresh 0 0 led) }).get? b=some o:=fun b o e=>ar _ e
   have hS:(s.heap.push { cls:=.type "set",dict:=none,data:=.set #[] 0 (.fresh 0 0 led) }).get? s.heap.objs.size=some { cls:=.type "set",dict:=none,data:=.set #[] 0 (.fresh 0 0 led) }:=bn _ rfl
   have hl1:(s.heap.push { cls:=.type "set",dict:=none,data:=.set #[] 0 (.fresh 0 0 led) }).IsTuple l its.toArray:=hl.push _
   generalize s.heap.push { cls:=.type "set",dict:=none,data:=.set #[] 0 (.fresh 0 0 led) }=h0 at e0 old hS hl1
   have hT:Shared.TypeIs { s with heap:=h0 } (.ref s.heap.objs.size) "set" := ⟨_,hS,rfl⟩
   have hli:=gx.init.lookup
   have hbi:=gx.init.bind (.ref s.heap.objs.size)
   repeat (any_goals (first | assumption | wp_step))
   refine ke (ny (R:=wants (fun r s₂=>r=.none∧∃ h' tk S,s₂={ s with heap:=h',toks:=tk }∧
     h'.SetOf (strKind prog w) s.heap.objs.size S (un ns ns.length)∧(∀ b o,b < s.heap.objs.size→s.heap.get? b=some o→h'.get? b=some o)) E) gx.init.plain F.entry_set_init (check_set_init_1 hT ?_)) fun r₂ s₂ hr₂=>?_
   ·have hll:l < s.heap.objs.size:=by
     obtain ⟨ol,hol,_⟩:=hl
     exact cr hol
    obtain ⟨ol,hol,hcl,nl,hdl⟩:=id hl1
    obtain ⟨ocls,odict,odata,oslots⟩:=ol
    simp only at hcl hdl
    subst hcl; subst hdl
    have hsls:=F.sub_tuple_set
    have hslf:=F.sub_tuple_frozenset
    have hne:(Value.type "tuple" == Value.type "dict")=false:=by decide
    unfold Builtin.«set.__init__» noKeywords Builtin.Frozenset.updateFrom
    generalize hPI:pyIter=PI
    wp_walk
    subst hPI
    refine wpAny_pyIter_tuple hl1 ?_
    refine ac (wpAny_runValue ?_)
    have hh3:A.in1.in1.in1.handled=none:=by simp [hh]
    have hneI:l≠h0.objs.size:=by rw [e0]; exact dc (gu hll)
    have hSf:s.heap.objs.size ∉ [h0.objs.size,l]:=by
     simp only [bu,aS,dL,gN,oC]
     exact⟨by rw [e0]; exact dc (mI _),fe hll⟩
    have hsz:its.toArray.size=ns.length:=by rw [bo,hn]
    refine zq ((Walks.tuple hh3 _ l hneI its.toArray).toS) s.heap.objs.size hSf ns hsz.symm (fun i v hv=>hi i v (by simpa using hv)) (by omega) (its.toArray.size - 0) 0 _ (by omega) (dq _)
     ⟨⟨_,bn _ rfl,rfl,rfl⟩,(hl1.push _)⟩ ?hS0 ?hR
    case hS0=>
     exact SetOf_congr ((setObjOf_fresh (knd:=strKind prog w) led).setOf (ar _ hS) (by unfold scanBound; omega)) (fun _=>rfl) rfl
    case hR=>
     intro s' hm hS'
     obtain ⟨h',g',d',tk',os'⟩:=s'
     have eg:g'=s.gens:=hm.gens
     have ed:d'=s.drawn:=hm.drawn
     have eo:os'=s.os:=hm.os
     subst eg; subst ed; subst eo
     show wpAny _ _ _ _ _ _
     refine aI ?_
     show wpAny _ _ (ret Value.none) _ _ _
     refine aI ⟨rfl,h',tk',_,rfl,by rw [hsz] at hS'; exact hS',fun b o hb e=>?_⟩
     exact hm.heap b o (by simp only [bu,aS,dL,gN,oC]; exact⟨dc hb,by rw [e0]; exact dc (gu hb)⟩) (ar _ (old b o e))
   ·cases r₂ with
    | error e=>exact hr₂
    | ok fl₂=>
     cases fl₂ with
     | ret r=>
      obtain ⟨rfl,h',tk,S,rfl,hS',hk'⟩:=hr₂
      repeat (any_goals (first | assumption | wp_step))
      exact h _ _ _ hS' hk'
     | _=>exact hr₂.elim
  | _=>exact hr.elim
section
variable {X:Cx}
theorem FJ(hc:X.calm=true):gn X (.type "set") (fun xs H Q=>∃(l:Addr) (ns:List Str),xs=[.ref l]∧(SqL X.K H l (ns.map V.str)∨SqT X.K H l (ns.map V.str))∧ns.length≤3000∧∀ d,H d=none→Q (.ref d) (upd H d (JW X.prog X.w d (un ns ns.length)))):=by
 intro pins s σ H xs us Q I r h
 obtain ⟨l,ns,rfl,hl,hn,q⟩:=h
 obtain ⟨u,rfl,ru⟩:=vals1 r
 cases ru
 have hh:X.A.handled=none:=I.ok.hd hc
 have fin:∀ (h':Heap) (tk:Nat) (S:Str→Bool),h'.SetOf (strKind X.prog X.w) s.heap.objs.size S (un ns ns.length)→(∀ b o,b < s.heap.objs.size→s.heap.get? b=some o→h'.get? b=some o)→(∃(v:V) (H':Hp),Inv X pins σ H' { s with heap:=h',toks:=tk }∧RelV v (.ref s.heap.objs.size)∧Q v H'):=fun h' tk S hS hk=>by
  refine⟨.ref s.heap.objs.size,_,I.laid (o:=JW X.prog X.w s.heap.objs.size (un ns ns.length)) (fun b u e=>hk b u (cr e) e) (am _) ⟨⟨S,hS⟩,?_,fun h1 h2 ⟨S',x⟩ k=>⟨S',uV x k⟩⟩,rfl,q _ (I.hok.fresh (am _))⟩
  obtain ⟨o,_,_,_,ho,_⟩:=hS
  exact⟨o,ho⟩
 have val:∀ {its:List Value},Vals (ns.map V.str) its→∀(i:Nat) v,its[i]?=some v→∃ t,v=.str (ns.getD i "") t:=fun {its} rv i v hv=>by
  have hlen:=rv.length
  rw [aa] at hlen
  have hil:i < ns.length:=by
   have:=(bj.mp hv).1
   omega
  obtain ⟨w',hw,rw'⟩:=rv.get (i:=i) (x:=.str ns[i]) (by rw [bc,ae hil]; rfl)
  rw [hv] at hw
  cases hw
  obtain ⟨t,rfl⟩:=rw'
  exact⟨t,by simp [hil]⟩
 rcases hl with hl | hl
 ·obtain ⟨its,rv,pl,hz⟩:=I.list hl
  have hlen:=rv.length
  rw [aa] at hlen
  exact Es hh pl.isList (ns:=ns) (val rv) (by omega) (by unfold scanBound; omega) fin
 ·obtain ⟨its,rv,pl,hz⟩:=I.tuple hl
  have hlen:=rv.length
  rw [aa] at hlen
  exact Eb hh pl (ns:=ns) (val rv) (by omega) (by unfold scanBound; omega) fin
end
def cC(rows:List (List Str))(x:Str):Bool:=rows.any fun o=>decide (x∈o.drop 1)
def freeOf(rows:List (List Str)):List Str→List Str
 | []=>[]
 | x::_=>if cC rows x=true then [] else [x]
def frees(rows:List (List Str)):List Str:=rows.flatMap (freeOf rows)
def bT(x:Str)(r:List Str):List Str:=r.filter fun y=>decide (y≠x)
def full(rows:List (List Str)):List (List Str):=rows.filter fun r=>!r.isEmpty
inductive Mg:List (List Str)→Option (List Str)→Prop where
 | nil:Mg [] (some [])
 | stuck {rows:List (List Str)}:rows≠[]→frees rows=[]→Mg rows none
 | step {rows:List (List Str)} {x:Str} {more:List Str} {r:Option (List Str)}:frees rows=x::more→Mg (full (rows.map (bT x))) r→Mg rows (r.map (x::·))
theorem Mg.det{rows:List (List Str)}{r:Option (List Str)}(h:Mg rows r):∀ {r':Option (List Str)},Mg rows r'→r=r':=by
 induction h with
 | nil=>
  intro r' h'
  cases h' with
  | nil=>rfl
  | stuck h _=>exact absurd rfl h
  | step h _=>cases h
 | stuck h1 h2=>
  intro r' h'
  cases h' with
  | nil=>exact absurd rfl h1
  | stuck _ _=>rfl
  | step h _=>rw [h2] at h; cases h
 | step h1 _ ih=>
  intro r' h'
  cases h' with
  | nil=>cases h1
  | stuck _ h=>rw [h1] at h; cases h
  | step h hr=>
   rw [h1] at h
   cases h
   rw [ih hr]
def tot(rows:List (List Str)):Nat:=(rows.map List.length).sum
theorem gW(r:List Str)(rows:List (List Str)):tot (r::rows)=r.length+tot rows:=by
 unfold tot
 rw [eL,List.sum_cons]
theorem ql:∀(rows:List (List Str)),tot (full rows)=tot rows
 | []=>rfl
 | r::rows=>by
  unfold full
  rw [dk]
  have ih:=ql rows
  unfold full at ih
  cases r with
  | nil=>
   rw [gW,← ih]
   simp
  | cons y r=>simp only [mv,ow,iF]; rw [gW,gW,ih]
theorem yH(x:Str)(r:List Str):(bT x r).length≤r.length:=de _ _
theorem sZ(x:Str):∀(rows:List (List Str)),tot (rows.map (bT x))≤tot rows
 | []=>am _
 | r::rows=>by
  rw [eL,gW,gW]
  have:=sZ x rows
  have:=yH x r
  omega
theorem pL{x:Str}:∀ {rows:List (List Str)},(∃ r∈rows,x∈r)→tot (rows.map (bT x)) < tot rows
 | [],⟨_,h,_⟩=>nomatch h
 | r::rows,⟨q,hq,hx⟩=>by
  rw [eL,gW,gW]
  have h1:=sZ x rows
  have h2:=yH x r
  rcases bu.mp hq with rfl | h
  ·have:(bT x q).length < q.length:=by
    unfold bT
    refine Nat.lt_of_le_of_ne (de _ _) fun e=>?_
    have:=List.length_filter_eq_length_iff.mp e x hx
    simp at this
   omega
  ·have:=pL ⟨q,h,hx⟩
   omega
theorem n6{rows:List (List Str)}{x:Str}(h:x∈frees rows):∃ r∈rows,r.head?=some x:=by
 obtain ⟨r,hr,hx⟩:=List.mem_flatMap.mp h
 refine⟨r,hr,?_⟩
 cases r with
 | nil=>cases hx
 | cons y r=>
  have hx:x∈(if cC rows y=true then [] else [y]):=hx
  by_cases hh:cC rows y=true
  ·rw [ck hh] at hx
   cases hx
  ·rw [bX hh] at hx
   rw [aS.mp hx]
   rfl
theorem uL{rows:List (List Str)}{r:List Str}(h:r∈rows):r.length≤tot rows:=by
 induction rows with
 | nil=>cases h
 | cons q rows ih=>
  rw [gW]
  rcases bu.mp h with rfl | h
  ·omega
  ·have:=ih h
   omega
theorem nO:∀(rows:List (List Str)),(full rows).length≤tot rows
 | []=>am _
 | r::rows=>by
  have ih:=nO rows
  unfold full at ih ⊢
  rw [dk,gW]
  cases r with
  | nil=>simpa using ih
  | cons y r=>simp only [mv,ow,iF,dQ]; omega
def jK(H:Hp)(vs:List V)(rows:List (List Str)):Prop:=Paired (fun(v:V) (r:List Str)=>∃ a,v=.ref a∧H a=some (.tup (r.map V.str))) vs rows
def Pg(H:Hp)(vs:List V)(rows:List (List Str)):Prop:=Paired (fun(v:V) (r:List Str)=>∃ a,v=.ref a∧H a=some (.lst (r.map V.str))) vs rows
theorem jK.mono{H H':Hp}{vs:List V}{rows:List (List Str)}(h:jK H vs rows)(s:gD H H'):jK H' vs rows:=Paired.oN h fun v r ⟨a,e,q⟩=>⟨a,e,s a _ q⟩
def oW(H:Hp)(D:Addr)(vs:List V)(rows:List (List Str)):Prop:=Paired (fun(v:V) (r:List Str)=>∃ a,v=.ref a∧a≠D∧H a=some (.lst (r.map V.str))) vs rows
theorem oW.l{H:Hp}{D:Addr}{vs:List V}{rows:List (List Str)}(h:oW H D vs rows):Pg H vs rows:=Paired.oN h fun v r ⟨a,e,_,q⟩=>⟨a,e,q⟩
theorem oW.mono{H H':Hp}{D:Addr}{vs:List V}{rows:List (List Str)}(h:oW H D vs rows)(s:Same H H'):oW H' D vs rows:=Paired.oN h fun v r ⟨a,e,n,q⟩=>⟨a,e,n,s a _ q⟩
def m5(H:Hp)(D E:Addr)(vs:List V)(rows:List (List Str)):Prop:=Paired (fun(v:V) (r:List Str)=>∃ a,v=.ref a∧a≠D∧a≠E∧H a=some (.lst (r.map V.str))) vs rows
theorem m5.x{H:Hp}{D E:Addr}{vs:List V}{rows:List (List Str)}(h:m5 H D E vs rows):oW H E vs rows:=Paired.oN h fun v r ⟨a,e,_,n,q⟩=>⟨a,e,n,q⟩
theorem m5.grow{H H':Hp}{D E:Addr}{o:HO}{vs:List V}{rows:List (List Str)}(h:m5 H D E vs rows)(s:Same H H'):m5 (upd H' D o) D E vs rows:=Paired.oN h fun v r ⟨a,e,n,n',q⟩=>⟨a,e,n,n',by rw [au n]; exact s a _ q⟩
theorem m5.mono{H H':Hp}{D E:Addr}{vs:List V}{rows:List (List Str)}(h:m5 H D E vs rows)(s:Same H H'):m5 H' D E vs rows:=Paired.oN h fun v r ⟨a,e,n,n',q⟩=>⟨a,e,n,n',s a _ q⟩
theorem oW.get{H:Hp}{D:Addr}{vs:List V}{rows:List (List Str)}(h:oW H D vs rows){i:Nat}(hi:i < vs.length):∃(a:Addr) (hr:i < rows.length),vs[i]?=some (.ref a)∧a≠D∧H a=some (.lst (rows[i].map V.str)):=by
 have hr:i < rows.length:=by rw [← cS h]; exact hi
 obtain ⟨a,e,n,q⟩:=fV h i hi hr
 exact⟨a,hr,by rw [ae hi,e],n,q⟩
theorem at0(y:Str)(r:List Str):atI ((y::r).map V.str) 0=some (.str y):=aG (j:=0) rfl
theorem zH(R:List (List Str)):∀(rows:List (List Str)),(rows.flatMap (freeOf R)).length≤rows.length
 | []=>am _
 | r::rows=>by
  rw [mw,bz,dQ]
  have:=zH R rows
  have:(freeOf R r).length≤1:=by
   cases r with
   | nil=>exact dq _
   | cons y r=>
    show (if cC R y=true then [] else [y]).length≤1
    split <;> simp
  omega
theorem cP{α β:Type}{F:α→β→Prop}{as:List α}{bs:List β}{a:α}{b:β}(h:Paired F as bs)(hy:F a b):Paired F (as++[a]) (bs++[b]):=by
 induction h with
 | nil=>exact .cons hy .nil
 | cons a _ ih=>exact .cons a ih
theorem jK.get{H:Hp}{vs:List V}{rows:List (List Str)}(h:jK H vs rows){i:Nat}(hi:i < vs.length):∃(a:Addr) (hr:i < rows.length),vs[i]?=some (.ref a)∧H a=some (.tup (rows[i].map V.str)):=by
 have hr:i < rows.length:=by rw [← cS h]; exact hi
 obtain ⟨a,e,q⟩:=fV h i hi hr
 exact⟨a,hr,by rw [ae hi,e],q⟩
theorem take_snoc{α:Type}{l:List α}{i:Nat}(h:i < l.length):l.take (i+1)=l.take i++[l[i]]:=by
 rw [ii,ae h]
 rfl
theorem nZ(rows:List (List Str))(r:List Str):full (rows++[r])=full rows++(if r.isEmpty=true then [] else [r]):=by
 unfold full
 rw [eS]
 congr 1
 cases r <;> rfl
theorem dB{σ:L2.St}{H:Hp}{A B:Hp→Prop}(h:A H):O4 σ H (fun b H3=>if b=true then A H3 else B H3):=by
 show (if true=true then A H else B H)
 rw [ck rfl]
 exact h
def Qm(H:Hp)(x:Str)(r:Option (List Str))(v:V):Prop:=match r with
 | none=>v=.non
 | some os=>∃ q,v=.ref q∧H q=some (.tup ((x::os).map V.str))
theorem Kr(r:List Str):eF (r.map V.str) (some 1) none=(r.drop 1).map V.str:=by
 unfold eF
 rw [aa]
 have e1:HT.sIx r.length 0 (some 1)=min 1 r.length:=HT.qI r.length 0 1
 have e2:HT.sIx r.length r.length none=r.length:=rfl
 rw [e1,e2,← List.map_drop,← oQ]
 congr 1
 cases r with
 | nil=>rfl
 | cons y r=>
  have:min 1 (y::r).length=1:=by simp
  rw [this]
  exact av (by simp)
end L2
end
section
namespace L2
open PySem PySem.Spec PyProof.Rows
def Nm(x:Str):Prop:=1≤x.length∧x.length≤6∧Lw x
theorem mG{x:Str}{j:Int}(h0:0≤j)(h:j≤x.length):(Txt.slice x none (some j)).length=j.toNat:=by
 have e:x.cps.toList.length=x.length:=eI
 show (StrLaws.sliceText x none (some j)).length=_
 rw [StrLaws.sliceText_to ⟨h0,by rw [e]; exact h⟩]
 show (List.toArray _).size=_
 rw [bo,br,iX,e]
 omega
theorem ud{x:Str}{i:Int}(h0:0≤i)(h:i≤x.length):(Txt.slice x (some i) none).length=x.length - i.toNat:=by
 have e:x.cps.toList.length=x.length:=eI
 show (StrLaws.sliceText x (some i) none).length=_
 rw [StrLaws.sliceText_from ⟨h0,by rw [e]; exact h⟩]
 show (List.toArray _).size=_
 rw [bo,br,iX,e]
 omega
theorem MK(x:Str):(Txt.slice x none (some 5)).length≤5:=by
 by_cases h:5≤x.length
 ·rw [mG (by decide) (by omega)]
  decide
 ·exact dC (qX x _ _) (by omega)
theorem La{x:Str}:(jF x 6).length=6 * x.length:=by
 unfold jF
 rw [bX (by decide)]
 split
 ·rename_i h
  have h0:x.length=0:=by simpa using h
  rw [h0]
 ·show (List.foldl (fun x1 x2=>x1++x2) #[] (List.replicate (6:Int).toNat x.cps)).size=_
  rw [size_rep,Array.size_empty,Nat.zero_add]
  rfl
theorem Px{x:Str}(h:Nm x)(i:Nat):Nm (Txt.slice (jF x 6) none (some (if 0+(i:Int)+1 < 6 then 0+(i:Int)+1 else 6))):=by
 obtain ⟨h1,h6,hl⟩:=h
 have e6:(jF x 6).length=6 * x.length:=La
 have hj:∃ j:Int,(if 0+(i:Int)+1 < 6 then 0+(i:Int)+1 else 6)=j∧1≤j∧j≤6:=⟨_,rfl,by split <;> omega,by split <;> omega⟩
 obtain ⟨j,e,j1,j6⟩:=hj
 rw [e]
 have:=mG (x:=jF x 6) (j:=j) (by omega) (by omega)
 exact⟨by omega,by omega,(hl.rep _).slice _ _⟩
theorem PK{x:Str}(h:Nm x){pl:Int}{c:Nat}(h0:0≤pl)(hp:pl < x.length)(hc:c∈abc.cps.toList):Nm (Txt.slice x none (some pl)++⟨#[c]⟩++Txt.slice x (some (pl+1)) none):=by
 obtain ⟨h1,h6,hl⟩:=h
 have a:=mG (x:=x) h0 (by omega)
 have b:=ud (x:=x) (i:=pl+1) (by omega) (by omega)
 have e:(Txt.slice x none (some pl)++⟨#[c]⟩++Txt.slice x (some (pl+1)) none).length=x.length:=by
  rw [jg,jg,a,b]
  show pl.toNat+1+_=_
  omega
 exact⟨by rw [e]; exact h1,by rw [e]; exact h6,((hl.slice _ _).app (Lw.one hc)).app (hl.slice _ _)⟩
def QG:R2:=fun x y H Q=>∃ c j,x=.str ⟨#[c]⟩∧y=.str j∧Q (.bl (decide (c∈j.cps.toList))) H
theorem Mx{X:Cx}:OpR X (compareOp .In) QG:=by
 intro pins s σ H x y v u Q I rx ry h
 obtain ⟨c,j,rfl,rfl,q⟩:=h
 obtain ⟨t,rfl⟩:=rx
 obtain ⟨t',rfl⟩:=ry
 refine in_str ⟨.bl _,H,I,rfl,?_⟩
 rw [PySem.StrLaws.found_one]
 exact q
def tyD:PyData→String
 | .none=> "NoneType"
 | .bool _=> "bool"
 | .int _=> "int"
 | .str _=> "str"
 | .list _=> "list"
 | .tuple _=> "tuple"
 | .dict _=> "dict"
theorem RdV.ty{K:PySem.W.Frag}{H:Hp}{v:V}{d:PyData}(h:RdV H v d):qF K H v (.type (tyD d)):=by
 cases h with
 | non=>exact .non
 | bl b=>exact .bl b
 | int i=>exact .int i
 | str x=>exact .str x
 | tup e _=>exact .tup e
 | lst e _=>exact .lst e
 | dct e _=>exact .dK e
def Gb:PyData→Bool
 | .tuple _=>true
 | _=>false
def Er:PyData→Bool
 | .str _=>true
 | _=>false
theorem Lf(K:PySem.W.Frag)(d:PyData):PySem.W.kitOne K (.type (tyD d)) (.type "tuple")=some (Gb d):=by
 cases d <;> first | exact iu K "tuple" | rfl
theorem LC(K:PySem.W.Frag)(d:PyData):PySem.W.kitOne K (.type (tyD d)) (.type "str")=some (Er d):=by
 cases d <;> first | exact iu K "str" | rfl
theorem Jr{d:PyData}(h:Gb d=true):∃ ds,d=.tuple ds:=by
 cases d <;> first | exact⟨_,rfl⟩ | cases h
theorem Gy{d:PyData}(h:Er d=true):∃ x,d=.str x:=by
 cases d <;> first | exact⟨_,rfl⟩ | cases h
theorem RdV.yO{H:Hp}{v:V}{ds:List PyData}(h:RdV H v (.tuple ds)):∃ a xs,v=.ref a∧H a=some (.tup xs)∧RdA H xs ds:=by
 cases h with
 | tup e q=>exact⟨_,_,rfl,e,q⟩
theorem RdV.lE{H:Hp}{v:V}{x:Str}(h:RdV H v (.str x)):v=.str x:=by
 cases h
 rfl
theorem RdA.get{H:Hp}:∀ {vs:List V} {ds:List PyData},RdA H vs ds→∀ {i:Nat} {d:PyData},ds[i]?=some d→∃ v,vs[i]?=some v∧RdV H v d
 | _,_,.nil,_,_,h=>nomatch h
 | _,_,.cons q r,0,_,h=>by cases h; exact⟨_,rfl,q⟩
 | _,_,.cons q r,i+1,_,h=>RdA.get r h
theorem RdA.lC{H:Hp}:∀ {xs:List Str} {vs:List V},RdA H vs (xs.map PyData.str)→vs=xs.map V.str
 | [],_,.nil=>rfl
 | x::xs,_,.cons q r=>by rw [q.lE,RdA.lC r]; rfl
mutual
theorem RdV.sV{H H':Hp}(s:Same H H'):∀ {v:V} {d:PyData},RdV H v d→RdV H' v d
 | _,_,.non=>.non
 | _,_,.bl b=>.bl b
 | _,_,.int i=>.int i
 | _,_,.str x=>.str x
 | _,_,.tup e q=>.tup (s _ _ e) (RdA.sV s q)
 | _,_,.lst e q=>.lst (s _ _ e) (RdA.sV s q)
 | _,_,.dct e q=>.dct (s _ _ e) (RdA.sV s q)
theorem RdA.sV{H H':Hp}(s:Same H H'):∀ {vs:List V} {ds:List PyData},RdA H vs ds→RdA H' vs ds
 | _,_,.nil=>.nil
 | _,_,.cons q r=>.cons (RdV.sV s q) (RdA.sV s r)
end
def Asc(x:Str):Prop:=x.cps.all (· < 128)=true
theorem Asc.of{x:Str}(h:∀ c∈x.cps.toList,c < 128):Asc x:=Array.all_eq_true_iff_forall_mem.mpr fun c hc=>ay (h c (nr.mpr hc))
theorem Lw.asc{x:Str}(h:Lw x):Asc x:=.of fun c hc=>Nat.lt_of_le_of_lt (Mu c (h c hc)).2 (by decide)
mutual
def gd:PyData→Prop
 | .none | .bool _=>True
 | .int i=>(0≤i∧i < 1000000000)∨i=-1∨i=-3
 | .str x=>x.length≤4000∧Asc x
 | .list xs | .tuple xs=>gdA xs
 | .dict kvs=>gdK kvs
def gdA:List PyData→Prop
 | []=>True
 | d::ds=>gd d∧gdA ds
def gdK:List (PyData × PyData)→Prop
 | []=>True
 | (k,v)::r=>gd k∧gd v∧gdK r
end
mutual
def wt:PyData→Nat
 | .none | .bool _ | .int _=>1
 | .str x=>x.length+1
 | .list xs | .tuple xs=>1+wtA xs
 | .dict kvs=>1+wtK kvs
def wtA:List PyData→Nat
 | []=>0
 | d::ds=>wt d+wtA ds
def wtK:List (PyData × PyData)→Nat
 | []=>0
 | (k,v)::r=>wt k+wt v+wtK r
end
structure Th (d:PyData):Prop where
 g:gd d
 w:wt d≤1900
 dp:d.depth≤50
 nl:d.hasDict=true→noL d=true
end L2
end
section
namespace HT
open PySem PySem.Spec PyProof.Rows
section
variable {prog:Program}{w:World}{A:Around}{E:Value→Shared→Prop}{s:Shared}
theorem zK{α β:Type}{f g:α→Option β}:∀ {l:List α},(∀ a∈l,f a=g a)→l.filterMap f=l.filterMap g
 | [],_=>rfl
 | a::l,h=>by
  rw [jb,jb,h a aT,zK fun b hb=>h b (cz _ hb)]
theorem Fx(xs:Array Value):((List.range xs.size).filterMap fun(m:Nat)=>xs[((xs.size:Int) - 1+(m:Int) * (-1)).toNat]?).toArray=xs.toList.reverse.toArray:=by
 congr 1
 have e:∀ m∈List.range xs.size,xs[((xs.size:Int) - 1+(m:Int) * (-1)).toNat]?=xs.toList.reverse[m]?:=fun m hm=>by
  have hm:=gy.mp hm
  rw [List.getElem?_reverse (by rw [eI]; exact hm),ky,eI]
  congr 1
  omega
 rw [zK e]
 apply List.ext_getElem?
 intro i
 have key:∀(l:List Value) (n:Nat),n≤l.length→(List.range n).filterMap (l[·]?)=l.take n:=by
  intro l n
  induction n with
  | zero=>intro _; rfl
  | succ n ih=>
   intro h
   have hn:n < l.length:=h
   rw [List.range_succ,List.filterMap_append,ih (by omega),ii]
   simp [hn]
 rw [key _ _ (by rw [jn,eI]; exact am _),av (by rw [jn,eI]; exact am _)]
theorem qt{sl:Addr}{t:Tok}{n:Nat}{Q:Int × Int × Nat→Shared→Prop}(hs:s.heap.IsSliceOf sl .none .none (.int (-1) t))
  (h:Q ((n:Int) - 1,-1,n) s):wpAny (model prog w) A (Builtin.Slice.sliceApplied (.ref sl) (pure (n:Int))) Q E s:=by
 obtain ⟨os,hos,hcs,hds⟩:=id hs
 unfold Builtin.Slice.sliceApplied Builtin.Slice.sliceFields
 refine ac (ac (eT hos hds (x:=.none) rfl (ac (eT hos hds (x:=.none) rfl (ac (eT hos hds (x:=.int (-1) t) rfl (aI ?_)))))))
 refine ac (pF (IsPart.int (-1) t) ?_)
 show wpAny _ _ (if ((-1:Int) == 0)=true then _ else _) _ _ s
 rw [bX (by decide)]
 refine ac (n5 (ac (n5 (ac (aI ?_)))))
 have ea:Builtin.Slice.sliceAdjust none none (-1) (n:Int)=((n:Int) - 1,-1):=rfl
 show wpAny _ _ (match Builtin.Slice.sliceAdjust none none (-1) (n:Int) with | (lo,hi)=>pure (lo,(-1:Int),Builtin.Slice.slicePlaces lo hi (-1))) _ _ s
 rw [ea]
 have ep:Builtin.Slice.slicePlaces ((n:Int) - 1) (-1) (-1)=n:=by
  unfold Builtin.Slice.slicePlaces
  rw [bX (by decide)]
  have e1:-(-1:Int)=1:=rfl
  rw [e1,Int.ediv_one]
  split <;> omega
 show wpAny _ _ (pure ((n:Int) - 1,(-1:Int),Builtin.Slice.slicePlaces ((n:Int) - 1) (-1) (-1))) _ _ s
 rw [ep]
 exact aI h
theorem pK{t sl:Addr}{items:Array Value}{tk:Tok}{Q:Value→Shared→Prop}(ht:IsTup s.heap t items)(hs:s.heap.IsSliceOf sl .none .none (.int (-1) tk))
  (h:Q (.ref s.heap.objs.size) { s with heap:=s.heap.push { cls:=.type "tuple",data:=.seq items.toList.reverse.toArray } })
  (hsz:items.size≤sizeLine):wpAny (model prog w) A (getItem (.ref t) (.ref sl)) Q E s:=by
 have htake:sizeOk (.seq items.toList.reverse.toArray):=by
  show items.toList.reverse.toArray.size≤sizeLine
  rw [bo,jn,eI]
  exact hsz
 obtain ⟨os,hos,hcs,hds⟩:=id hs
 have hTs:s.TypeIs (.ref sl) "slice" := ⟨os,hos,hcs⟩
 unfold getItem
 try with_reducible refine fk ?_
 first | refine ac (aI ?_) | skip
 refine ac (wpAny_sequenceKey ht.typeIs (by decide) ?_)
 refine ac (fg (name:=Str.ofString "__getitem__") ht.typeIs eR
  (fN eR ht.typeIs nN ?_ (args_tuple_getitem _ _)))
 show wpAny _ _ (Builtin.Tuple.tupleItemsOf (.ref t) >>= _) _ _ s
 refine ac (tupleItemsOf_ ht ?_)
 refine ac (wpAny_typeOf hTs ?_)
 rw [ck (by decide)]
 refine ac (qt hs ?_)
 have hno:¬ ((((items.size:Int) - 1) == 0 && (-1:Int) == 1 && items.size == items.size)=true):=by
  intro q
  rw [gT,gT] at q
  exact absurd q.1.2 (by decide)
 show wpAny _ _ (if (((items.size:Int) - 1) == 0 && (-1:Int) == 1 && items.size == items.size)=true then _ else _) _ _ s
 rw [bX hno,Fx]
 first
  | exact ac (m:=Builtin.Tuple.tupleExact _) (fv (aI ⟨_,rfl,aI h⟩) htake)
  | exact ac (m:=Builtin.Tuple.tupleExact _) (fv (ac (aI (aI ⟨_,rfl,aI h⟩))) htake)
  | exact ac (ac (m:=Builtin.Tuple.tupleExact _) (fv (aI (aI ⟨_,rfl,aI h⟩)) htake))
  | exact ac (ac (m:=Builtin.Tuple.tupleExact _) (fv (aI ⟨_,rfl,aI h⟩) htake))
end
end HT
namespace L2
open PySem PySem.Spec PyProof.Rows
section
variable {X:Cx}
def Oq(te tk:TE):TE:=fun σ H Q=>te σ H fun x H1=>tk σ H1 fun y H2=>∃ a xs,x=.ref a∧y=.int (-1)∧H2 a=some (.tup xs)∧∀ p,H2 p=none→Q (.ref p) (upd H2 p (.tup xs.reverse))
theorem J2{e k:Expr}{te tk:TE}{pos p2:Pos}(he:PE X e te)(hk:PE X k tk):PE X (.Subscript e (.Slice none none (some k) p2) pos) (Oq te tk):=by
 intro pins s σ H Q I h
 refine Subscript_ (thn (he pins s σ H _ I h) fun v s1 ⟨x,H1,I1,r1,q1⟩=>?_)
 refine wpAny_Slice ?_
 rw [oB]
 refine aI ?_
 refine aI ?_
 rw [evalPart_some]
 refine thn (hk pins s1 σ H1 _ I1 q1) fun vk s3 ⟨y,H3,I3,r3,q3⟩=>?_
 obtain ⟨a,xs,rfl,rfl,hq,q⟩:=q3
 cases r1
 obtain ⟨t,rfl⟩:=r3
 have I4:Inv X pins σ H3 { s3 with heap:=s3.heap.push { cls:=.type "slice",data:=.fields #[.none,.none,.int (-1) t] } }:=I3.kept (t':=s3.toks) fun b ob q=>ar _ q
 obtain ⟨its,r,ht,hz⟩:=I4.tuple (SqT.of (K:=X.K) hq)
 have hlen:its.toArray.size=xs.length:=by rw [bo]; exact r.length.symm
 show wpAny (model X.prog X.w) X.A (subscriptTail e (.Slice none none (some k) p2) (.ref a) (.ref s3.heap.objs.size)) (EP X pins σ Q) X.xe { s3 with heap:=s3.heap.push { cls:=.type "slice",data:=.fields #[.none,.none,.int (-1) t] } }
 refine tail_any (ops:=[.ref a,.ref s3.heap.objs.size]) ht.typeIs eR.lookup (HT.pK ht (lj ..) ?_ (by rw [hlen]; exact hz)) (by with_unfolding_all rfl)
 rw [List.toList_toArray]
 refine⟨.ref _,_,I4.laid (t':=s3.toks) (o:=.tup xs.reverse) (fun b ob q=>ar _ q) (am _) ?_,rfl,q _ (I4.hok.fresh (am _))⟩
 exact⟨⟨by rw [jn]; exact hz,lR _ _⟩,_,r.reverse,IsTup.new _ _⟩
end
theorem qW(xs:List V)(i:Nat):eF xs none (some (i:Int))=xs.take i:=by
 unfold eF
 rw [HT.zZ,HT.qI,List.drop_zero,Nat.sub_zero]
 rcases Nat.le_total i xs.length with h | h
 ·rw [Nat.min_eq_left h]
 ·rw [Nat.min_eq_right h,av (am _),av h]
theorem Gf(xs:List V)(i:Nat):eF xs (some (i:Int)) none=xs.drop i:=by
 unfold eF
 rw [HT.zZ,HT.qI]
 rcases Nat.le_total i xs.length with h | h
 ·rw [Nat.min_eq_left h,av (by rw [iX]; exact am _)]
 ·rw [Nat.min_eq_right h,List.drop_of_length_le (am _),List.drop_of_length_le h,List.take_nil]
end L2
end
section
namespace K17
open PySem L2
def top(i:Nat):Stmt:=PySem.Challenge.pw_warmrows_k17_changes_back.main.body.getD i (.Pass ⟨0,0,0,0⟩)
structure Adr where
 jm:Addr × FuncData
 d7:Addr × FuncData
 jT:Addr × FuncData
 cM:Addr × FuncData
 iH:Addr × FuncData
 cO:Addr × FuncData
 kinds_of:Addr × FuncData
 dR:Addr × FuncData
 dO:Addr × FuncData
 beneath:Addr × FuncData
 fO:Addr × FuncData
 fL:Addr × FuncData
 bN:Addr × FuncData
 jL:Addr × FuncData
 gC:Addr × FuncData
 gH:Addr × FuncData
 gG:Addr × FuncData
 jN:Addr × FuncData
 iI:Addr × FuncData
 cW:Addr × FuncData
 jE:Addr × FuncData
 gK:Addr × FuncData
 changed:Addr × FuncData
 back:Addr × FuncData
 iB:Addr × FuncData
 jz:Addr × FuncData
 mK:Addr × FuncData
 eY:Addr × FuncData
 fK:Addr × FuncData
 jo:Addr × FuncData
 fj:Addr × FuncData
 eZ:Addr × FuncData
 gF:Addr × FuncData
 fW:Addr × FuncData
 aU:Addr × FuncData
 gP:Addr × FuncData
 dz:Addr × FuncData
 bW:Addr × FuncData
 cN:Addr × FuncData
 fM:Addr × FuncData
 jh:Addr × FuncData
 gJ:Addr × FuncData
 fP:Addr × FuncData
 fH:Addr × FuncData
 cA:Addr × FuncData
 jq:Addr × FuncData
 cQ:Addr × FuncData
 iD:Addr × FuncData
 law:Addr × FuncData
structure Defs (K:PySem.W.Frag) (mg:Str→Option Value) (t:Adr):Prop where
 jm:Fnd K mg "is_whole" (top 7) ["thing"] t.jm.1 t.jm.2
 d7:Fnd K mg "is_tuple_of" (top 8) ["thing","many"] t.d7.1 t.d7.2
 jT:Fnd K mg "is_name" (top 9) ["thing"] t.jT.1 t.jT.2
 cM:Fnd K mg "is_kind" (top 10) ["thing","kinds"] t.cM.1 t.cM.2
 iH:Fnd K mg "are_kinds" (top 11) ["thing","kinds"] t.iH.1 t.iH.2
 cO:Fnd K mg "check_kind" (top 12) ["kind","kinds"] t.cO.1 t.cO.2
 kinds_of:Fnd K mg "kinds_of" (top 13) ["rows"] t.kinds_of.1 t.kinds_of.2
 dR:Fnd K mg "elders_first" (top 14) ["family"] t.dR.1 t.dR.2
 dO:Fnd K mg "reached_from" (top 15) ["elders_of","kind"] t.dO.1 t.dO.2
 beneath:Fnd K mg "beneath" (top 16) ["family","kind"] t.beneath.1 t.beneath.2
 fO:Fnd K mg "tell_orders" (top 18) ["family"] t.fO.1 t.fO.2
 fL:Fnd K mg "has_quarrel" (top 19) ["told"] t.fL.1 t.fL.2
 bN:Fnd K mg "quarrel_among" (top 20) ["kinds","told"] t.bN.1 t.bN.2
 jL:Fnd K mg "rows_by" (top 21) ["elders","told"] t.jL.1 t.jL.2
 gC:Fnd K mg "merge_rows" (top 22) ["kind","rows"] t.gC.1 t.gC.2
 gH:Fnd K mg "first_free" (top 23) ["left"] t.gH.1 t.gH.2
 gG:Fnd K mg "ring_among" (top 24) ["left"] t.gG.1 t.gG.2
 jN:Fnd K mg "hold_of" (top 25) ["name","left"] t.jN.1 t.jN.2
 iI:Fnd K mg "family_of" (top 28) ["table"] t.iI.1 t.iI.2
 cW:Fnd K mg "is_body_number" (top 29) ["thing"] t.cW.1 t.cW.2
 jE:Fnd K mg "row_at" (top 30) ["table","kind"] t.jE.1 t.jE.2
 gK:Fnd K mg "own_body" (top 31) ["row","deed"] t.gK.1 t.gK.2
 changed:Fnd K mg "changed" (top 33) ["table","change"] t.changed.1 t.changed.2
 back:Fnd K mg "back" (top 34) ["table","change"] t.back.1 t.back.2
 iB:Fnd K mg "is_change" (top 35) ["table","thing"] t.iB.1 t.iB.2
 jz:Fnd K mg "is_word" (top 36) ["thing","word"] t.jz.1 t.jz.2
 mK:Fnd K mg "is_own" (top 37) ["deed","body"] t.mK.1 t.mK.2
 eY:Fnd K mg "raised_by" (top 38) ["table","kind"] t.eY.1 t.eY.2
 fK:Fnd K mg "with_raised" (top 39) ["table","kinds"] t.fK.1 t.fK.2
 jo:Fnd K mg "with_own" (top 40) ["table","kind","deed","body"] t.jo.1 t.jo.2
 fj:Fnd K mg "with_elders" (top 41) ["table","kind","elders"] t.fj.1 t.fj.2
 eZ:Fnd K mg "_law_cell" (top 43) ["_law_script","_law_k"] t.eZ.1 t.eZ.2
 gF:Fnd K mg "_law_cells" (top 44) ["_law_script","_law_first","_law_least","_law_most"] t.gF.1 t.gF.2
 fW:Fnd K mg "_law_purse" (top 45) ["_law_cell_here"] t.fW.1 t.fW.2
 aU:Fnd K mg "_law_take" (top 46) ["_law_purse_here","_law_many"] t.aU.1 t.aU.2
 gP:Fnd K mg "_law_word" (top 47) ["_law_purse_here","_law_used"] t.gP.1 t.gP.2
 dz:Fnd K mg "_law_names" (top 48) ["_law_purse_here","_law_many","_law_used"] t.dz.1 t.dz.2
 bW:Fnd K mg "_law_some" (top 49) ["_law_purse_here","_law_menu","_law_most"] t.bW.1 t.bW.2
 cN:Fnd K mg "_law_merge" (top 50) ["_law_kind","_law_rows"] t.cN.1 t.cN.2
 fM:Fnd K mg "_law_elders" (top 51) ["_law_purse_here","_law_names_here","_law_shape","_law_orders_here"] t.fM.1 t.fM.2
 jh:Fnd K mg "_law_own" (top 52) ["_law_purse_here","_law_deeds"] t.jh.1 t.jh.2
 gJ:Fnd K mg "_law_table" (top 53) ["_law_purse_here","_law_many","_law_deeds","_law_fields"] t.gJ.1 t.gJ.2
 fP:Fnd K mg "_law_orders" (top 54) ["_law_family"] t.fP.1 t.fP.2
 fH:Fnd K mg "_law_change" (top 55) ["_law_purse_here","_law_table_here","_law_deeds"] t.fH.1 t.fH.2
 cA:Fnd K mg "_law_family_then" (top 56) ["_law_table_here","_law_change_here"] t.cA.1 t.cA.2
 jq:Fnd K mg "_law_why" (top 57) ["_law_table_here","_law_change_here"] t.jq.1 t.jq.2
 cQ:Fnd K mg "_law_same" (top 58) ["_law_told","_law_due"] t.cQ.1 t.cQ.2
 iD:Fnd K mg "_law_back" (top 59) ["_law_table_here","_law_change_here"] t.iD.1 t.iD.2
 law:Fnd K mg "law" (top 60) ["_law_script"] t.law.1 t.law.2
 O1:mg "abs" = none
 zx:mg "all" = none
 Ai:mg "any" = none
 xH:mg "bool" = none
 Ca:mg "dict" = none
 rK:mg "enumerate" = none
 Ji:mg "int" = none
 bM:mg "isinstance" = none
 iz:mg "len" = none
 xM:mg "list" = none
 Lj:mg "max" = none
 Ln:mg "min" = none
 mR:mg "range" = none
 Ph:mg "set" = none
 uZ:mg "sorted" = none
 uG:mg "str" = none
 cV:mg "tuple" = none
 PX:mg "zip" = none
structure Glb (mg:Str→Option Value):Prop where
 Fq:∃ tk,mg "LETTERS" = some (.str abc tk)
 uH:∃ tk,mg "MOST_LETTERS" = some (.int 6 tk)
 Af:∃ tk,mg "MOST_BODY" = some (.int 99 tk)
theorem yX:aZ ["thing"] ["thing"] (aq (top 7)):=⟨rfl,rfl,rfl,by decide +kernel,rfl,by decide +kernel,by decide +kernel⟩
theorem tX:aZ ["thing","many"] ["thing","many"] (aq (top 8)):=⟨rfl,rfl,rfl,by decide +kernel,rfl,by decide +kernel,by decide +kernel⟩
theorem BW:aZ ["thing"] ["thing"] (aq (top 9)):=⟨rfl,rfl,rfl,by decide +kernel,rfl,by decide +kernel,by decide +kernel⟩
theorem pA:aZ ["thing","kinds"] ["thing","kinds"] (aq (top 10)):=⟨rfl,rfl,rfl,by decide +kernel,rfl,by decide +kernel,by decide +kernel⟩
theorem xY:aZ ["thing","kinds"] ["thing","kinds"] (aq (top 11)):=⟨rfl,rfl,rfl,by decide +kernel,rfl,by decide +kernel,by decide +kernel⟩
theorem oX:aZ ["kind","kinds"] ["kind","kinds"] (aq (top 12)):=⟨rfl,rfl,rfl,by decide +kernel,rfl,by decide +kernel,by decide +kernel⟩
theorem zF:aZ ["rows"] ["rows"] (aq (top 13)):=⟨rfl,rfl,rfl,by decide +kernel,rfl,by decide +kernel,by decide +kernel⟩
theorem dG:aZ ["family","placed","waiting","ready","kind"] ["family"] (aq (top 14)):=⟨rfl,rfl,rfl,by decide +kernel,rfl,by decide +kernel,by decide +kernel⟩
theorem jc:aZ ["elders_of","kind","reached","waiting","elder"] ["elders_of","kind"] (aq (top 15)):=⟨rfl,rfl,rfl,by decide +kernel,rfl,by decide +kernel,by decide +kernel⟩
theorem uY:aZ ["family","kind","elders_of"] ["family","kind"] (aq (top 16)):=⟨rfl,rfl,rfl,by decide +kernel,rfl,by decide +kernel,by decide +kernel⟩
theorem iw:aZ ["family","elders_of","told","kind","quarrel"] ["family"] (aq (top 18)):=⟨rfl,rfl,rfl,by decide +kernel,rfl,by decide +kernel,by decide +kernel⟩
theorem uI:aZ ["told"] ["told"] (aq (top 19)):=⟨rfl,rfl,rfl,by decide +kernel,rfl,by decide +kernel,by decide +kernel⟩
theorem iC:aZ ["kinds","told","kind"] ["kinds","told"] (aq (top 20)):=⟨rfl,rfl,rfl,by decide +kernel,rfl,by decide +kernel,by decide +kernel⟩
theorem Ao:aZ ["elders","told"] ["elders","told"] (aq (top 21)):=⟨rfl,rfl,rfl,by decide +kernel,rfl,by decide +kernel,by decide +kernel⟩
theorem iT:aZ ["kind","rows","order","left","first"] ["kind","rows"] (aq (top 22)):=⟨rfl,rfl,rfl,by decide +kernel,rfl,by decide +kernel,by decide +kernel⟩
theorem iZ:aZ ["left","held","row","name"] ["left"] (aq (top 23)):=⟨rfl,rfl,rfl,by decide +kernel,rfl,by decide +kernel,by decide +kernel⟩
theorem iY:aZ ["left","name","holds","ring"] ["left"] (aq (top 24)):=⟨rfl,rfl,rfl,by decide +kernel,rfl,by decide +kernel,by decide +kernel⟩
theorem tL:aZ ["name","left","number"] ["name","left"] (aq (top 25)):=⟨rfl,rfl,rfl,by decide +kernel,rfl,by decide +kernel,by decide +kernel⟩
theorem yJ:aZ ["table"] ["table"] (aq (top 28)):=⟨rfl,rfl,rfl,by decide +kernel,rfl,by decide +kernel,by decide +kernel⟩
theorem qH:aZ ["thing"] ["thing"] (aq (top 29)):=⟨rfl,rfl,rfl,by decide +kernel,rfl,by decide +kernel,by decide +kernel⟩
theorem EY:aZ ["table","kind"] ["table","kind"] (aq (top 30)):=⟨rfl,rfl,rfl,by decide +kernel,rfl,by decide +kernel,by decide +kernel⟩
theorem nQ:aZ ["row","deed","name","body"] ["row","deed"] (aq (top 31)):=⟨rfl,rfl,rfl,by decide +kernel,rfl,by decide +kernel,by decide +kernel⟩
theorem pI:aZ ["table","change","after"] ["table","change"] (aq (top 33)):=⟨rfl,rfl,rfl,by decide +kernel,rfl,by decide +kernel,by decide +kernel⟩
theorem CQ:aZ ["table","change","row"] ["table","change"] (aq (top 34)):=⟨rfl,rfl,rfl,by decide +kernel,rfl,by decide +kernel,by decide +kernel⟩
theorem pY:aZ ["table","thing","kinds"] ["table","thing"] (aq (top 35)):=⟨rfl,rfl,rfl,by decide +kernel,rfl,by decide +kernel,by decide +kernel⟩
theorem BK:aZ ["thing","word"] ["thing","word"] (aq (top 36)):=⟨rfl,rfl,rfl,by decide +kernel,rfl,by decide +kernel,by decide +kernel⟩
theorem Ea:aZ ["deed","body"] ["deed","body"] (aq (top 37)):=⟨rfl,rfl,rfl,by decide +kernel,rfl,by decide +kernel,by decide +kernel⟩
theorem qJ:aZ ["table","kind","under"] ["table","kind"] (aq (top 38)):=⟨rfl,rfl,rfl,by decide +kernel,rfl,by decide +kernel,by decide +kernel⟩
theorem vh:aZ ["table","kinds"] ["table","kinds"] (aq (top 39)):=⟨rfl,rfl,rfl,by decide +kernel,rfl,by decide +kernel,by decide +kernel⟩
theorem kZ:aZ ["table","kind","deed","body","row","deeds","new_row"] ["table","kind","deed","body"] (aq (top 40)):=⟨rfl,rfl,rfl,by decide +kernel,rfl,by decide +kernel,by decide +kernel⟩
theorem kI:aZ ["table","kind","elders","family","told"] ["table","kind","elders"] (aq (top 41)):=⟨rfl,rfl,rfl,by decide +kernel,rfl,by decide +kernel,by decide +kernel⟩
theorem jV:aZ ["_law_script","_law_k","_law_state","_law_cell_here"] ["_law_script","_law_k"] (aq (top 43)):=⟨rfl,rfl,rfl,by decide +kernel,rfl,by decide +kernel,by decide +kernel⟩
theorem oY:aZ ["_law_script","_law_first","_law_least","_law_most","_law_many"] ["_law_script","_law_first","_law_least","_law_most"] (aq (top 44)):=⟨rfl,rfl,rfl,by decide +kernel,rfl,by decide +kernel,by decide +kernel⟩
theorem lG:aZ ["_law_cell_here","_law_digits"] ["_law_cell_here"] (aq (top 45)):=⟨rfl,rfl,rfl,by decide +kernel,rfl,by decide +kernel,by decide +kernel⟩
theorem mH:aZ ["_law_purse_here","_law_many","_law_state","_law_taken"] ["_law_purse_here","_law_many"] (aq (top 46)):=⟨rfl,rfl,rfl,by decide +kernel,rfl,by decide +kernel,by decide +kernel⟩
theorem jk:aZ ["_law_purse_here","_law_used","_law_word_here","_law_k","_law_first"] ["_law_purse_here","_law_used"] (aq (top 47)):=⟨rfl,rfl,rfl,by decide +kernel,rfl,by decide +kernel,by decide +kernel⟩
theorem cJ:aZ ["_law_purse_here","_law_many","_law_used","_law_pick","_law_word_here","_law_place","_law_first","_law_names_here","_law_k","_law_sign","_law_near"] ["_law_purse_here","_law_many","_law_used"] (aq (top 48)):=⟨rfl,rfl,rfl,by decide +kernel,rfl,by decide +kernel,by decide +kernel⟩
theorem jU:aZ ["_law_purse_here","_law_menu","_law_most","_law_some_here","_law_k","_law_one"] ["_law_purse_here","_law_menu","_law_most"] (aq (top 49)):=⟨rfl,rfl,rfl,by decide +kernel,rfl,by decide +kernel,by decide +kernel⟩
theorem gM:aZ ["_law_kind","_law_rows","_law_order","_law_good"] ["_law_kind","_law_rows"] (aq (top 50)):=⟨rfl,rfl,rfl,by decide +kernel,rfl,by decide +kernel,by decide +kernel⟩
theorem kh:aZ ["_law_purse_here","_law_names_here","_law_shape","_law_orders_here","_law_elders_here"] ["_law_purse_here","_law_names_here","_law_shape","_law_orders_here"] (aq (top 51)):=⟨rfl,rfl,rfl,by decide +kernel,rfl,by decide +kernel,by decide +kernel⟩
theorem rM:aZ ["_law_purse_here","_law_deeds","_law_some_here"] ["_law_purse_here","_law_deeds"] (aq (top 52)):=⟨rfl,rfl,rfl,by decide +kernel,rfl,by decide +kernel,by decide +kernel⟩
theorem cT:aZ ["_law_purse_here","_law_many","_law_deeds","_law_fields","_law_shape","_law_names_here","_law_rows","_law_orders_here","_law_k","_law_kind","_law_elders_here","_law_number","_law_places"] ["_law_purse_here","_law_many","_law_deeds","_law_fields"] (aq (top 53)):=⟨rfl,rfl,rfl,by decide +kernel,rfl,by decide +kernel,by decide +kernel⟩
theorem gq:aZ ["_law_family","_law_elders_here","_law_orders_here","_law_turn","_law_kind","_law_rows"] ["_law_family"] (aq (top 54)):=⟨rfl,rfl,rfl,by decide +kernel,rfl,by decide +kernel,by decide +kernel⟩
theorem cZ:aZ ["_law_purse_here","_law_table_here","_law_deeds","_law_pick","_law_row","_law_body","_law_deed","_law_place","_law_kinds","_law_others"] ["_law_purse_here","_law_table_here","_law_deeds"] (aq (top 55)):=⟨rfl,rfl,rfl,by decide +kernel,rfl,by decide +kernel,by decide +kernel⟩
theorem dI:aZ ["_law_table_here","_law_change_here","_law_family","_law_row","_law_elders_here"] ["_law_table_here","_law_change_here"] (aq (top 56)):=⟨rfl,rfl,rfl,by decide +kernel,rfl,by decide +kernel,by decide +kernel⟩
theorem nT:aZ ["_law_table_here","_law_change_here","_law_row","_law_orders_here"] ["_law_table_here","_law_change_here"] (aq (top 57)):=⟨rfl,rfl,rfl,by decide +kernel,rfl,by decide +kernel,by decide +kernel⟩
theorem pQ:aZ ["_law_told","_law_due"] ["_law_told","_law_due"] (aq (top 58)):=⟨rfl,rfl,rfl,by decide +kernel,rfl,by decide +kernel,by decide +kernel⟩
theorem iG:aZ ["_law_table_here","_law_change_here","_law_row","_law_body","_law_deed","_law_number"] ["_law_table_here","_law_change_here"] (aq (top 59)):=⟨rfl,rfl,rfl,by decide +kernel,rfl,by decide +kernel,by decide +kernel⟩
theorem jH:aZ ["_law_script","_law_purse_here","_law_many","_law_deeds","_law_fields","_law_table_here","_law_cell_here","_law_change_here","_law_home","_law_then","_law_due"] ["_law_script"] (aq (top 60)):=⟨rfl,rfl,rfl,by decide +kernel,rfl,by decide +kernel,by decide +kernel⟩
end K17
end
section
namespace K17
open PySem PyProof.Rows L2
section
variable {P:Program}{w:World}{K:PySem.W.Frag}{mg:Str→Option Value}{base:Heap}{t:Adr}
def su:Sp:=fun vs H Q _=>∃(x:Str) (rl:Addr) (us:List V) (rows:List (List Str)),vs=[.str x,.ref rl]∧H rl=some (.lst us)∧jK H us rows∧tot rows≤1000∧rows.length≤1000∧
 ∀(v:V) (r:Option (List Str)) H',Mg (full rows) r→Qm H' x r v→Same H H'→Q v H'
theorem tZ(D:Defs K mg t):aW P w K mg base CX0 1 t.cN.1 t.cN.2 ["_law_kind","_law_rows"] su:=by
 have hz:sizeLine=16777216:=cK
 refine D.cN.fn.ok gM (fun vs H Q E h=>?_) (fun cdv A outer s H vs Q E hr h=>?_)
 ·obtain ⟨x,rl,us,rows,rfl,_⟩:=h
  rfl
 ·obtain ⟨x,rl,us,rows,rfl,hrl,rt,htot,hlen,k⟩:=h
  have hul:us.length=rows.length:=cS rt
  refine⟨_,(aD (aP (i:=2) gM.nd rfl (Or.inl rfl) (dU (aj (pv 0) aA)))
   (aD (aP (i:=1) gM.nd rfl (Or.inr rfl) (bL rfl (aL.of ["_law_row"] [] ["_law_row"] (aq (top 50)) ["_law_kind","_law_rows","_law_order","_law_good"] rfl rfl (by decide +kernel)) ⟨fun _ _ _ _ _=>(aN (i:=0) (show List.Nodup [("_law_row" : Str)] by decide +kernel) rfl (Or.inl (af rfl)) (.inr (af rfl))),fun _ _ _ _ _=>(dM (aV zT (aO (vD (K:=K) rfl) (by rfl) D.iz eE (aj (pv 0) aA)) aC (bx _))),fun _ _ _ _ _=>(bG (vC (K:=K) rfl) (by rfl) D.xM rY (aj (pv 0) aA))⟩ (gU (pv 1))))
   (aD (mq dS (aV (Jy rfl hr.Az) (pv 1) (dU aA) (bx _))
   (aD (aP (i:=3) gM.nd rfl (Or.inr rfl) (bL rfl (aL.of ["_law_row"] [1] ["_law_row","_law_rows"] (aq (top 50)) ["_law_kind","_law_rows","_law_order","_law_good"] rfl rfl (by decide +kernel)) ⟨fun _ _ _ _ _=>(aN (i:=0) (show List.Nodup [("_law_row" : Str),("_law_rows" : Str)] by decide +kernel) rfl (Or.inr (jJ rfl)) (.inl rfl)),fun _ _ _ _ _=>(dM (jG (d9 (aO (Ay (K:=K) rfl rfl) (by rfl) D.Ai sW (aj (bL rfl (aL.of2 ["_law_other"] [0] ["_law_other","_law_row"] ["_law_row","_law_rows"] rfl rfl (by decide +kernel)) ⟨fun _ _ _ _ _=>(aN (i:=0) (show List.Nodup [("_law_other" : Str),("_law_row" : Str)] by decide +kernel) rfl (Or.inl (af rfl)) (.inr (af rfl))),fun _ _ _ _ _=>cg,fun _ _ _ _ _=>(fG (lu (K:=K) rfl) (aM (mz (K:=K) rfl) (pv 1) aC (fun _ _=>rfl)) (dJ (Ge (K:=K) rfl) (pv 0) (gk aC) fZ) (by with_unfolding_all rfl))⟩ (wk (K:=K) rfl (pv 1))) aA))))),fun _ _ _ _ _=>(aM (mz (K:=K) rfl) (pv 0) aC (fun _ _=>rfl))⟩ (gU (pv 1))))
   (aD (bQ (aV (M7 rfl hr.Az) (pv 3) (dU aA) (bx _))
   (aF (aQ eV))
   aY)
   (aD (jd (qx fh fT gh iK (pv 2) (aj (aM cu (pv 3) aC (fun _ _=>rfl)) aA)))
   (aD (aP (i:=1) gM.nd rfl (Or.inr rfl) (bL rfl (aL.of ["_law_row"] [3] ["_law_row","_law_good"] (aq (top 50)) ["_law_kind","_law_rows","_law_order","_law_good"] rfl rfl (by decide +kernel)) ⟨fun _ _ _ _ _=>(aN (i:=0) (show List.Nodup [("_law_row" : Str),("_law_good" : Str)] by decide +kernel) rfl (Or.inl (af rfl)) (.inr (af rfl))),fun _ _ _ _ _=>cg,fun _ _ _ _ _=>(bL rfl (aL.of2 ["_law_one"] [1] ["_law_one","_law_good"] ["_law_row","_law_good"] rfl rfl (by decide +kernel)) ⟨fun _ _ _ _ _=>(aN (i:=0) (show List.Nodup [("_law_one" : Str),("_law_good" : Str)] by decide +kernel) rfl (Or.inl (af rfl)) (.inr (af rfl))),fun _ _ _ _ _=>(dM (aV zL (pv 0) (aM (mz (K:=K) rfl) (pv 1) aC (fun _ _=>rfl)) (bx _))),fun _ _ _ _ _=>(pv 0)⟩ (wk (K:=K) rfl (pv 0)))⟩ (gU (pv 1))))
   (aF (aP (i:=1) gM.nd rfl (Or.inr rfl) (bL rfl (aL.of ["_law_row"] [] ["_law_row"] (aq (top 50)) ["_law_kind","_law_rows","_law_order","_law_good"] rfl rfl (by decide +kernel)) ⟨fun _ _ _ _ _=>(aN (i:=0) (show List.Nodup [("_law_row" : Str)] by decide +kernel) rfl (Or.inl (af rfl)) (.inr (af rfl))),fun _ _ _ _ _=>(dM (aV (Jy (K:=K) rfl hr.Az) (pv 0) (dU aA) (bx _))),fun _ _ _ _ _=>(pv 0)⟩ (gU (pv 1))))))))))
   (aF (aQ (bG bD (by rfl) D.cV bY (aj (pv 2) aA))))))),?_⟩
  refine⟨_,rfl,by show 1≤sizeLine; decide,fun ol hol=>?_⟩
  have s0:Same H (upd H ol (.lst [.str x])):=Same.new hol
  refine⟨_,rfl,rl,rfl,⟨_,SqL.of (s0 rl _ hrl)⟩,fun D1 hD1=>?_⟩
  have olD1:ol≠D1:=aB ak hD1
  have hD1H:H D1=none:=by rw [au olD1.symm] at hD1; exact hD1
  refine bA (n:=us.length) (fun i ys H2=>H2 D1=some (.lst ys)∧m5 H2 D1 ol ys (full (rows.take i))∧H2 ol=some (.lst [.str x])∧Same H H2)
   ⟨ak,.nil,by rw [au olD1,ak],s0.trans (Same.new hD1)⟩ ?_ ?_
  ·rintro ys H2 ⟨hD2,rl2,hol2,sm2⟩
   rw [av (by omega)] at rl2
   refine⟨⟨_,SqL.of (sm2 rl _ hrl),am _⟩,?_⟩
   refine⟨fun m σ H3=>∃(zs:List V) (rows3:List (List Str)) (os:List Str) (r3:Addr) (v3:Option V),σ=[some (.str x),some (.ref r3),some (.ref ol),v3]∧H3 r3=some (.lst zs)∧oW H3 ol zs rows3∧r3≠ol∧full rows3=rows3∧H3 ol=some (.lst ((x::os).map V.str))∧m=tot rows3∧os.length+tot rows3≤1000∧
    (∀ r,Mg rows3 r→Mg (full rows) (r.map (os++·)))∧Same H H3,⟨_,ys,full rows,[],D1,_,rfl,hD2,rl2.x,olD1.symm,?_,hol2,rfl,by rw [ql]; show 0+_≤_; omega,fun r h=>?_,sm2⟩,?_⟩
   ·unfold full
    rw [lx]
    simp
   ·have:r.map (([]:List Str)++·)=r:=by cases r <;> rfl
    rw [this]
    exact h
   rintro m σ H3 ⟨zs,rows3,os,r3,v3,rfl,hr3,rl3,r3o,hf3,hol3,rfl,hb3,mg3,sm3⟩
   have hzl:zs.length=rows3.length:=cS rl3
   have hrl3:rows3.length≤tot rows3:=by have:=nO rows3; rwa [hf3] at this
   refine⟨_,rfl,dq _,fun e0 he0=>⟨r3,e0,zs,rfl,rfl,SqL.of (by rw [au (aB hr3 he0)]; exact hr3),SqL.of ak,_,rfl,?_⟩⟩
   have s4:Same H3 (upd H3 e0 (.lst [])):=Same.new he0
   cases hzs:zs with
   | nil=>
    subst hzs
    have e3:rows3=[]:=by
     cases rows3 with
     | nil=>rfl
     | cons _ _=>rw [nE,dQ] at hzl; omega
    subst e3
    refine fY ⟨_,rfl,ol,_,rfl,.inl ⟨SqL.of (s4 ol _ hol3),fun q hq=>?_⟩⟩
    refine k (.ref q) (some os) _ ?_ ⟨q,rfl,ak⟩ ((sm3.trans s4).trans (Same.new hq))
    have:=mg3 _ .nil
    simpa using this
   | cons z0 zr=>
    have hne:rows3≠[]:=fun e=>by rw [e,hzs] at hzl; simp at hzl
    rw [← hzs]
    have hb:(!zs.isEmpty)=true:=by rw [hzs]; rfl
    rw [hb]
    clear hzs hb z0 zr
    refine dZ ⟨fun σ' H'=>∃ m',m' < tot rows3∧∃(zs:List V) (rows3:List (List Str)) (os:List Str) (r3:Addr) (v3:Option V),σ'=[some (.str x),some (.ref r3),some (.ref ol),v3]∧H' r3=some (.lst zs)∧oW H' ol zs rows3∧r3≠ol∧full rows3=rows3∧H' ol=some (.lst ((x::os).map V.str))∧m'=tot rows3∧os.length+tot rows3≤1000∧
     (∀ r,Mg rows3 r→Mg (full rows) (r.map (os++·)))∧Same H H',fun σ' H' h=>h,?_⟩
    have hnz:∀ r∈rows3,∃ y r',r=y::r':=fun r hr=>by
     rw [← hf3] at hr
     have:=(bE.mp hr).2
     cases r with
     | nil=>cases this
     | cons y r'=>exact⟨y,r',rfl⟩
    generalize upd H3 e0 (.lst [])=H4 at s4
    have rl4:=rl3.mono s4
    have hr4:=s4 r3 _ hr3
    refine⟨_,rfl,r3,rfl,⟨_,SqL.of hr4⟩,fun D2 hD2=>?_⟩
    refine bA (n:=zs.length) (fun i ys H5=>ys=((rows3.take i).flatMap (freeOf rows3)).map V.str∧H5 D2=some (.lst ys)∧Same H4 H5) ⟨rfl,ak,Same.new hD2⟩ ?_ ?_
    ·rintro ys' H5 ⟨rfl,hD5,sm5⟩
     rw [av (by omega)] at hD5
     refine⟨⟨_,SqL.of (sm5 r3 _ hr4),am _⟩,?_⟩
     have hD5:H5 D2=some (.lst ((frees rows3).map V.str)):=hD5
     refine⟨_,rfl,dq _,fun e1 he1=>⟨D2,e1,_,rfl,rfl,SqL.of (by rw [au (aB hD5 he1)]; exact hD5),SqL.of ak,_,rfl,?_⟩⟩
     have s6:Same H5 (upd H5 e1 (.lst [])):=Same.new he1
     generalize upd H5 e1 (.lst [])=H6 at s6
     have sm6:Same H4 H6:=sm5.trans s6
     have hD6:=s6 D2 _ hD5
     cases hfr:frees rows3 with
     | nil=>
      refine dZ ?_
      have:=mg3 none (.stuck hne hfr)
      exact k .non none H6 this rfl ((sm3.trans s4).trans sm6)
     | cons x1 more=>
      rw [hfr] at hD6
      refine fY ?_
      have hx1:x1∈frees rows3:=by rw [hfr]; exact aT
      obtain ⟨r1,hr1,hh1⟩:=n6 hx1
      have hx1r:x1∈r1:=by
       cases r1 with
       | nil=>cases hh1
       | cons y r'=>
        cases hh1
        exact aT
      have hol6:=sm6 ol _ (s4 ol _ hol3)
      have hr6:=sm6 r3 _ hr4
      refine⟨_,rfl,.inl ⟨rfl,_,SqL.of hol6⟩,_,rfl,D2,_,_,_,rfl,rfl,SqL.of hD6,at0 x1 more,ol,_,.str x1,rfl,rfl,hol6,by rw [aa,dQ]; omega,?_⟩
      have eol:(x::os).map V.str++[V.str x1]=(x::(os++[x1])).map V.str:=by rw [eL,eL,aw]; rfl
      rw [eol]
      have oD:ol≠D2:=fun e=>by
       have h1:=hD2
       rw [← e,s4 ol _ hol3] at h1
       cases h1
      have kp7:∀ b u,b≠ol→H6 b=some u→(upd H6 ol (.lst ((x::(os++[x1])).map V.str))) b=some u:=fun b u hb e=>by rw [au hb]; exact e
      have sm7:Same H (upd H6 ol (.lst ((x::(os++[x1])).map V.str))):=fun b u e=>kp7 b u (aB e hol) (sm6 b u (s4 b u (sm3 b u e)))
      have rl7:∀ i (hi:i < zs.length),∃(a:Addr) (hr:i < rows3.length),zs[i]?=some (.ref a)∧(upd H6 ol (.lst ((x::(os++[x1])).map V.str))) a=some (.lst (rows3[i].map V.str)):=fun i hi=>by
       obtain ⟨a,hr',e,n,q⟩:=(rl4.mono sm6).get hi
       exact⟨a,hr',e,kp7 a _ n q⟩
      have hol7:(upd H6 ol (.lst ((x::(os++[x1])).map V.str))) ol=some (.lst ((x::(os++[x1])).map V.str)):=ak
      have hr7:=kp7 r3 _ r3o hr6
      have hD7:=kp7 D2 _ oD.symm hD6
      generalize upd H6 ol (.lst ((x::(os++[x1])).map V.str))=H7 at kp7 sm7 rl7 hol7 hr7 hD7
      have hlt:=pL (x:=x1) ⟨r1,hr1,hx1r⟩
      refine⟨_,rfl,r3,rfl,⟨_,SqL.of hr7⟩,fun D4 hD4=>?_⟩
      refine bA (n:=zs.length) (fun i ys H8=>H8 D4=some (.lst ys)∧m5 H8 D4 ol ys ((rows3.take i).map (bT x1))∧Same H7 H8) ⟨ak,.nil,Same.new hD4⟩ ?_ ?_
      ·rintro ys8 H8 ⟨hD8,ry8,sm8⟩
       rw [av (by omega)] at ry8
       refine⟨⟨_,SqL.of (sm8 r3 _ hr7),am _⟩,?_⟩
       have hy8:ys8.length=rows3.length:=by rw [cS ry8,aa]
       refine⟨_,rfl,D4,rfl,⟨_,SqL.of hD8⟩,fun D6 hD6'=>?_⟩
       have rx8:=ry8.x
       refine bA (n:=ys8.length) (fun i ys H9=>H9 D6=some (.lst ys)∧m5 H9 D6 ol ys (full ((rows3.map (bT x1)).take i))∧Same H8 H9) ⟨ak,.nil,Same.new hD6'⟩ ?_ ?_
       ·rintro ys9 H9 ⟨hD9,ry9,sm9⟩
        rw [av (by rw [aa]; omega)] at ry9
        refine⟨⟨_,SqL.of (sm9 D4 _ hD8),am _⟩,?_⟩
        have sm89:=sm8.trans sm9
        refine⟨tot (full (rows3.map (bT x1))),by rw [ql]; exact hlt,ys9,full (rows3.map (bT x1)),os++[x1],D6,_,rfl,hD9,ry9.x,?_,?_,sm89 ol _ hol7,rfl,?_,fun r h=>?_,sm7.trans sm89⟩
        ·intro e
         rw [e] at hD9
         rw [sm89 ol _ hol7] at hD9
         injection hD9 with hD9
         injection hD9 with hD9
         cases ys9 with
         | nil=>cases hD9
         | cons y9 _=>
          obtain ⟨a9,_,e9,_⟩:=ry9.x.get (i:=0) (by simp)
          injection hD9 with h9 _
          rw [← h9] at e9
          cases e9
        ·unfold full
         rw [lx]
         simp
        ·rw [ql,bz,dm]
         omega
        ·have h1:=mg3 _ (.step hfr h)
         rw [Option.map_map] at h1
         have:((fun x=>os++x) ∘ fun x=>x1::x)=fun x=>os++[x1]++x:=by
          funext z
          simp
         rw [this] at h1
         exact h1
       ·rintro i ys9 H9 hi ⟨hD9,ry9,sm9⟩
        obtain ⟨a,hir,ea,_,ha⟩:=(rx8.mono sm9).get hi
        refine⟨⟨_,_,SqL.of (sm9 D4 _ hD8),ea⟩,?_⟩
        rintro yv H10 ⟨rfl,yy⟩ σo ho
        obtain ⟨oo,rfl⟩:=own1 ho
        have ey:=yy _ (SqL.of (sm9 D4 _ hD8))
        rw [ea] at ey
        cases ey
        have hys:ys9.length≤1000:=by
         rw [cS ry9]
         refine dC (de _ _) ?_
         rw [br,aa]
         omega
        refine⟨⟨[_],rfl,rfl⟩,_,rfl,dq _,fun e2 he2=>⟨a,e2,_,rfl,rfl,SqL.of (by rw [au (aB ha he2)]; exact ha),SqL.of ak,_,rfl,?_⟩⟩
        have s10:Same H10 (upd H10 e2 (.lst [])):=Same.new he2
        have hb:(!(((rows3.map (bT x1))[i]).map V.str).isEmpty)=!((rows3.map (bT x1))[i]).isEmpty:=by
         cases (rows3.map (bT x1))[i] <;> rfl
        rw [hb]
        cases he:((rows3.map (bT x1))[i]).isEmpty with
        | true=>
         refine fY (aR hi ⟨s10 D6 _ hD9,?_,sm9.trans s10⟩)
         rw [take_snoc hir,nZ,ck he,eB]
         exact ry9.mono s10
        | false=>
         have aD6:a≠D6:=fun e=>by
          have:=hD6'
          obtain ⟨a',_,ea',_,ha'⟩:=rx8.get hi
          rw [ea] at ea'
          cases ea'
          rw [← e,ha'] at this
          cases this
         have ao:a≠ol:=by
          obtain ⟨a',_,ea',n',_⟩:=rx8.get hi
          rw [ea] at ea'
          cases ea'
          exact n'
         refine dZ ⟨_,rfl,by omega,s10 D6 _ hD9,aR hi ⟨ak,?_,fun b u e=>?_⟩⟩
         ·rw [take_snoc hir,nZ,bX (by rw [he]; exact aE)]
          exact cP (ry9.grow s10) ⟨a,rfl,aD6,ao,by rw [au aD6]; exact s10 a _ ha⟩
         ·rw [au (aB e hD6')]
          exact s10 b _ (sm9 b _ e)
      ·rintro i ys8 H8 hi ⟨hD8,ry8,sm8⟩
       obtain ⟨a,hir,ea,ha⟩:=rl7 i hi
       have ha8:=sm8 a _ ha
       refine⟨⟨_,_,SqL.of (sm8 r3 _ hr7),ea⟩,?_⟩
       rintro yv H9 ⟨rfl,yy⟩ σo ho
       obtain ⟨oo,rfl⟩:=own1 ho
       have ey:=yy _ (SqL.of (sm8 r3 _ hr7))
       rw [ea] at ey
       cases ey
       have hys:ys8.length≤1000:=by
        rw [cS ry8,aa,br]
        omega
       refine⟨⟨[_],rfl,rfl⟩,dB ⟨_,rfl,a,rfl,⟨_,SqL.of ha8⟩,fun D5 hD5'=>?_⟩⟩
       have s9:∀ o,Same H9 (upd H9 D5 o):=fun o=>Same.new hD5'
       have D54:D5≠D4:=fun e=>by rw [e,hD8] at hD5'; cases hD5'
       have D5o:D5≠ol:=fun e=>by rw [e,sm8 ol _ hol7] at hD5'; cases hD5'
       have hrl1:(rows3[i]).length≤1000:=by
        have:=uL (cn hir)
        omega
       refine bA (n:=((rows3[i]).map V.str).length) (fun j ys5 H10=>ys5=(bT x1 ((rows3[i]).take j)).map V.str∧H10=upd H9 D5 (.lst ys5)) ⟨rfl,rfl⟩ ?_ ?_
       ·rintro ys5 H10 ⟨rfl,rfl⟩
        rw [av (by rw [aa]; exact am _)]
        refine⟨⟨_,SqL.of (s9 _ a _ ha8),am _⟩,by omega,s9 _ D4 _ hD8,aR hi ⟨ak,?_,fun b u e=>?_⟩⟩
        ·rw [take_snoc hir,aw]
         exact cP (ry8.grow (s9 _)) ⟨D5,rfl,D54,D5o,by rw [au D54,ak]⟩
        ·rw [au (aB e hD4)]
         exact s9 _ b _ (sm8 b _ e)
       ·rintro j ys5 H10 hj ⟨rfl,rfl⟩
        have hj':j < (rows3[i]).length:=by rw [aa] at hj; exact hj
        have ej:((rows3[i]).map V.str)[j]?=some (.str (rows3[i])[j]):=by rw [bc,ae hj']; rfl
        refine⟨⟨_,_,SqL.of (s9 _ a _ ha8),ej⟩,?_⟩
        rintro y5 H11 ⟨rfl,yy⟩ σo5 ho5
        obtain ⟨o5,rfl⟩:=own1 ho5
        have ey:=yy _ (SqL.of (s9 _ a _ ha8))
        rw [ej] at ey
        cases ey
        have eout:bT x1 ((rows3[i]).take (j+1))=bT x1 ((rows3[i]).take j)++(if decide ((rows3[i])[j]≠x1)=true then [(rows3[i])[j]] else []):=by
         unfold bT
         rw [take_snoc hj',eS]
         congr 1
         rw [dk]
         rfl
        have hl5:((bT x1 ((rows3[i]).take j)).map V.str).length≤1000:=by
         rw [aa]
         have h1:=yH x1 ((rows3[i]).take j)
         rw [br] at h1
         omega
        refine⟨⟨[_],rfl,rfl⟩,_,rfl,_,rfl,D2,_,_,_,rfl,rfl,SqL.of (s9 _ D2 _ (sm8 D2 _ hD7)),at0 x1 more,rfl,_,rfl,eX (fun hb=>?_) (fun hb=>?_)⟩
        ·have hb:(rows3[i])[j]≠x1:=by
          intro e
          rw [e] at hb
          simp at hb
         refine⟨_,rfl,by omega,ak,aR hj ⟨?_,by rw [bO]⟩⟩
         rw [eout,ck (ay hb),aw]
         rfl
        ·have hb:(rows3[i])[j]=x1:=dA fun e=>hb (by
          show (!decide (V.str (rows3[i])[j]=V.str x1))=true
          rw [bv (by intro z; injection z with z; exact e z)]
          rfl)
         refine aR hj ⟨?_,rfl⟩
         rw [eout,bX (by simpa using hb),eB]
    ·rintro i ys' H5 hi ⟨rfl,hD5,sm5⟩
     obtain ⟨a,hir,ea,_,ha⟩:=(rl4.mono sm5).get hi
     obtain ⟨y0,r0,er0⟩:=hnz rows3[i] (cn hir)
     rw [er0] at ha
     refine⟨⟨_,_,SqL.of (sm5 r3 _ hr4),ea⟩,?_⟩
     rintro yv H6 ⟨rfl,yy⟩ σo ho
     obtain ⟨oo,rfl⟩:=own1 ho
     have ey:=yy _ (SqL.of (sm5 r3 _ hr4))
     rw [ea] at ey
     cases ey
     refine⟨⟨[_],rfl,rfl⟩,_,rfl,r3,rfl,⟨_,SqL.of (sm5 r3 _ hr4)⟩,fun D3 hD3=>?_⟩
     refine bA (n:=zs.length) (fun i3 bs H7=>bs=((rows3.take i3).map fun o=>decide (y0∈o.drop 1)).map V.bl∧H7 D3=some (.lst bs)∧Same H6 H7) ⟨rfl,ak,Same.new hD3⟩ ?_ ?_
     ·rintro bs H7 ⟨rfl,hD7,sm7⟩
      rw [av (by omega)] at hD7
      refine⟨⟨_,SqL.of (sm7 r3 _ (sm5 r3 _ hr4)),am _⟩,D3,_,rfl,SqL.of hD7,_,rfl,?_⟩
      have eany:(rows3.map fun o=>decide (y0∈o.drop 1)).any id=cC rows3 y0:=by
       unfold cC
       rw [List.any_map]
       rfl
      rw [eany]
      have efr:((rows3.take (i+1)).flatMap (freeOf rows3))=((rows3.take i).flatMap (freeOf rows3))++(if cC rows3 y0=true then [] else [y0]):=by
       rw [take_snoc hir,kR,List.flatMap_singleton,er0]
       rfl
      have hlen:(((rows3.take i).flatMap (freeOf rows3)).map V.str).length≤1000:=by
       rw [aa]
       have h1:=zH rows3 (rows3.take i)
       rw [br] at h1
       omega
      cases hh:cC rows3 y0 with
      | true=>
       refine fY (aR hi ⟨?_,sm7 D2 _ hD5,sm5.trans sm7⟩)
       rw [efr,hh,ck rfl,eB]
      | false=>
       refine dZ ⟨_,rfl,a,_,_,_,rfl,rfl,SqL.of (sm7 a _ ha),at0 y0 r0,by omega,sm7 D2 _ hD5,aR hi ⟨?_,ak,fun b u e=>?_⟩⟩
       ·rw [efr,hh,bX aE,aw]
        rfl
       ·rw [au (aB e hD2)]
        exact sm7 b _ (sm5 b _ e)
     ·rintro i3 bs H7 hi3 ⟨rfl,hD7,sm7⟩
      obtain ⟨a3,hir3,ea3,_,ha3⟩:=((rl4.mono sm5).mono sm7).get hi3
      refine⟨⟨_,_,SqL.of (sm7 r3 _ (sm5 r3 _ hr4)),ea3⟩,?_⟩
      rintro y3 H8 ⟨rfl,yy⟩ σo3 ho3
      obtain ⟨o3,rfl⟩:=own1 ho3
      have ey:=yy _ (SqL.of (sm7 r3 _ (sm5 r3 _ hr4)))
      rw [ea3] at ey
      cases ey
      refine⟨⟨[_],rfl,rfl⟩,dB ⟨_,rfl,a,_,_,_,rfl,rfl,SqL.of (sm7 a _ ha),at0 y0 r0,_,rfl,_,rfl,a3,_,rfl,SqL.of ha3,fun q hq=>⟨q,_,rfl,.inl (SqL.of ak),rfl,by rw [Kr]; exact cH _,by rw [aa,aa,br]; omega,by rw [au (aB hD7 hq)]; exact hD7,aR hi3 ⟨?_,ak,fun b u e=>?_⟩⟩⟩⟩
      ·show _++[V.bl (inV (.str y0) (eF ((rows3[i3]).map V.str) (some 1) none))]=_
       rw [Kr,cB,take_snoc hir3,aw,aw]
       rfl
      ·rw [au (aB e hD3),au (aB (sm7 b _ e) hq)]
       exact sm7 b _ e
  ·rintro i ys H2 hi ⟨hD2,rl2,hol2,sm2⟩
   obtain ⟨a,hir,ea,ha⟩:=(rt.mono (Same.tups sm2)).get hi
   refine⟨⟨_,_,SqL.of (sm2 rl _ hrl),ea⟩,?_⟩
   rintro y H3 ⟨rfl,yy⟩ σo ho
   obtain ⟨o,rfl⟩:=own1 ho
   have ey:=yy _ (SqL.of (sm2 rl _ hrl))
   rw [ea] at ey
   cases ey
   have hys:ys.length≤1000:=by
    rw [cS rl2]
    have:=nO (rows.take i)
    refine dC (de _ _) ?_
    rw [br]
    omega
   refine⟨⟨[_],rfl,rfl⟩,_,rfl,a,_,rfl,.inr (SqT.of ha),_,_,rfl,rfl,_,rfl,eX (fun hb=>?_) (fun hb=>?_)⟩
   ·refine⟨_,rfl,a,_,rfl,.inr (SqT.of ha),fun l hl=>?_⟩
    have sl:∀ o,Same H3 (upd H3 l o):=fun o=>Same.new hl
    have lD:l≠D1:=fun e=>by rw [e,hD2] at hl; cases hl
    have lo:l≠ol:=fun e=>by rw [e,hol2] at hl; cases hl
    refine⟨by omega,sl _ D1 _ hD2,aR hi ⟨ak,?_,?_,?_⟩⟩
    ·have hne:¬ (rows[i]).isEmpty=true:=fun e=>by
      have hb:decide ((0:Int) < (((rows[i]).map V.str).length:Int))=true:=hb
      have:=cy hb
      rw [List.isEmpty_iff.mp e] at this
      simp at this
     rw [take_snoc hir,nZ,bX hne]
     exact cP (rl2.grow (sl _)) ⟨l,rfl,lD,lo,by rw [au lD,ak]⟩
    ·rw [au olD1]
     exact sl _ ol _ hol2
    ·intro b o' e
     rw [au (aB e hD1H)]
     exact sl _ b _ (sm2 b _ e)
   ·have he:(rows[i]).isEmpty=true:=by
     have hb:¬ decide ((0:Int) < (((rows[i]).map V.str).length:Int))=true:=hb
     rw [i7,aa] at hb
     exact List.isEmpty_iff_length_eq_zero.mpr (by omega)
    refine aR hi ⟨hD2,?_,hol2,sm2⟩
    rw [take_snoc hir,nZ,ck he,eB]
    exact rl2
end
end K17
end
section
namespace K17
open PySem PyProof.Rows L2
section
variable {P:Program}{w:World}{K:PySem.W.Frag}{mg:Str→Option Value}{base:Heap}{t:Adr}
def mQ:Sp:=fun vs H Q _=>∃(p:Addr) (n:Int),vs=[.ref p,.int n]∧Pu H p∧0 < n∧n < 1606938044258990275541962092341162602522202993782792835301376∧∀(r a b c:Int),0≤r→r < n→Q (.int r) (upd H p (.lst [.int a,.int b,.int c]))
theorem kY(D:Defs K mg t):aW P w K mg base CX0 1 t.aU.1 t.aU.2 ["_law_purse_here","_law_many"] mQ:=by
 refine D.aU.fn.ok mH (fun vs H Q E h=>?_) (fun cdv A outer s H vs Q E hr h=>?_)
 ·obtain ⟨p,n,rfl,_⟩:=h
  rfl
 ·obtain ⟨p,n,rfl,⟨a,b,c,hp⟩,h0,h1,k⟩:=h
  refine⟨_,(aD (yI (bJ gQ (aM cu (pv 0) aC (fun _ _=>rfl)) aC) (Cq (pv 0) aC set_list))
   (aD (aP (i:=2) mH.nd rfl (Or.inl rfl) (aM cu (pv 0) aC (fun _ _=>rfl)))
   (aD (yI (bJ mU (bJ gQ (bJ mJ (pv 2) (bJ gQ (bJ mU (pv 2) aC) aC)) (bJ mJ aC (aM cu (pv 0) aC (fun _ _=>rfl)))) aC) (Cq (pv 0) aC set_list))
   (aD (bQ (aV zT (aM cu (pv 0) aC (fun _ _=>rfl)) aC (bx _))
   (aD (aP (i:=3) mH.nd rfl (Or.inl rfl) (bJ mU (aM cu (pv 0) aC (fun _ _=>rfl)) (pv 1)))
   (aD (yI (bJ Jl (aM cu (pv 0) aC (fun _ _=>rfl)) (pv 1)) (Cq (pv 0) aC set_list))
   (aF (aQ (pv 3)))))
   aY)
   (aF (aQ (bJ mU (bJ yF (aM cu (pv 0) aC (fun _ _=>rfl)) aC) (pv 1)))))))),?_⟩
  refine⟨_,rfl,p,_,_,_,rfl,rfl,SqL.of hp,rfl,_,_,rfl,rfl,_,rfl,p,_,_,2,rfl,rfl,hp,rfl,?_⟩
  refine⟨_,rfl,p,_,_,_,rfl,rfl,SqL.of ak,rfl,?_⟩
  refine⟨_,rfl,_,rfl,_,_,rfl,rfl,(by show (0:Int) < 46337; decide),_,_,rfl,rfl,_,_,rfl,rfl,.inr ⟨?_,?_⟩,_,rfl,p,_,_,_,rfl,rfl,SqL.of ak,rfl,_,_,rfl,rfl,.inl ⟨by decide,by decide⟩,_,_,rfl,rfl,_,_,rfl,rfl,
   (by show (0:Int) < 2147483587; decide),_,rfl,p,_,_,0,rfl,rfl,ak,rfl,?_⟩
  ·have:=ku a (show (46337:Int)≠0 by decide)
   omega
  ·have:=kq a (show (0:Int) < 46337 by decide)
   omega
  rw [bO]
  refine⟨_,rfl,p,_,_,_,rfl,rfl,SqL.of ak,rfl,_,_,rfl,rfl,_,rfl,eX (fun hb=>?_) (fun hb=>?_)⟩
  ·refine⟨_,rfl,p,_,_,_,rfl,rfl,SqL.of ak,rfl,_,rfl,_,_,rfl,rfl,h0,_,rfl,p,_,_,_,rfl,rfl,SqL.of ak,rfl,_,rfl,_,_,rfl,rfl,⟨h0,h1⟩,_,rfl,p,_,_,1,rfl,rfl,ak,rfl,_,rfl,?_⟩
   rw [bO]
   exact k _ _ _ _ (ku _ (by omega)) (kq _ h0)
  ·refine⟨_,rfl,p,_,_,_,rfl,rfl,SqL.of ak,rfl,_,_,rfl,rfl,⟨by decide,by decide⟩,_,rfl,_,_,rfl,rfl,h0,?_⟩
   exact k _ _ _ _ (ku _ (by omega)) (kq _ h0)
def Dt:Sp:=fun vs H Q _=>∃(n:Int),vs=[.int n]∧∀(p:Addr) (a b c:Int),H p=none→Q (.ref p) (upd H p (.lst [.int a,.int b,.int c]))
theorem Iz(D:Defs K mg t):aW P w K mg base CX0 1 t.fW.1 t.fW.2 ["_law_cell_here"] Dt:=by
 refine D.fW.fn.ok lG (fun vs H Q E h=>?_) (fun cdv A outer s H vs Q E hr h=>?_)
 ·obtain ⟨n,rfl,_⟩:=h
  rfl
 ·obtain ⟨n,rfl,k⟩:=h
  refine⟨_,(aD (aP (i:=1) lG.nd rfl (Or.inl rfl) aC)
   (j8 (bQ (PW.pt (tQ (aV zU (pv 0) aC (bx _)) (pC (aV Ow (pv 0) (bJ Jt aC aC) (bx _)))))
   (aF (aP (i:=1) lG.nd rfl (Or.inl rfl) (aO Hh (by rfl) D.O1 Nj (aj (pv 0) aA))))
   aY)
   (aF (aQ (dU (aj (bJ mU (pv 0) aC) (aj (pv 1) (aj aC aA)))))))),?_⟩
  refine⟨fun σ' H'=>∃ d:Int,σ'=[some (.int n),some (.int d)]∧H'=H,?_,?_⟩
  ·refine⟨_,rfl,_,_,rfl,rfl,_,rfl,eX (fun hb=>?_) (fun hb=>?_)⟩
   ·exact dZ ⟨_,rfl,_,rfl,_,rfl,rfl⟩
   ·refine⟨_,rfl,_,_,rfl,rfl,⟨by decide,by decide,by decide⟩,_,_,rfl,rfl,_,rfl,eX (fun hc=>?_) (fun hc=>?_)⟩
    ·exact⟨_,rfl,_,rfl,_,rfl,rfl⟩
    ·exact⟨_,rfl,rfl⟩
  ·rintro σ' H' ⟨d,rfl,rfl⟩
   exact⟨_,rfl,_,_,rfl,rfl,(by show (0:Int) < 2147483587; decide),_,rfl,(by show 3≤sizeLine; decide),fun p hp=>k p _ _ _ hp⟩
def Bu(K:PySem.W.Frag):Sp:=fun vs H Q _=>∃(a:Addr) (ns:List Int) (k:Int),vs=[.ref a,.int k]∧SqL K H a (ns.map V.int)∧ns.length≤63∧0≤k∧k≤1000∧∀(n:Int) H',Same H H'→Q (.int n) H'
theorem Cz(D:Defs K mg t):aW P w K mg base CX0 1 t.eZ.1 t.eZ.2 ["_law_script","_law_k"] (Bu K):=by
 refine D.eZ.fn.ok jV (fun vs H Q E h=>?_) (fun cdv A outer s H vs Q E hr h=>?_)
 ·obtain ⟨a,ns,k,rfl,_⟩:=h
  rfl
 ·obtain ⟨a,ns,k,rfl,hS,hl,h0,h1,q⟩:=h
  refine⟨_,(aD (bQ (aV zU (pv 1) (aO bC (by rfl) D.iz eE (aj (pv 0) aA)) (bx _))
   (aF (aQ (aM cu (pv 0) (pv 1) (fun _ _=>rfl))))
   aY)
   (aD (aP (i:=2) jV.nd rfl (Or.inl rfl) (bJ mJ (bJ mJ aC (bJ gQ (pv 1) aC)) (bJ gQ (pv 1) aC)))
   (aD (gR dS rfl (gU (dJ qL (pv 0) fZ (gk aC))) (aN (i:=3) jV.nd rfl (Or.inl rfl))
   (aF (aP (i:=2) jV.nd rfl (Or.inl rfl) (bJ mU (bJ gQ (bJ mJ (pv 2) aC) (pv 3)) aC))))
   (aF (aQ (pv 2)))))),?_⟩
  refine⟨_,rfl,_,rfl,a,_,rfl,.inl hS,_,_,rfl,rfl,_,rfl,eX (fun hb=>?_) (fun hb=>?_)⟩
  ·have hk:k < (ns.map V.int).length:=cy hb
   obtain ⟨v,e,m,_⟩:=yh h0 hk
   obtain ⟨z,_,rfl⟩:=bg.mp m
   exact⟨_,rfl,_,rfl,a,_,_,_,rfl,rfl,hS,e,q z H (Same.refl H)⟩
  ·refine⟨_,rfl,_,_,rfl,rfl,_,_,rfl,rfl,.inl ⟨by decide,by decide⟩,_,rfl,_,_,rfl,rfl,_,_,rfl,rfl,.inr ⟨by omega,by omega⟩,?_⟩
   refine⟨_,rfl,_,rfl,a,_,rfl,hS,fun p hp=>⟨p,rfl,⟨_,SqL.of ak⟩,nF (K:=K) (a:=p) (xs:=eF (ns.map V.int) none (some 4)) (fun i σ H2=>∃(st:Int) (v:Option V),σ=[some (.ref a),some (.int k),some (.int st),v]∧H2=upd H p (.lst (eF (ns.map V.int) none (some 4))))
    ⟨_,_,rfl,rfl⟩ (fun i σ H2 _ ⟨_,_,_,e⟩=>by rw [e]; exact SqL.of ak) ?_ ?_⟩⟩
   ·rintro i x σ H2 hi ⟨st,v,rfl,rfl⟩
    have m:x∈ns.map V.int:=List.mem_of_mem_drop (nz (eJ hi))
    obtain ⟨z,_,rfl⟩:=bg.mp m
    exact⟨_,rfl,_,_,rfl,rfl,.inr ⟨by decide,by decide⟩,_,rfl,_,_,rfl,rfl,_,_,rfl,rfl,(by show (0:Int) < 2147483587; decide),_,_,rfl,rfl⟩
   ·rintro σ H2 ⟨st,v,rfl,rfl⟩
    exact⟨_,rfl,q st _ (Same.new hp)⟩
end
end K17
end
section
namespace K17
open PySem PyProof.Rows L2
section
variable {P:Program}{w:World}{K:PySem.W.Frag}{mg:Str→Option Value}{base:Heap}{t:Adr}
def uX:Sp:=fun vs H Q _=>∃(p u:Addr) (us:List Str),vs=[.ref p,.ref u]∧Pu H p∧H u=some (.lst (us.map V.str))∧us.length≤25∧∀(x:Str) H',1≤x.length→x.length≤6→Lw x→¬ x∈us→Off p H H'→Pu H' p→Q (.str x) H'
theorem xV(D:Defs K mg t):aW P w K mg base CX0 2 t.gP.1 t.gP.2 ["_law_purse_here","_law_used"] uX:=by
 have G__law_take:aW P w K mg base CX0 1 t.aU.1 t.aU.2 _ mQ:=kY D
 have hz:sizeLine=16777216:=cK
 refine D.gP.fn.ok jk (fun vs H Q E h=>?_) (fun cdv A outer s H vs Q E hr h=>?_)
 ·obtain ⟨p,u,us,rfl,_⟩:=h
  rfl
 ·obtain ⟨p,u,us,rfl,hp,hu,hl,k⟩:=h
  have up:u≠p:=hp.ne hu
  refine⟨_,(aD (aP (i:=2) jk.nd rfl (Or.inr rfl) cF)
   (aD (gR dS rfl (jx rfl D.mR (aj (bJ gQ aC (aH D.aU G__law_take (hr.mono (by omega)) (by rfl) (aj (pv 0) (aj aC aA)))) aA)) (aN (i:=3) jk.nd rfl (Or.inl rfl))
   (aF (aP (i:=2) jk.nd rfl (Or.inr rfl) (bJ kE (pv 2) (aM GZ cF (aH D.aU G__law_take (hr.mono (by omega)) (by rfl) (aj (pv 0) (aj aC aA))) (fun _ _=>rfl))))))
   (aD (bQ (aV jQ (pv 2) (pv 1) (by with_unfolding_all rfl))
   (aF (aQ (pv 2)))
   aY)
   (aD (jP (i:=4) rfl jk.nd rfl (Or.inl rfl) (aL.of ["_law_a"] [1,2] ["_law_a","_law_used","_law_word_here"] (aq (top 47)) ["_law_purse_here","_law_used","_law_word_here","_law_k","_law_first"] rfl rfl (by decide +kernel)) ⟨fun _ _ _ _ _=>(aN (i:=0) (show List.Nodup [("_law_a" : Str),("_law_used" : Str),("_law_word_here" : Str)] by decide +kernel) rfl (Or.inl (af rfl)) (.inr (af rfl))),fun _ _ _ _ _=>(dM (aV (pG (K:=K) rfl) (bJ kE (pv 0) (dJ uP (pv 2) fZ (gk aC))) (pv 1) (by with_unfolding_all rfl))),fun _ _ _ _ _=>(pv 0)⟩ (Jc cF))
   (aF (aQ (bJ kE (aM cu (pv 4) aC (fun _ _=>rfl)) (dJ uP (pv 2) fZ (gk aC))))))))),?_⟩
  refine⟨_,rfl,p,6,rfl,hp,by decide,by decide,fun r2 a2 b2 c2 g0 g1=>⟨_,_,rfl,rfl,_,rfl,by omega,by omega,?_⟩⟩
  refine nY (lo:=0) (n:=(1+r2).toNat) (fun i σ H2=>∃(x:Str) (v:Option V),σ=[some (.ref p),some (.ref u),some (.str x),v,none]∧x.length=i∧Lw x∧Off p H H2∧Pu H2 p)
   ⟨_,_,rfl,by decide,Lw.nil,Off.upd,Pu.upd⟩ ?_ ?_
  ·rintro i σ H2 hi ⟨x,v,rfl,hx,xl,o2,p2⟩
   refine⟨_,rfl,_,rfl,p,26,rfl,p2,by decide,by decide,fun r3 a3 b3 c3 f0 f1=>?_⟩
   obtain ⟨cc,ec,_,_⟩:=yh (xs:=abc.cps.toList) f0 (by rw [eI,rZ]; exact f1)
   refine⟨abc,_,cc,rfl,rfl,by decide +kernel,ec,_,_,rfl,rfl,?_,_,_,rfl,?_,xl.app (Lw.one (uz ec)),o2.trans Off.upd,Pu.upd⟩
   ·show x.length+1≤sizeLine
    omega
   ·rw [jg]
    show x.length+1=i+1
    omega
  ·rintro σ' H' ⟨x,v,rfl,hx,xl,oh,ph⟩
   have hx1:1≤x.length:=by omega
   have hx6:x.length≤6:=by omega
   have hu':H' u=some (.lst (us.map V.str)):=oh u _ up hu
   refine⟨_,rfl,_,rfl,u,_,rfl,.inl (SqL.of hu'),rfl,cH us,_,rfl,eX (fun hb=>?_) (fun hb=>?_)⟩
   ·refine⟨_,rfl,k x H' hx1 (by omega) xl ?_ oh ph⟩
    intro hm
    have hb:(!inV (.str x) (us.map V.str))=true:=hb
    rw [cB,ay hm] at hb
    cases hb
   ·have s5:(Txt.slice x none (some 5)).length≤5:=MK x
    refine⟨_,rfl,by decide +kernel,fun Dd hD=>?_⟩
    have uD:u≠Dd:=aB hu' hD
    have pD:p≠Dd:=by
     obtain ⟨a,b,c,e⟩:=ph
     exact aB e hD
    refine bA (n:=26) (fun i ys H2=>ys=((letters.take i).filter fun c=>decide (¬ (c++Txt.slice x none (some 5))∈us)).map V.str∧H2=upd H' Dd (.lst ys)) ⟨rfl,rfl⟩ ?_ ?_
    ·rintro ys H2 ⟨rfl,rfl⟩
     refine⟨by show abc.cps.size≤26; rw [rZ]; exact am _,?_⟩
     rw [show letters.take 26=letters from av (by rw [rO]; exact am _)]
     obtain ⟨c,hc,hn⟩:=yW hl (Txt.slice x none (some 5))
     have hmem:c∈letters.filter fun c=>decide (¬ (c++Txt.slice x none (some 5))∈us):=bE.mpr ⟨hc,ay hn⟩
     obtain ⟨d,rest,ed⟩:=kG (List.ne_nil_of_mem hmem)
     have hd:d∈letters.filter fun c=>decide (¬ (c++Txt.slice x none (some 5))∈us):=by rw [ed]; exact aT
     obtain ⟨hd1,hd2⟩:=bE.mp hd
     refine⟨_,rfl,Dd,_,_,.str d,rfl,rfl,SqL.of ak,by rw [ed]; exact aG (j:=0) rfl,_,rfl,_,rfl,x,rfl,by omega,_,_,rfl,rfl,?_,?_⟩
     ·rw [jD d hd1]
      omega
     ·refine k _ _ (by rw [jg,jD d hd1]; omega) ?_ ((Lw.letter hd1).app (xl.slice _ _)) (cy hd2) (oh.trans (Off.new hD)) ?_
      ·rw [jg,jD d hd1]
       omega
      ·obtain ⟨a,b,c,e⟩:=ph
       exact⟨a,b,c,by rw [au pD]; exact e⟩
    ·rintro i ys H2 hi ⟨rfl,rfl⟩
     refine⟨by show i < abc.cps.size; rw [rZ]; exact hi,?_⟩
     rintro y H3 ⟨rfl,c,ec,rfl⟩ σo ho
     obtain ⟨o,rfl⟩:=own1 ho
     have el:letters[i]?=some ⟨#[c]⟩:=by
      have ec':abc.cps[i]?=some c:=ec
      unfold letters
      rw [bc,ky,ec']
      rfl
     have et:letters.take (i+1)=letters.take i++[⟨#[c]⟩]:=by
      rw [ii,el]
      rfl
     have hlen:(((letters.take i).filter fun c=>decide (¬ (c++Txt.slice x none (some 5))∈us)).map V.str).length≤26:=by
      rw [aa]
      refine dC (de _ _) ?_
      rw [br]
      omega
     refine⟨⟨[_],rfl,rfl⟩,_,rfl,_,rfl,_,rfl,x,rfl,by omega,_,_,rfl,rfl,(by show 1+_≤sizeLine; omega),_,rfl,u,_,rfl,.inl (SqL.of (by rw [au uD]; exact hu')),rfl,cH us,_,rfl,eX (fun hb=>?_) (fun hb=>?_)⟩
     ·have hb:(!inV (.str (⟨#[c]⟩++Txt.slice x none (some 5))) (us.map V.str))=true:=hb
      rw [cB] at hb
      have hn:¬ ((⟨#[c]⟩:Str)++Txt.slice x none (some 5))∈us:=by simpa using hb
      refine⟨_,rfl,by omega,ak,aR hi ⟨?_,by rw [bO]⟩⟩
      rw [et,eS,aw]
      congr 1
      rw [dk,ck (ay hn)]
      rfl
     ·have hb:¬ (!inV (.str (⟨#[c]⟩++Txt.slice x none (some 5))) (us.map V.str))=true:=hb
      rw [cB] at hb
      have hn:((⟨#[c]⟩:Str)++Txt.slice x none (some 5))∈us:=by simpa using hb
      refine aR hi ⟨?_,rfl⟩
      rw [et,eS]
      rw [show List.filter (fun c=>decide (¬ (c++Txt.slice x none (some 5))∈us)) [(⟨#[c]⟩:Str)]=[] by rw [dk,bX (by simpa using hn)]; rfl,eB]
end
end K17
end
section
namespace K17
open PySem PyProof.Rows L2
section
variable {P:Program}{w:World}{K:PySem.W.Frag}{mg:Str→Option Value}{base:Heap}{t:Adr}
theorem BP(x:Str){n:Int}(h:1≤n):(jF x n).length≤x.length * n.toNat:=by
 unfold jF
 rw [bX (by omega)]
 split
 ·have:1≤n.toNat:=by omega
  exact Nat.le_mul_of_pos_right _ (by omega)
 ·show (List.foldl (fun x1 x2=>x1++x2) #[] (List.replicate n.toNat x.cps)).size≤_
  rw [size_rep,Array.size_empty,Nat.mul_comm,Nat.zero_add]
  exact am _
def xK:Sp:=fun vs H Q _=>∃(p u:Addr) (us:List Str) (n:Int),vs=[.ref p,.int n,.ref u]∧Pu H p∧H u=some (.lst (us.map V.str))∧0≤n∧us.length+n.toNat≤25∧
 ∀(l:Addr) (ns:List Str) H',H l=none→ns.length=n.toNat→ns.Nodup→(∀ x∈ns,¬ x∈us∧Nm x)→H' l=some (.lst (ns.map V.str))→Off p H H'→Pu H' p→Q (.ref l) H'
theorem oA{α:Type}{l:List α}{x:α}(h:l.Nodup)(hx:¬ x∈l):(l++[x]).Nodup:=by
 rw [g9]
 refine⟨h,by simp,fun a ha b hb e=>?_⟩
 have:b=x:=by simpa using hb
 rw [e,this] at ha
 exact hx ha
theorem Ae(D:Defs K mg t):aW P w K mg base CX0 3 t.dz.1 t.dz.2 ["_law_purse_here","_law_many","_law_used"] xK:=by
 have G__law_take:aW P w K mg base CX0 1 t.aU.1 t.aU.2 _ mQ:=kY D
 have G__law_word:aW P w K mg base CX0 2 t.gP.1 t.gP.2 _ uX:=xV D
 have hz:sizeLine=16777216:=cK
 refine D.dz.fn.ok cJ (fun vs H Q E h=>?_) (fun cdv A outer s H vs Q E hr h=>?_)
 ·obtain ⟨p,u,us,n,rfl,_⟩:=h
  rfl
 ·obtain ⟨p,u,us,n,rfl,hp,hu,h0,h1,k⟩:=h
  have up:u≠p:=hp.ne hu
  refine⟨_,(aD (aP (i:=3) cJ.nd rfl (Or.inl rfl) (aH D.aU G__law_take (hr.mono (by omega)) (by rfl) (aj (pv 0) (aj aC aA))))
   (aD (aP (i:=4) cJ.nd rfl (Or.inl rfl) (aH D.gP G__law_word (hr.mono (by omega)) (by rfl) (aj (pv 0) (aj (pv 2) aA))))
   (aD (aP (i:=5) cJ.nd rfl (Or.inl rfl) (aH D.aU G__law_take (hr.mono (by omega)) (by rfl) (aj (pv 0) (aj (aO qm (by rfl) D.iz eE (aj (pv 4) aA)) aA))))
   (aD (aP (i:=6) cJ.nd rfl (Or.inl rfl) (aH D.aU G__law_take (hr.mono (by omega)) (by rfl) (aj (pv 0) (aj aC aA))))
   (aD (aP (i:=7) cJ.nd rfl (Or.inl rfl) (dU aA))
   (aD (gR dS rfl (jx rfl D.mR (aj (pv 1) aA)) (aN (i:=8) cJ.nd rfl (Or.inl rfl))
   (aD (aP (i:=9) cJ.nd rfl (Or.inl rfl) (aM GZ cF (bJ mU (bJ gQ (pv 6) (bJ mJ aC (pv 8))) aC) (fun _ _=>rfl)))
   (aD (aP (i:=10) cJ.nd rfl (Or.inl rfl) (bJ kE (bJ kE (dJ uP (pv 4) fZ (gk (pv 5))) (pv 9)) (dJ uP (pv 4) (gk (bJ gQ (pv 5) aC)) fZ)))
   (j8 (bQ (aV fu (pv 3) aC (bx _))
   (aF (aP (i:=10) cJ.nd rfl (Or.inl rfl) (dJ uP (bJ KJ (pv 4) aC) fZ (gk (aO (wQ rfl) (by rfl) D.Ln Jj (aj aC (aj (bJ gQ (pv 8) aC) aA)))))))
   aY)
   (j8 (bQ (PW.pt (tQ (aV zT (pv 3) aC (bx _)) (pC (aV oF (pv 10) (bJ uN (pv 2) (pv 7)) (by with_unfolding_all rfl)))))
   (aF (aP (i:=10) cJ.nd rfl (Or.inl rfl) (aH D.gP G__law_word (hr.mono (by omega)) (by rfl) (aj (pv 0) (aj (bJ uN (pv 2) (pv 7)) aA)))))
   aY)
   (aF (jd (qx fh fT gh iK (pv 7) (aj (pv 10) aA)))))))))
   (aF (aQ (pv 7))))))))),?_⟩
  refine⟨_,rfl,p,4,rfl,hp,by decide,by decide,fun pick a1 b1 c1 l1 u1=>?_⟩
  refine⟨_,rfl,_,rfl,p,u,us,rfl,Pu.upd,by rw [au up]; exact hu,by omega,fun x H1 hx1 hx7 xl _ o1 p1=>?_⟩
  have o1:Off p H H1:=Off.upd.trans o1
  refine⟨_,rfl,_,rfl,x,rfl,by omega,p,_,rfl,p1,by omega,by omega,fun place a2 b2 c2 l2 u2=>?_⟩
  refine⟨_,rfl,p,26,rfl,Pu.upd,by decide,by decide,fun first a3 b3 c3 l3 u3=>?_⟩
  rw [bO]
  have o3:Off p H (upd H1 p (.lst [.int a3,.int b3,.int c3])):=o1.trans Off.upd
  refine⟨dq _,fun l hl=>?_⟩
  have hlH:H l=none:=by
   by_cases e:l=p
   ·rw [e,ak] at hl
    cases hl
   ·cases q:H l with
    | none=>rfl
    | some o=>
     rw [o3 l o e q] at hl
     cases hl
  have pl:p≠l:=hp.neN hlH
  have ul:u≠l:=aB hu hlH
  refine⟨_,rfl,n,rfl,by omega,by omega,nY (lo:=0) (n:=n.toNat) (fun i σ H2=>∃(ns:List Str) (v8 v9 v10:Option V),σ=[some (.ref p),some (.int n),some (.ref u),some (.int pick),some (.str x),some (.int place),some (.int first),some (.ref l),v8,v9,v10]∧
   ns.length=i∧ns.Nodup∧(∀ x∈ns,¬ x∈us∧Nm x)∧H2 l=some (.lst (ns.map V.str))∧Off p H H2∧Pu H2 p)
   ⟨[],_,_,_,rfl,rfl,iL,by simp,ak,o3.trans (Off.new hl),Pu.upd.au pl⟩ ?_ ?_⟩
  ·rintro i σ H2 hi ⟨ns,v8,v9,v10,rfl,hns,nd,nu,hl2,o2,p2⟩
   have hu2:H2 u=some (.lst (us.map V.str)):=o2 u _ up hu
   have m0:=ku (first+7 * (0+(i:Int))) (show (26:Int)≠0 by decide)
   have m1:=kq (first+7 * (0+(i:Int))) (show (0:Int) < 26 by decide)
   obtain ⟨cc,ec,_,_⟩:=yh (xs:=abc.cps.toList) m0 (by rw [eI,rZ]; exact m1)
   refine⟨_,rfl,_,rfl,_,_,rfl,rfl,.inl ⟨by decide,by decide⟩,_,_,rfl,rfl,_,_,rfl,rfl,(by show (0:Int) < 26; decide),abc,_,cc,rfl,rfl,by decide +kernel,ec,?_⟩
   have q1:=qX x none (some place)
   have q2:=qX x (some (place+1)) none
   refine⟨_,rfl,_,rfl,_,rfl,x,rfl,by omega,_,rfl,_,_,rfl,rfl,(by show (Txt.slice x none (some place)).length+1≤sizeLine; omega),_,rfl,_,rfl,_,_,rfl,rfl,_,rfl,x,rfl,by omega,_,_,rfl,rfl,?_,?_⟩
   ·rw [jg]
    show (Txt.slice x none (some place)).length+1+_≤sizeLine
    omega
   refine⟨fun σ' H'=>∃(y:Str) (v8 v9:Option V),σ'=[some (.ref p),some (.int n),some (.ref u),some (.int pick),some (.str x),some (.int place),some (.int first),some (.ref l),some (.int (0+(i:Int))),v9,some (.str y)]∧H'=H2∧Nm y,?_,?_⟩
   ·refine⟨_,rfl,rfl,_,rfl,eX (fun hb=>?_) (fun hb=>?_)⟩
    ·have q3:=BP x (n:=6) (by decide)
     refine⟨_,rfl,x,6,rfl,rfl,by decide,by decide,by omega,_,rfl,_,_,rfl,rfl,_,_,rfl,_,rfl,_,rfl,by show (jF x 6).length≤sizeLine; have:(6:Int).toNat=6:=rfl; rw [this] at q3; omega,_,none,_,rfl,rfl,?_⟩
     exact Px ⟨hx1,hx7,xl⟩ i
    ·exact⟨_,none,_,rfl,rfl,PK ⟨hx1,hx7,xl⟩ l2 u2 (uz ec)⟩
   ·rintro σ' H' ⟨y,v8',v9',rfl,rfl,hyl⟩
    refine⟨fun σ' H''=>∃(y:Str) (v9:Option V),σ'=[some (.ref p),some (.int n),some (.ref u),some (.int pick),some (.str x),some (.int place),some (.int first),some (.ref l),some (.int (0+(i:Int))),v9,some (.str y)]∧(¬ y∈us∧Nm y)∧¬ y∈ns∧Off p H' H''∧Pu H'' p,?_,?_⟩
    ·have cl:(us.map V.str).length+(ns.map V.str).length≤sizeLine:=by rw [aa,aa]; omega
     have fresh:∀(q:Addr) (H0:Hp),Off p H' H0→Pu H0 p→H0 q=none→∀(y:Str) (H3:Hp),¬ y∈us++ns→Off p (upd H0 q (.lst (us.map V.str++ns.map V.str))) H3→Pu H3 p→¬ y∈us∧¬ y∈ns∧Off p H' H3∧Pu H3 p:=fun q H0 o0 p0 hq y H3 hy o3 p3=>
      ⟨fun h=>hy (dP _ h),fun h=>hy (cE _ h),(o0.trans (Off.new hq)).trans o3,p3⟩
     refine⟨_,rfl,_,_,rfl,rfl,_,rfl,eX (fun hb=>?_) (fun hb=>?_)⟩
     ·refine dZ ⟨_,rfl,_,rfl,_,rfl,u,l,_,_,rfl,rfl,hu2,hl2,cl,fun q hq=>⟨p,q,us++ns,rfl,p2.au (p2.neN hq),by rw [ak,aw],by rw [bz]; omega,fun y' H3 hy1 hy7 yl hy o3 p3=>?_⟩⟩
      obtain ⟨f1,f2,f3,f4⟩:=fresh q H' (Off.refl p H') p2 hq y' H3 hy o3 p3
      exact⟨y',_,rfl,⟨f1,hy1,hy7,yl⟩,f2,f3,f4⟩
     ·refine⟨_,rfl,_,rfl,_,rfl,u,l,_,_,rfl,rfl,hu2,hl2,cl,fun q hq=>⟨q,_,rfl,.inl (SqL.of ak),rfl,?_,_,rfl,eX (fun hc=>?_) (fun hc=>?_)⟩⟩
      ·rw [List.all_append,cH,cH]
       rfl
      ·have uq:u≠q:=aB hu2 hq
       have lq:l≠q:=aB hl2 hq
       refine⟨_,rfl,_,rfl,_,rfl,u,l,_,_,rfl,rfl,by rw [au uq]; exact hu2,by rw [au lq]; exact hl2,cl,fun q2 hq2=>⟨p,q2,us++ns,rfl,(p2.au (p2.neN hq)).au ((p2.au (p2.neN hq)).neN hq2),by rw [ak,aw],by rw [bz]; omega,fun y' H3 hy1 hy7 yl hy o3 p3=>?_⟩⟩
       obtain ⟨f1,f2,f3,f4⟩:=fresh q2 _ (Off.new hq) (p2.au (p2.neN hq)) hq2 y' H3 hy o3 p3
       exact⟨y',_,rfl,⟨f1,hy1,hy7,yl⟩,f2,f3,f4⟩
      ·have hc:¬ inV (.str y) (us.map V.str++ns.map V.str)=true:=hc
       rw [← aw,cB] at hc
       have hc:¬ y∈us++ns:=fun h=>hc (ay h)
       exact⟨y,_,rfl,⟨fun h=>hc (dP _ h),hyl⟩,fun h=>hc (cE _ h),Off.new hq,p2.au (p2.neN hq)⟩
    ·rintro σ'' H3 ⟨y',v9'',rfl,y1,y2,o3,p3⟩
     have hl3:H3 l=some (.lst (ns.map V.str)):=o3 l _ pl.symm hl2
     refine⟨_,rfl,.inl ⟨rfl,_,SqL.of hl3⟩,_,rfl,l,ns.map V.str,.str y',rfl,rfl,hl3,by rw [aa]; omega,ns++[y'],_,_,_,rfl,by rw [bz,hns]; rfl,oA nd y2,?_,by rw [ak,aw]; rfl,?_,p3.au pl⟩
     ·intro z hz
      rcases bS.mp hz with h | h
      ·exact nu z h
      ·rw [aS.mp h]
       exact y1
     ·intro b o hb e
      rw [au (aB e hlH)]
      exact o3 b o hb (o2 b o hb e)
  ·rintro σ H2 ⟨ns,v8,v9,v10,rfl,hns,nd,nu,hl2,o2,p2⟩
   exact⟨_,rfl,k l ns H2 hlH hns nd nu hl2 o2 p2⟩
end
end K17
end
section
namespace K17
open PySem PyProof.Rows L2
section
variable {P:Program}{w:World}{K:PySem.W.Frag}{mg:Str→Option Value}{base:Heap}{t:Adr}
def vm:Sp:=fun vs H Q _=>∃(p m:Addr) (ns:List Str) (n:Nat),vs=[.ref p,.ref m,.int n]∧Pu H p∧H m=some (.lst (ns.map V.str))∧n≤100∧ns.length≤100∧
 ∀(q:Addr) (es:List Str) H',H' q=some (.tup (es.map V.str))→(∀ x∈es,x∈ns)→es.Nodup→es.length≤n→Off p H H'→Pu H' p→Q (.ref q) H'
theorem sy(D:Defs K mg t):aW P w K mg base CX0 2 t.bW.1 t.bW.2 ["_law_purse_here","_law_menu","_law_most"] vm:=by
 have G__law_take:aW P w K mg base CX0 1 t.aU.1 t.aU.2 _ mQ:=kY D
 have hz:sizeLine=16777216:=cK
 refine D.bW.fn.ok jU (fun vs H Q E h=>?_) (fun cdv A outer s H vs Q E hr h=>?_)
 ·obtain ⟨p,m,ns,n,rfl,_⟩:=h
  rfl
 ·obtain ⟨p,m,ns,n,rfl,hp,hm,hn,hl,k⟩:=h
  have mp:m≠p:=hp.ne hm
  refine⟨_,(aD (aP (i:=3) jU.nd rfl (Or.inl rfl) (dU aA))
   (aD (bQ (aV fu (aO bC (by rfl) D.iz eE (aj (pv 1) aA)) aC (bx _))
   (aF (aQ (dg aA)))
   aY)
   (aD (gR dS rfl (jx rfl D.mR (aj (aH D.aU G__law_take (hr.mono (by omega)) (by rfl) (aj (pv 0) (aj (bJ gQ (pv 2) aC) aA))) aA)) (aN (i:=4) jU.nd rfl (Or.inl rfl))
   (aD (aP (i:=5) jU.nd rfl (Or.inl rfl) (aM cu (pv 1) (aH D.aU G__law_take (hr.mono (by omega)) (by rfl) (aj (pv 0) (aj (aO bC (by rfl) D.iz eE (aj (pv 1) aA)) aA))) (fun _ _=>rfl)))
   (aF (bQ (aV jQ (pv 5) (pv 3) (by with_unfolding_all rfl))
   (aF (jd (qx fh fT gh iK (pv 3) (aj (pv 5) aA))))
   aY))))
   (aF (aQ (bG bD (by rfl) D.cV bY (aj (pv 3) aA))))))),?_⟩
  refine⟨dq _,fun l hll=>?_⟩
  have pl:p≠l:=hp.neN hll
  have ml:m≠l:=aB hm hll
  refine⟨_,rfl,m,_,rfl,.inl (SqL.of (by rw [au ml]; exact hm)),rfl,_,rfl,eX (fun hb=>?_) (fun hb=>?_)⟩
  ·exact⟨dq _,fun q hq=>k q [] _ ak (by simp) iL (dq _) ((Off.new hll).trans (Off.new hq)) ((hp.au pl).au ((hp.au pl).neN hq))⟩
  ·have hpos:0 < ns.length:=by
    have hb:¬ decide (V.int ((ns.map V.str).length:Int)=V.int 0)=true:=hb
    rcases Nat.eq_zero_or_pos ns.length with h | h
    ·exfalso
     apply hb
     rw [aa,h]
     exact ay rfl
    ·exact h
   refine⟨_,rfl,_,rfl,_,_,rfl,rfl,p,_,rfl,hp.au pl,by omega,by omega,fun r a1 b1 c1 l1 u1=>⟨r,rfl,by omega,by omega,?_⟩⟩
   refine nY (lo:=0) (n:=r.toNat) (fun i σ H2=>∃(es:List Str) (v4 v5:Option V),σ=[some (.ref p),some (.ref m),some (.int n),some (.ref l),v4,v5]∧es.length≤i∧es.Nodup∧(∀ x∈es,x∈ns)∧H2 l=some (.lst (es.map V.str))∧Off p H H2∧Pu H2 p)
    ⟨[],_,_,rfl,am _,iL,by simp,by rw [au pl.symm,ak]; rfl,(Off.new hll).trans Off.upd,Pu.upd⟩ ?_ ?_
   ·rintro i σ H2 hi ⟨es,v4,v5,rfl,he,nd,sub,hl2,o2,p2⟩
    have hm2:H2 m=some (.lst (ns.map V.str)):=o2 m _ mp hm
    refine⟨_,rfl,_,rfl,_,rfl,m,_,rfl,.inl (SqL.of hm2),p,_,rfl,p2,by rw [aa]; omega,by rw [aa]; omega,fun r2 a2 b2 c2 l2 u2=>?_⟩
    rw [aa] at u2
    obtain ⟨x,ex,mx,_⟩:=Gu (ns:=ns) l2 u2
    refine⟨m,_,_,_,rfl,rfl,SqL.of (by rw [au mp]; exact hm2),ex,?_⟩
    have lp:l≠p:=pl.symm
    refine⟨_,rfl,_,rfl,l,_,rfl,.inl (SqL.of (by rw [au lp]; exact hl2)),rfl,cH es,_,rfl,eX (fun hc=>?_) (fun hc=>?_)⟩
    ·have hc:(!inV (.str x) (es.map V.str))=true:=hc
     rw [cB] at hc
     have hx:¬ x∈es:=by simpa using hc
     refine⟨_,rfl,.inl ⟨rfl,_,SqL.of (by rw [au lp]; exact hl2)⟩,_,rfl,l,es.map V.str,.str x,rfl,rfl,by rw [au lp]; exact hl2,by rw [aa]; omega,es++[x],_,_,rfl,by rw [bz]; exact Nat.succ_le_succ he,oA nd hx,?_,by rw [ak,aw]; rfl,?_,Pu.upd.au pl⟩
     ·intro z hz
      rcases bS.mp hz with h | h
      ·exact sub z h
      ·rw [aS.mp h]
       exact mx
     ·intro b o hb e
      rw [au (aB e hll),au hb]
      exact o2 b o hb e
    ·exact⟨es,_,_,rfl,Nat.le_succ_of_le he,nd,sub,by rw [au lp]; exact hl2,o2.trans Off.upd,Pu.upd⟩
   ·rintro σ H2 ⟨es,v4,v5,rfl,he,nd,sub,hl2,o2,p2⟩
    refine⟨_,rfl,l,_,rfl,.inl ⟨SqL.of hl2,fun q hq=>?_⟩⟩
    exact k q es _ ak sub nd (by omega) (o2.trans (Off.new hq)) (p2.au (p2.neN hq))
abbrev Fam:=List (Str × List Str)
def oR(r:Str × List Str):T:=.tup [.str r.1,.tup (r.2.map T.str)]
def J1(f:Fam):T:=.tup (f.map oR)
abbrev nms(f:Fam):List Str:=f.map (·.1)
structure eO (f:Fam):Prop where
 nd:(nms f).Nodup
 sub:∀ r∈f,∀ e∈r.2,e∈nms f
 len:f.length≤7
 pos:0 < f.length
 el:∀ r∈f,r.2.length≤7
 G6:∀ r∈f,r.2.Nodup
 vL:∃ top:List Str,top.Nodup∧(∀ x,x∈top↔x∈nms f)∧∀ r∈f,∃ j,top[j]?=some r.1∧∀ e∈r.2,e∈top.take j
 lw:∀ x∈nms f,Nm x
theorem eO.perm{f g:Fam}(h:eO f)(p:g.Perm f):eO g where
 lw:=fun x hx=>h.lw x ((p.map (·.1)).mem_iff.mp hx)
 nd:=(p.map (·.1)).nodup_iff.mpr h.nd
 sub:=fun r hr e he=>(p.map (·.1)).mem_iff.mpr (h.sub r (p.mem_iff.mp hr) e he)
 len:=by rw [p.length_eq]; exact h.len
 pos:=by rw [p.length_eq]; exact h.pos
 el:=fun r hr=>h.el r (p.mem_iff.mp hr)
 G6:=fun r hr=>h.G6 r (p.mem_iff.mp hr)
 vL:=by
  obtain ⟨top,h0,h1,h2⟩:=h.vL
  exact⟨top,h0,fun x=>(h1 x).trans (p.map (·.1)).mem_iff.symm,fun r hr=>h2 r (p.mem_iff.mp hr)⟩
theorem Dp.row{H:Hp}{q e:Addr}{x:Str}{es:List Str}(hq:H q=some (.tup [.str x,.ref e]))(he:H e=some (.tup (es.map V.str))):Dp H (oR (x,es)) (.ref q):=
 L2.Dp.tup hq (.cons (L2.Dp.str x) (.cons (L2.Dp.tup he (DpL.strs es)) .nil))
theorem Dp.yx{H:Hp}{r:Str × List Str}{v:V}(d:Dp H (oR r) v):∃ q e,v=.ref q∧H q=some (.tup [.str r.1,.ref e])∧H e=some (.tup (r.2.map V.str)):=by
 obtain ⟨q,xs,rfl,hq,dl⟩:=L2.Dp.cR d
 obtain ⟨x1,r1,rfl,d1,dl⟩:=dl.cases
 obtain ⟨x2,r2,rfl,d2,dl3⟩:=dl.cases
 have e1:=L2.Dp.lE d1
 have e3:=dl3.tH
 obtain ⟨e,ys,rfl,he,dl2⟩:=L2.Dp.cR d2
 subst e1 e3
 rw [DpL.lC dl2] at he
 exact⟨q,e,rfl,hq,he⟩
end
end K17
end
section
namespace K17
open PySem L2
noncomputable def ni (rows:List (List Str)):Option (List Str):=open Classical in if h:∃ r,Mg rows r then Classical.choose h else none
theorem lV{rows:List (List Str)}{r:Option (List Str)}(h:Mg rows r):ni rows=r:=by
 unfold ni
 rw [dif_pos ⟨r,h⟩]
 exact Mg.det (Classical.choose_spec (⟨r,h⟩:∃ r,Mg rows r)) h
def vI(f:Fam)(x:Str):List Str:=((f.find? fun r=>decide (r.1=x)).map (·.2)).getD []
theorem jA:∀ {f:Fam},(nms f).Nodup→∀ r∈f,vI f r.1=r.2
 | [],_,_,h=>nomatch h
 | r0::f,nd,r,hr=>by
  have nd':(r0.1::nms f).Nodup:=nd
  obtain ⟨n1,n2⟩:=eW.mp nd'
  unfold vI
  rw [ib]
  rcases bu.mp hr with rfl | h
  ·rw [ay rfl]
   rfl
  ·have ne:¬ r0.1=r.1:=fun e=>n1 (e ▸ bg.mpr ⟨r,h,rfl⟩)
   rw [bv ne]
   exact jA n2 r h
def dh(g:Str→Option (List Str))(es:List Str):List (List Str):=es.map (fun e=>(g e).getD [])++[es]
noncomputable def nM (f:Fam):Nat→Str→Option (List Str)
 | 0,_=>none
 | n+1,x=>if (vI f x).all (fun e=>(nM f n e).isSome)=true then (ni (full (dh (nM f n) (vI f x)))).map (x::·) else none
variable {f:Fam}
theorem jM{l:List Str}(h:l.Nodup){i j:Nat}{x:Str}(a:l[i]?=some x)(b:l[j]?=some x):i=j:=by
 obtain ⟨h1,e1⟩:=bj.mp a
 obtain ⟨h2,e2⟩:=bj.mp b
 exact(List.getElem_inj h).mp (e1.trans e2.symm)
theorem ig{l:List Str}{j:Nat}{x:Str}(h:x∈l.take j):∃ i,i < j∧l[i]?=some x:=by
 obtain ⟨i,hi,e⟩:=fc h
 rw [br] at hi
 refine⟨i,by omega,?_⟩
 rw [← e,List.getElem_take]
 exact ae (by omega)
theorem Jp(G:eO f){top:List Str}(t0:top.Nodup)(t1:∀ x,x∈top↔x∈nms f)(t2:∀ r∈f,∃ j,top[j]?=some r.1∧∀ e∈r.2,e∈top.take j) :
  ∀(j:Nat) (x:Str),top[j]?=some x→∀ n m,j < n→j < m→nM f n x=nM f m x:=by
 intro j
 induction j using Nat.strongRecOn with
 | ind j ih=>
  intro x hx n m hn hm
  obtain ⟨n,rfl⟩:∃ n',n=n'+1:=⟨n - 1,by omega⟩
  obtain ⟨m,rfl⟩:∃ m',m=m'+1:=⟨m - 1,by omega⟩
  have hxn:x∈nms f:=(t1 x).mp (eJ hx)
  obtain ⟨r,hr,rfl⟩:=bg.mp hxn
  have ee:=jA G.nd r hr
  obtain ⟨j',h1,h2⟩:=t2 r hr
  have ej:=jM t0 hx h1
  subst ej
  have same:∀ e∈r.2,nM f n e=nM f m e:=fun e he=>by
   obtain ⟨i,hi,ei⟩:=ig (h2 e he)
   exact ih i hi e ei n m (by omega) (by omega)
  unfold nM
  rw [ee]
  have c1:r.2.all (fun e=>(nM f n e).isSome)=r.2.all (fun e=>(nM f m e).isSome):=by
   apply fm.mpr
   rw [eQ,eQ]
   exact⟨fun h e he=>by rw [← same e he]; exact h e he,fun h e he=>by rw [same e he]; exact h e he⟩
  have c2:dh (nM f n) r.2=dh (nM f m) r.2:=by
   unfold dh
   congr 1
   exact eM fun e he=>by rw [same e he]
  rw [c1,c2]
noncomputable def bU (f:Fam):Str→Option (List Str):=nM f 8
theorem pB(G:eO f){r:Str × List Str}(hr:r∈f):bU f r.1=if r.2.all (fun e=>(bU f e).isSome)=true then (ni (full (dh (bU f) r.2))).map (r.1::·) else none:=by
 obtain ⟨top,t0,t1,t2⟩:=G.vL
 have tl:top.length≤7:=by
  have h1:=cL t0 (m:=nms f) fun x hx=>(t1 x).mp hx
  have h2:(nms f).length=f.length:=aa _
  have:=G.len
  omega
 have same:∀ e∈r.2,nM f 7 e=bU f e:=fun e he=>by
  obtain ⟨j,h1,h2⟩:=t2 r hr
  obtain ⟨i,hi,ei⟩:=ig (h2 e he)
  have hil:=(bj.mp ei).1
  exact Jp G t0 t1 t2 i e ei 7 8 (by omega) (by omega)
 show nM f 8 r.1=_
 unfold nM
 rw [jA G.nd r hr]
 have c1:r.2.all (fun e=>(nM f 7 e).isSome)=r.2.all (fun e=>(bU f e).isSome):=by
  apply fm.mpr
  rw [eQ,eQ]
  exact⟨fun h e he=>by rw [← same e he]; exact h e he,fun h e he=>by rw [same e he]; exact h e he⟩
 have c2:dh (nM f 7) r.2=dh (bU f) r.2:=by
  unfold dh
  congr 1
  exact eM fun e he=>by rw [same e he]
 rw [c1,c2]
def tO(f:Fam)(a b:Str):Prop:=∃ r∈f,r.1=a∧b∈r.2
inductive Reach (f:Fam):Str→Str→Prop where
 | one {a b:Str}:tO f a b→Reach f a b
 | step {a b c:Str}:tO f a b→Reach f b c→Reach f a c
theorem Reach.trans{f:Fam}{a b c:Str}(h:Reach f a b)(g:Reach f b c):Reach f a c:=by
 induction h with
 | one e=>exact .step e g
 | step e _ ih=>exact .step e (ih g)
def Br(f:Fam):Nat→Str→Str→Prop
 | 0,_,_=>False
 | k+1,a,b=>tO f a b∨∃ c,tO f a c∧Br f k c b
variable {f:Fam}
theorem oM(G:eO f){a b:Str}(h:Reach f a b):b∈nms f:=by
 induction h with
 | one e=>
  obtain ⟨r,hr,rfl,hb⟩:=e
  exact G.sub r hr _ hb
 | step _ _ ih=>exact ih
structure Rh (f:Fam) (m i:Nat) (cs:Str→List Str):Prop where
 sound:∀ x∈nms f,∀ y∈cs x,Reach f x y
 low:∀ x∈nms f,∀ y,Br f m x y→y∈cs x
 high:∀ x∈(nms f).take i,(∀ y,Br f (m+m) x y→y∈cs x)∧∃ p:Str→Bool,cs x=(nms f).filter p
 len:∀ x∈nms f,(cs x).length≤7
def Rb(f:Fam)(cs:Str→List Str)(x:Str):List Str:=(nms f).filter fun o=>((cs x).map cs++[cs x]).any fun way=>decide (o∈way)
noncomputable def above (f:Fam) (x:Str):List Str:=(nms f).filter fun o=>dcd (Reach f x o)
noncomputable def below (f:Fam) (x:Str):List Str:=(nms f).filter fun o=>dcd (Reach f o x)
end K17
end
section
namespace K17
open PySem PyProof.Rows L2
theorem jB{κ:Type}[DecidableEq κ]:∀ {kvs:List (κ × V)} {k:κ},(bZ kvs k).isSome=true↔k∈kvs.map (·.1)
 | [],k=>by simp [bZ]
 | p::kvs,k=>by
  by_cases e:p.1=k
  ·rw [fB e]
   simp [e]
  ·rw [fU e,jB]
   have:¬ k=p.1:=fun z=>e z.symm
   simp [this]
def gZ(rs:List Str):List (Key × V):=rs.map fun y=>(.inr y,.bl true)
theorem iU(rs:List Str)(x:Str):(bZ (gZ rs) (.inr x)).isSome=true↔x∈rs:=by
 rw [jB]
 unfold gZ
 rw [fb,bg]
 constructor
 ·rintro ⟨y,hy,e⟩
  have e:(Sum.inr y:Key)=Sum.inr x:=e
  injection e with e
  exact e ▸ hy
 ·exact fun h=>⟨x,h,rfl⟩
theorem tD{rs:List Str}{x:Str}(h:¬ x∈rs):putK (gZ rs) (.inr x) (.bl true)=gZ (rs++[x]):=by
 have hn:bZ (gZ rs) (.inr x)=none:=by
  cases q:bZ (gZ rs) (.inr x) with
  | none=>rfl
  | some y=>exact absurd ((iU rs x).mp (by rw [q]; rfl)) h
 rw [uw _ hn]
 unfold gZ
 rw [aw]
 rfl
theorem Hj{rs:List Str}{x:Str}(h:x∈rs):putK (gZ rs) (.inr x) (.bl true)=gZ rs:=by
 unfold putK
 rw [ck (by rw [mj]; exact(iU rs x).mpr h)]
 unfold gZ
 rw [fb]
 apply eM
 intro y _
 show (if (Sum.inr y:Key)=Sum.inr x then (Sum.inr y,V.bl true) else (Sum.inr y,V.bl true))=_
 split <;> rfl
theorem Jb(rs:List Str)(x:Str):∃ rs',putK (gZ rs) (.inr x) (.bl true)=gZ rs'∧(∀ y,y∈rs'↔y∈rs∨y=x)∧rs'.length≤rs.length+1:=by
 by_cases h:x∈rs
 ·exact⟨rs,Hj h,fun y=>⟨.inl,fun z=>z.elim id fun e=>e ▸ h⟩,lI _⟩
 ·refine⟨rs++[x],tD h,fun y=>?_,by rw [bz]; exact am _⟩
  rw [bS,aS]
section
variable {P:Program}{w:World}{K:PySem.W.Frag}{mg:Str→Option Value}{base:Heap}{t:Adr}
def Ad(H:Hp)(v:V)(r:List Str):Prop:=∃ a,v=.ref a∧(H a=some (.lst (r.map V.str))∨(H a=some (.tup (r.map V.str))∧r≠[]))
def m6(H:Hp)(vs:List V)(rows:List (List Str)):Prop:=Paired (Ad H) vs rows
theorem m6.mono{H H':Hp}{vs:List V}{rows:List (List Str)}(h:m6 H vs rows)(s:Same H H'):m6 H' vs rows:=Paired.oN h fun v r ⟨a,e,q⟩=>⟨a,e,q.elim (fun z=>.inl (s a _ z)) fun z=>.inr ⟨s a _ z.1,z.2⟩⟩
theorem m6.get{H:Hp}{vs:List V}{rows:List (List Str)}(h:m6 H vs rows){i:Nat}{v:V}(e:vs[i]?=some v):∃(hr:i < rows.length),Ad H v rows[i]:=by
 have hi:=(bj.mp e).1
 have hr:i < rows.length:=by rw [← cS h]; exact hi
 have q:=fV h i hi hr
 rw [ae hi] at e
 cases e
 exact⟨hr,q⟩
theorem Ad.cut{K:PySem.W.Frag}{H:Hp}{v:V}{r:List Str}(h:Ad H v r){Q:VK}(q:∀(p:Addr) H',iy H' (.ref p) ((r.drop 1).map V.str)→Same H H'→Q (.ref p) H'):JV K v (some 1) none H Q∨JQ K v (some 1) none H Q:=by
 obtain ⟨a,rfl,h⟩:=h
 rcases h with h | ⟨h,hne⟩
 ·refine .inr ⟨a,_,rfl,SqL.of h,fun p hp=>q p _ ⟨p,rfl,.inl (by rw [ak,Kr])⟩ (Same.new hp)⟩
 ·refine .inl ⟨a,_,rfl,SqT.of h,fun z=>?_,fun p hp=>q p _ ⟨p,rfl,.inr (by rw [ak,Kr])⟩ (Same.new hp)⟩
  have e1:HT.sIx (r.map V.str).length 0 (some 1)=min 1 (r.map V.str).length:=HT.qI _ 0 1
  rw [e1,aa] at z
  cases r with
  | nil=>exact hne rfl
  | cons y r=>simp at z
theorem Ad.at0{K:PySem.W.Frag}{H:Hp}{v:V}{y:Str}{r:List Str}(h:Ad H v (y::r)){Q:VK}(q:Q (.str y) H):J6 K v (.int 0) H Q∨JZ K v (.int 0) H Q:=by
 obtain ⟨a,rfl,h⟩:=h
 rcases h with h | ⟨h,_⟩
 ·exact .inr ⟨a,_,0,_,rfl,rfl,SqL.of h,L2.at0 y r,q⟩
 ·exact .inl ⟨a,_,0,_,rfl,rfl,SqT.of h,L2.at0 y r,q⟩
theorem Ad.tru{K:PySem.W.Frag}{H:Hp}{v:V}{r:List Str}(h:Ad H v r):Kp K v H (!r.isEmpty):=by
 obtain ⟨a,rfl,h⟩:=h
 have e:(!(r.map V.str).isEmpty)=!r.isEmpty:=by cases r <;> rfl
 rcases h with h | ⟨h,_⟩
 ·exact .inl ⟨_,SqL.of h,e.symm⟩
 ·exact .inr (.inl ⟨_,SqT.of h,e.symm⟩)
theorem Ik(rows:List (List Str))(k:Nat):tot (rows.take k)≤tot rows:=by
 have e:tot rows=tot (rows.take k)+tot (rows.drop k):=by
  unfold tot
  rw [← nL,← aw,iA]
 omega
def OD(l:List Str):V:=match l with
 | []=>.non
 | x::_=>.str x
def Df:Sp:=fun vs H Q _=>∃(l:Addr) (us:List V) (rows:List (List Str)),vs=[.ref l]∧iy H (.ref l) us∧m6 H us rows∧tot rows≤2000∧rows.length≤1000∧∀ H',Same H H'→Q (OD (frees rows)) H'
theorem Hi(D:Defs K mg t):aW P w K mg base CX0 1 t.gH.1 t.gH.2 ["left"] Df:=by
 have hz:sizeLine=16777216:=cK
 refine D.gH.fn.ok iZ (fun vs H Q E h=>?_) (fun cdv A outer s H vs Q E hr h=>?_)
 ·obtain ⟨l,us,rows,rfl,_⟩:=h
  rfl
 ·obtain ⟨l,us,rows,rfl,hl,hrows,htot,hlen,k⟩:=h
  have hul:us.length=rows.length:=cS hrows
  refine⟨_,(aD (aP (i:=1) iZ.nd rfl (Or.inl rfl) j9)
   (aD (gR dS rfl (qU (K:=K) (pv 0) rfl) (aN (i:=2) iZ.nd rfl (Or.inl rfl))
   (aF (gR dS rfl (qU (K:=K) (dJ (DW (K:=K) rfl) (pv 2) (gk aC) fZ) rfl) (aN (i:=3) iZ.nd rfl (Or.inl rfl))
   (aF (jR (cY hr) (pv 1) (pv 3) nR rfl)))))
   (aD (gR dS rfl (qU (K:=K) (pv 0) rfl) (aN (i:=2) iZ.nd rfl (Or.inl rfl))
   (aF (bQ (PW.pt (rD (qu (pv 2) (by intro _; rfl)) (nU (qZ (mC (cY hr) (aM (qy (K:=K) rfl) (pv 2) aC (fun _ _=>rfl)) (pv 1))))))
   (aF (aQ (aM (qy (K:=K) rfl) (pv 2) aC (fun _ _=>rfl))))
   aY)))
   (aF (aQ eV))))),?_⟩
  intro hd hhd
  have s0:∀ o,Same H (upd H hd o):=fun o=>Same.new hhd
  have kl:∀ {H2:Hp},Same H H2→∀ o,(upd H hd (.dK [])) l=some o→H2 l=some o:=fun {H2} s o e=>by
   obtain ⟨p,ep,h⟩:=hl
   cases ep
   have hlh:l≠hd:=by
    rcases h with h | h
    ·exact aB h hhd
    ·exact aB h hhd
   rw [au hlh] at e
   exact s l o e
  refine⟨_,rfl,l,rfl,xW (K:=K) (hl.same (s0 _)) (fun i σ H2=>∃(rs:List Str) (v2 v3:Option V),σ=[some (.ref l),some (.ref hd),v2,v3]∧H2 hd=some (.dK (gZ rs))∧(∀ y,y∈rs↔∃ o∈rows.take i,y∈o.drop 1)∧rs.length≤tot (rows.take i)∧Same H H2)
   ⟨[],_,_,rfl,ak,by simp,dq _,s0 _⟩ (fun i σ H2 _ ⟨_,_,_,_,_,_,_,s⟩=>kl s) ?_ ?_⟩
  ·rintro i x σ H2 hi ⟨rs,v2,v3,rfl,hh2,mem,rl,sm⟩
   obtain ⟨hir,ha⟩:=(hrows.mono sm).get hi
   have hri:(rows[i]).length+tot (rows.take i)=tot (rows.take (i+1)):=by
    rw [take_snoc hir]
    unfold tot
    rw [aw,nL]
    simp
    omega
   have htl:tot (rows.take (i+1))≤tot rows:=by
    exact Ik rows (i+1)
   refine⟨_,rfl,_,rfl,ha.cut fun p H3 hp s3=>⟨p,rfl,?_⟩⟩
   have sm3:Same H H3:=sm.trans s3
   refine xW (K:=K) hp (fun j σ H4=>∃ (rs':List Str) (v3:Option V),σ=[some (.ref l),some (.ref hd),some x,v3]∧H4 hd=some (.dK (gZ rs'))∧(∀ y,y∈rs'↔y∈rs∨y∈((rows[i]).drop 1).take j)∧rs'.length≤rs.length+j∧∀ b u,b≠hd→H3 b=some u→H4 b=some u)
    ⟨rs,_,rfl,s3 hd _ hh2,by simp,am _,fun b u _ e=>e⟩ ?_ ?_ ?_
   ·rintro j σ H4 _ ⟨rs',v3,rfl,hh4,_,_,kp⟩ o e
    refine kp p o (fun z=>?_) e
    rw [z] at hp
    obtain ⟨q,eq,h⟩:=hp
    cases eq
    rw [s3 hd _ hh2] at h
    rcases h with h | h <;> cases h
   ·rintro j y σ H4 hj ⟨rs',v3,rfl,hh4,mem',rl',kp⟩
    have hjl:j < ((rows[i]).drop 1).length:=by
     have:=(bj.mp hj).1
     rwa [aa] at this
    have ey:y=.str ((rows[i]).drop 1)[j]:=by
     rw [bc,ae hjl] at hj
     exact(dE hj).symm
    subst ey
    obtain ⟨rs2,e2,m2,l2⟩:=Jb rs' ((rows[i]).drop 1)[j]
    have hjl':=hjl
    rw [iX] at hjl'
    refine⟨_,rfl,_,rfl,hd,_,rfl,rC.k (k:=.inr ((rows[i]).drop 1)[j]) hh4 (by unfold gZ; rw [aa]; omega),rs2,_,rfl,by rw [ak,e2],fun z=>?_,by omega,fun b u hb e=>by rw [au hb]; exact kp b u hb e⟩
    rw [m2,mem',take_snoc hjl,bS,aS]
    constructor
    ·rintro ((h | h) | h)
     ·exact .inl h
     ·exact .inr (.inl h)
     ·exact .inr (.inr h)
    ·rintro (h | h | h)
     ·exact .inl (.inl h)
     ·exact .inl (.inr h)
     ·exact .inr h
   ·rintro σ H4 ⟨rs',v3,rfl,hh4,mem',rl',kp⟩
    rw [aa,iX] at rl'
    refine⟨rs',_,_,rfl,hh4,fun y=>?_,by omega,fun b u e=>kp b u (aB e hhd) (sm3 b u e)⟩
    have et:((rows[i]).drop 1).take (((rows[i]).drop 1).map V.str).length=(rows[i]).drop 1:=av (by rw [aa]; exact am _)
    rw [mem',et,mem,take_snoc hir]
    constructor
    ·rintro (⟨o,h1,h2⟩ | h)
     ·exact⟨o,dP _ h1,h2⟩
     ·exact⟨rows[i],cE _ aT,h⟩
    ·rintro ⟨o,h1,h2⟩
     rcases bS.mp h1 with h | h
     ·exact .inl ⟨o,h,h2⟩
     ·rw [aS.mp h] at h2
      exact .inr h2
  ·rintro σ H2 ⟨rs,v2,v3,rfl,hh2,mem,rl,sm⟩
   rw [av (by omega)] at mem
   have held:∀ y,(bZ (gZ rs) (.inr y)).isSome=cC rows y:=fun y=>by
    apply fm.mpr
    rw [iU,mem]
    unfold cC
    rw [gL]
    exact⟨fun⟨o,h1,h2⟩=>⟨o,h1,ay h2⟩,fun⟨o,h1,h2⟩=>⟨o,h1,cy h2⟩⟩
   refine⟨_,rfl,l,rfl,xW (K:=K) (hl.same sm) (fun i σ H3=>∃(v2 v3:Option V),σ=[some (.ref l),some (.ref hd),v2,v3]∧(rows.take i).flatMap (freeOf rows)=[]∧H3=H2)
    ⟨_,_,rfl,rfl,rfl⟩ (fun i σ H3 _ ⟨_,_,_,_,e⟩ o h=>by rw [e]; exact h) ?_ ?_⟩
   ·rintro i x σ H3 hi ⟨v2',v3',rfl,hnone,rfl⟩
    obtain ⟨hir,ha⟩:=(hrows.mono sm).get hi
    have hfl:frees rows=(rows.take i).flatMap (freeOf rows)++(freeOf rows rows[i]++(rows.drop (i+1)).flatMap (freeOf rows)):=by
     unfold frees
     have e:rows=rows.take i++(rows[i]::rows.drop (i+1)):=by
      rw [List.getElem_cons_drop,iA]
     conv=>lhs; rw [e]
     rw [kR,mw]
     rw [← e]
    refine⟨_,rfl,_,ha.tru,?_⟩
    cases hre:rows[i] with
    | nil=>
     refine fY (fY ⟨_,_,rfl,?_,rfl⟩)
     rw [take_snoc hir,kR,hnone,hre]
     rfl
    | cons y r=>
     rw [hre] at ha hfl
     refine dZ ⟨_,rfl,ha.at0 ⟨_,rfl,hd,_,rfl,kO.k (k:=.inr y) hh2,_,rfl,?_⟩⟩
     rw [held y]
     have ef:freeOf rows (y::r)=if cC rows y=true then [] else [y]:=rfl
     cases hh:cC rows y with
     | true=>
      refine fY ⟨_,_,rfl,?_,rfl⟩
      rw [take_snoc hir,kR,hnone,hre,List.flatMap_singleton,ef,hh,ck rfl]
      rfl
     | false=>
      refine dZ ⟨_,rfl,ha.at0 ?_⟩
      have:=k H3 sm
      rw [hfl,hnone,ef,hh,bX aE] at this
      exact this
   ·rintro σ H3 ⟨v2',v3',rfl,hnone,rfl⟩
    rw [av (by omega)] at hnone
    have hnone:frees rows=[]:=hnone
    have:=k H3 sm
    rw [hnone] at this
    exact this
def nA(rows:List (List Str))(y:Str):List Nat:=(List.range rows.length).filter fun i=>decide (y∈(rows.getD i []).drop 1)
def Jz:Sp:=fun vs H Q _=>∃(y:Str) (l:Addr) (us:List V) (rows:List (List Str)),vs=[.str y,.ref l]∧iy H (.ref l) us∧m6 H us rows∧rows.length≤1000∧cC rows y=true∧
 ∀(q:Addr) (x:Str) (n:Nat) (r:List Str) H',rows[n]?=some (x::r)→y∈r→(∀ m o,m < n→rows[m]?=some o→¬ y∈o.drop 1)→H' q=some (.tup [.str x,.str y,.int n])→Same H H'→Q (.ref q) H'
theorem J7(D:Defs K mg t):aW P w K mg base CX0 1 t.jN.1 t.jN.2 ["name","left"] Jz:=by
 have hz:sizeLine=16777216:=cK
 refine D.jN.fn.ok tL (fun vs H Q E h=>?_) (fun cdv A outer s H vs Q E hr h=>?_)
 ·obtain ⟨y,l,us,rows,rfl,_⟩:=h
  rfl
 ·obtain ⟨y,l,us,rows,rfl,hl,hrows,hlen,held,k⟩:=h
  have hul:us.length=rows.length:=cS hrows
  refine⟨_,(aD (aP (i:=2) tL.nd rfl (Or.inl rfl) (aM cu (bL rfl (aL.of ["at","row"] [0] ["at","row","name"] (aq (top 25)) ["name","left","number"] rfl rfl (by decide +kernel)) ⟨fun _ _ _ _ _=>(qN (K:=K) (n:=2) rfl rfl (dH (aN (i:=0) (show List.Nodup [("at" : Str),("row" : Str),("name" : Str)] by decide +kernel) rfl (Or.inl (af rfl)) (.inr (af rfl))) (dH (aN (i:=1) (show List.Nodup [("at" : Str),("row" : Str),("name" : Str)] by decide +kernel) rfl (Or.inl (af rfl)) (.inr (af rfl))) lg))),fun _ _ _ _ _=>(dM (aV (lu (K:=K) rfl) (pv 2) (dJ (DW (K:=K) rfl) (pv 1) (gk aC) fZ) (by with_unfolding_all rfl))),fun _ _ _ _ _=>(pv 0)⟩ (Iw (K:=K) rfl rfl D.rK (aj (pv 1) aA))) aC (fun _ _=>rfl)))
   (aF (aQ (dg (aj (aM (qy (K:=K) rfl) (aM (qy (K:=K) rfl) (pv 1) (pv 2) (fun _ _=>rfl)) aC (fun _ _=>rfl)) (aj (pv 0) (aj (pv 2) aA))))))),?_⟩
  refine⟨_,rfl,l,rfl,Aq (K:=K) hl (fun D i ys H2=>ys=((List.range i).filter fun j=>decide (y∈(rows.getD j []).drop 1)).map (fun j=>V.int (j:Nat))∧H2 D=some (.lst ys)∧Same H H2)
   (fun D hD=>⟨rfl,ak,Same.new hD⟩) (fun D i ys H2 hD ⟨_,_,sm⟩ o e=>sm l o e) ?_ ?_⟩
  ·rintro D' ys H2 hD ⟨rfl,hD2,sm⟩
   rw [hul] at hD2
   have hne:nA rows y≠[]:=by
    obtain ⟨o,ho,hy⟩:=gL.mp held
    obtain ⟨i,hi,rfl⟩:=fc ho
    refine List.ne_nil_of_mem (a:=i) (bE.mpr ⟨gy.mpr hi,?_⟩)
    simp [hi]
    simpa using hy
   obtain ⟨n,more,en⟩:=kG hne
   have hn:n∈nA rows y:=by rw [en]; exact aT
   obtain ⟨hn1,hn2⟩:=bE.mp hn
   have hnl:=gy.mp hn1
   have hn2:=cy hn2
   have egd:rows.getD n []=rows[n]:=by simp [hnl]
   rw [egd] at hn2
   have hD2:H2 D'=some (.lst ((nA rows y).map fun j=>V.int (j:Nat))):=hD2
   rw [en] at hD2
   refine⟨D',_,_,.int n,rfl,rfl,SqL.of hD2,aG (j:=0) rfl,?_⟩
   have eun:us[n]?=some us[n]:=ae (by omega)
   obtain ⟨hnr,ha⟩:=(hrows.mono sm).get eun
   cases hrn:rows[n] with
   | nil=>rw [hrn] at hn2; cases hn2
   | cons x r=>
    rw [hrn] at ha hn2
    have min:∀ m o,m < n→rows[m]?=some o→¬ y∈o.drop 1:=fun m o hm em hy=>by
     have hml:=(bj.mp em).1
     have hmem:m∈nA rows y:=bE.mpr ⟨gy.mpr hml,ay (by rw [kH,em]; exact hy)⟩
     have srt:(nA rows y).Pairwise (· < ·):=List.Pairwise.sublist (iO) List.pairwise_lt_range
     rw [en] at srt hmem
     rcases bu.mp hmem with h | h
     ·omega
     ·have:=(List.pairwise_cons.mp srt).1 m h
      omega
    have last:∀(q:Addr),H2 q=none→Q (.ref q) (upd H2 q (.tup [.str x,.str y,.int n])):=fun q hq=>k q x n r _ (by rw [ae hnl,hrn]) hn2 min ak (sm.trans (Same.new hq))
    refine⟨_,rfl,_,rfl,?_⟩
    obtain ⟨p',e',h'⟩:=hl.same sm
    cases e'
    rcases h' with h' | h'
    ·exact .inr ⟨l,us,_,_,rfl,rfl,SqL.of h',aG eun,ha.at0 ⟨_,rfl,_,rfl,by show 3≤sizeLine; decide,last⟩⟩
    ·exact .inl ⟨l,us,_,_,rfl,rfl,SqT.of h',aG eun,ha.at0 ⟨_,rfl,_,rfl,by show 3≤sizeLine; decide,last⟩⟩
  ·rintro D' i x ys H2 p hD hi ex ⟨rfl,hD2,sm⟩ hp σo ho
   obtain ⟨oo,oo',rfl⟩:=Ku ho
   have s3:Same H2 (upd H2 p (.tup [.int i,x])):=Same.new hp
   obtain ⟨hir,ha⟩:=(hrows.mono (sm.trans s3)).get ex
   have egd:rows.getD i []=rows[i]:=by simp [hir]
   have ers:(List.range (i+1)).filter (fun j=>decide (y∈(rows.getD j []).drop 1))=(List.range i).filter (fun j=>decide (y∈(rows.getD j []).drop 1))++(if decide (y∈(rows[i]).drop 1)=true then [i] else []):=by
    rw [List.range_succ,eS,dk,egd]
    rfl
   have hyl:(((List.range i).filter fun j=>decide (y∈(rows.getD j []).drop 1)).map (fun j=>V.int (j:Nat))).length≤1000:=by
    rw [aa]
    refine dC (de _ _) ?_
    rw [my]
    omega
   refine⟨p,_,rfl,SqT.of ak,rfl,_,_,rfl,_,_,rfl,rfl,⟨[_,_],rfl,rfl⟩,_,rfl,_,rfl,_,rfl,ha.cut fun q H4 hq s4=>?_⟩
   have hq':SqL K H4 q (((rows[i]).drop 1).map V.str)∨SqT K H4 q (((rows[i]).drop 1).map V.str):=by
    obtain ⟨q',e,h⟩:=hq
    cases e
    exact h.elim (fun z=>.inl (SqL.of z)) fun z=>.inr (SqT.of z)
   refine⟨q,_,rfl,hq',rfl,cH _,_,rfl,eX (fun hb=>?_) (fun hb=>?_)⟩
   ·have hb:inV (.str y) (((rows[i]).drop 1).map V.str)=true:=hb
    rw [cB] at hb
    refine⟨_,rfl,by omega,s4 D' _ (s3 D' _ hD2),aR hi ⟨?_,ak,fun b u e=>?_⟩⟩
    ·rw [ers,ck hb,aw]
     rfl
    ·rw [au (aB e hD)]
     exact s4 b _ (s3 b _ (sm b _ e))
   ·have hb:¬ inV (.str y) (((rows[i]).drop 1).map V.str)=true:=hb
    rw [cB] at hb
    refine aR hi ⟨?_,s4 D' _ (s3 D' _ hD2),(sm.trans s3).trans s4⟩
    rw [ers,bX hb,eB]
def nq(ns:List Str)(ad:Str→Addr):List (Key × V):=ns.map fun x=>(.inr x,.ref (ad x))
theorem yV{ns:List Str}{ad:Str→Addr}{x:Str}(h:x∈ns):bZ (nq ns ad) (.inr x)=some (.ref (ad x)):=by
 induction ns with
 | nil=>cases h
 | cons y ns ih=>
  by_cases e:y=x
  ·subst e
   exact fB (p:=((.inr y:Key),V.ref (ad y))) rfl
  ·show bZ ((.inr y,V.ref (ad y))::nq ns ad) (.inr x)=_
   rw [fU (p:=((.inr y:Key),V.ref (ad y))) (by intro z; injection z with z; exact e z)]
   rcases bu.mp h with z | z
   ·exact absurd z.symm e
   ·exact ih z
def BX{α:Type}(g:Str→α)(x:Str)(v:α):Str→α:=fun y=>if y=x then v else g y
theorem lN{α:Type}{g:Str→α}{x:Str}{v:α}:BX g x v x=v:=ck rfl
theorem rR{α:Type}{g:Str→α}{x y:Str}{v:α}(h:y≠x):BX g x v y=g y:=bX h
theorem Gk{ns:List Str}{ad:Str→Addr}{x:Str}{l:Addr}(h:¬ x∈ns):putK (nq ns ad) (.inr x) (.ref l)=nq (ns++[x]) (BX ad x l):=by
 have hn:bZ (nq ns ad) (.inr x)=none:=by
  cases q:bZ (nq ns ad) (.inr x) with
  | none=>rfl
  | some y=>
   exfalso
   have h1:(bZ (nq ns ad) (.inr x)).isSome=true:=by rw [q]; rfl
   rw [jB] at h1
   unfold nq at h1
   rw [fb,bg] at h1
   obtain ⟨z,hz,e⟩:=h1
   have e:(Sum.inr z:Key)=Sum.inr x:=e
   injection e with e
   exact h (e ▸ hz)
 rw [uw _ hn]
 unfold nq
 rw [aw]
 congr 1
 ·apply eM
  intro y hy
  have ne:y≠x:=fun e=>by rw [e] at hy; exact h hy
  rw [rR ne]
 ·show _=[(Sum.inr x,V.ref (BX ad x l x))]
  rw [lN]
theorem zu(ns:List Str)(ad:Str→Addr)(x:Str):(bZ (nq ns ad) (.inr x)).isSome=true↔x∈ns:=by
 rw [jB]
 unfold nq
 rw [fb,bg]
 constructor
 ·rintro ⟨y,hy,e⟩
  have e:(Sum.inr y:Key)=Sum.inr x:=e
  injection e with e
  exact e ▸ hy
 ·exact fun h=>⟨x,h,rfl⟩
def eU(rows:List (List Str)):List Str:=rows.filterMap List.head?
theorem uc{rows:List (List Str)}{x:Str}{r:List Str}(h:(x::r)∈rows):x∈eU rows:=kc.mpr ⟨_,h,rfl⟩
theorem Ey{rows:List (List Str)}{x:Str}(h:x∈eU rows):∃ r,(x::r)∈rows:=by
 obtain ⟨o,ho,e⟩:=kc.mp h
 cases o with
 | nil=>cases e
 | cons y r=>
  cases e
  exact⟨r,ho⟩
theorem Aa{rows:List (List Str)}(h:frees rows=[]){x:Str}(hx:x∈eU rows):cC rows x=true:=by
 obtain ⟨r,hr⟩:=Ey hx
 cases q:cC rows x with
 | true=>rfl
 | false=>
  have:x∈frees rows:=List.mem_flatMap.mpr ⟨_,hr,by show x∈(if cC rows x=true then [] else [x]); rw [q,bX aE]; exact aT⟩
  rw [h] at this
  cases this
structure Chain (H:Hp) (rows:List (List Str)) (c:List Str) (nx:Str→Str) (ad:Str→Addr) (name:Str):Prop where
 nd:c.Nodup
 fr:∀ z∈c,z∈eU rows
 nf:name∈eU rows
 st:∀(i:Nat) z,c[i]?=some z→c[i+1]?=some (nx z)∨(i+1=c.length∧nx z=name)
 at':∀ z∈c,∃ n:Nat,H (ad z)=some (.tup [.str (nx z),.str z,.int n])
def JD:Sp:=fun vs H Q _=>∃(l:Addr) (us:List V) (rows:List (List Str)),vs=[.ref l]∧iy H (.ref l) us∧m6 H us rows∧rows.length≤1000∧frees rows=[]∧eU rows≠[]∧
 ∀(q:Addr) (ts:List V) H',H' q=some (.tup ts)→Same H H'→Q (.ref q) H'
theorem K9(D:Defs K mg t):aW P w K mg base CX0 2 t.gG.1 t.gG.2 ["left"] JD:=by
 have G_hold_of:aW P w K mg base CX0 1 t.jN.1 t.jN.2 _ Jz:=J7 D
 have hz:sizeLine=16777216:=cK
 refine D.gG.fn.ok iY (fun vs H Q E h=>?_) (fun cdv A outer s H vs Q E hr h=>?_)
 ·obtain ⟨l,us,rows,rfl,_⟩:=h
  rfl
 ·obtain ⟨l,us,rows,rfl,hl,hrows,hlen,hfree,hfr,k⟩:=h
  have hul:us.length=rows.length:=cS hrows
  refine⟨_,(aD (aP (i:=1) iY.nd rfl (Or.inl rfl) (aM cu (bL rfl (aL.of ["row"] [] ["row"] (aq (top 24)) ["left","name","holds","ring"] rfl rfl (by decide +kernel)) ⟨fun _ _ _ _ _=>(aN (i:=0) (show List.Nodup [("row" : Str)] by decide +kernel) rfl (Or.inl (af rfl)) (.inr (af rfl))),fun _ _ _ _ _=>(dM (Cu (K:=K) rfl (pv 0) (by intro _; rfl))),fun _ _ _ _ _=>(aM (qy (K:=K) rfl) (pv 0) aC (fun _ _=>rfl))⟩ (qU (K:=K) (pv 0) rfl)) aC (fun _ _=>rfl)))
   (aD (aP (i:=2) iY.nd rfl (Or.inl rfl) j9)
   (aD (mq dS (qZ (mC (cY hr) (pv 1) (pv 2)))
   (aD (jR (cY hr) (pv 2) (pv 1) (aH D.jN G_hold_of (hr.mono (by omega)) (by rfl) (aj (pv 1) (aj (pv 0) aA))) rfl)
   (aF (aP (i:=1) iY.nd rfl (Or.inl rfl) (aM aX (dF (cY hr) (pv 2) (pv 1) (fun _ _=>rfl)) aC (fun _ _=>rfl))))))
   (aD (aP (i:=3) iY.nd rfl (Or.inl rfl) (dU (aj (dF (cY hr) (pv 2) (pv 1) (fun _ _=>rfl)) aA)))
   (aD (mq dS (aV zL (aM aX (aM cu (pv 3) (DQ xu aC) (fun _ _=>rfl)) aC (fun _ _=>rfl)) (pv 1) (bx _))
   (aF (jd (qx fh fT gh iK (pv 3) (aj (dF (cY hr) (pv 2) (aM aX (aM cu (pv 3) (DQ xu aC) (fun _ _=>rfl)) aC (fun _ _=>rfl)) (fun _ _=>rfl)) aA)))))
   (aF (aQ (bG bD (by rfl) D.cV bY (aj (Hx (pv 3) (DQ xu aC)) aA))))))))),?_⟩
  refine⟨_,rfl,l,rfl,sO (K:=K) hl (fun D i ys H2=>ys=(eU (rows.take i)).map V.str∧H2=upd H D (.lst ys))
   (fun D hD=>⟨rfl,rfl⟩) (fun D i ys H2 hD ⟨_,e2⟩ o e=>by rw [e2,au (aB e hD)]; exact e) ?_ ?_⟩
  ·rintro D1 ys H2 hD1 ⟨rfl,rfl⟩
   rw [av (by omega)]
   obtain ⟨x0,more,ef⟩:=kG hfr
   refine⟨D1,_,_,.str x0,rfl,rfl,SqL.of ak,by rw [ef]; exact L2.at0 x0 more,?_⟩
   intro hd hhd
   have s1:∀ o,Same H (upd H D1 o):=fun o=>Same.new hD1
   have s2:=(s1 (.lst ((eU rows).map V.str))).trans (Same.new (o:=.dK []) hhd)
   have hhdH:H hd=none:=by
    cases q:H hd with
    | none=>rfl
    | some o=>
     rw [s1 _ hd o q] at hhd
     cases hhd
   have hh3:(upd (upd H D1 (.lst ((eU rows).map V.str))) hd (.dK [])) hd=some (.dK []):=ak
   generalize upd (upd H D1 (.lst ((eU rows).map V.str))) hd (.dK [])=H3 at s2 hh3
   have hx0:x0∈eU rows:=by rw [ef]; exact aT
   have fl1:(eU rows).length≤1000:=dC (List.length_filterMap_le _ _) hlen
   refine⟨fun m σ H4=>∃(c:List Str) (nx:Str→Str) (ad:Str→Addr) (name:Str) (v3:Option V),σ=[some (.ref l),some (.str name),some (.ref hd),v3]∧Chain H4 rows c nx ad name∧H4 hd=some (.dK (nq c ad))∧m+c.length=(eU rows).length∧Same H H4,?_,?_⟩
   ·refine⟨(eU rows).length,[],fun z=>z,fun _=>0,x0,_,rfl,⟨iL,by simp,hx0,by intro i z h; simp at h,by simp⟩,hh3,rfl,s2⟩
   ·rintro m σ H4 ⟨c,nx,ad,name,v3,rfl,ch,hh4,hm,sm4⟩
    refine⟨_,rfl,_,rfl,hd,_,rfl,kO.k (k:=.inr name) hh4,_,rfl,?_⟩
    cases hin:(bZ (nq c ad) (.inr name)).isSome with
    | false=>
     have hnc:¬ name∈c:=fun h=>by rw [(zu c ad name).mpr h] at hin; cases hin
     have hcl:c.length < (eU rows).length:=by
      have:=cL (oA ch.nd hnc) (m:=eU rows) fun z hz'=>by
       rcases bS.mp hz' with h | h
       ·exact ch.fr z h
       ·rw [aS.mp h]
        exact ch.nf
      rw [bz,dm] at this
      omega
     refine dZ ⟨fun σ' H'=>∃ m',m' < m∧∃(c:List Str) (nx:Str→Str) (ad:Str→Addr) (name:Str) (v3:Option V),σ'=[some (.ref l),some (.str name),some (.ref hd),v3]∧Chain H' rows c nx ad name∧H' hd=some (.dK (nq c ad))∧m'+c.length=(eU rows).length∧Same H H',fun σ' H' h=>h,?_⟩
     refine⟨_,rfl,_,rfl,name,l,us,rows,rfl,hl.same sm4,hrows.mono sm4,hlen,Aa hfree ch.nf,fun q x n r H5 er hy _ hq s5=>?_⟩
     have hh5:=s5 hd _ hh4
     refine⟨_,rfl,_,rfl,hd,_,rfl,rC.k (k:=.inr name) hh5 (by unfold nq; rw [aa]; omega),?_⟩
     rw [Gk hnc]
     have qh:q≠hd:=eG hq hh5 (fun z=>nomatch z)
     have kp6:∀ b u,b≠hd→H5 b=some u→(upd H5 hd (.dK (nq (c++[name]) (BX ad name q)))) b=some u:=fun b u hb e=>by rw [au hb]; exact e
     have hmem:name∈c++[name]:=cE _ aT
     refine⟨_,rfl,_,rfl,hd,.ref q,rfl,.inl ⟨_,.inr name,.inl ak,rfl,by rw [yV hmem,lN]⟩,q,_,_,_,rfl,rfl,SqT.of (kp6 q _ qh hq),rfl,?_⟩
     refine⟨m - 1,by omega,c++[name],BX nx name x,BX ad name q,x,_,rfl,⟨oA ch.nd hnc,?_,uc (eJ er),?_,?_⟩,ak,by rw [bz,dm]; omega,fun b u e=>kp6 b u (aB e hhdH) (s5 b u (sm4 b u e))⟩
     ·intro z hz'
      rcases bS.mp hz' with h | h
      ·exact ch.fr z h
      ·rw [aS.mp h]
       exact ch.nf
     ·intro i z ez
      by_cases hic:i < c.length
      ·rw [g6 hic] at ez
       have zn:z≠name:=fun e=>hnc (e ▸ eJ ez)
       rw [rR zn]
       left
       rcases ch.st i z ez with h | ⟨h1,h2⟩
       ·have:=(bj.mp h).1
        rw [g6 this]
        exact h
       ·rw [h2,h1,fz (am _),Nat.sub_self]
        rfl
      ·have hi2:=(bj.mp ez).1
       rw [bz,dm] at hi2
       have ei:i=c.length:=by omega
       subst ei
       rw [fz (am _),Nat.sub_self] at ez
       have ez:z=name:=by simpa using ez.symm
       subst ez
       right
       exact⟨by rw [bz]; rfl,lN⟩
     ·intro z hz'
      by_cases zn:z=name
      ·subst zn
       exact⟨n,by rw [lN,lN]; exact kp6 q _ qh hq⟩
      ·rw [rR zn,rR zn]
       rcases bS.mp hz' with h | h
       ·obtain ⟨n',hn'⟩:=ch.at' z h
        have h5:=s5 _ _ hn'
        exact⟨n',kp6 _ _ (eG h5 hh5 (fun z=>nomatch z)) h5⟩
       ·exact absurd (aS.mp h) zn
    | true=>
     have hnc:name∈c:=(zu c ad name).mp hin
     refine fY ?_
     have getd:∀ {H5:Hp} {z:Str},z∈c→H5 hd=some (.dK (nq c ad))→kO H5 hd (.str z) (some (.ref (ad z))):=fun {H5 z} hz' h=>.inl ⟨_,.inr z,.inl h,rfl,(yV hz').symm⟩
     refine⟨_,rfl,_,rfl,hd,.ref (ad name),rfl,getd hnc hh4,by show 1≤sizeLine; decide,fun rg hrg=>?_⟩
     have s5:∀ o,Same H4 (upd H4 rg o):=fun o=>Same.new hrg
     obtain ⟨j0,hj0,ej0⟩:=fc hnc
     have cl1:c.length≤1000:=by omega
     refine⟨fun m σ H5=>∃(zs:List Str) (i:Nat) (z:Str),σ=[some (.ref l),some (.str name),some (.ref hd),some (.ref rg)]∧H5 rg=some (.lst ((zs++[z]).map fun z=>V.ref (ad z)))∧zs.length≤i∧c[i]?=some z∧m+i=c.length∧(∀ b u,b≠rg→H4 b=some u→H5 b=some u),?_,?_⟩
     ·exact⟨c.length - j0,[],j0,name,rfl,ak,dq _,by rw [ae hj0,ej0],by omega,fun b u hb e=>by rw [au hb]; exact e⟩
     ·rintro m2 σ H5 ⟨zs,i,z,rfl,hrg5,hzi,ez,hm2,kp5⟩
      have hzc:z∈c:=eJ ez
      have hil:=(bj.mp ez).1
      obtain ⟨n,hn⟩:=ch.at' z hzc
      have az:ad z≠rg:=aB hn hrg
      have hn5:=kp5 _ _ az hn
      have hhr:hd≠rg:=aB hh4 hrg
      have hh5:=kp5 hd _ hhr hh4
      have elast:atI ((zs++[z]).map fun z=>V.ref (ad z)) (-1)=some (.ref (ad z)):=by
       rw [aw]
       exact Ih _ _
      refine⟨_,rfl,_,rfl,rg,_,_,_,rfl,rfl,SqL.of hrg5,elast,ad z,_,_,_,rfl,rfl,SqT.of hn5,rfl,_,rfl,rfl,_,rfl,eX (fun hb=>?_) (fun hb=>?_)⟩
      ·have hne:nx z≠name:=fun e=>by
        rw [e] at hb
        simp at hb
       have ez2:c[i+1]?=some (nx z):=by
        rcases ch.st i z ez with h | ⟨_,h⟩
        ·exact h
        ·exact absurd h hne
       have hi1:=(bj.mp ez2).1
       refine⟨fun σ' H'=>∃ m',m' < m2∧∃(zs:List Str) (i:Nat) (z:Str),σ'=[some (.ref l),some (.str name),some (.ref hd),some (.ref rg)]∧H' rg=some (.lst ((zs++[z]).map fun z=>V.ref (ad z)))∧zs.length≤i∧c[i]?=some z∧m'+i=c.length∧(∀ b u,b≠rg→H4 b=some u→H' b=some u),fun σ' H' h=>h,?_⟩
       refine⟨_,rfl,.inl ⟨rfl,_,SqL.of hrg5⟩,_,rfl,_,rfl,_,rfl,rg,_,_,_,rfl,rfl,SqL.of hrg5,elast,ad z,_,_,_,rfl,rfl,SqT.of hn5,rfl,hd,.ref (ad (nx z)),rfl,getd (eJ ez2) hh5,rg,_,.ref (ad (nx z)),rfl,rfl,hrg5,by rw [aa,bz,dm]; omega,?_⟩
       refine⟨m2 - 1,by omega,zs++[z],i+1,nx z,rfl,?_,by rw [bz,dm]; omega,ez2,by omega,fun b u hb' e=>by rw [au hb']; exact kp5 b u hb' e⟩
       rw [ak,aw (l₁:=zs++[z])]
       rfl
      ·refine⟨_,rfl,_,rfl,rg,_,_,rfl,rfl,SqL.of hrg5,.inr ⟨rfl,fun q6 hq6=>⟨q6,_,rfl,.inl ⟨SqL.of ak,fun q8 hq8=>?_⟩⟩⟩⟩
       refine k q8 _ _ ak fun b u e=>?_
       have e4:=sm4 b u e
       have e5:=kp5 b u (aB e4 hrg) e4
       have e6:(upd H5 q6 (.lst ((zs++[z]).map fun z=>V.ref (ad z)).reverse)) b=some u:=by rw [au (aB e5 hq6)]; exact e5
       rw [au (aB e6 hq8)]
       exact e6
  ·rintro D1 i x ys H2 hD hi ex ⟨rfl,rfl⟩ σo ho
   obtain ⟨oo,rfl⟩:=own1 ho
   have s1:∀ o,Same H (upd H D1 o):=fun o=>Same.new hD
   obtain ⟨hir,ha⟩:=(hrows.mono (s1 _)).get ex
   have hyl:((eU (rows.take i)).map V.str).length≤1000:=by
    rw [aa]
    refine dC (List.length_filterMap_le _ _) ?_
    rw [br]
    omega
   refine⟨⟨[_],rfl,rfl⟩,_,rfl,_,ha.tru,?_⟩
   have efr:eU (rows.take (i+1))=eU (rows.take i)++(rows[i]).head?.toList:=by
    unfold eU
    rw [take_snoc hir,List.filterMap_append]
    congr 1
   cases hre:rows[i] with
   | nil=>
    refine fY (aR hi ⟨?_,rfl⟩)
    rw [efr,hre]
    simp
   | cons y r=>
    rw [hre] at ha
    refine dZ ⟨_,rfl,ha.at0 ⟨by omega,ak,aR hi ⟨?_,by rw [bO]⟩⟩⟩
    rw [efr,hre,aw]
    rfl
theorem Ek(rows:List (List Str))(x:Str):cC (full rows) x=cC rows x:=by
 unfold cC full
 apply fm.mpr
 rw [gL,gL]
 constructor
 ·rintro ⟨o,h1,h2⟩
  exact⟨o,(bE.mp h1).1,h2⟩
 ·rintro ⟨o,h1,h2⟩
  refine⟨o,bE.mpr ⟨h1,?_⟩,h2⟩
  cases o with
  | nil=>have:=cy h2; cases this
  | cons _ _=>rfl
theorem vp(rows:List (List Str)):frees (full rows)=frees rows:=by
 have key:∀(R S:List (List Str)),(∀ x,cC S x=cC R x)→∀ rs:List (List Str),(full rs).flatMap (freeOf S)=rs.flatMap (freeOf R):=by
  intro R S h rs
  induction rs with
  | nil=>rfl
  | cons r rs ih=>
   unfold full at ih ⊢
   rw [dk,mw]
   cases r with
   | nil=>
    simp only [List.isEmpty_nil,Bool.not_true,gv,jp]
    rw [ih]
    rfl
   | cons y r=>
    simp only [mv,ow,iF]
    rw [mw,ih]
    congr 1
    show (if cC S y=true then [] else [y])=(if cC R y=true then [] else [y])
    rw [h y]
 exact key rows (full rows) (Ek rows) rows
theorem oV(x:Str):∀ rows:List (List Str),full ((full rows).map (bT x))=full (rows.map (bT x))
 | []=>rfl
 | r::rows=>by
  have ih:=oV x rows
  unfold full at ih ⊢
  rw [dk,eL,dk]
  cases r with
  | nil=>
   simp only [List.isEmpty_nil,Bool.not_true,gv,jp]
   rw [ih]
   rfl
  | cons y r=>
   simp only [mv,ow,iF,eL]
   rw [dk,ih]
def GC(H:Hp)(x:Str)(r:Option (List Str))(q:Addr):Prop:=match r with
 | some os=>∃ qo,H q=some (.tup [.str "order",.ref qo])∧H qo=some (.tup ((x::os).map V.str))
 | none=>∃ a rg,H q=some (.tup [.str "quarrel",.str a,.ref rg])
def Dv:Sp:=fun vs H Q _=>∃(x:Str) (l:Addr) (us:List V) (rows:List (List Str)),vs=[.str x,.ref l]∧H l=some (.tup us)∧jK H us rows∧((∀ r∈rows,r≠[])∨∀ r∈rows,r=[])∧tot rows≤1000∧rows.length≤1000∧
 ∀(q:Addr) (r:Option (List Str)) H',Mg (full rows) r→GC H' x r q→Same H H'→Q (.ref q) H'
theorem G8(D:Defs K mg t):aW P w K mg base CX0 3 t.gC.1 t.gC.2 ["kind","rows"] Dv:=by
 have G_first_free:aW P w K mg base CX0 1 t.gH.1 t.gH.2 _ Df:=Hi D
 have G_ring_among:aW P w K mg base CX0 2 t.gG.1 t.gG.2 _ JD:=K9 D
 have hz:sizeLine=16777216:=cK
 refine D.gC.fn.ok iT (fun vs H Q E h=>?_) (fun cdv A outer s H vs Q E hr h=>?_)
 ·obtain ⟨x,l,us,rows,rfl,_⟩:=h
  rfl
 ·obtain ⟨x,l,us,rows,rfl,hl,hrt,hcase,htot,hlen,k⟩:=h
  refine⟨_,(aD (aP (i:=2) iT.nd rfl (Or.inl rfl) (dU (aj (pv 0) aA)))
   (aD (aP (i:=3) iT.nd rfl (Or.inl rfl) (pv 1))
   (aD (mq dS (d9 (aO (Fy rfl) (by rfl) D.Ai sW (aj (pv 3) aA)))
   (aD (aP (i:=4) iT.nd rfl (Or.inr rfl) (aH D.gH G_first_free (hr.mono (by omega)) (by rfl) (aj (pv 3) aA)))
   (aD (bQ (aV lF (pv 4) eV (bx _))
   (aF (aQ (dg (aj cF (aj (pv 0) (aj (aH D.gG G_ring_among (hr.mono (by omega)) (by rfl) (aj (pv 3) aA)) aA))))))
   aY)
   (aD (jd (qx fh fT gh iK (pv 2) (aj (pv 4) aA)))
   (aF (jP (i:=3) rfl iT.nd rfl (Or.inl rfl) (aL.of ["row"] [4] ["row","first"] (aq (top 22)) ["kind","rows","order","left","first"] rfl rfl (by decide +kernel)) ⟨fun _ _ _ _ _=>(aN (i:=0) (show List.Nodup [("row" : Str),("first" : Str)] by decide +kernel) rfl (Or.inl (af rfl)) (.inr (af rfl))),fun _ _ _ _ _=>cg,fun _ _ _ _ _=>(bL rfl (aL.of2 ["name"] [1] ["name","first"] ["row","first"] rfl rfl (by decide +kernel)) ⟨fun _ _ _ _ _=>(aN (i:=0) (show List.Nodup [("name" : Str),("first" : Str)] by decide +kernel) rfl (Or.inl (af rfl)) (.inr (af rfl))),fun _ _ _ _ _=>(dM (aV zL (pv 0) (pv 1) (bx _))),fun _ _ _ _ _=>(pv 0)⟩ (qU (K:=K) (pv 0) rfl))⟩ (qU (K:=K) (pv 3) rfl)))))))
   (aF (aQ (dg (aj cF (aj (bG bD (by rfl) D.cV bY (aj (pv 2) aA)) aA)))))))),?_⟩
  refine⟨_,rfl,by show 1≤sizeLine; decide,fun ol hol=>?_⟩
  have s0:Same H (upd H ol (.lst [.str x])):=Same.new hol
  have hol0:(upd H ol (.lst [.str x])) ol=some (.lst [.str x]):=ak
  generalize upd H ol (.lst [.str x])=H1 at s0 hol0
  refine⟨_,rfl,?_⟩
  refine⟨fun m σ H2=>∃(us2:List V) (rows2:List (List Str)) (os:List Str) (l2:Addr) (v4:Option V),σ=[some (.str x),some (.ref l),some (.ref ol),some (.ref l2),v4]∧iy H2 (.ref l2) us2∧l2≠ol∧Paired (fun(v:V) (r:List Str)=>∃ a,v=.ref a∧a≠ol∧(H2 a=some (.lst (r.map V.str))∨H2 a=some (.tup (r.map V.str)))) us2 rows2∧(m6 H2 us2 rows2∨∀ r∈rows2,r=[])∧
   H2 ol=some (.lst ((x::os).map V.str))∧m=tot rows2∧os.length+tot rows2≤1000∧rows2.length=rows.length∧(∀ r,Mg (full rows2) r→Mg (full rows) (r.map (os++·)))∧Same H H2,?_,?_⟩
  ·refine⟨_,us,rows,[],l,_,rfl,⟨l,rfl,.inr (s0 l _ hl)⟩,aB hl hol,Paired.oN hrt fun v r ⟨a,e,h⟩=>⟨a,e,aB h hol,.inr (s0 a _ h)⟩,?_,hol0,rfl,by show 0+_≤_; omega,rfl,fun r h=>?_,s0⟩
   ·rcases hcase with h | h
    ·left
     have key:∀ {us:List V} {rows:List (List Str)},jK H us rows→(∀ r∈rows,r≠[])→m6 H1 us rows:=by
      intro us rows hh
      induction hh with
      | nil=>exact fun _=>.nil
      | cons q _ ih=>
       intro h
       obtain ⟨a,e,h'⟩:=q
       exact .cons ⟨a,e,.inr ⟨s0 a _ h',h _ aT⟩⟩ (ih fun r hr=>h r (cz _ hr))
     exact key hrt h
    ·exact .inr h
   ·have:r.map (([]:List Str)++·)=r:=by cases r <;> rfl
    rw [this]
    exact h
  ·rintro m σ H2 ⟨us2,rows2,os,l2,v4,rfl,hl2,l2o,pr,hc2,hol2,rfl,hb2,hrl,mg2,sm2⟩
   have hul:us2.length=rows2.length:=cS pr
   obtain ⟨l2',el2,hl2'⟩:=id hl2
   cases el2
   refine⟨_,rfl,l2,us2,rows2.map (fun r=>!r.isEmpty),rfl,hl2',by rw [aa,hul],fun i hi hj=>?_,_,rfl,?_⟩
   ·have hir:i < rows2.length:=by omega
    obtain ⟨a,e,_,h⟩:=fV pr i hi hir
    refine⟨(rows2[i]).map V.str,⟨a,e,h⟩,?_⟩
    rw [gp]
    cases rows2[i] <;> rfl
   have eany:(rows2.map fun r=>!r.isEmpty).any id=!(full rows2).isEmpty:=by
    rw [List.any_map]
    apply fm.mpr
    rw [gL]
    constructor
    ·rintro ⟨r,h1,h2⟩
     have:r∈full rows2:=bE.mpr ⟨h1,h2⟩
     cases hf:full rows2 with
     | nil=>rw [hf] at this; cases this
     | cons _ _=>rfl
    ·intro h
     cases hf:full rows2 with
     | nil=>rw [hf] at h; cases h
     | cons r _=>
      have:r∈full rows2:=by rw [hf]; exact aT
      obtain ⟨h1,h2⟩:=bE.mp this
      exact⟨r,h1,h2⟩
   rw [eany]
   cases hf:full rows2 with
   | nil=>
    refine fY ⟨_,rfl,ol,_,rfl,.inl ⟨SqL.of hol2,fun qo hqo=>⟨by show 2≤sizeLine; decide,fun q hq=>?_⟩⟩⟩
    have h1:=mg2 (some []) (by rw [hf]; exact .nil)
    have s3:=(Same.new (o:=.tup ((x::os).map V.str)) hqo).trans (Same.new (o:=.tup [.str "order",.ref qo]) hq)
    refine k q (some os) _ (by simpa using h1) ⟨qo,ak,?_⟩ (sm2.trans s3)
    rw [au (aB ak hq),ak]
   | cons r0 rr=>
    have hfne:full rows2≠[]:=by rw [hf]; exact jS _ _
    have hrn:m6 H2 us2 rows2:=by
     rcases hc2 with h | h
     ·exact h
     ·exfalso
      have:r0∈full rows2:=by rw [hf]; exact aT
      obtain ⟨h1,h2⟩:=bE.mp this
      rw [h r0 h1] at h2
      cases h2
    refine dZ ⟨fun σ' H'=>∃ m',m' < tot rows2∧∃(us2:List V) (rows2:List (List Str)) (os:List Str) (l2:Addr) (v4:Option V),σ'=[some (.str x),some (.ref l),some (.ref ol),some (.ref l2),v4]∧iy H' (.ref l2) us2∧l2≠ol∧Paired (fun(v:V) (r:List Str)=>∃ a,v=.ref a∧a≠ol∧(H' a=some (.lst (r.map V.str))∨H' a=some (.tup (r.map V.str)))) us2 rows2∧(m6 H' us2 rows2∨∀ r∈rows2,r=[])∧
     H' ol=some (.lst ((x::os).map V.str))∧m'=tot rows2∧os.length+tot rows2≤1000∧rows2.length=rows.length∧(∀ r,Mg (full rows2) r→Mg (full rows) (r.map (os++·)))∧Same H H',fun σ' H' h=>h,?_⟩
    refine⟨_,rfl,l2,us2,rows2,rfl,hl2,hrn,by omega,by omega,fun H3 s3=>?_⟩
    cases hfr:frees rows2 with
    | nil=>
     refine⟨_,rfl,rfl,_,rfl,dZ ?_⟩
     have hfronts:eU rows2≠[]:=by
      have:r0∈full rows2:=by rw [hf]; exact aT
      obtain ⟨h1,h2⟩:=bE.mp this
      cases r0 with
      | nil=>cases h2
      | cons y r=>exact List.ne_nil_of_mem (uc h1)
     refine⟨_,rfl,_,rfl,l2,us2,rows2,rfl,hl2.same s3,hrn.mono s3,by omega,hfr,hfronts,fun rg ts H4 hrg s4=>⟨by show 3≤sizeLine; decide,fun q hq=>?_⟩⟩
     refine k q none _ (mg2 none (.stuck hfne (by rw [vp]; exact hfr))) ⟨x,rg,ak⟩ (((sm2.trans s3).trans s4).trans (Same.new hq))
    | cons x1 more=>
     refine⟨_,rfl,rfl,_,rfl,fY ?_⟩
     have hx1:x1∈frees rows2:=by rw [hfr]; exact aT
     obtain ⟨r1,hr1,hh1⟩:=n6 hx1
     have hx1r:x1∈r1:=by
      cases r1 with
      | nil=>cases hh1
      | cons y r'=>
       cases hh1
       exact aT
     have hlt:=pL (x:=x1) ⟨r1,hr1,hx1r⟩
     have hol3:=s3 ol _ hol2
     refine⟨_,rfl,.inl ⟨rfl,_,SqL.of hol3⟩,_,rfl,ol,_,.str x1,rfl,rfl,hol3,by rw [aa,dQ]; omega,?_⟩
     have eol:(x::os).map V.str++[V.str x1]=(x::(os++[x1])).map V.str:=by rw [eL,eL,aw]; rfl
     rw [eol]
     have kp4:∀ b u,b≠ol→H3 b=some u→(upd H3 ol (.lst ((x::(os++[x1])).map V.str))) b=some u:=fun b u hb e=>by rw [au hb]; exact e
     have hol4:(upd H3 ol (.lst ((x::(os++[x1])).map V.str))) ol=some (.lst ((x::(os++[x1])).map V.str)):=ak
     generalize upd H3 ol (.lst ((x::(os++[x1])).map V.str))=H4 at kp4 hol4
     have sm4:Same H H4:=fun b u e=>kp4 b u (aB e hol) (s3 b u (sm2 b u e))
     have hl4:iy H4 (.ref l2) us2:=⟨l2,rfl,hl2'.elim (fun z=>.inl (kp4 l2 _ l2o (s3 l2 _ z))) fun z=>.inr (kp4 l2 _ l2o (s3 l2 _ z))⟩
     have row4:∀(i:Nat) (v:V),us2[i]?=some v→∃(hir:i < rows2.length) (a:Addr),v=.ref a∧iy H4 (.ref a) ((rows2[i]).map V.str):=fun i v e=>by
      have hi:=(bj.mp e).1
      have hir:i < rows2.length:=by omega
      obtain ⟨a,ea,ao,h⟩:=fV pr i hi hir
      rw [ae hi] at e
      cases e
      exact⟨hir,a,ea,a,rfl,h.elim (fun z=>.inl (kp4 a _ ao (s3 a _ z))) fun z=>.inr (kp4 a _ ao (s3 a _ z))⟩
     refine⟨_,rfl,l2,rfl,sO (K:=K) hl4 (fun D i ys H5=>H5 D=some (.lst ys)∧m5 H5 D ol ys ((rows2.take i).map (bT x1))∧Same H4 H5)
      (fun D hD=>⟨ak,.nil,Same.new hD⟩) (fun D i ys H5 hD ⟨_,_,sm⟩ o e=>sm l2 o e) ?_ ?_⟩
     ·rintro D1 ys H5 hD1 ⟨hD5,ry5,sm5⟩
      rw [av (by omega)] at ry5
      have D1o:D1≠ol:=fun e=>by rw [e,hol4] at hD1; cases hD1
      refine⟨tot (rows2.map (bT x1)),hlt,ys,rows2.map (bT x1),os++[x1],D1,_,rfl,⟨D1,rfl,.inl hD5⟩,D1o,Paired.oN ry5 fun v r ⟨a,e,_,n,q⟩=>⟨a,e,n,.inl q⟩,.inl (Paired.oN ry5 fun v r ⟨a,e,_,n,q⟩=>⟨a,e,.inl q⟩),sm5 ol _ hol4,rfl,?_,by rw [aa]; exact hrl,fun r h=>?_,sm4.trans sm5⟩
      ·rw [bz,dm]
       omega
      ·have h1:=mg2 _ (.step (by rw [vp]; exact hfr) (by rw [oV]; exact h))
       rw [Option.map_map] at h1
       have:((fun x=>os++x) ∘ fun x=>x1::x)=fun x=>os++[x1]++x:=by
        funext z
        simp
       rw [this] at h1
       exact h1
     ·rintro D1 i v ys H5 hD1 hi ev ⟨hD5,ry5,sm5⟩ σo ho
      obtain ⟨oo,rfl⟩:=own1 ho
      obtain ⟨hir,a,rfl,ha⟩:=row4 i v ev
      have ha5:=ha.same sm5
      have hyl:ys.length≤1000:=by
       rw [cS ry5,aa,br]
       omega
      refine⟨⟨[_],rfl,rfl⟩,dB ⟨_,rfl,a,rfl,sO (K:=K) ha5 (fun D j ys5 H6=>ys5=(bT x1 ((rows2[i]).take j)).map V.str∧H6=upd H5 D (.lst ys5))
       (fun D hD=>⟨rfl,rfl⟩) (fun D j ys5 H6 hD ⟨_,e6⟩ o e=>by rw [e6,au (aB e hD)]; exact e) ?_ ?_⟩⟩
      ·rintro D5 ys5 H6 hD5' ⟨rfl,rfl⟩
       rw [av (by rw [aa]; exact am _)]
       have s6:∀ o,Same H5 (upd H5 D5 o):=fun o=>Same.new hD5'
       have D51:D5≠D1:=fun e=>by rw [e,hD5] at hD5'; cases hD5'
       have D5o:D5≠ol:=fun e=>by rw [e,sm5 ol _ hol4] at hD5'; cases hD5'
       refine⟨by omega,s6 _ D1 _ hD5,aR hi ⟨ak,?_,fun b u e=>?_⟩⟩
       ·rw [take_snoc hir,aw]
        exact cP (ry5.grow (s6 _)) ⟨D5,rfl,D51,D5o,by rw [au D51,ak]⟩
       ·rw [au (aB e hD1)]
        exact s6 _ b _ (sm5 b _ e)
      ·rintro D5 j y ys5 H6 hD5' hj ey ⟨rfl,rfl⟩ σo5 ho5
       obtain ⟨o5,rfl⟩:=own1 ho5
       have hj':j < (rows2[i]).length:=by rw [aa] at hj; exact hj
       rw [bc,ae hj'] at ey
       cases ey
       have eout:bT x1 ((rows2[i]).take (j+1))=bT x1 ((rows2[i]).take j)++(if decide ((rows2[i])[j]≠x1)=true then [(rows2[i])[j]] else []):=by
        unfold bT
        rw [take_snoc hj',eS]
        congr 1
        rw [dk]
        rfl
       have hri:=uL (cn hir)
       have hl5:((bT x1 ((rows2[i]).take j)).map V.str).length≤1000:=by
        rw [aa]
        have h1:=yH x1 ((rows2[i]).take j)
        rw [br] at h1
        omega
       refine⟨⟨[_],rfl,rfl⟩,_,rfl,_,rfl,rfl,_,rfl,eX (fun hb=>?_) (fun hb=>?_)⟩
       ·have hb:(rows2[i])[j]≠x1:=fun e=>by
         have hb:(!decide (V.str (rows2[i])[j]=V.str x1))=true:=hb
         rw [e,ay rfl] at hb
         cases hb
        refine⟨_,rfl,by omega,ak,aR hj ⟨?_,by rw [bO]⟩⟩
        rw [eout,ck (ay hb),aw]
        rfl
       ·have hb:(rows2[i])[j]=x1:=dA fun e=>hb (by
         show (!decide (V.str (rows2[i])[j]=V.str x1))=true
         rw [bv (by intro z; injection z with z; exact e z)]
         rfl)
        refine aR hj ⟨?_,rfl⟩
        rw [eout,bX (by simpa using hb),eB]
def wB(H:Hp)(f:Fam)(x:Str)(q:Addr):Prop:=(∃ o qo,bU f x=some o∧H q=some (.tup [.str "order",.ref qo])∧H qo=some (.tup (o.map V.str)))∨(bU f x=none∧∃ a rg,H q=some (.tup [.str "quarrel",.str a,.ref rg]))
def jZ(H:Hp)(kvs:List (Key × V))(f:Fam)(S:Str→Prop):Prop:=∀ x,S x→∃ q,bZ kvs (.inr x)=some (.ref q)∧wB H f x q
theorem wB.mono{H H':Hp}{f:Fam}{x:Str}{q:Addr}(h:wB H f x q)(s:gD H H'):wB H' f x q:=by
 rcases h with ⟨o,qo,h1,h2,h3⟩ | ⟨h1,a,rg,h2⟩
 ·exact .inl ⟨o,qo,h1,s q _ h2,s qo _ h3⟩
 ·exact .inr ⟨h1,a,rg,s q _ h2⟩
theorem jZ.mono{H H':Hp}{kvs:List (Key × V)}{f:Fam}{S:Str→Prop}(h:jZ H kvs f S)(s:gD H H'):jZ H' kvs f S:=fun x hx=>by
 obtain ⟨q,h1,h2⟩:=h x hx
 exact⟨q,h1,h2.mono s⟩
def wj:Sp:=fun vs H Q _=>∃(e d:Addr) (es:List Str) (kvs:List (Key × V)) (f:Fam),vs=[.ref e,.ref d]∧H e=some (.tup (es.map V.str))∧Rd H d (.dK kvs)∧jZ H kvs f (·∈es)∧
 ((∀ x∈es,(bU f x).isSome=true)→Q .non H)∧(¬ (∀ x∈es,(bU f x).isSome=true)→∀ (q a rg),H q=some (.tup [.str "quarrel",.str a,.ref rg])→Q (.ref q) H)
theorem tW:¬ ("order" : Str) = "quarrel" := by decide +kernel
theorem Ba(D:Defs K mg t):aW P w K mg base CX0 1 t.bN.1 t.bN.2 ["kinds","told"] wj:=by
 refine D.bN.fn.ok iC (fun vs H Q E h=>?_) (fun cdv A outer s H vs Q E hr h=>?_)
 ·obtain ⟨e,d,es,kvs,f,rfl,_⟩:=h
  rfl
 ·obtain ⟨e,d,es,kvs,f,rfl,he,hd,told,k1,k2⟩:=h
  refine⟨_,(aD (gR dS rfl (cU (pv 0)) (aN (i:=2) iC.nd rfl (Or.inl rfl))
   (aF (bQ (aV fu (aM aX (dF (cY hr) (pv 1) (pv 2) (fun _ _=>rfl)) aC (fun _ _=>rfl)) cF (bx _))
   (aF (aQ (dF (cY hr) (pv 1) (pv 2) (fun _ _=>rfl))))
   aY)))
   (aF (aQ eV))),?_⟩
  refine⟨_,rfl,e,rfl,⟨_,SqT.of he⟩,nW (K:=K) (a:=e) (xs:=es.map V.str) (fun i σ H2=>∃ v2:Option V,σ=[some (.ref e),some (.ref d),v2]∧H2=H∧∀ x∈es.take i,(bU f x).isSome=true)
   ⟨_,rfl,rfl,by simp⟩ (fun i σ H2 _ ⟨_,_,e2,_⟩=>by rw [e2]; exact SqT.of he) ?_ ?_⟩
  ·rintro i v σ H2 hi ⟨v2,rfl,rfl,all⟩
   have hil:i < es.length:=by
    have:=(bj.mp hi).1
    rwa [aa] at this
   have ev:v=.str es[i]:=by
    rw [bc,ae hil] at hi
    exact(dE hi).symm
   subst ev
   have hm:es[i]∈es:=cn hil
   obtain ⟨q,hv,ht⟩:=told es[i] hm
   have gd:kO H2 d (.str es[i]) (some (.ref q)):=.inl ⟨kvs,.inr es[i],hd,rfl,hv.symm⟩
   rcases ht with ⟨o,qo,h1,h2,h3⟩ | ⟨h1,a,rg,h2⟩
   ·refine⟨_,rfl,_,rfl,d,.ref q,rfl,gd,q,_,_,_,rfl,rfl,SqT.of h2,rfl,rfl,_,rfl,iQ (by rw [bv (by intro h; injection h with h; exact tW h)]; exact aE) ?_⟩
    refine⟨_,rfl,rfl,fun x hx=>?_⟩
    rw [take_snoc hil] at hx
    rcases bS.mp hx with h | h
    ·exact all x h
    ·rw [aS.mp h,h1]
     rfl
   ·refine⟨_,rfl,_,rfl,d,.ref q,rfl,gd,q,_,_,_,rfl,rfl,SqT.of h2,rfl,rfl,_,rfl,iR (ay rfl) ?_⟩
    refine⟨_,rfl,_,rfl,d,.ref q,rfl,gd,k2 (fun h=>?_) q a rg h2⟩
    have:=h es[i] hm
    rw [h1] at this
    cases this
  ·rintro σ H2 ⟨v2,rfl,rfl,all⟩
   rw [aa,av (am _)] at all
   exact k1 all
def zJ:Sp:=fun vs H Q _=>∃(e d:Addr) (es:List Str) (kvs:List (Key × V)) (f:Fam),vs=[.ref e,.ref d]∧H e=some (.tup (es.map V.str))∧Rd H d (.dK kvs)∧jZ H kvs f (·∈es)∧(∀ x∈es,(bU f x).isSome=true)∧es.length≤1000∧
 ∀(q:Addr) (us:List V) H',H' q=some (.tup us)→jK H' us (dh (bU f) es)→Same H H'→Q (.ref q) H'
theorem Fg(D:Defs K mg t):aW P w K mg base CX0 1 t.jL.1 t.jL.2 ["elders","told"] zJ:=by
 have hz:sizeLine=16777216:=cK
 refine D.jL.fn.ok Ao (fun vs H Q E h=>?_) (fun cdv A outer s H vs Q E hr h=>?_)
 ·obtain ⟨e,d,es,kvs,f,rfl,_⟩:=h
  rfl
 ·obtain ⟨e,d,es,kvs,f,rfl,he,hd,told,all,hlen,k⟩:=h
  refine⟨_,(aF (aQ (bJ Gv (bG bD (by rfl) D.cV bY (aj (bL rfl (aL.of ["elder"] [1] ["elder","told"] (aq (top 21)) ["elders","told"] rfl rfl (by decide +kernel)) ⟨fun _ _ _ _ _=>(aN (i:=0) (show List.Nodup [("elder" : Str),("told" : Str)] by decide +kernel) rfl (Or.inl (af rfl)) (.inr (af rfl))),fun _ _ _ _ _=>cg,fun _ _ _ _ _=>(aM (bB (K:=K) rfl) (dF (cY hr) (pv 1) (pv 0) (fun _ _=>rfl)) aC (fun _ _=>rfl))⟩ (cU (pv 0))) aA)) (dg (aj (pv 0) aA))))),?_⟩
  refine⟨_,rfl,e,rfl,⟨_,SqT.of he⟩,fun D1 hD1=>?_⟩
  have s1:∀ o,Same H (upd H D1 o):=fun o=>Same.new hD1
  refine bA (n:=(es.map V.str).length) (fun i ys H2=>jK H ys ((es.take i).map fun x=>(bU f x).getD [])∧H2=upd H D1 (.lst ys)) ⟨.nil,rfl⟩ ?_ ?_
  ·rintro ys H2 ⟨rt,rfl⟩
   rw [aa,av (am _)] at rt
   refine⟨⟨_,SqT.of (s1 _ e _ he),am _⟩,D1,_,rfl,.inl ⟨SqL.of ak,fun q1 hq1=>?_⟩⟩
   have s2:=(s1 (.lst ys)).trans (Same.new (o:=.tup ys) hq1)
   have hyl:ys.length=es.length:=by rw [cS rt,aa]
   refine⟨_,rfl,by show 1≤sizeLine; decide,fun q2 hq2=>?_⟩
   have s3:=s2.trans (Same.new (o:=.tup [.ref e]) hq2)
   have h1:(upd (upd (upd H D1 (.lst ys)) q1 (.tup ys)) q2 (.tup [.ref e])) q1=some (.tup ys):=by rw [au (aB ak hq2),ak]
   have last:∀ (H':Hp),Same H H'→jK H' (ys++[.ref e]) (dh (bU f) es):=fun H' s=>cP (rt.mono (Same.tups s)) ⟨e,rfl,s e _ he⟩
   cases ys with
   | nil=>
    refine .inr ⟨q1,q2,[.ref e],rfl,rfl,h1,ak,?_⟩
    exact k q2 _ _ ak (last _ s3) s3
   | cons y0 yr=>
    refine .inl ⟨q1,q2,y0::yr,[.ref e],rfl,rfl,SqT.of h1,SqT.of ak,jS _ _,by rw [hyl]; show es.length+1≤sizeLine; omega,(fun h=>absurd h (jS _ _)),fun _ q3 hq3=>?_⟩
    have s4:=s3.trans (Same.new (o:=.tup (y0::yr++[.ref e])) hq3)
    exact k q3 _ _ ak (last _ s4) s4
  ·rintro i ys H2 hi ⟨rt,rfl⟩
   have hi':i < es.length:=by rw [aa] at hi; exact hi
   have ei:(es.map V.str)[i]?=some (.str es[i]):=by rw [bc,ae hi']; rfl
   refine⟨⟨_,_,SqT.of (s1 _ e _ he),ei⟩,?_⟩
   rintro v H3 ⟨rfl,yy⟩ σo ho
   obtain ⟨oo,rfl⟩:=own1 ho
   have ev:=yy _ (SqT.of (s1 _ e _ he))
   rw [ei] at ev
   cases ev
   have hm:es[i]∈es:=cn hi'
   obtain ⟨q,hv,ht⟩:=told es[i] hm
   have hd1:Rd (upd H D1 (.lst ys)) d (.dK kvs):=by
    rcases hd with h | ⟨o,h⟩
    ·exact .inl (s1 _ d _ h)
    ·exact .inr ⟨o,s1 _ d _ h⟩
   rcases ht with ⟨o,qo,h1,h2,h3⟩ | ⟨h1,_⟩
   ·refine⟨⟨[_],rfl,rfl⟩,dB ⟨_,rfl,_,rfl,d,.ref q,rfl,.inl ⟨kvs,.inr es[i],hd1,rfl,hv.symm⟩,q,_,_,_,rfl,rfl,SqT.of (s1 _ q _ h2),rfl,by rw [cS rt,aa,br]; omega,ak,aR hi ⟨?_,by rw [bO]⟩⟩⟩
    rw [take_snoc hi',aw]
    refine cP rt ⟨qo,rfl,?_⟩
    show H qo=some (.tup (((bU f es[i]).getD []).map V.str))
    rw [h1]
    exact h3
   ·have:=all es[i] hm
    rw [h1] at this
    cases this
end
end K17
end
section
namespace L2
open PySem PyProof.Rows
theorem BZ{X:Cx}{K:PySem.W.Frag}(h:X.K=K)(hc:X.calm=true):gn X (.builtin "all") (fun xs H Q=>∃(p:Addr) (bs:List Bool),xs=[.ref p]∧SqL K H p (bs.map V.bl)∧Q (.bl (bs.all id)) H):=by subst h; exact nJ hc
end L2
namespace K17
open PySem PyProof.Rows L2
structure Fw (f:Fam) (pl:List Str):Prop where
 nd:pl.Nodup
 sub:∀ x∈pl,x∈nms f
 el:∀(j:Nat) (r:Str × List Str),r∈f→pl[j]?=some r.1→∀ e∈r.2,e∈pl.take j
theorem Cp{f:Fam}(G:eO f)(pl:List Str){r:Str × List Str}(hr:r∈f)(hn:¬ r.1∈pl):∃ r'∈f,¬ r'.1∈pl∧∀ e∈r'.2,e∈pl:=by
 obtain ⟨top,t0,t1,t2⟩:=G.vL
 have key:∀(j:Nat) (r:Str × List Str),r∈f→top[j]?=some r.1→¬ r.1∈pl→∃ r'∈f,¬ r'.1∈pl∧∀ e∈r'.2,e∈pl:=by
  intro j
  induction j using Nat.strongRecOn with
  | ind j ih=>
   intro r hr hj hn
   by_cases hall:∀ e∈r.2,e∈pl
   ·exact⟨r,hr,hn,hall⟩
   ·have ⟨e,he⟩:=Classical.not_forall.mp hall
    have he1:e∈r.2:=dA fun z=>he fun y=>absurd y z
    have he2:¬ e∈pl:=fun z=>he fun _=>z
    obtain ⟨j',h1,h2⟩:=t2 r hr
    have ej:=jM t0 hj h1
    subst ej
    obtain ⟨i,hi,ei⟩:=ig (h2 e he1)
    obtain ⟨r2,hr2,er2⟩:=bg.mp (G.sub r hr e he1)
    have er2:r2.1=e:=er2
    exact ih i hi r2 hr2 (by rw [er2]; exact ei) (by rw [er2]; exact he2)
 obtain ⟨j,h1,_⟩:=t2 r hr
 exact key j r hr h1 hn
def bF(f:Fam)(pl:List Str):Fam:=f.filter fun r=>decide (¬ r.1∈pl)
def bK(f:Fam)(pl:List Str):List Str:=((bF f pl).filter fun r=>r.2.all fun e=>decide (e∈pl)).map (·.1)
theorem Fw.more{f:Fam}(G:eO f){pl:List Str}(T:Fw f pl):Fw f (pl++bK f pl):=by
 have mem:∀ x,x∈bK f pl→∃ r∈f,r.1=x∧¬ x∈pl∧∀ e∈r.2,e∈pl:=fun x hx=>by
  obtain ⟨r,hr,rfl⟩:=bg.mp hx
  obtain ⟨h1,h2⟩:=bE.mp hr
  obtain ⟨h3,h4⟩:=bE.mp h1
  exact⟨r,h3,rfl,cy h4,fun e he=>cy (eQ.mp h2 e he)⟩
 have ndr:(bK f pl).Nodup:=by
  have:(bK f pl).Sublist (nms f):=List.Sublist.map _ (List.Sublist.trans iO iO)
  exact G.nd.sublist this
 refine⟨?_,fun x hx=>?_,fun j r hr ej e he=>?_⟩
 ·rw [g9]
  refine⟨T.nd,ndr,fun a ha b hb e=>?_⟩
  obtain ⟨_,_,_,h,_⟩:=mem b hb
  exact h (e ▸ ha)
 ·rcases bS.mp hx with h | h
  ·exact T.sub x h
  ·obtain ⟨r,hr,e,_⟩:=mem x h
   rw [← e]
   exact bg.mpr ⟨r,hr,rfl⟩
 ·by_cases hj:j < pl.length
  ·rw [g6 hj] at ej
   have:=T.el j r hr ej e he
   rw [List.take_append_of_le_length (by omega)]
   exact this
  ·rw [fz (by omega)] at ej
   obtain ⟨r',hr',e',_,h⟩:=mem r.1 (eJ ej)
   have er:vI f r'.1=r'.2:=jA G.nd r' hr'
   have er2:vI f r.1=r.2:=jA G.nd r hr
   rw [e',er2] at er
   have hp:e∈pl:=h e (er ▸ he)
   rw [List.take_append]
   exact dP _ (by rw [av (by omega)]; exact hp)
section
variable {P:Program}{w:World}{K:PySem.W.Frag}{mg:Str→Option Value}{base:Heap}{t:Adr}
def Ak:Sp:=fun vs H Q _=>∃(v:V) (f:Fam),vs=[v]∧Dp H (J1 f) v∧eO f∧∀(q:Addr) (pl:List Str) H',H' q=some (.tup (pl.map V.str))→Fw f pl→(∀ x∈nms f,x∈pl)→Same H H'→Q (.ref q) H'
theorem Ef(D:Defs K mg t):aW P w K mg base CX0 1 t.dR.1 t.dR.2 ["family"] Ak:=by
 have hz:sizeLine=16777216:=cK
 refine D.dR.fn.ok dG (fun vs H Q E h=>?_) (fun cdv A outer s H vs Q E hr h=>?_)
 ·obtain ⟨v,f,rfl,_⟩:=h
  rfl
 ·obtain ⟨v,f,rfl,dv,gf,k⟩:=h
  obtain ⟨a,xs,rfl,ha,dl⟩:=L2.Dp.cR dv
  have hxl:xs.length=f.length:=by have:=dl.length; rwa [aa] at this
  have f7:=gf.len
  refine⟨_,(aD (aP (i:=1) dG.nd rfl (Or.inr rfl) j9)
   (aD (aP (i:=2) dG.nd rfl (Or.inl rfl) (bG mW (by rfl) D.xM rY (aj (pv 0) aA)))
   (aD (aP (i:=3) dG.nd rfl (Or.inl rfl) (pv 2))
   (aD (mq dS (qu (pv 3) (by intro _; rfl))
   (aD (jP (i:=3) rfl dG.nd rfl (Or.inl rfl) (aL.of ["kind","elders"] [1] ["kind","elders","placed"] (aq (top 14)) ["family","placed","waiting","ready","kind"] rfl rfl (by decide +kernel)) ⟨fun _ _ _ _ _=>(qN (K:=K) (n:=2) rfl rfl (dH (aN (i:=0) (show List.Nodup [("kind" : Str),("elders" : Str),("placed" : Str)] by decide +kernel) rfl (Or.inl (af rfl)) (.inr (af rfl))) (dH (aN (i:=1) (show List.Nodup [("kind" : Str),("elders" : Str),("placed" : Str)] by decide +kernel) rfl (Or.inl (af rfl)) (.inr (af rfl))) lg))),fun _ _ _ _ _=>(dM (d9 (aO (BZ (K:=K) rfl rfl) (by rfl) D.zx uQ (aj (bL rfl (aL.of2 ["elder"] [2] ["elder","placed"] ["kind","elders","placed"] rfl rfl (by decide +kernel)) ⟨fun _ _ _ _ _=>(aN (i:=0) (show List.Nodup [("elder" : Str),("placed" : Str)] by decide +kernel) rfl (Or.inl (af rfl)) (.inr (af rfl))),fun _ _ _ _ _=>cg,fun _ _ _ _ _=>(Cr (yg (cY hr) (pv 0) (pv 1)))⟩ (IK (K:=K) rfl (pv 1))) aA)))),fun _ _ _ _ _=>(pv 0)⟩ (gU (pv 2)))
   (aD (gR dS rfl (gU (pv 3)) (aN (i:=4) dG.nd rfl (Or.inl rfl))
   (aF (jR (cY hr) (pv 1) (pv 4) nR rfl)))
   (aF (jP (i:=2) rfl dG.nd rfl (Or.inl rfl) (aL.of ["pair"] [1] ["pair","placed"] (aq (top 14)) ["family","placed","waiting","ready","kind"] rfl rfl (by decide +kernel)) ⟨fun _ _ _ _ _=>(aN (i:=0) (show List.Nodup [("pair" : Str),("placed" : Str)] by decide +kernel) rfl (Or.inl (af rfl)) (.inr (af rfl))),fun _ _ _ _ _=>(dM (qZ (mC (cY hr) (aM (bB (K:=K) rfl) (pv 0) aC (fun _ _=>rfl)) (pv 1)))),fun _ _ _ _ _=>(pv 0)⟩ (gU (pv 2)))))))
   (aF (aQ (bG (yS rfl) (by rfl) D.cV bY (aj (pv 1) aA)))))))),?_⟩
  intro pd hpd
  have s1:Same H (upd H pd (.dK [])):=Same.new hpd
  have hpd1:(upd H pd (.dK [])) pd=some (.dK (gZ [])):=ak
  generalize upd H pd (.dK [])=H1 at s1 hpd1
  refine⟨_,rfl,a,_,rfl,.inr (SqT.of (s1 a _ ha)),fun w0 hw0=>?_⟩
  have s2:Same H1 (upd H1 w0 (.lst xs)):=Same.new hw0
  refine⟨_,rfl,?_⟩
  refine⟨fun m σ H2=>∃(pl:List Str) (wl rl:Addr) (ws rs:List V) (v4:Option V),σ=[some (.ref a),some (.ref pd),some (.ref wl),some (.ref rl),v4]∧H2 pd=some (.dK (gZ pl))∧Fw f pl∧H2 wl=some (.lst ws)∧DpL H2 ((bF f pl).map oR) ws∧H2 rl=some (.lst rs)∧(rs=[]→bF f pl=[])∧m=2 * (bF f pl).length+(if rs.isEmpty=true then 0 else 1)∧Same H H2,?_,?_⟩
  ·have e0:bF f []=f:=by
    unfold bF
    rw [nV]
    simp
   refine⟨_,[],w0,w0,xs,xs,_,rfl,s2 pd _ hpd1,⟨iL,by simp,by intro j r _ h; simp at h⟩,ak,?_,ak,fun h=>?_,rfl,s1.trans s2⟩
   ·rw [e0]
    exact dl.mono (Same.tups (s1.trans s2))
   ·rw [e0]
    rw [h] at hxl
    exact List.eq_nil_of_length_eq_zero hxl.symm
  ·rintro m σ H2 ⟨pl,wl,rl,ws,rs,v4,rfl,hpd2,T,hw2,dw,hr2,hex,rfl,sm2⟩
   refine⟨_,rfl,_,.inl ⟨_,SqL.of hr2,rfl⟩,?_⟩
   cases hrs:rs with
   | nil=>
    refine fY ⟨_,rfl,pd,_,rfl,.inl hpd2,fun q hq=>?_⟩
    have ek:(gZ pl).map (fun kv=>kV kv.1)=pl.map V.str:=by
     unfold gZ
     rw [fb]
     rfl
    rw [ek]
    refine k q pl _ ak T (fun x hx=>?_) (sm2.trans (Same.new hq))
    have h0:=hex hrs
    apply dA
    intro hn
    obtain ⟨r,hr',rfl⟩:=bg.mp hx
    have:r∈bF f pl:=bE.mpr ⟨hr',ay hn⟩
    rw [h0] at this
    cases this
   | cons r0 rr=>
    have hem:(!(r0::rr).isEmpty)=true:=rfl
    rw [hem]
    refine dZ ⟨fun σ' H'=>∃ m',m' < 2 * (bF f pl).length+1∧∃(pl:List Str) (wl rl:Addr) (ws rs:List V) (v4:Option V),σ'=[some (.ref a),some (.ref pd),some (.ref wl),some (.ref rl),v4]∧H' pd=some (.dK (gZ pl))∧Fw f pl∧H' wl=some (.lst ws)∧DpL H' ((bF f pl).map oR) ws∧H' rl=some (.lst rs)∧(rs=[]→bF f pl=[])∧m'=2 * (bF f pl).length+(if rs.isEmpty=true then 0 else 1)∧Same H H',fun σ' H' h=>h,?_⟩
    have hwl:ws.length=(bF f pl).length:=by have:=dw.length; rwa [aa] at this
    have hl7:(bF f pl).length≤7:=dC (de _ _) f7
    have pwne:∀ {H3:Hp},Same H2 H3→True:=fun _=>trivial
    refine⟨_,rfl,wl,rfl,⟨_,SqL.of hw2⟩,fun D1 hD1=>?_⟩
    refine bA (n:=ws.length) (fun i ys H3=>ys=((((bF f pl).take i).filter fun r=>r.2.all fun e=>decide (e∈pl)).map (·.1)).map V.str∧H3 D1=some (.lst ys)∧Same H2 H3) ⟨rfl,ak,Same.new hD1⟩ ?_ ?_
    ·rintro ys H3 ⟨rfl,hD3,sm3⟩
     rw [av (by omega)] at hD3
     have hD3:H3 D1=some (.lst ((bK f pl).map V.str)):=hD3
     refine⟨⟨_,SqL.of (sm3 wl _ hw2),am _⟩,?_⟩
     have hwD:wl≠D1:=aB hw2 hD1
     have pdD:pd≠D1:=aB hpd2 hD1
     have hrdy:(bK f pl).length≤7:=by
      unfold bK
      rw [aa]
      exact dC (de _ _) hl7
     have Tm:=T.more gf
     have plx:pl.length≤7:=by
      have h1:=cL T.nd (m:=nms f) T.sub
      have h2:(nms f).length=f.length:=aa _
      omega
     have newk:∀(i:Nat) (hi:i < (bK f pl).length),¬ (bK f pl)[i]∈pl++(bK f pl).take i:=fun i hi h=>by
      have nd:=Tm.nd
      have e:pl++bK f pl=(pl++(bK f pl).take i)++((bK f pl)[i]::(bK f pl).drop (i+1)):=by
       rw [kA,List.getElem_cons_drop,iA]
      rw [e,g9] at nd
      exact nd.2.2 _ h _ aT rfl
     refine⟨_,rfl,D1,rfl,⟨_,SqL.of hD3⟩,nF (K:=K) (a:=D1) (xs:=(bK f pl).map V.str) (fun i σ H4=>∃ v4:Option V,σ=[some (.ref a),some (.ref pd),some (.ref wl),some (.ref D1),v4]∧H4 pd=some (.dK (gZ (pl++(bK f pl).take i)))∧∀ b u,b≠pd→H3 b=some u→H4 b=some u)
      ⟨_,rfl,by rw [List.take_zero,eB]; exact sm3 pd _ hpd2,fun b u _ e=>e⟩ (fun i σ H4 _ ⟨_,_,_,kp⟩=>SqL.of (kp D1 _ pdD.symm hD3)) ?_ ?_⟩
     ·rintro i x σ H4 hi ⟨v4',rfl,hpd4,kp4⟩
      have hil:i < (bK f pl).length:=by
       have:=(bj.mp hi).1
       rwa [aa] at this
      have ex:x=.str (bK f pl)[i]:=by
       rw [bc,ae hil] at hi
       exact(dE hi).symm
      subst ex
      refine⟨_,rfl,_,rfl,pd,_,rfl,rC.k (k:=.inr (bK f pl)[i]) hpd4 (by unfold gZ; rw [aa,bz,br]; omega),?_⟩
      rw [tD (newk i hil)]
      exact⟨_,rfl,by rw [ak,take_snoc hil,kA],fun b u hb e=>by rw [au hb]; exact kp4 b u hb e⟩
     ·rintro σ H4 ⟨v4',rfl,hpd4,kp4⟩
      rw [aa,av (am _)] at hpd4
      have wpd:wl≠pd:=eG hw2 hpd2 (fun z=>nomatch z)
      have hw4:=kp4 wl _ wpd (sm3 wl _ hw2)
      have tu4:gD H2 H4:=fun c zs e=>kp4 c _ (eG e hpd2 (fun z=>nomatch z)) (sm3 c _ e)
      have sm4:Same H H4:=fun b u e=>kp4 b u (aB e hpd) (sm3 b u (sm2 b u e))
      have dw4:=dw.mono tu4
      refine⟨_,rfl,wl,rfl,⟨_,SqL.of hw4⟩,fun D2 hD2=>?_⟩
      refine bA (n:=ws.length) (fun i ys H5=>H5 D2=some (.lst ys)∧DpL H4 ((((bF f pl).take i).filter fun r=>decide (¬ r.1∈pl++bK f pl)).map oR) ys∧Same H4 H5) ⟨ak,.nil,Same.new hD2⟩ ?_ ?_
      ·rintro ys H5 ⟨hD5,dy,sm5⟩
       rw [av (by omega)] at dy
       refine⟨⟨_,SqL.of (sm5 wl _ hw4),am _⟩,?_⟩
       have el:(bF f pl).filter (fun r=>decide (¬ r.1∈pl++bK f pl))=bF f (pl++bK f pl):=by
        unfold bF
        rw [lx]
        apply List.filter_congr
        intro r _
        by_cases h1:r.1∈pl
        ·simp [h1]
        ·simp [h1]
       rw [el] at dy
       have hle:(bF f (pl++bK f pl)).length≤(bF f pl).length:=by rw [← el]; exact de _ _
       have hmm:2 * (bF f (pl++bK f pl)).length+(if ((bK f pl).map V.str).isEmpty=true then 0 else 1) < 2 * (bF f pl).length+1:=by
        cases hrd:bK f pl with
        | nil=>
         rw [hrd] at hle
         simp
        | cons x0 xr=>
         have:(bF f (pl++bK f pl)).length < (bF f pl).length:=by
          rw [← el]
          have hx0:x0∈bK f pl:=by rw [hrd]; exact aT
          obtain ⟨r,hr',e⟩:=bg.mp hx0
          have hrl:=(bE.mp hr').1
          refine Nat.lt_of_le_of_ne (de _ _) fun e2=>?_
          have:=List.length_filter_eq_length_iff.mp e2 r hrl
          have:=cy this
          exact this (cE _ (by show r.1∈_; rw [show r.1=x0 from e]; exact hx0))
         rw [hrd] at this
         simp
         omega
       refine⟨_,hmm,pl++bK f pl,D2,D1,ys,(bK f pl).map V.str,_,rfl,sm5 pd _ hpd4,Tm,hD5,dy.mono (Same.tups sm5),sm5 D1 _ (kp4 D1 _ pdD.symm hD3),fun h=>?_,rfl,sm4.trans sm5⟩
       have hrd:bK f pl=[]:=List.map_eq_nil_iff.mp h
       apply dA
       intro hne
       obtain ⟨r,hr'⟩:=List.exists_mem_of_ne_nil _ hne
       obtain ⟨h1,h2⟩:=bE.mp hr'
       have h2:=cy h2
       have h2':¬ r.1∈pl:=fun z=>h2 (dP _ z)
       obtain ⟨r',hr1,hr2',hr3⟩:=Cp gf pl h1 h2'
       have:r'.1∈bK f pl:=bg.mpr ⟨r',bE.mpr ⟨bE.mpr ⟨hr1,ay hr2'⟩,eQ.mpr fun e he=>ay (hr3 e he)⟩,rfl⟩
       rw [hrd] at this
       cases this
      ·rintro i ys H5 hi ⟨hD5,dy,sm5⟩
       have hif:i < (bF f pl).length:=by omega
       obtain ⟨y,ey,dyy⟩:=dw4.get (i:=i) (t:=oR (bF f pl)[i]) (by rw [bc,ae hif]; rfl)
       obtain ⟨q,e,rfl,hq,he⟩:=K17.Dp.yx dyy
       refine⟨⟨_,_,SqL.of (sm5 wl _ hw4),ey⟩,?_⟩
       rintro z H6 ⟨rfl,yy⟩ σo ho
       obtain ⟨oo,rfl⟩:=own1 ho
       have ez:=yy _ (SqL.of (sm5 wl _ hw4))
       rw [ey] at ez
       cases ez
       have hyl:ys.length≤7:=by
        rw [dy.length,aa]
        refine dC (de _ _) ?_
        rw [br]
        omega
       have efl:((bF f pl).take (i+1)).filter (fun r=>decide (¬ r.1∈pl++bK f pl))=((bF f pl).take i).filter (fun r=>decide (¬ r.1∈pl++bK f pl))++(if decide (¬ ((bF f pl)[i]).1∈pl++bK f pl)=true then [(bF f pl)[i]] else []):=by
        rw [take_snoc hif,eS]
        congr 1
        rw [dk]
        rfl
       refine⟨⟨[_],rfl,rfl⟩,_,rfl,q,_,_,_,rfl,rfl,SqT.of (sm5 q _ hq),rfl,_,rfl,pd,_,rfl,kO.k (k:=.inr ((bF f pl)[i]).1) (sm5 pd _ hpd4),_,rfl,?_⟩
       cases hin:(bZ (gZ (pl++bK f pl)) (.inr ((bF f pl)[i]).1)).isSome with
       | true=>
        have hm:=(iU _ _).mp hin
        refine fY (aR hi ⟨hD5,?_,sm5⟩)
        rw [efl,bX (fun h=>(cy h) hm),eB]
        exact dy
       | false=>
        have hm:¬ ((bF f pl)[i]).1∈pl++bK f pl:=fun h=>by rw [(iU _ _).mpr h] at hin; cases hin
        refine dZ ⟨_,rfl,by omega,hD5,aR hi ⟨ak,?_,fun b u e'=>?_⟩⟩
        ·rw [efl,ck (ay hm),aw]
         exact dy.append (.cons dyy .nil)
        ·rw [au (aB e' hD2)]
         exact sm5 b _ e'
    ·rintro i ys H3 hi ⟨rfl,hD3,sm3⟩
     have hif:i < (bF f pl).length:=by omega
     obtain ⟨y,ey,dyy⟩:=(dw.mono (Same.tups sm3)).get (i:=i) (t:=oR (bF f pl)[i]) (by rw [bc,ae hif]; rfl)
     obtain ⟨q,e,rfl,hq,he⟩:=K17.Dp.yx dyy
     refine⟨⟨_,_,SqL.of (sm3 wl _ hw2),ey⟩,?_⟩
     rintro z H4 ⟨rfl,yy⟩ σo ho
     obtain ⟨oo,oo',rfl⟩:=Ku ho
     have ez:=yy _ (SqL.of (sm3 wl _ hw2))
     rw [ey] at ez
     cases ez
     have hyl:(((((bF f pl).take i).filter fun r=>r.2.all fun e=>decide (e∈pl)).map (·.1)).map V.str).length≤7:=by
      rw [aa,aa]
      refine dC (de _ _) ?_
      rw [br]
      omega
     have efl:((bF f pl).take (i+1)).filter (fun r=>r.2.all fun e=>decide (e∈pl))=((bF f pl).take i).filter (fun r=>r.2.all fun e=>decide (e∈pl))++(if (((bF f pl)[i]).2.all fun e=>decide (e∈pl))=true then [(bF f pl)[i]] else []):=by
      rw [take_snoc hif,eS]
      congr 1
      rw [dk]
      rfl
     refine⟨q,_,rfl,SqT.of hq,rfl,_,_,rfl,_,_,rfl,rfl,⟨[_,_],rfl,rfl⟩,_,rfl,e,rfl,⟨_,SqT.of he⟩,fun D3 hD3'=>?_⟩
     have s5:∀ o,Same H4 (upd H4 D3 o):=fun o=>Same.new hD3'
     have el7:=gf.el _ (bE.mp (cn hif)).1
     refine bA (n:=(((bF f pl)[i]).2.map V.str).length) (fun j bs H5=>bs=((((bF f pl)[i]).2.take j).map fun e=>decide (e∈pl)).map V.bl∧H5=upd H4 D3 (.lst bs)) ⟨rfl,rfl⟩ ?_ ?_
     ·rintro bs H5 ⟨rfl,rfl⟩
      rw [av (by rw [aa]; exact am _)]
      refine⟨⟨_,SqT.of (s5 _ e _ he),am _⟩,D3,_,rfl,SqL.of ak,_,rfl,?_⟩
      have eall:((((bF f pl)[i]).2.map fun e=>decide (e∈pl)).all id)=((bF f pl)[i]).2.all fun e=>decide (e∈pl):=by
       rw [n4]
       rfl
      rw [eall]
      cases hall:(((bF f pl)[i]).2.all fun e=>decide (e∈pl)) with
      | true=>
       refine dZ ⟨_,rfl,by omega,s5 _ D1 _ hD3,aR hi ⟨?_,ak,fun b u e'=>?_⟩⟩
       ·rw [efl,hall,ck rfl,aw,aw]
        rfl
       ·rw [au (aB e' hD1)]
        exact s5 _ b _ (sm3 b _ e')
      | false=>
       refine fY (aR hi ⟨?_,s5 _ D1 _ hD3,sm3.trans (s5 _)⟩)
       rw [efl,hall,bX aE,eB]
     ·rintro j bs H5 hj ⟨rfl,rfl⟩
      have hj':j < ((bF f pl)[i]).2.length:=by rw [aa] at hj; exact hj
      have ej:(((bF f pl)[i]).2.map V.str)[j]?=some (.str ((bF f pl)[i]).2[j]):=by rw [bc,ae hj']; rfl
      refine⟨⟨_,_,SqT.of (s5 _ e _ he),ej⟩,?_⟩
      rintro y5 H6 ⟨rfl,yy⟩ σo5 ho5
      obtain ⟨o5,rfl⟩:=own1 ho5
      have ey5:=yy _ (SqT.of (s5 _ e _ he))
      rw [ej] at ey5
      cases ey5
      refine⟨⟨[_],rfl,rfl⟩,dB ⟨_,rfl,_,rfl,pd,_,rfl,kO.k (k:=.inr ((bF f pl)[i]).2[j]) (s5 _ pd _ (sm3 pd _ hpd2)),by rw [aa,aa,br]; omega,ak,aR hj ⟨?_,by rw [bO]⟩⟩⟩
      rw [take_snoc hj',aw,aw]
      congr 1
      show [V.bl (bZ (gZ pl) (.inr ((bF f pl)[i]).2[j])).isSome]=[V.bl (decide (((bF f pl)[i]).2[j]∈pl))]
      congr 2
      apply fm.mpr
      rw [iU,i7]
theorem Mg.qC{rows:List (List Str)}{r:Option (List Str)}(h:Mg rows r):∀ os,r=some os→(∀ y∈os,∃ q∈rows,y∈q)∧os.Nodup:=by
 induction h with
 | nil=>
  intro os e
  cases e
  exact⟨by simp,iL⟩
 | stuck _ _=>
  intro os e
  cases e
 | @step rows x more r hf _ ih=>
  intro os e
  cases r with
  | none=>cases e
  | some os'=>
   cases e
   obtain ⟨h1,h2⟩:=ih os' rfl
   have back:∀ y∈os',y≠x∧∃ q∈rows,y∈q:=fun y hy=>by
    obtain ⟨q,hq,hyq⟩:=h1 y hy
    obtain ⟨hq1,_⟩:=bE.mp hq
    obtain ⟨q0,hq0,rfl⟩:=bg.mp hq1
    obtain ⟨a,b⟩:=bE.mp hyq
    exact⟨cy b,q0,hq0,a⟩
   refine⟨fun y hy=>?_,eW.mpr ⟨fun h=>(back x h).1 rfl,h2⟩⟩
   rcases bu.mp hy with rfl | h
   ·obtain ⟨q,hq,hh⟩:=n6 (by rw [hf]; exact aT)
    refine⟨q,hq,?_⟩
    cases q with
    | nil=>cases hh
    | cons z q=>
     cases hh
     exact aT
   ·exact(back y h).2
theorem Gd{f:Fam}(G:eO f):∀ x∈nms f,∀ o,bU f x=some o→o≠[]∧(∀ y∈o,y∈nms f)∧o.length≤8:=by
 obtain ⟨top,t0,t1,t2⟩:=G.vL
 have key:∀(j:Nat) (x:Str),top[j]?=some x→∀ o,bU f x=some o→o≠[]∧(∀ y∈o,y∈nms f)∧o.length≤8:=by
  intro j
  induction j using Nat.strongRecOn with
  | ind j ih=>
   intro x hx o ho
   have hxn:x∈nms f:=(t1 x).mp (eJ hx)
   obtain ⟨r,hr,rfl⟩:=bg.mp hxn
   rw [pB G hr] at ho
   split at ho
   ·rename_i hall
    obtain ⟨j',h1,h2⟩:=t2 r hr
    have ej:=jM t0 hx h1
    subst ej
    cases hm:ni (full (dh (bU f) r.2)) with
    | none=>rw [hm] at ho; cases ho
    | some os=>
     rw [hm] at ho
     cases ho
     have hM:∃ q,Mg (full (dh (bU f) r.2)) q:=by
      apply dA
      intro hn
      unfold ni at hm
      rw [dif_neg hn] at hm
      cases hm
     obtain ⟨q,hq⟩:=hM
     have eq:=lV hq
     rw [hm] at eq
     subst eq
     obtain ⟨h3,h4⟩:=Mg.qC hq os rfl
     have sub:∀ y∈os,y∈nms f:=fun y hy=>by
      obtain ⟨q,hq',hyq⟩:=h3 y hy
      have hq':=(bE.mp hq').1
      unfold dh at hq'
      rcases bS.mp hq' with h | h
      ·obtain ⟨e,he,rfl⟩:=bg.mp h
       obtain ⟨i,hi,ei⟩:=ig (h2 e he)
       have hs:=eQ.mp hall e he
       obtain ⟨oe,hoe⟩:=ff.mp hs
       rw [hoe] at hyq
       exact(ih i hi e ei oe hoe).2.1 y hyq
      ·rw [aS.mp h] at hyq
       exact G.sub r hr y hyq
     refine⟨jS _ _,fun y hy=>?_,?_⟩
     ·rcases bu.mp hy with rfl | h
      ·exact hxn
      ·exact sub y h
     ·have h5:=cL h4 (m:=nms f) sub
      have h6:(nms f).length=f.length:=aa _
      have:=G.len
      rw [dQ]
      omega
   ·cases ho
 intro x hx
 obtain ⟨j,hj,e⟩:=fc ((t1 x).mpr hx)
 exact key j x (by rw [ae hj,e])
def jj(H:Hp)(kvs:List (Key × V))(f:Fam):Prop:=Paired (fun(kv:Key × V) (r:Str × List Str)=>kv.1=.inr r.1∧∃ e,kv.2=.ref e∧H e=some (.tup (r.2.map V.str))) kvs f
theorem jj.mono{H H':Hp}{kvs:List (Key × V)}{f:Fam}(h:jj H kvs f)(s:gD H H'):jj H' kvs f:=Paired.oN h fun kv r ⟨e,q,h1,h2⟩=>⟨e,q,h1,s q _ h2⟩
theorem jj.keys{H:Hp}{kvs:List (Key × V)}{f:Fam}(h:jj H kvs f):kvs.map (·.1)=(nms f).map Sum.inr:=by
 induction h with
 | nil=>rfl
 | cons r _ ih=>exact congr (congrArg List.cons r.1) ih
theorem jj.get{H:Hp}:∀ {kvs:List (Key × V)} {f:Fam},jj H kvs f→(nms f).Nodup→∀ r∈f,∃ e,bZ kvs (.inr r.1)=some (.ref e)∧H e=some (.tup (r.2.map V.str))
 | _,_,.nil,_,r,hr=>nomatch hr
 | (k,v)::kvs,r0::f,.cons q t,nd,r,hr=>by
  have nd':(r0.1::nms f).Nodup:=nd
  obtain ⟨n1,n2⟩:=eW.mp nd'
  obtain ⟨e1,e,e2,e3⟩:=q
  rcases bu.mp hr with rfl | h
  ·exact⟨e,by rw [fB (p:=(k,v)) e1]; exact congrArg some e2,e3⟩
  ·obtain ⟨e',h1,h2⟩:=jj.get t n2 r h
   refine⟨e',?_,h2⟩
   rw [fU (p:=(k,v)),h1]
   intro z
   have z:k=Sum.inr r.1:=z
   have e1:k=Sum.inr r0.1:=e1
   rw [e1] at z
   injection z with z
   exact n1 (z ▸ bg.mpr ⟨r,h,rfl⟩)
theorem jj.has{H:Hp}{kvs:List (Key × V)}{f:Fam}(h:jj H kvs f)(x:Str):(bZ kvs (.inr x)).isSome=true↔x∈nms f:=by
 rw [jB,h.keys,bg]
 constructor
 ·rintro ⟨y,hy,e⟩
  injection e with e
  exact e ▸ hy
 ·exact fun h=>⟨x,h,rfl⟩
theorem vV:∀(more acc:List (Key × V)),((acc++more).map (·.1)).Nodup→dN acc more=acc++more
 | [],acc,_=>by rw [eB]; rfl
 | (k,v)::more,acc,nd=>by
  have hn:bZ acc k=none:=by
   cases q:bZ acc k with
   | none=>rfl
   | some y=>
    exfalso
    have h1:(bZ acc k).isSome=true:=by rw [q]; rfl
    rw [jB] at h1
    have h2:=h1
    rw [aw,eL] at nd
    exact(g9.mp nd).2.2 k h2 k aT rfl
  show dN (putK acc k v) more=_
  rw [uw v hn,vV more (acc++[(k,v)]) (by rw [kA]; exact nd),kA]
  rfl
theorem qT{H:Hp}{f:Fam}{xs:List V}(dl:DpL H (f.map oR) xs):∃ kvs,qg H xs kvs∧jj H kvs f:=by
 induction f generalizing xs with
 | nil=>
  rw [dl.tH]
  exact⟨[],⟨rfl,fun i kv h=>by simp at h⟩,.nil⟩
 | cons r f ih=>
  obtain ⟨x,rest,rfl,d,dl'⟩:=dl.cases
  obtain ⟨kvs,h1,h2⟩:=ih dl'
  obtain ⟨q,e,rfl,hq,he⟩:=K17.Dp.yx d
  refine⟨(.inr r.1,.ref e)::kvs,⟨by rw [dQ,dQ,h1.1],fun i kv h=>?_⟩,.cons ⟨rfl,e,rfl,he⟩ h2⟩
  cases i with
  | zero=>
   cases h
   exact⟨q,rfl,hq⟩
  | succ i=>exact h1.2 i kv h
theorem jj.len{H:Hp}{kvs:List (Key × V)}{f:Fam}(h:jj H kvs f):kvs.length=f.length:=cS h
theorem jj.at{H:Hp}{kvs:List (Key × V)}{f:Fam}(h:jj H kvs f){i:Nat}{kv:Key × V}(e:kvs[i]?=some kv):∃ r,f[i]?=some r∧kv.1=.inr r.1∧(nms f)[i]?=some r.1:=by
 have hi:=(bj.mp e).1
 have hj:i < f.length:=by rw [← h.len]; exact hi
 have q:=fV h i hi hj
 rw [ae hi] at e
 cases e
 exact⟨f[i],ae hj,q.1,by show (f.map (·.1))[i]?=_; rw [bc,ae hj]; rfl⟩
theorem jj.merge{H:Hp}{kvs:List (Key × V)}{f:Fam}(h:jj H kvs f)(nd:(nms f).Nodup):dN [] kvs=kvs:=by
 refine vV kvs [] ?_
 rw [List.nil_append,h.keys]
 exact rz (fun a _ b _ e=>by injection e) nd
def lM:Sp:=fun vs H Q _=>∃(x:Str) (d:Addr) (kvs:List (Key × V)),vs=[.str x,.ref d]∧Rd H d (.dK kvs)∧Q (.bl (bZ kvs (.inr x)).isSome) H
theorem oK(D:Defs K mg t):aW P w K mg base CX0 1 t.cM.1 t.cM.2 ["thing","kinds"] lM:=by
 refine D.cM.fn.ok pA (fun vs H Q E h=>?_) (fun cdv A outer s H vs Q E hr h=>?_)
 ·obtain ⟨x,d,kvs,rfl,_⟩:=h
  rfl
 ·obtain ⟨x,d,kvs,rfl,hd,k⟩:=h
  refine⟨_,(aF (aQ (iM (aO bR (by rfl) D.bM bI (aj (pv 0) (aj (fQ (v:=V.ty "str") rfl D.uG pH rfl) aA))) (ji (Cr (yg (cY hr) (pv 0) (pv 1))))))),?_⟩
  exact⟨_,rfl,_,_,_,true,rfl,.str x,iu K "str",_,rfl,dZ ⟨_,rfl,_,rfl,d,_,rfl,.inl ⟨kvs,.inr x,hd,rfl,rfl⟩,k⟩⟩
def pR:Sp:=fun vs H Q _=>∃(x:Str) (d:Addr) (kvs:List (Key × V)),vs=[.str x,.ref d]∧Rd H d (.dK kvs)∧(bZ kvs (.inr x)).isSome=true∧Q .non H
theorem sJ(D:Defs K mg t):aW P w K mg base CX0 2 t.cO.1 t.cO.2 ["kind","kinds"] pR:=by
 have G_is_kind:aW P w K mg base CX0 1 t.cM.1 t.cM.2 _ lM:=oK D
 refine D.cO.fn.ok oX (fun vs H Q E h=>?_) (fun cdv A outer s H vs Q E hr h=>?_)
 ·obtain ⟨x,d,kvs,rfl,_⟩:=h
  rfl
 ·obtain ⟨x,d,kvs,rfl,hd,hx,k⟩:=h
  refine⟨_,(aF (bQ (jG (d9 (aH D.cM G_is_kind (hr.mono (by omega)) (by rfl) (aj (pv 0) (aj (pv 1) aA)))))
   (aF mD)
   aY)),?_⟩
  refine⟨_,rfl,_,rfl,x,d,kvs,rfl,hd,_,rfl,?_⟩
  rw [hx]
  exact fY k
theorem uf{f:Fam}(G:eO f){r:Str × List Str}(hr:r∈f)(hall:∀ x∈r.2,(bU f x).isSome=true):tot (dh (bU f) r.2)≤100∧(dh (bU f) r.2).length≤8∧((∀ q∈dh (bU f) r.2,q≠[])∨∀ q∈dh (bU f) r.2,q=[]):=by
 have e7:=G.el r hr
 have ord:∀ x∈r.2,∃ o,bU f x=some o∧o≠[]∧o.length≤8:=fun x hx=>by
  obtain ⟨o,ho⟩:=ff.mp (hall x hx)
  obtain ⟨h1,_,h3⟩:=Gd G x (G.sub r hr x hx) o ho
  exact⟨o,ho,h1,h3⟩
 have tl:∀ es:List Str,(∀ x∈es,x∈r.2)→tot (es.map fun e=>(bU f e).getD [])≤8 * es.length:=by
  intro es
  induction es with
  | nil=>exact fun _=>am _
  | cons x es ih=>
   intro h
   rw [eL,gW,dQ]
   obtain ⟨o,ho,_,h3⟩:=ord x (h x aT)
   have:=ih fun y hy=>h y (cz _ hy)
   have:((bU f x).getD []).length≤8:=by rw [ho]; exact h3
   omega
 have ta:tot (dh (bU f) r.2)=tot (r.2.map fun e=>(bU f e).getD [])+r.2.length:=by
  unfold dh tot
  rw [aw,nL]
  simp
 refine⟨?_,?_,?_⟩
 ·rw [ta]
  have:=tl r.2 fun _ h=>h
  omega
 ·unfold dh
  rw [bz,aa,dm]
  omega
 ·cases hes:r.2 with
  | nil=>
   right
   intro q hq
   exact aS.mp hq
  | cons x0 xr=>
   left
   intro q hq
   rw [← hes] at hq
   rcases bS.mp hq with h | h
   ·obtain ⟨x,hx,rfl⟩:=bg.mp h
    obtain ⟨o,ho,h1,_⟩:=ord x hx
    rw [ho]
    exact h1
   ·rw [aS.mp h,hes]
    exact jS _ _
theorem GC.f{H:Hp}{f:Fam}(G:eO f){r:Str × List Str}(hr:r∈f)(hall:∀ x∈r.2,(bU f x).isSome=true){q:Addr}{m:Option (List Str)}(hm:Mg (full (dh (bU f) r.2)) m)(h:GC H r.1 m q):wB H f r.1 q:=by
 have e:=pB G hr
 rw [ck (eQ.mpr hall),lV hm] at e
 cases m with
 | none=>
  obtain ⟨a,rg,h⟩:=h
  exact .inr ⟨e,a,rg,h⟩
 | some os=>
  obtain ⟨qo,h1,h2⟩:=h
  exact .inl ⟨r.1::os,qo,e,h1,h2⟩
def KIn(kvs:List (Key × V))(f:Fam):Prop:=∀ k,(bZ kvs k).isSome=true→∃ x∈nms f,k=Sum.inr x
def Gz:Sp:=fun vs H Q _=>∃(v:V) (f:Fam),vs=[v]∧Dp H (J1 f) v∧eO f∧∀(d:Addr) (kvs:List (Key × V)) H',H d=none→H' d=some (.dK kvs)→jZ H' kvs f (·∈nms f)→KIn kvs f→kvs.length≤7→Same H H'→Q (.ref d) H'
theorem KY(D:Defs K mg t):aW P w K mg base CX0 4 t.fO.1 t.fO.2 ["family"] Gz:=by
 have G_elders_first:aW P w K mg base CX0 1 t.dR.1 t.dR.2 _ Ak:=Ef D
 have G_quarrel_among:aW P w K mg base CX0 1 t.bN.1 t.bN.2 _ wj:=Ba D
 have G_rows_by:aW P w K mg base CX0 1 t.jL.1 t.jL.2 _ zJ:=Fg D
 have G_merge_rows:aW P w K mg base CX0 3 t.gC.1 t.gC.2 _ Dv:=G8 D
 have hz:sizeLine=16777216:=cK
 refine D.fO.fn.ok iw (fun vs H Q E h=>?_) (fun cdv A outer s H vs Q E hr h=>?_)
 ·obtain ⟨v,f,rfl,_⟩:=h
  rfl
 ·obtain ⟨v,f,rfl,dv,gf,k⟩:=h
  obtain ⟨a,xs,rfl,ha,dl⟩:=L2.Dp.cR dv
  obtain ⟨kvs0,hpr,el⟩:=qT dl
  have hkl:kvs0.length=f.length:=el.len
  have f7:=gf.len
  refine⟨_,(aD (aP (i:=1) iw.nd rfl (Or.inl rfl) (bG (tV rfl) (by rfl) D.Ca yu (aj (pv 0) aA)))
   (aD (aP (i:=2) iw.nd rfl (Or.inl rfl) j9)
   (aD (gR dS rfl (cU (aH D.dR G_elders_first (hr.mono (by omega)) (by rfl) (aj (pv 0) aA))) (aN (i:=3) iw.nd rfl (Or.inl rfl))
   (aD (aP (i:=4) iw.nd rfl (Or.inl rfl) (aH D.bN G_quarrel_among (hr.mono (by omega)) (by rfl) (aj (dF (cY hr) (pv 1) (pv 3) (fun _ _=>rfl)) (aj (pv 2) aA))))
   (aF (bQ (aV lF (pv 4) eV (bx _))
   (aF (jR (cY hr) (pv 2) (pv 3) (aH D.gC G_merge_rows (hr.mono (by omega)) (by rfl) (aj (pv 3) (aj (aH D.jL G_rows_by (hr.mono (by omega)) (by rfl) (aj (dF (cY hr) (pv 1) (pv 3) (fun _ _=>rfl)) (aj (pv 2) aA))) aA))) rfl))
   (aF (jR (cY hr) (pv 2) (pv 3) (pv 4) rfl))))))
   (aF (aQ (pv 2)))))),?_⟩
  refine⟨_,rfl,a,xs,kvs0,rfl,ha,hpr,by omega,fun d hd=>?_⟩
  rw [el.merge gf.nd]
  have s1:Same H (upd H d (.dK kvs0)):=Same.new hd
  have hd1:(upd H d (.dK kvs0)) d=some (.dK kvs0):=ak
  generalize upd H d (.dK kvs0)=H1 at s1 hd1
  intro td htd
  have s2:Same H1 (upd H1 td (.dK [])):=Same.new htd
  have htd2:(upd H1 td (.dK [])) td=some (.dK []):=ak
  have htdH:H td=none:=by
   cases q:H td with
   | none=>rfl
   | some o=>
    rw [s1 td o q] at htd
    cases htd
  have dtd:d≠td:=aB hd1 htd
  have htd1:=htd
  generalize upd H1 td (.dK [])=H2 at s2 htd2
  refine⟨_,rfl,.ref a,f,rfl,dv.mono (Same.tups (s1.trans s2)),gf,fun q pl H3 hq T allp s3=>⟨q,rfl,⟨_,SqT.of hq⟩,?_⟩⟩
  have hd3:=s3 d _ (s2 d _ hd1)
  have htd3:=s3 td _ htd2
  have qtd:q≠td:=eG hq htd3 (fun z=>nomatch z)
  have sm3:Same H H3:=(s1.trans s2).trans s3
  refine nW (K:=K) (a:=q) (xs:=pl.map V.str) (fun i σ H4=>∃(kvs:List (Key × V)) (v3 v4:Option V),σ=[some (.ref a),some (.ref d),some (.ref td),v3,v4]∧H4 td=some (.dK kvs)∧(kvs.length≤i∧KIn kvs f)∧jZ H4 kvs f (·∈pl.take i)∧∀ b u,b≠td→H3 b=some u→H4 b=some u)
   ⟨[],_,_,rfl,htd3,⟨am _,(fun k h=>nomatch h)⟩,by intro x hx; simp at hx,fun b u _ e=>e⟩ (fun i σ H4 _ ⟨_,_,_,_,_,_,_,kp⟩=>SqT.of (kp q _ qtd hq)) ?_ ?_
  ·rintro i x σ H4 hi ⟨kvs,v3,v4,rfl,htd4,⟨kl,ki⟩,told,kp4⟩
   have hil:i < pl.length:=by
    have:=(bj.mp hi).1
    rwa [aa] at this
   have ex:x=.str pl[i]:=by
    rw [bc,ae hil] at hi
    exact(dE hi).symm
   subst ex
   obtain ⟨r,hr',er⟩:=bg.mp (T.sub _ (cn hil))
   have er:r.1=pl[i]:=er
   rw [← er]
   have hesub:∀ e∈r.2,e∈pl.take i:=T.el i r hr' (by rw [ae hil,er])
   have sm4:Same H H4:=fun b u e=>kp4 b u (aB e htdH) (sm3 b u e)
   have hd4:=kp4 d _ dtd hd3
   obtain ⟨e,he1,he2⟩:=el.get gf.nd r hr'
   have he4:=sm4 e _ he2
   have gd:∀ {H5:Hp},H5 d=some (.dK kvs0)→kO H5 d (.str r.1) (some (.ref e)):=fun {H5} h=>.inl ⟨kvs0,.inr r.1,.inl h,rfl,he1.symm⟩
   have plx:pl.length≤7:=by
    have h1:=cL T.nd (m:=nms f) T.sub
    have h2:(nms f).length=f.length:=aa _
    omega
   have toldE:jZ H4 kvs f (·∈r.2):=fun y hy=>told y (hesub y hy)
   have store:∀(q5:Addr) (H5:Hp) (v4:Option V),Same H4 H5→wB H5 f r.1 q5→∃ (kvs':List (Key × V)) (v3' v4':Option V),([some (.ref a),some (.ref d),some (.ref td),some (.str r.1),v4]:L2.St)=[some (.ref a),some (.ref d),some (.ref td),v3',v4']∧(upd H5 td (.dK (putK kvs (.inr r.1) (.ref q5)))) td=some (.dK kvs')∧(kvs'.length≤i+1∧KIn kvs' f)∧jZ (upd H5 td (.dK (putK kvs (.inr r.1) (.ref q5)))) kvs' f (·∈pl.take (i+1))∧∀ b u,b≠td→H3 b=some u→(upd H5 td (.dK (putK kvs (.inr r.1) (.ref q5)))) b=some u:=fun q5 H5 v4 s5 ht=>by
    have tu:gD H5 (upd H5 td (.dK (putK kvs (.inr r.1) (.ref q5)))):=fun c zs e'=>by
     rw [au (eG e' (s5 td _ htd4) (fun z=>nomatch z))]
     exact e'
    refine⟨_,_,_,rfl,ak,⟨?_,fun z hz=>?_⟩,fun y hy=>?_,fun b u hb e'=>by rw [au hb]; exact s5 b _ (kp4 b u hb e')⟩
    ·have:=gB kvs (.inr r.1) (.ref q5)
     omega
    ·rw [jC] at hz
     by_cases hzr:z=Sum.inr r.1
     ·exact⟨r.1,bg.mpr ⟨r,hr',rfl⟩,hzr⟩
     ·rw [bX hzr] at hz
      exact ki z hz
    ·rw [jC]
     by_cases hyr:y=r.1
     ·subst hyr
      exact⟨q5,ck rfl,ht.mono tu⟩
     ·rw [take_snoc hil] at hy
      rcases bS.mp hy with h | h
      ·obtain ⟨q6,h1,h2⟩:=told y h
       exact⟨q6,by rw [bX (by intro z; injection z with z; exact hyr z)]; exact h1,(h2.mono (Same.tups s5)).mono tu⟩
      ·exact absurd ((aS.mp h).trans er.symm) hyr
   refine⟨_,rfl,_,rfl,d,.ref e,rfl,gd hd4,_,rfl,e,td,r.2,kvs,f,rfl,he4,.inl htd4,toldE,fun hall=>?_,fun hnot q5 a5 rg5 hq5=>?_⟩
   ·refine⟨_,rfl,rfl,_,rfl,iR (ay rfl) ?_⟩
    obtain ⟨t1,t2,t3⟩:=uf gf hr' hall
    refine⟨_,rfl,_,rfl,_,rfl,d,.ref e,rfl,gd hd4,_,rfl,e,td,r.2,kvs,f,rfl,he4,.inl htd4,toldE,hall,by have:=gf.el r hr'; omega,fun q5 us5 H5 hq5 rt5 s5=>?_⟩
    refine⟨r.1,q5,us5,dh (bU f) r.2,rfl,hq5,rt5,t3,by omega,by omega,fun q6 m H6 hm ht s6=>?_⟩
    refine⟨_,rfl,_,rfl,td,_,rfl,rC.k (k:=.inr r.1) ((s5.trans s6) td _ htd4) (by omega),?_⟩
    exact store q6 H6 _ (s5.trans s6) (ht.f gf hr' hall hm)
   ·refine⟨_,rfl,rfl,_,rfl,iQ (by rw [bv (by intro z; cases z)]; exact aE) ?_⟩
    refine⟨_,rfl,_,rfl,_,rfl,td,_,rfl,rC.k (k:=.inr r.1) htd4 (by omega),?_⟩
    refine store q5 H4 _ (Same.refl H4) (.inr ⟨?_,a5,rg5,hq5⟩)
    rw [pB gf hr',bX (fun h=>hnot (eQ.mp h))]
  ·rintro σ H4 ⟨kvs,v3,v4,rfl,htd4,⟨kl,ki⟩,told,kp4⟩
   rw [aa] at kl told
   rw [av (am _)] at told
   have plx:pl.length≤7:=by
    have h1:=cL T.nd (m:=nms f) T.sub
    have h2:(nms f).length=f.length:=aa _
    omega
   exact⟨_,rfl,k td kvs H4 htdH htd4 (fun x hx=>told x (allp x hx)) ki (by omega) fun b u e=>kp4 b u (aB e htdH) (sm3 b u e)⟩
end
end K17
end
section
namespace K17
open PySem PyProof.Rows L2
section
variable {P:Program}{w:World}{K:PySem.W.Frag}{mg:Str→Option Value}{base:Heap}{t:Adr}
def wZ:Sp:=fun vs H Q _=>∃(d:Addr) (x:Str) (kvs:List (Key × V)) (f:Fam),vs=[.ref d,.str x]∧Rd H d (.dK kvs)∧jj H kvs f∧eO f∧x∈nms f∧
 ∀(r:Addr) (rs:List Str) H',H r=none→H' r=some (.dK (gZ rs))→(∀ y,y∈rs↔Reach f x y)→Same H H'→Q (.ref r) H'
theorem Ce(D:Defs K mg t):aW P w K mg base CX0 1 t.dO.1 t.dO.2 ["elders_of","kind"] wZ:=by
 have hz:sizeLine=16777216:=cK
 refine D.dO.fn.ok jc (fun vs H Q E h=>?_) (fun cdv A outer s H vs Q E hr h=>?_)
 ·obtain ⟨d,x,kvs,f,rfl,_⟩:=h
  rfl
 ·obtain ⟨d,x,kvs,f,rfl,hd,el,gf,hx,k⟩:=h
  have nd:=gf.nd
  have row:∀ y∈nms f,∃ r∈f,r.1=y:=fun y hy=>by
   obtain ⟨r,hr,e⟩:=bg.mp hy
   exact⟨r,hr,e⟩
  have uniq:∀ r∈f,∀ r'∈f,r.1=r'.1→r=r':=fun r hr r' hr' e=>by
   obtain ⟨i,hi,rfl⟩:=fc hr
   obtain ⟨j,hj,rfl⟩:=fc hr'
   have hi':i < (nms f).length:=by rw [show (nms f).length=f.length from aa _]; exact hi
   have hj':j < (nms f).length:=by rw [show (nms f).length=f.length from aa _]; exact hj
   have:(nms f)[i]=(nms f)[j]:=by
    show (f.map (·.1))[i]=(f.map (·.1))[j]
    rw [gp,gp]
    exact e
   have:=(List.getElem_inj nd).mp this
   subst this
   rfl
  have rdK:∀ {H2:Hp},Same H H2→Rd H2 d (.dK kvs):=fun {H2} s=>by
   rcases hd with h | ⟨o,h⟩
   ·exact .inl (s d _ h)
   ·exact .inr ⟨o,s d _ h⟩
  refine⟨_,(aD (aP (i:=2) jc.nd rfl (Or.inl rfl) j9)
   (aD (aP (i:=3) jc.nd rfl (Or.inl rfl) (bG mW (by rfl) D.xM rY (aj (dF (cY hr) (pv 0) (pv 1) (fun _ _=>rfl)) aA)))
   (aD (mq dS (qu (pv 3) (by intro _; rfl))
   (aD (aP (i:=4) jc.nd rfl (Or.inl rfl) (Nf fh PySem.F.slot_list_pop PySem.F.type_list_pop Nu (pv 3)))
   (aF (bQ (qZ (mC (cY hr) (pv 4) (pv 2)))
   (aD (jR (cY hr) (pv 2) (pv 4) nR rfl)
   (aF (jd (qx fh PySem.F.slot_list_extend PySem.F.type_list_extend Bx (pv 3) (aj (dF (cY hr) (pv 0) (pv 4) (fun _ _=>rfl)) aA)))))
   aY))))
   (aF (aQ (pv 2)))))),?_⟩
  intro r hr0
  obtain ⟨rx,hrx,erx⟩:=row x hx
  obtain ⟨e0,he0,hE0⟩:=el.get nd rx hrx
  rw [erx] at he0
  have s1:Same H (upd H r (.dK [])):=Same.new hr0
  refine⟨_,rfl,_,rfl,d,.ref e0,rfl,.inl ⟨kvs,.inr x,rdK s1,rfl,he0.symm⟩,e0,_,rfl,.inr (SqT.of (s1 e0 _ hE0)),fun wl hwl=>?_⟩
  have rw':r≠wl:=aB ak hwl
  have hwlH:H wl=none:=by
   rw [au rw'.symm] at hwl
   exact hwl
  refine⟨fun m σ H2=>∃(rs ws:List Str) (v4:Option V),σ=[some (.ref d),some (.str x),some (.ref r),some (.ref wl),v4]∧m=(7 - rs.length) * 8+ws.length∧m≤100∧H2 r=some (.dK (gZ rs))∧H2 wl=some (.lst (ws.map V.str))∧rs.Nodup∧
   (∀ y∈rs,Reach f x y)∧(∀ y∈ws,Reach f x y)∧(∀ z,z=x∨z∈rs→∀ y,tO f z y→y∈rs∨y∈ws)∧Same H H2,?_,?_⟩
  ·refine⟨_,[],rx.2,_,rfl,rfl,?_,?_,ak,iL,by simp,?_,?_,s1.trans (Same.new hwl)⟩
   ·have:=gf.el rx hrx
    show (7 - 0) * 8+rx.2.length≤100
    omega
   ·rw [au rw',ak]
    rfl
   ·exact fun y hy=>.one ⟨rx,hrx,erx,hy⟩
   ·intro z hz' y hE
    rcases hz' with rfl | h
    ·obtain ⟨r2,hr2,e2,hy⟩:=hE
     have:=uniq r2 hr2 rx hrx (by rw [e2,erx])
     subst this
     exact .inr hy
    ·simp at h
  ·rintro m σ H2 ⟨rs,ws,v4,rfl,hm,hm100,hr2,hw2,ndr,sr,sw,cl,sm⟩
   have hrl:rs.length≤7:=by
    have:=cL ndr (m:=nms f) fun y hy=>oM gf (sr y hy)
    have e:(nms f).length=f.length:=aa _
    have:=gf.len
    omega
   refine⟨_,rfl,_,.inl ⟨_,SqL.of hw2,rfl⟩,?_⟩
   cases hws:ws with
   | nil=>
    refine fY ⟨_,rfl,?_⟩
    subst hws
    refine k r rs H2 hr0 hr2 (fun y=>⟨sr y,fun hy=>?_⟩) sm
    have key:∀ a y,Reach f a y→(a=x∨a∈rs)→y∈rs:=by
     intro a y h
     induction h with
     | one e=>
      intro ha
      rcases cl _ ha _ e with h | h
      ·exact h
      ·cases h
     | step e _ ih=>
      intro ha
      rcases cl _ ha _ e with h | h
      ·exact ih (.inr h)
      ·cases h
    exact key x y hy (.inl rfl)
   | cons w0 wr=>
    obtain ⟨ws',y,hcat⟩:∃ ws' y,ws=ws'++[y]:=⟨ws.dropLast,ws.getLast (by rw [hws]; simp),(List.dropLast_concat_getLast _).symm⟩
    rw [← hws]
    clear hws w0 wr
    subst hcat
    have hne:(!((ws'++[y]).map V.str).isEmpty)=true:=by simp
    rw [hne]
    rw [bz,dm] at hm
    refine dZ ⟨fun σ' H'=>∃ m',m' < m∧∃(rs ws:List Str) (v4:Option V),σ'=[some (.ref d),some (.str x),some (.ref r),some (.ref wl),v4]∧m'=(7 - rs.length) * 8+ws.length∧m'≤100∧H' r=some (.dK (gZ rs))∧H' wl=some (.lst (ws.map V.str))∧rs.Nodup∧
     (∀ y∈rs,Reach f x y)∧(∀ y∈ws,Reach f x y)∧(∀ z,z=x∨z∈rs→∀ y,tO f z y→y∈rs∨y∈ws)∧Same H H',fun σ' H' h=>h,?_⟩
    have elast:((ws'++[y]).map V.str)[((ws'++[y]).map V.str).length - 1]?=some (.str y):=by
     rw [aw,bz]
     simp
    have edrop:((ws'++[y]).map V.str).dropLast=ws'.map V.str:=by
     rw [aw]
     exact List.dropLast_concat
    refine⟨_,rfl,.inl ⟨rfl,_,SqL.of hw2⟩,wl,_,_,rfl,rfl,hw2,elast,?_⟩
    rw [edrop]
    have wr':wl≠r:=rw'.symm
    have sm3:Same H (upd H2 wl (.lst (ws'.map V.str))):=fun b o e=>by
     rw [au (aB e hwlH)]
     exact sm b o e
    have hr3:(upd H2 wl (.lst (ws'.map V.str))) r=some (.dK (gZ rs)):=by rw [au rw']; exact hr2
    have hyR:Reach f x y:=sw y (cE _ aT)
    refine⟨_,rfl,_,rfl,r,_,rfl,kO.k (k:=.inr y) hr3,_,rfl,eX (fun hb=>?_) (fun hb=>?_)⟩
    ·have hyn:¬ y∈rs:=fun h=>by
      have:=(iU rs y).mpr h
      have hb:(!(bZ (gZ rs) (.inr y)).isSome)=true:=hb
      rw [this] at hb
      cases hb
     refine⟨_,rfl,_,rfl,r,_,rfl,rC.k (k:=.inr y) hr3 (by unfold gZ; rw [aa]; omega),?_⟩
     rw [tD hyn]
     obtain ⟨ry,hry,ery⟩:=row y (oM gf hyR)
     obtain ⟨e1,he1,hE1⟩:=el.get nd ry hry
     rw [ery] at he1
     have sm4:Same H (upd (upd H2 wl (.lst (ws'.map V.str))) r (.dK (gZ (rs++[y])))):=fun b o e=>by
      rw [au (aB e hr0)]
      exact sm3 b o e
     have hw4:(upd (upd H2 wl (.lst (ws'.map V.str))) r (.dK (gZ (rs++[y])))) wl=some (.lst (ws'.map V.str)):=by rw [au wr',ak]
     have el7:=gf.el ry hry
     refine⟨_,rfl,.inl ⟨rfl,_,SqL.of hw4⟩,_,rfl,_,rfl,d,.ref e1,rfl,.inl ⟨kvs,.inr y,rdK sm4,rfl,he1.symm⟩,wl,e1,_,_,rfl,rfl,hw4,sm4 e1 _ hE1,by rw [aa,aa]; omega,?_⟩
     have hlt:rs.length < 7:=by
      have h1:=cL (oA ndr hyn) (m:=nms f) fun z hz'=>by
       rcases bS.mp hz' with h | h
       ·exact oM gf (sr z h)
       ·rw [aS.mp h]
        exact oM gf hyR
      have e:(nms f).length=f.length:=aa _
      have:=gf.len
      rw [bz,dm] at h1
      omega
     refine⟨(7 - (rs++[y]).length) * 8+(ws'++ry.2).length,?_,rs++[y],ws'++ry.2,_,rfl,rfl,?_,?_,?_,oA ndr hyn,?_,?_,?_,?_⟩
     ·rw [bz,bz,dm]
      omega
     ·rw [bz,bz,dm]
      omega
     ·rw [au rw',ak]
     ·rw [ak,aw]
     ·intro z hz'
      rcases bS.mp hz' with h | h
      ·exact sr z h
      ·rw [aS.mp h]
       exact hyR
     ·intro z hz'
      rcases bS.mp hz' with h | h
      ·exact sw z (dP _ h)
      ·exact hyR.trans (.one ⟨ry,hry,ery,h⟩)
     ·intro z hz' q hE
      have old:z=x∨z∈rs→q∈rs++[y]∨q∈ws'++ry.2:=fun h=>by
       rcases cl z h q hE with h | h
       ·exact .inl (dP _ h)
       ·rcases bS.mp h with h | h
        ·exact .inr (dP _ h)
        ·rw [aS.mp h]
         exact .inl (cE _ aT)
      rcases hz' with h | h
      ·exact old (.inl h)
      ·rcases bS.mp h with h | h
       ·exact old (.inr h)
       ·have ez:=aS.mp h
        subst ez
        obtain ⟨r2,hr2',e2,hq⟩:=hE
        have:=uniq r2 hr2' ry hry (by rw [e2,ery])
        subst this
        exact .inr (cE _ hq)
     ·intro b o e
      rw [au (aB e hwlH)]
      exact sm4 b o e
    ·have hyn:y∈rs:=by
      have hb:¬ (!(bZ (gZ rs) (.inr y)).isSome)=true:=hb
      refine(iU rs y).mp ?_
      cases q:(bZ (gZ rs) (.inr y)).isSome with
      | true=>rfl
      | false=>rw [q] at hb; exact absurd rfl hb
     refine⟨(7 - rs.length) * 8+ws'.length,by omega,rs,ws',_,rfl,rfl,by omega,hr3,ak,ndr,sr,fun z hz'=>sw z (dP _ hz'),?_,sm3⟩
     intro z hz' q hE
     rcases cl z hz' q hE with h | h
     ·exact .inl h
     ·rcases bS.mp h with h | h
      ·exact .inr h
      ·rw [aS.mp h]
       exact .inl hyn
end
end K17
end
section
namespace K17
open PySem PyProof.Rows L2
section
variable {P:Program}{w:World}{K:PySem.W.Frag}{mg:Str→Option Value}{base:Heap}{t:Adr}
theorem lA{p:Str→Bool}{l:List Str}{i:Nat}{x:Str}(e:l[i]?=some x):(l.take (i+1)).filter p=(l.take i).filter p++(if p x=true then [x] else []):=by
 rw [ii,e,eS]
 congr 1
 show List.filter p [x]=_
 rw [dk]
 split <;> rfl
def wR:Sp:=fun vs H Q _=>∃(v:V) (x:Str) (f:Fam),vs=[v,.str x]∧Dp H (J1 f) v∧eO f∧x∈nms f∧∀(q:Addr) H',H' q=some (.tup ((K17.below f x).map V.str))→Same H H'→Q (.ref q) H'
theorem Bg(D:Defs K mg t):aW P w K mg base CX0 3 t.beneath.1 t.beneath.2 ["family","kind"] wR:=by
 have G_check_kind:aW P w K mg base CX0 2 t.cO.1 t.cO.2 _ pR:=sJ D
 have G_reached_from:aW P w K mg base CX0 1 t.dO.1 t.dO.2 _ wZ:=Ce D
 have hz:sizeLine=16777216:=cK
 refine D.beneath.fn.ok uY (fun vs H Q E h=>?_) (fun cdv A outer s H vs Q E hr h=>?_)
 ·obtain ⟨v,x,f,rfl,_⟩:=h
  rfl
 ·obtain ⟨v,x,f,rfl,dv,gf,hx,k⟩:=h
  obtain ⟨a,xs,rfl,ha,dl⟩:=L2.Dp.cR dv
  obtain ⟨kvs,hpr,el⟩:=qT dl
  have hkl:kvs.length=f.length:=el.len
  have f7:=gf.len
  have hnl:(nms f).length=f.length:=aa _
  refine⟨_,(aD (aP (i:=2) uY.nd rfl (Or.inr rfl) (bG (tV rfl) (by rfl) D.Ca yu (aj (pv 0) aA)))
   (aD (jd (aH D.cO G_check_kind (hr.mono (by omega)) (by rfl) (aj (pv 1) (aj (pv 2) aA))))
   (aF (aQ (bG bD (by rfl) D.cV bY (aj (Jo rfl (aL.of ["name"] [1,2] ["name","kind","elders_of"] (aq (top 16)) ["family","kind","elders_of"] rfl rfl (by decide +kernel)) ⟨fun _ _ _ _ _=>(aN (i:=0) (show List.Nodup [("name" : Str),("kind" : Str),("elders_of" : Str)] by decide +kernel) rfl (Or.inl (af rfl)) (.inr (af rfl))),fun _ _ _ _ _=>(dM (qZ (yg (cY hr) (pv 1) (aH D.dO G_reached_from (hr.mono (by omega)) (by rfl) (aj (pv 2) (aj (pv 0) aA)))))),fun _ _ _ _ _=>(pv 0)⟩ (pv 2)) aA)))))),?_⟩
  refine⟨_,rfl,a,xs,kvs,rfl,ha,hpr,by omega,fun d hd=>?_⟩
  rw [el.merge gf.nd]
  have s1:Same H (upd H d (.dK kvs)):=Same.new hd
  have el1:=el.mono (Same.tups s1)
  refine⟨_,rfl,_,rfl,x,d,kvs,rfl,.inl ak,(el.has x).mpr hx,?_⟩
  refine⟨_,rfl,d,kvs,rfl,ak,fun o D' hD'=>?_⟩
  rw [bO] at hD' ⊢
  have D'd:D'≠d:=fun e=>by rw [e,ak] at hD'; cases hD'
  have hDH:H D'=none:=by rw [au D'd] at hD'; exact hD'
  have elf:∀ {H3:Hp},gD H H3→jj H3 kvs f:=fun {H3} h=>el.mono h
  refine bA (n:=kvs.length) (fun i ys H3=>ys=(((nms f).take i).filter fun o=>dcd (Reach f o x)).map V.str∧H3 D'=some (.lst ys)∧H3 d=some (.frz o (.dK kvs))∧Same H H3) ⟨rfl,ak,by rw [au D'd.symm,ak],fun b o' e=>by rw [au (aB e hDH),au (aB e hd)]; exact e⟩ ?_ ?_
  ·rintro ys H3 ⟨rfl,hD3,hd3,s3⟩
   rw [av (by omega)] at hD3
   refine⟨⟨hd3,am _⟩,hd3,D',_,rfl,.inl ⟨SqL.of (by rw [au D'd]; exact hD3),fun q hq=>?_⟩⟩
   refine k q _ ak fun b o' e=>?_
   have bd:b≠d:=aB e hd
   have e2:=s3 b _ e
   have bq:b≠q:=fun z=>by
    rw [← z,au bd,e2] at hq
    cases hq
   rw [au bq,au bd]
   exact e2
  ·rintro i ys H3 hi ⟨rfl,hD3,hd3,s3⟩
   refine⟨⟨hd3,hi⟩,?_⟩
   rintro y H4 ⟨rfl,kv,ekv,rfl⟩ σo ho
   obtain ⟨oo,rfl⟩:=own1 ho
   obtain ⟨row,er,ek,en⟩:=el.at ekv
   rw [ek]
   have hlen:((((nms f).take i).filter fun o=>dcd (Reach f o x)).map V.str).length≤7:=by
    rw [aa]
    refine dC (de _ _) ?_
    rw [br]
    omega
   have hrow:row.1∈nms f:=eJ en
   refine⟨⟨[_],rfl,rfl⟩,_,rfl,_,rfl,_,rfl,d,row.1,kvs,f,rfl,.inr ⟨o,hd3⟩,elf (Same.tups s3),gf,hrow,fun r rs H5 hr0 hr5 hrs s5=>⟨r,_,rfl,kO.k (k:=.inr x) hr5,_,rfl,eX (fun hb=>?_) (fun hb=>?_)⟩⟩
   ·have hR:Reach f row.1 x:=(hrs _).mp ((iU rs x).mp hb)
    refine⟨_,rfl,by omega,s5 D' _ hD3,aR hi ⟨?_,ak,by rw [au D'd.symm]; exact s5 d _ hd3,fun b o' e=>?_⟩⟩
    ·rw [lA en,ck (je hR),aw]
     rfl
    ·rw [au (aB e hDH)]
     exact s5 b _ (s3 b _ e)
   ·have hR:¬ Reach f row.1 x:=fun h=>hb ((iU rs x).mpr ((hrs _).mpr h))
    have e:((((nms f).take (i+1)).filter fun o=>dcd (Reach f o x)).map V.str)=(((nms f).take i).filter fun o=>dcd (Reach f o x)).map V.str:=by
     rw [lA en,bX (by rw [iW hR]; exact aE),eB]
    exact aR hi ⟨e.symm,s5 D' _ hD3,s5 d _ hd3,s3.trans s5⟩
end
end K17
end
section
namespace K17
open PySem L2
theorem Ew{rows:List (List Str)}{x:Str}(h:x∈frees rows):∀ q∈rows,¬ x∈q.drop 1:=by
 obtain ⟨r,hr,hx⟩:=List.mem_flatMap.mp h
 cases r with
 | nil=>cases hx
 | cons y r=>
  have hx:x∈(if cC rows y=true then [] else [y]):=hx
  by_cases hh:cC rows y=true
  ·rw [ck hh] at hx
   cases hx
  ·rw [bX hh] at hx
   rw [aS.mp hx]
   intro q hq hin
   refine hh ?_
   unfold cC
   rw [gL]
   exact⟨q,hq,ay hin⟩
theorem uK{x:Str}{q:List Str}(h:¬ x∈q):bT x q=q:=by
 unfold bT
 rw [nV]
 intro y hy
 exact ay fun e=>h (e ▸ hy)
theorem Mg.keeps{rows:List (List Str)}{r:Option (List Str)}(h:Mg rows r):∀ os,r=some os→∀ q∈rows,q.Sublist os:=by
 induction h with
 | nil=>intro os _ q hq; cases hq
 | stuck _ _=>intro os e; cases e
 | @step rows x more r hf _ ih=>
  intro os e q hq
  cases r with
  | none=>cases e
  | some os'=>
   cases e
   have hx:x∈frees rows:=by rw [hf]; exact aT
   have hd:=Ew hx q hq
   have key:∀ p:List Str,bT x q=p→p.Sublist os':=fun p e=>by
    cases p with
    | nil=>exact List.nil_sublist _
    | cons y p=>
     refine ih os' rfl _ (bE.mpr ⟨bg.mpr ⟨q,hq,e⟩,rfl⟩)
   cases q with
   | nil=>exact List.nil_sublist _
   | cons y q'=>
    have hd:¬ x∈q':=hd
    by_cases hyx:y=x
    ·subst hyx
     refine List.Sublist.cons_cons y (key q' ?_)
     have:bT y (y::q')=bT y q':=by
      unfold bT
      rw [dk]
      simp
     rw [this,uK hd]
    ·refine List.Sublist.cons x (key (y::q') (uK ?_))
     intro h
     rcases bu.mp h with h | h
     ·exact hyx h.symm
     ·exact hd h
variable {f:Fam}
theorem wX(G:eO f){top:List Str}(t0:top.Nodup)(t2:∀ r∈f,∃ j,top[j]?=some r.1∧∀ e∈r.2,e∈top.take j){a b:Str}(h:tO f a b):∀(j:Nat),top[j]?=some a→∃(i:Nat),i < j∧top[i]?=some b:=by
 obtain ⟨r,hr,rfl,hb⟩:=h
 intro j hj
 obtain ⟨j',h1,h2⟩:=t2 r hr
 have:=jM t0 hj h1
 subst this
 exact ig (h2 b hb)
theorem tK(G:eO f){top:List Str}(t0:top.Nodup)(t2:∀ r∈f,∃ j,top[j]?=some r.1∧∀ e∈r.2,e∈top.take j){a b:Str}(h:Reach f a b):∀(j:Nat),top[j]?=some a→∃(i:Nat),i < j∧top[i]?=some b:=by
 induction h with
 | one e=>exact wX G t0 t2 e
 | step e _ ih=>
  intro j hj
  obtain ⟨i,hi,ei⟩:=wX G t0 t2 e j hj
  obtain ⟨k,hk,ek⟩:=ih i ei
  exact⟨k,by omega,ek⟩
theorem vZ(G:eO f):∀ x∈nms f,∀ o,bU f x=some o→∃ os,o=x::os∧o.Nodup∧(∀ y,y∈os↔Reach f x y)∧∀ y∈o,∃ oy,bU f y=some oy∧oy.Sublist o∧(vI f y).Sublist oy:=by
 obtain ⟨top,t0,t1,t2⟩:=G.vL
 have key:∀(j:Nat) (x:Str),top[j]?=some x→∀ o,bU f x=some o→∃ os,o=x::os∧o.Nodup∧(∀ y,y∈os↔Reach f x y)∧∀ y∈o,∃ oy,bU f y=some oy∧oy.Sublist o∧(vI f y).Sublist oy:=by
  intro j
  induction j using Nat.strongRecOn with
  | ind j ih=>
   intro x hx o ho
   have ho0:=ho
   have hxn:x∈nms f:=(t1 x).mp (eJ hx)
   obtain ⟨r,hr,rfl⟩:=bg.mp hxn
   rw [pB G hr] at ho
   split at ho
   ·rename_i hall
    have hall:=eQ.mp hall
    obtain ⟨j',h1,h2⟩:=t2 r hr
    have ej:=jM t0 hx h1
    subst ej
    cases hm:ni (full (dh (bU f) r.2)) with
    | none=>rw [hm] at ho; cases ho
    | some os=>
     rw [hm] at ho
     cases ho
     have hM:∃ q,Mg (full (dh (bU f) r.2)) q:=by
      apply dA
      intro hn
      unfold ni at hm
      rw [dif_neg hn] at hm
      cases hm
     obtain ⟨q,hq⟩:=hM
     have eq:=lV hq
     rw [hm] at eq
     subst eq
     obtain ⟨h3,h4⟩:=Mg.qC hq os rfl
     have kp:=Mg.keeps hq os rfl
     have kp2:∀ q∈dh (bU f) r.2,q.Sublist os:=fun q hq=>by
      cases hqe:q with
      | nil=>exact List.nil_sublist _
      | cons y q'=>
       rw [← hqe]
       exact kp q (bE.mpr ⟨hq,by rw [hqe]; rfl⟩)
     have eld:∀ e∈r.2,∃ oe,bU f e=some oe∧oe.Sublist os∧∃ oes,oe=e::oes∧(∀ y,y∈oes↔Reach f e y)∧∀ y∈oe,∃ oy,bU f y=some oy∧oy.Sublist oe∧(vI f y).Sublist oy:=fun e he=>by
      obtain ⟨i,hi,ei⟩:=ig (h2 e he)
      obtain ⟨oe,hoe⟩:=ff.mp (hall e he)
      obtain ⟨oes,e1,e2,e3,e4⟩:=ih i hi e ei oe hoe
      refine⟨oe,hoe,kp2 oe ?_,oes,e1,e3,e4⟩
      exact dP _ (bg.mpr ⟨e,he,by rw [hoe]; rfl⟩)
     have mem:∀ y,y∈os↔Reach f r.1 y:=fun y=>by
      constructor
      ·intro hy
       obtain ⟨q,hq',hyq⟩:=h3 y hy
       have hq':=(bE.mp hq').1
       rcases bS.mp hq' with h | h
       ·obtain ⟨e,he,rfl⟩:=bg.mp h
        obtain ⟨oe,hoe,_,oes,e1,e3,_⟩:=eld e he
        rw [hoe] at hyq
        have hyq:y∈oe:=hyq
        rw [e1] at hyq
        rcases bu.mp hyq with rfl | hyq
        ·exact .one ⟨r,hr,rfl,he⟩
        ·exact .step ⟨r,hr,rfl,he⟩ ((e3 y).mp hyq)
       ·rw [aS.mp h] at hyq
        exact .one ⟨r,hr,rfl,hyq⟩
      ·intro hy
       have go:∀ e,tO f r.1 e→e∈r.2:=fun e ⟨r',hr',e1,e2⟩=>by
        have h1:=jA G.nd r hr
        have h2:=jA G.nd r' hr'
        rw [e1,h1] at h2
        rw [h2]
        exact e2
       cases hy with
       | one e=>
        have he:=go _ e
        obtain ⟨oe,hoe,sub,oes,e1,_,_⟩:=eld _ he
        exact sub.subset (by rw [e1]; exact aT)
       | step e h=>
        have he:=go _ e
        obtain ⟨oe,hoe,sub,oes,e1,e3,_⟩:=eld _ he
        exact sub.subset (by rw [e1]; exact cz _ ((e3 y).mpr h))
     have nd:(r.1::os).Nodup:=eW.mpr ⟨fun h=>by
      obtain ⟨i,hi,ei⟩:=tK G t0 t2 ((mem r.1).mp h) j hx
      have:=jM t0 ei hx
      omega,h4⟩
     refine⟨os,rfl,nd,mem,fun y hy=>?_⟩
     rcases bu.mp hy with rfl | hy
     ·refine⟨r.1::os,ho0,List.Sublist.refl _,?_⟩
      rw [jA G.nd r hr]
      exact List.Sublist.cons _ (kp2 r.2 (cE _ aT))
     ·have hre:=(mem y).mp hy
      have viaE:∀ e∈r.2,y=e∨Reach f e y→∃ oy,bU f y=some oy∧oy.Sublist (r.1::os)∧(vI f y).Sublist oy:=fun e he h=>by
       obtain ⟨oe,hoe,sub,oes,e1,e3,e4⟩:=eld e he
       have hyo:y∈oe:=by
        rw [e1]
        rcases h with rfl | h
        ·exact aT
        ·exact cz _ ((e3 y).mpr h)
       obtain ⟨oy,a1,a2,a3⟩:=e4 y hyo
       exact⟨oy,a1,List.Sublist.cons _ (a2.trans sub),a3⟩
      have go:∀ e,tO f r.1 e→e∈r.2:=fun e ⟨r',hr',e1,e2⟩=>by
       have h1:=jA G.nd r hr
       have h2:=jA G.nd r' hr'
       rw [e1,h1] at h2
       rw [h2]
       exact e2
      cases hre with
      | one e=>exact viaE _ (go _ e) (.inl rfl)
      | step e h=>exact viaE _ (go _ e) (.inr h)
   ·cases ho
 intro x hx
 obtain ⟨j,hj,e⟩:=fc ((t1 x).mpr hx)
 exact key j x (by rw [ae hj,e])
end K17
end
section
namespace L2
open PySem PySem.Spec PyProof.Rows
theorem zB:typeLookup (.type "list") "keys" = pure none:=by rw [typeLookup_type,builtinLookup_eq_fast]; kernel_rfl
section
variable {prog:Program}{w:World}{A:Around}{E:Value→Shared→Prop}{s:Shared}
theorem Cj{a:Addr}{o:Obj}{xs:Array Value}{k:Nat}{Q:Option Value→Shared→Prop}(hx:s.heap.get? a=some o)(hc:o.cls=.type "list")(hdat:o.data=.seq xs k)(hd:o.dict=none)(hA:A.handled=none)
  (h:∀ h' tk,(∀ b o,s.heap.get? b=some o→h'.get? b=some o)→Q none { s with heap:=h',toks:=tk }):wpAny (model prog w) A (getAttr? (.ref a) "keys") Q E s:=by
 obtain ⟨c,dct,dat,sl⟩:=o
 simp only at hc hdat hd
 subst hc hdat hd
 obtain ⟨hp,g,d,tk,os⟩:=s
 have hT:∀ tk',(⟨hp,g,d,tk',os⟩:Shared).TypeIs (.ref a) "list" := fun _=>⟨_,hx,rfl⟩
 have f1:=sub_AttributeError
 have f3:=li.lookup
 have f4:=li.bind (.ref a)
 have f5:=am_list_getattr_none
 have hm:=zB
 unfold getAttr? getAttrBy? getAttrBy
 repeat (any_goals (first | assumption | exact hT _ | ((with_reducible show wpAny _ _ (call (Value.builtin "list.__getattribute__") _ _) _ _ _); refine call_meets li (hT _) am_entry_list_getattribute (F.args_list_getattribute_2 _ _) (meets_getattribute_miss_list a xs k sl "keys" _ hm (by decide +kernel)) ⟨hx,hA,fun h' tk' e hx'=>?_⟩) | wp_step))
 have kk:=hx'.keeps
 obtain ⟨t',u',he⟩:=hx'.there
 show wpAny _ _ (getattributeRaised _ _ _ _ _ _ _) _ _ _
 unfold getattributeRaised
 repeat (any_goals (first | assumption | wp_step))
 all_goals exact h _ _ kk
end
section
variable {X:Cx}{pins:List (Addr × Obj)}{σ:St}{A:Around}
theorem Iv{H:Hp}{a d it:Addr}{xs:List V}{kvs:List (Key × V)}{R:Result→Shared→Prop}(hh:A.handled=none)(ha:H a=some (.lst xs))(hp:qg H xs kvs)(hn:kvs.length≤1000)(hd:H d=none)(hid:it≠d)(hia:it≠a)
  (hR:∀ s',Inv X pins σ (upd H d (.dK (dN [] kvs))) s'→R (.ok (.ret .none)) s') :
  ∀(k i:Nat) (s:Shared),kvs.length - i=k→i≤kvs.length→Inv X pins σ (upd H d (.dK (dN [] (kvs.take i)))) s→s.heap.IsListIter it a i→(∀ H':Hp,H' it=none→nG X pins H' it)→H it=none→
   codeAny (model X.prog X.w) A (.builtin "dict.update.loop" ⟨[.ref d,.ref it,rawInt i,.none],[]⟩) R s:=by
 intro k
 have had:a≠d:=aB ha hd
 have hz:sizeLine=16777216:=cK
 induction k with
 | zero=>
  intro i s hk hi I hit hf hi0
  have hin:i=kvs.length:=by omega
  have ha':(upd H d (.dK (dN [] (kvs.take i)))) a=some (.lst xs):=by rw [au had]; exact ha
  obtain ⟨its,rv,p,_⟩:=I.list (SqL.of ha')
  have hit0:(upd H d (.dK (dN [] (kvs.take i)))) it=none:=by rw [au hid]; exact hi0
  obtain ⟨f0,f1,f2,f3,f4,f5⟩:=hf _ hit0
  refine gI oE ?_
  rw [fS jf _]
  show wpAny _ A.in1 (pyNext (.ref it) >>= _) _ _ s
  refine ac (mB hh hit p.isList (by have:=rv.length; have:=hp.1; simp; omega) fun h' eb=>?_)
  refine ac (aI (aI ?_))
  have I1:=I.turned (t':=s.toks) (fun b o hb e=>eb b o hb e) f0 f1 f3 f4 f5
  rw [hin,av (am _)] at I1
  exact hR _ I1
 | succ k ih=>
  intro i s hk hi I hit hf hi0
  have hlt:i < kvs.length:=by omega
  have ha':(upd H d (.dK (dN [] (kvs.take i)))) a=some (.lst xs):=by rw [au had]; exact ha
  obtain ⟨its,rv,p,_⟩:=I.list (SqL.of ha')
  have hit0:(upd H d (.dK (dN [] (kvs.take i)))) it=none:=by rw [au hid]; exact hi0
  obtain ⟨f0,f1,f2,f3,f4,f5⟩:=hf _ hit0
  obtain ⟨pr,ex,hpr⟩:=hp.2 i kvs[i] (ae hlt)
  obtain ⟨u,hu,ru⟩:=rv.get ex
  cases ru
  refine gI oE ?_
  rw [fS jf _]
  show wpAny _ A.in1 (pyNext (.ref it) >>= _) _ _ s
  refine ac (lS hit p.isList (x:=.ref pr) (by simpa using hu) fun h' hit' sb=>?_)
  have I1:=I.turned (t':=s.toks) (fun b o hb e=>sb.extBut b o hb e) f0 f1 f3 f4 f5
  have hpd:pr≠d:=aB hpr hd
  obtain ⟨jts,rj,⟨oj,gj,cj,nj,dj⟩,_⟩:=I1.tuple (SqT.of (show (upd H d (.dK (dN [] (kvs.take i)))) pr=some (.tup [kV kvs[i].1,kvs[i].2]) by rw [au hpd]; exact hpr))
  obtain ⟨v1,v2,rfl,r1,r2⟩:=rj.two
  have hT:({ s with heap:=h' }:Shared).TypeIs (.ref pr) "tuple" := ⟨oj,gj,cj⟩
  refine ac (fk ?_)
  refine ac (wpAny_tryCatch ?_)
  unfold Builtin.Dict.pairItems
  refine ac (wpAny_typeOf hT ?_)
  rw [ck (by decide)]
  refine ac (hU gj dj (aI ?_))
  show wpAny _ _ (holding [v1,v2] (dictSet d v1 v2)) _ _ _
  refine fk (Li I1 ak ?_ r1 r2 fun h2 sb2 I2=>?_)
  ·have:=lH (kvs.take i) []
   rw [br,nE] at this
   omega
  rw [bO] at I2
  have et:kvs.take (i+1)=kvs.take i++[kvs[i]]:=by
   rw [ii,ae hlt]
   rfl
  rw [← rN,← et] at I2
  refine aI ⟨iS jf _,?_⟩
  exact ih (i+1) _ (by omega) hlt I2 (hit'.extBut sb2.extBut hid) hf hi0
end
section
variable {X:Cx}
theorem zm(hc:X.calm=true):gn X (.type "dict") (fun xs H Q=>∃ a ps kvs,xs=[.ref a]∧H a=some (.lst ps)∧qg H ps kvs∧kvs.length≤1000∧∀ d,H d=none→Q (.ref d) (upd H d (.dK (dN [] kvs)))):=by
 intro pins s σ H xs us Q I r h
 obtain ⟨a,ps,kvs,rfl,ha,hp,hn,q⟩:=h
 obtain ⟨u,rfl,ru⟩:=vals1 r
 cases ru
 have hh:X.A.handled=none:=I.ok.hd hc
 refine callType_codes (Q₁:=fun obj s₁=>obj=.ref s.heap.objs.size∧s₁={ s with heap:=s.heap.push { cls:=.type "dict",data:=.dict #[] } }) F.kt_called_dict (F.kt_typeCall_dict_1 _) F.entry_dict_init (kt_code_dict_new _ ⟨rfl,rfl⟩) ?_
 rintro obj s₁ ⟨rfl,rfl⟩
 have hd:H s.heap.objs.size=none:=I.hok.fresh (am _)
 have I1:Inv X pins σ (upd H s.heap.objs.size (.dK [])) { s with heap:=s.heap.push { cls:=.type "dict",data:=.dict #[] } }:=
  I.laid (t':=s.toks) (fun b o e=>ar _ e) (am _) (tM s.heap (eA I.big (am _)))
 have had:a≠s.heap.objs.size:=aB ha hd
 have ha1:(upd H s.heap.objs.size (.dK [])) a=some (.lst ps):=by rw [au had]; exact ha
 obtain ⟨its,rv,⟨o,n,go,co,ndt,dto⟩,_⟩:=I1.list (SqL.of ha1)
 have hnew:(s.heap.push { cls:=.type "dict",data:=.dict #[] }).DictOf (cG X.prog X.w) s.heap.objs.size []:=Heap.DictOf.new s.heap
 refine⟨hnew.typeIs,F.args_dict_init_2 _ _,?_⟩
 unfold Builtin.«dict.__init__»
 refine ac ?_
 unfold Builtin.Dict.selfAndRest
 refine ac (wpAny_notOrdered_dict hnew.typeIs ?_)
 show wpAny _ _ (pure (s.heap.objs.size,[Value.ref a])) _ _ _
 refine aI ?_
 show wpAny _ _ (Builtin.Dict.updateFrom "dict.__init__" s.heap.objs.size (.ref a) [] .none) _ _ _
 unfold Builtin.Dict.updateFrom
 have hT:({ s with heap:=s.heap.push { cls:=.type "dict",data:=.dict #[] } }:Shared).TypeIs (.ref a) "list" := ⟨o,go,co⟩
 refine ac (wpAny_typeOf hT ?_)
 rw [ck (by decide)]
 refine ac (Cj go co dto ndt hh fun h2 tk2 k2=>?_)
 rw [ck (by rfl)]
 have I2:=I1.kept (t':=tk2) k2
 refine ac (kn ?_)
 refine ac (iN (show Heap.IsList h2 a its.toArray from ⟨o,k2 a o go,co,n,dto⟩) ?_)
 have I3:=I2.kept (t':=tk2) (h':=h2.push { cls:=.type "list_iterator",data:=.fields #[.ref a,.int 0 0] }) fun b o e=>ar _ e
 have hle:s.heap.objs.size < h2.objs.size:=by
  obtain ⟨o',e'⟩:∃ o',(s.heap.push { cls:=.type "dict",data:=.dict #[] }).get? s.heap.objs.size=some o':=⟨_,bn _ rfl⟩
  exact cr (k2 _ _ e')
 have hif:(upd H s.heap.objs.size (.dK [])) h2.objs.size=none:=I2.hok.fresh (am _)
 refine aI ⟨iS jf _,?_⟩
 have al:a < h2.objs.size:=cr (k2 a o go)
 have hi0:H h2.objs.size=none:=by rw [au (fe hle)] at hif; exact hif
 refine Iv (A:=X.A.in1) (H:=H) (a:=a) (d:=s.heap.objs.size) (it:=h2.objs.size) (xs:=ps) (kvs:=kvs) hh ha hp hn hd (fe hle) (fe al) (fun s' I'=>?_) kvs.length 0 _ (by simp) (dq _) I3 ⟨_,bn _ rfl,rfl,rfl⟩ (fun H' hH'=>?_) hi0
 ·exact⟨rfl,⟨.ref s.heap.objs.size,_,I',rfl,q _ hd⟩⟩
 ·obtain ⟨g1,g2⟩:=I2.lK (am _) hif
  exact⟨hH',g2⟩
end
end L2
end
section
namespace K17
open PySem PyProof.Rows L2
def xG(H:Hp)(f:Fam)(x:Str)(v:V):Prop:=(bU f x=none∧v=.non)∨∃ o q,bU f x=some o∧v=.ref q∧H q=some (.tup (o.map V.str))
def jl(H:Hp)(kvs:List (Key × V))(f:Fam):Prop:=∀ x v,bZ kvs (.inr x)=some v→x∈nms f∧xG H f x v
theorem xG.mono{H H':Hp}{f:Fam}{x:Str}{v:V}(h:xG H f x v)(s:gD H H'):xG H' f x v:=by
 rcases h with h | ⟨o,q,h1,h2,h3⟩
 ·exact .inl h
 ·exact .inr ⟨o,q,h1,h2,s q _ h3⟩
theorem jl.mono{H H':Hp}{kvs:List (Key × V)}{f:Fam}(h:jl H kvs f)(s:gD H H'):jl H' kvs f:=fun x v e=>⟨(h x v e).1,(h x v e).2.mono s⟩
theorem jl.put{H:Hp}{kvs:List (Key × V)}{f:Fam}(h:jl H kvs f){x:Str}{v:V}(hx:x∈nms f)(hv:xG H f x v):jl H (putK kvs (.inr x) v) f:=fun y u e=>by
 rw [jC] at e
 by_cases hyx:y=x
 ·subst hyx
  rw [ck rfl] at e
  cases e
  exact⟨hx,hv⟩
 ·rw [bX (by intro z; injection z with z; exact hyx z)] at e
  exact h y u e
theorem jl.put2{H:Hp}{kvs:List (Key × V)}{f:Fam}(h:jl H kvs f){x:Str}{u v:V}(hx:x∈nms f)(hv:xG H f x v):jl H (putK (putK kvs (.inr x) u) (.inr x) v) f:=fun y u' e=>by
 rw [jC] at e
 by_cases hyx:y=x
 ·subst hyx
  rw [ck rfl] at e
  cases e
  exact⟨hx,hv⟩
 ·rw [bX (by intro z; injection z with z; exact hyx z),jC,bX (by intro z; injection z with z; exact hyx z)] at e
  exact h y u' e
theorem yC{kvs:List (Key × V)}{x y:Str}{v:V}(h:y=x∨(bZ kvs (.inr y)).isSome=true):(bZ (putK kvs (.inr x) v) (.inr y)).isSome=true:=by
 rw [jC]
 by_cases hyx:y=x
 ·subst hyx
  rw [ck rfl]
  rfl
 ·rw [bX (by intro z; injection z with z; exact hyx z)]
  exact h.resolve_left hyx
theorem J4{H:Hp}{f:Fam}{ys:List V}{es:List Str}(h:Paired (fun(v:V) (y:Str)=>xG H f y v) ys es):(∀ z∈ys,z=.non∨∃ a zs,z=.ref a∧H a=some (.tup zs))∧(¬ V.non∈ys→jK H ys (es.map fun y=>(bU f y).getD [])∧∀ y∈es,(bU f y).isSome=true)∧(V.non∈ys→¬ ∀ y∈es,(bU f y).isSome=true):=by
 induction h with
 | nil=>exact⟨by simp,fun _=>⟨.nil,by simp⟩,by simp⟩
 | @cons v y ys es r _ ih=>
  obtain ⟨i1,i2,i3⟩:=ih
  rcases r with ⟨h1,rfl⟩ | ⟨o,q,h1,rfl,h3⟩
  ·refine⟨fun z hz=>?_,fun h=>absurd aT h,fun _ h=>?_⟩
   ·rcases bu.mp hz with rfl | h
    ·exact .inl rfl
    ·exact i1 z h
   ·have:=h y aT
    rw [h1] at this
    cases this
  ·refine⟨fun z hz=>?_,fun h=>?_,fun h hh=>?_⟩
   ·rcases bu.mp hz with rfl | h
    ·exact .inr ⟨q,_,rfl,h3⟩
    ·exact i1 z h
   ·obtain ⟨j1,j2⟩:=i2 fun z=>h (cz _ z)
    refine⟨.cons ⟨q,rfl,?_⟩ j1,fun z hz=>?_⟩
    ·show H q=some (.tup (((bU f y).getD []).map V.str))
     rw [h1]
     exact h3
    ·rcases bu.mp hz with rfl | h
     ·rw [h1]
      rfl
     ·exact j2 z h
   ·rcases bu.mp h with h | h
    ·cases h
    ·exact i3 h fun z hz=>hh z (cz _ hz)
theorem IW{H:Hp}{d:Addr}{kvs:List (Key × V)}{R:It→Hp→Prop}(h:Rd H d (.dK kvs))(hR:∀ o H4,H4 d=some (.frz o (.dK kvs))→(∀ b u,b≠d→H b=some u→H4 b=some u)→R (Itd o d kvs) H4) :
  (H d=some (.dK kvs)∧∀ o,R (Itd o d kvs) (upd H d (.frz o (.dK kvs))))∨∃ o,H d=some (.frz o (.dK kvs))∧R (Itd o d kvs) H:=by
 rcases h with h | ⟨o,h⟩
 ·exact .inl ⟨h,fun o=>hR o _ ak fun b u hb e=>by rw [au hb]; exact e⟩
 ·exact .inr ⟨o,h,hR o H h fun b u _ e=>e⟩
theorem BR{i:Nat}{g:TG}{tb:TS}{D:Ends}{σ:L2.St}{H:Hp}{d:Addr}{kvs:List (Key × V)}(hσ:σ[i]?=some (some (.ref d)))(h:Rd H d (.dK kvs)) (hR:∀ o H4,H4 d=some (.frz o (.dK kvs))→(∀ b u,b≠d→H b=some u→H4 b=some u)→
  ∃ W:Nat→Nat→L2.St→Hp→Prop,(∃ m,W 0 m σ H4)∧∀ i m σ H,W i m σ H→
   ((Itd o d kvs).stop i H∧D.nx σ H)∨((Itd o d kvs).go i H∧∃ N:L2.St→Hp→Prop,(∀ σ' H',N σ' H'→∃ m',m' < m∧W (i+1) m' σ' H')∧∀ x H',(Itd o d kvs).yld i H x H'→g x σ H' fun σ2 H2=>tb { D with nx:=N,ct:=N,bk:=D.nx } σ2 H2)):M8 (Ax (KR i)) g tb D σ H:=
 ⟨_,hσ,d,kvs,rfl,IW (R:=fun J H4=>∃ W:Nat→Nat→L2.St→Hp→Prop,(∃ m,W 0 m σ H4)∧∀ i m σ H,W i m σ H→
   (J.stop i H∧D.nx σ H)∨(J.go i H∧∃ N:L2.St→Hp→Prop,(∀ σ' H',N σ' H'→∃ m',m' < m∧W (i+1) m' σ' H')∧∀ x H',J.yld i H x H'→g x σ H' fun σ2 H2=>tb { D with nx:=N,ct:=N,bk:=D.nx } σ2 H2)) h hR⟩
section
variable {P:Program}{w:World}{K:PySem.W.Frag}{mg:Str→Option Value}{base:Heap}{t:Adr}
def zW:Sp:=fun vs H Q _=>∃(a:Addr) (xs:List V) (f:Fam),vs=[.ref a]∧H a=some (.lst xs)∧DpL H (f.map oR) xs∧eO f∧∀(od:Addr) (kvs:List (Key × V)) H',H od=none→H' od=some (.dK kvs)→jl H' kvs f→(∀ x∈nms f,(bZ kvs (.inr x)).isSome=true)→Same H H'→Q (.ref od) H'
theorem Ft(D:Defs K mg t):aW P w K mg base CX0 2 t.fP.1 t.fP.2 ["_law_family"] zW:=by
 have G__law_merge:aW P w K mg base CX0 1 t.cN.1 t.cN.2 _ su:=tZ D
 have hz:sizeLine=16777216:=cK
 refine D.fP.fn.ok gq (fun vs H Q E h=>?_) (fun cdv A outer s H vs Q E hr h=>?_)
 ·obtain ⟨a,xs,f,rfl,_⟩:=h
  rfl
 ·obtain ⟨a,xs,f,rfl,ha,dl,gf,k⟩:=h
  obtain ⟨kvs0,hpr,el⟩:=qT dl
  have hkl:kvs0.length=f.length:=el.len
  have hxl:xs.length=f.length:=by have:=dl.length; rwa [aa] at this
  have f7:=gf.len
  have hnl:(nms f).length=f.length:=aa _
  obtain ⟨tp,t0,t1,t2⟩:=gf.vL
  have htl:tp.length≤f.length:=by
   have h1:=cL t0 (m:=nms f) fun x hx=>(t1 x).mp hx
   omega
  refine⟨_,(aD (aP (i:=1) gq.nd rfl (Or.inl rfl) (bG (zm rfl) (by rfl) D.Ca yu (aj (pv 0) aA)))
   (aD (aP (i:=2) gq.nd rfl (Or.inr rfl) j9)
   (aD (gR dS rfl (jx rfl D.mR (aj (aO bC (by rfl) D.iz eE (aj (pv 0) aA)) aA)) (aN (i:=3) gq.nd rfl (Or.inl rfl))
   (aF (gR dS rfl (Ir (pv 1)) (aN (i:=4) gq.nd rfl (Or.inl rfl))
   (aF (bQ (PW.pt (rD (qZ (mC (cY hr) (pv 4) (pv 2))) (nU (d9 (aO (nJ rfl) (by rfl) D.zx uQ (aj (bL rfl (aL.of ["_law_one"] [2] ["_law_one","_law_orders_here"] (aq (top 54)) ["_law_family","_law_elders_here","_law_orders_here","_law_turn","_law_kind","_law_rows"] rfl rfl (by decide +kernel)) ⟨fun _ _ _ _ _=>(aN (i:=0) (show List.Nodup [("_law_one" : Str),("_law_orders_here" : Str)] by decide +kernel) rfl (Or.inl (af rfl)) (.inr (af rfl))),fun _ _ _ _ _=>cg,fun _ _ _ _ _=>(Cr (yg (cY hr) (pv 0) (pv 1)))⟩ (cU (dF (cY hr) (pv 1) (pv 4) (fun _ _=>rfl)))) aA))))))
   (aD (jP (i:=5) rfl gq.nd rfl (Or.inl rfl) (aL.of ["_law_one"] [2] ["_law_one","_law_orders_here"] (aq (top 54)) ["_law_family","_law_elders_here","_law_orders_here","_law_turn","_law_kind","_law_rows"] rfl rfl (by decide +kernel)) ⟨fun _ _ _ _ _=>(aN (i:=0) (show List.Nodup [("_law_one" : Str),("_law_orders_here" : Str)] by decide +kernel) rfl (Or.inl (af rfl)) (.inr (af rfl))),fun _ _ _ _ _=>cg,fun _ _ _ _ _=>(dF (cY hr) (pv 1) (pv 0) (fun _ _=>rfl))⟩ (cU (dF (cY hr) (pv 1) (pv 4) (fun _ _=>rfl))))
   (aD (jR (cY hr) (pv 2) (pv 4) eV rfl)
   (aF (bQ (aV (Gi rfl (QT hr)) eV (pv 5) (by with_unfolding_all rfl))
   (aF (jR (cY hr) (pv 2) (pv 4) (aH D.cN G__law_merge (hr.mono (by omega)) (by rfl) (aj (pv 4) (aj (bJ uN (pv 5) (dU (aj (dF (cY hr) (pv 1) (pv 4) (fun _ _=>rfl)) aA))) aA))) rfl))
   aY))))
   aY)))))
   (aF (aQ (pv 2)))))),?_⟩
  refine⟨_,rfl,a,xs,kvs0,rfl,ha,hpr,by omega,fun d hd=>?_⟩
  rw [el.merge gf.nd]
  have s1:Same H (upd H d (.dK kvs0)):=Same.new hd
  have hd1:(upd H d (.dK kvs0)) d=some (.dK kvs0):=ak
  generalize upd H d (.dK kvs0)=H1 at s1 hd1
  intro od hod
  have s2:Same H1 (upd H1 od (.dK [])):=Same.new hod
  have hod2:(upd H1 od (.dK [])) od=some (.dK []):=ak
  have hodH:H od=none:=by
   cases q:H od with
   | none=>rfl
   | some o=>
    rw [s1 od o q] at hod
    cases hod
  have dod:d≠od:=aB hd1 hod
  have hd2:=s2 d _ hd1
  have sm2:Same H (upd H1 od (.dK [])):=s1.trans s2
  generalize upd H1 od (.dK [])=H2 at s2 hod2 hd2 sm2
  refine⟨_,rfl,a,_,rfl,.inl (SqL.of (sm2 a _ ha)),_,rfl,by omega,by omega,?_⟩
  rw [hxl]
  refine nY (lo:=0) (n:=((f.length:Nat):Int).toNat) (fun i σ H3=>∃(kvs:List (Key × V)) (v3 v4 v5:Option V),σ=[some (.ref a),some (.ref d),some (.ref od),v3,v4,v5]∧H3 od=some (.dK kvs)∧kvs.length≤14 * i∧jl H3 kvs f∧(∀ x∈tp.take i,(bZ kvs (.inr x)).isSome=true)∧Rd H3 d (.dK kvs0)∧∀ b u,b≠od→b≠d→H2 b=some u→H3 b=some u)
   ⟨[],_,_,_,rfl,hod2,dq _,(by intro x v e; cases e),(by intro x hx; simp at hx),.inl hd2,fun b u _ _ e=>e⟩ ?_ ?_
  ·rintro i σ H3 hi ⟨kvs,v3,v4,v5,rfl,hod3,kl3,oa3,cov3,hd3,kp3⟩
   have hi7:i < 7:=by omega
   show M8 (Ax (KR 1)) _ _ _ [some (.ref a),some (.ref d),some (.ref od),some (.int (0+(i:Int))),v4,v5] H3
   refine BR (i:=1) (d:=d) (kvs:=kvs0) rfl hd3 fun o H4 hd4 kp4=>?_
   have tu34:gD H3 H4:=fun c zs e=>by
    refine kp4 c _ (fun z=>?_) e
    rw [z] at e
    rcases hd3 with h | ⟨o,h⟩
    ·rw [h] at e; cases e
    ·rw [h] at e; cases e
   refine Gs (o:=o) (d:=d) (kvs:=kvs0) (fun m σ H5=>∃(kvs:List (Key × V)) (v4 v5:Option V),σ=[some (.ref a),some (.ref d),some (.ref od),some (.int (0+(i:Int))),v4,v5]∧H5 od=some (.dK kvs)∧kvs.length≤14 * i+2 * m∧jl H5 kvs f∧(∀ x∈tp.take i,(bZ kvs (.inr x)).isSome=true)∧(∀ x∈(nms f).take m,tp[i]?=some x→(bZ kvs (.inr x)).isSome=true)∧H5 d=some (.frz o (.dK kvs0))∧∀ b u,b≠od→b≠d→H2 b=some u→H5 b=some u)
    ⟨kvs,_,_,rfl,kp4 od _ dod.symm hod3,kl3,oa3.mono tu34,cov3,(by intro x hx; simp at hx),hd4,fun b u h1 h2 e=>kp4 b u h2 (kp3 b u h1 h2 e)⟩ (fun m σ H5 _ ⟨_,_,_,_,_,_,_,_,_,e,_⟩=>e) ?_ ?_
   ·rintro m kv σ H5 ekv ⟨kvs,v4,v5,rfl,hod5,kl5,oa5,cov5,cur5,hd5,kp5⟩
    obtain ⟨r,hfr,ek,hnr⟩:=el.at ekv
    have hm:m < (nms f).length:=(bj.mp hnr).1
    have hr':r∈f:=eJ hfr
    have hx:r.1∈nms f:=bg.mpr ⟨r,hr',rfl⟩
    have hm7:m < 7:=by omega
    obtain ⟨e,he1,he2⟩:=el.get gf.nd r hr'
    have sm5:Same H H5:=fun b u e=>kp5 b u (aB e hodH) (aB e hd) (sm2 b u e)
    have he5:=sm5 e _ he2
    have e7:=gf.el r hr'
    have gd:∀ {H6:Hp},H6 d=some (.frz o (.dK kvs0))→kO H6 d (.str r.1) (some (.ref e)):=fun {H6} h=>.inl ⟨kvs0,.inr r.1,.inr ⟨o,h⟩,rfl,he1.symm⟩
    have nxt:∀ (kvs':List (Key × V)) (H6:Hp) (v5':Option V),H6 od=some (.dK kvs')→kvs'.length≤kvs.length+2→jl H6 kvs' f→(∀ y,((y=r.1∧tp[i]?=some r.1)∨(bZ kvs (.inr y)).isSome=true)→(bZ kvs' (.inr y)).isSome=true)→(∀ b u,b≠od→H5 b=some u→H6 b=some u)→
      ∃(kvs:List (Key × V)) (v4 v5:Option V),([some (.ref a),some (.ref d),some (.ref od),some (.int (0+(i:Int))),some (.str r.1),v5']:L2.St)=[some (.ref a),some (.ref d),some (.ref od),some (.int (0+(i:Int))),v4,v5]∧H6 od=some (.dK kvs)∧kvs.length≤14 * i+2 * (m+1)∧jl H6 kvs f∧(∀ x∈tp.take i,(bZ kvs (.inr x)).isSome=true)∧(∀ x∈(nms f).take (m+1),tp[i]?=some x→(bZ kvs (.inr x)).isSome=true)∧H6 d=some (.frz o (.dK kvs0))∧∀ b u,b≠od→b≠d→H2 b=some u→H6 b=some u:=fun kvs' H6 v5' h1 h2 h3 h4 h5=>by
     refine⟨kvs',_,_,rfl,h1,by omega,h3,fun x hx=>h4 x (.inr (cov5 x hx)),fun x hx ex=>?_,h5 d _ dod hd5,fun b u hb hb' e=>h5 b u hb (kp5 b u hb hb' e)⟩
     rw [take_snoc hm] at hx
     rcases bS.mp hx with h | h
     ·exact h4 x (.inr (cur5 x h ex))
     ·have e1:x=r.1:=by
       rw [aS.mp h]
       rw [ae hm] at hnr
       exact dE hnr
      exact h4 x (.inl ⟨e1,e1 ▸ ex⟩)
    rw [ek]
    refine⟨_,rfl,_,rfl,od,_,rfl,kO.k (k:=.inr r.1) hod5,_,rfl,?_⟩
    cases hin:(bZ kvs (.inr r.1)).isSome with
    | true=>
     refine fY (fY ?_)
     exact nxt kvs H5 _ hod5 (by omega) oa5 (fun y h=>h.elim (fun e=>e.1 ▸ hin) id) fun b u _ e=>e
    | false=>
    have kl7:kvs.length≤200:=by omega
    refine dZ ⟨_,rfl,_,rfl,d,.ref e,rfl,gd hd5,e,rfl,⟨_,SqT.of he5⟩,fun D1 hD1=>?_⟩
    have s6:∀ u,Same H5 (upd H5 D1 u):=fun u=>Same.new hD1
    refine bA (n:=(r.2.map V.str).length) (fun j bs H6=>bs=((r.2.take j).map fun y=>(bZ kvs (.inr y)).isSome).map V.bl∧H6=upd H5 D1 (.lst bs)) ⟨rfl,rfl⟩ ?_ ?_
    rotate_left
    ·rintro j bs H6 hj ⟨rfl,rfl⟩
     have hj':j < r.2.length:=by rw [aa] at hj; exact hj
     have ej:(r.2.map V.str)[j]?=some (.str r.2[j]):=by rw [bc,ae hj']; rfl
     refine⟨⟨_,_,SqT.of (s6 _ e _ he5),ej⟩,?_⟩
     rintro y5 H7 ⟨rfl,yy⟩ σo5 ho5
     obtain ⟨o5,rfl⟩:=own1 ho5
     have ey5:=yy _ (SqT.of (s6 _ e _ he5))
     rw [ej] at ey5
     cases ey5
     refine⟨⟨[_],rfl,rfl⟩,dB ⟨_,rfl,_,rfl,od,_,rfl,kO.k (k:=.inr r.2[j]) (s6 _ od _ hod5),by rw [aa,aa,br]; omega,ak,aR hj ⟨?_,by rw [bO]⟩⟩⟩
     rw [take_snoc hj',aw,aw]
     rfl
    rintro bs H6 ⟨rfl,rfl⟩
    rw [av (by rw [aa]; exact am _)]
    refine⟨⟨_,SqT.of (s6 _ e _ he5),am _⟩,D1,_,rfl,SqL.of ak,?_⟩
    have hod6:=s6 (.lst ((r.2.map fun y=>(bZ kvs (.inr y)).isSome).map V.bl)) od _ hod5
    have sm6:=s6 (.lst ((r.2.map fun y=>(bZ kvs (.inr y)).isSome).map V.bl))
    generalize upd H5 D1 (.lst ((r.2.map fun y=>(bZ kvs (.inr y)).isSome).map V.bl))=H6 at hod6 sm6
    have hd6:=sm6 d _ hd5
    have he6:=sm6 e _ he5
    have oa6:=oa5.mono (Same.tups sm6)
    refine⟨_,rfl,?_⟩
    cases hall:(r.2.map fun y=>(bZ kvs (.inr y)).isSome).all id with
    | false=>
     refine fY (nxt kvs H6 _ hod6 (by omega) oa6 (fun y h=>h.elim (fun⟨_,ex⟩=>?_) id) fun b u _ e=>sm6 b u e)
     exfalso
     obtain ⟨j,h1,h2⟩:=t2 r hr'
     have ej:=jM t0 ex h1
     subst ej
     have:(r.2.map fun y=>(bZ kvs (.inr y)).isSome).all id=true:=by
      rw [n4,eQ]
      exact fun y hy=>cov5 y (h2 y hy)
     rw [this] at hall
     cases hall
    | true=>
    rw [n4,eQ] at hall
    have hall:∀ y∈r.2,(bZ kvs (.inr y)).isSome=true:=hall
    refine dZ ⟨_,rfl,_,rfl,d,.ref e,rfl,gd hd6,e,rfl,⟨_,SqT.of he6⟩,fun D2 hD2=>?_⟩
    have s7:∀ u,Same H6 (upd H6 D2 u):=fun u=>Same.new hD2
    refine bA (n:=(r.2.map V.str).length) (fun j ys H7=>Paired (fun(v:V) (y:Str)=>xG H6 f y v) ys (r.2.take j)∧H7=upd H6 D2 (.lst ys)) ⟨.nil,rfl⟩ ?_ ?_
    rotate_left
    ·rintro j ys H7 hj ⟨pr,rfl⟩
     have hj':j < r.2.length:=by rw [aa] at hj; exact hj
     have ej:(r.2.map V.str)[j]?=some (.str r.2[j]):=by rw [bc,ae hj']; rfl
     refine⟨⟨_,_,SqT.of (s7 _ e _ he6),ej⟩,?_⟩
     rintro y5 H8 ⟨rfl,yy⟩ σo5 ho5
     obtain ⟨o5,rfl⟩:=own1 ho5
     have ey5:=yy _ (SqT.of (s7 _ e _ he6))
     rw [ej] at ey5
     cases ey5
     obtain ⟨v,hv⟩:=ff.mp (hall r.2[j] (cn hj'))
     refine⟨⟨[_],rfl,rfl⟩,dB ⟨_,rfl,_,rfl,od,v,rfl,.inl ⟨kvs,.inr r.2[j],.inl (s7 _ od _ hod6),rfl,hv.symm⟩,by rw [cS pr,br]; omega,ak,aR hj ⟨?_,by rw [bO]⟩⟩⟩
     rw [take_snoc hj']
     exact cP pr (oa6 _ _ hv).2
    rintro ys H7 ⟨pr,rfl⟩
    rw [aa,av (am _)] at pr
    refine⟨⟨_,SqT.of (s7 _ e _ he6),am _⟩,?_⟩
    have hod7:=s7 (.lst ys) od _ hod6
    have hD27:(upd H6 D2 (.lst ys)) D2=some (.lst ys):=ak
    have sm7:=s7 (.lst ys)
    generalize upd H6 D2 (.lst ys)=H7 at hod7 sm7 hD27
    obtain ⟨p1,p2,p3⟩:=J4 (Paired.oN pr fun v y (h:xG H6 f y v)=>h.mono (Same.tups sm7))
    have tuP:∀ {Ha:Hp} {kv':List (Key × V)} {kv2:List (Key × V)},Ha od=some (.dK kv')→gD Ha (upd Ha od (.dK kv2)):=fun {Ha kv' kv2} h c zs e'=>by
     rw [au (eG e' h (fun z=>nomatch z))]
     exact e'
    have oa7:=oa6.mono (Same.tups sm7)
    have lp:=gB kvs (.inr r.1) V.non
    refine⟨_,rfl,_,rfl,od,_,rfl,rC.k (k:=.inr r.1) hod7 (by omega),?_⟩
    have hD28:(upd H7 od (.dK (putK kvs (.inr r.1) .non))) D2=some (.lst ys):=by
     rw [au (eG hD27 hod7 (fun z=>nomatch z))]
     exact hD27
    have kp8:∀ b u,b≠od→H7 b=some u→(upd H7 od (.dK (putK kvs (.inr r.1) .non))) b=some u:=fun b u hb e'=>by rw [au hb]; exact e'
    have hod8:(upd H7 od (.dK (putK kvs (.inr r.1) .non))) od=some (.dK (putK kvs (.inr r.1) .non)):=ak
    have tu8:gD H7 (upd H7 od (.dK (putK kvs (.inr r.1) .non))):=tuP hod7
    generalize upd H7 od (.dK (putK kvs (.inr r.1) .non))=H8 at hD28 kp8 hod8 tu8
    refine⟨_,rfl,D2,ys,rfl,rfl,SqL.of hD28,fun z hz=>?_,?_⟩
    ·rcases p1 z hz with h | ⟨b,zs,h1,h2⟩
     ·exact .inl h
     ·exact .inr ⟨b,zs,h1,tu8 b _ h2⟩
    by_cases hnon:V.non∈ys
    ·refine⟨_,rfl,iQ (by simp [hnon]) ?_⟩
     refine nxt _ H8 _ hod8 (by omega) ((oa7.put hx (.inl ⟨?_,rfl⟩)).mono tu8) (fun y h=>yC (h.imp (·.1) id)) fun b u hb e'=>kp8 b u hb (sm7 b u (sm6 b u e'))
     rw [pB gf hr',bX (fun h=>p3 hnon (eQ.mp h))]
    ·obtain ⟨rt,hs⟩:=p2 hnon
     have hd8:=kp8 d _ dod (sm7 d _ hd6)
     have he8:=kp8 e _ (eG (sm7 e _ he6) hod7 (fun z=>nomatch z)) (sm7 e _ he6)
     obtain ⟨q1,q2,_⟩:=uf gf hr' hs
     have hyl:ys.length=r.2.length:=cS pr
     refine⟨_,rfl,iR (by simp [hnon]) ?_⟩
     refine⟨_,rfl,_,rfl,_,rfl,_,rfl,d,.ref e,rfl,gd hd8,by show 1≤sizeLine; decide,fun p hp=>?_⟩
     have s9:Same H8 (upd H8 p (.lst [.ref e])):=Same.new hp
     refine⟨D2,p,ys,[.ref e],rfl,rfl,s9 D2 _ hD28,ak,by show ys.length+1≤sizeLine; omega,fun q hq=>?_⟩
     have s10:=s9.trans (Same.new (o:=.lst (ys++[.ref e])) hq)
     have hod10:=s10 od _ hod8
     refine⟨r.1,q,ys++[.ref e],dh (bU f) r.2,rfl,ak,cP ((rt.mono tu8).mono (Same.tups s10)) ⟨e,rfl,s10 e _ he8⟩,by omega,by omega,fun v m H11 hM hres s11=>?_⟩
     have sm11:=s10.trans s11
     have hod11:=sm11 od _ hod8
     have lp2:=gB (putK kvs (.inr r.1) .non) (.inr r.1) v
     refine⟨_,rfl,_,rfl,od,_,rfl,rC.k (k:=.inr r.1) hod11 (by omega),?_⟩
     have tu12:gD H11 (upd H11 od (.dK (putK (putK kvs (.inr r.1) .non) (.inr r.1) v))):=tuP hod11
     refine nxt _ _ _ ak (by omega) (((((oa7.mono tu8).mono (Same.tups sm11)).put2 hx ?_)).mono tu12) (fun y h=>yC (.inr (yC (h.imp (·.1) id)))) fun b u hb e'=>by rw [au hb]; exact sm11 b u (kp8 b u hb (sm7 b u (sm6 b u e')))
     have eo:=pB gf hr'
     rw [ck (eQ.mpr hs),lV hM] at eo
     cases m with
     | none=>exact .inl ⟨eo,hres⟩
     | some os=>
      obtain ⟨q3,e1,e2⟩:=hres
      exact .inr ⟨r.1::os,q3,eo,e1,e2⟩
   ·rintro σ H5 ⟨kvs,v4,v5,rfl,hod5,kl5,oa5,cov5,cur5,hd5,kp5⟩
    refine⟨kvs,_,_,_,rfl,hod5,by omega,oa5,fun x hx=>?_,.inr ⟨o,hd5⟩,kp5⟩
    by_cases hil:i < tp.length
    ·rw [take_snoc hil] at hx
     rcases bS.mp hx with h | h
     ·exact cov5 x h
     ·refine cur5 x ?_ (by rw [ae hil,aS.mp h])
      rw [av (by omega)]
      exact(t1 x).mp (aS.mp h ▸ cn hil)
    ·refine cov5 x ?_
     rw [av (by omega)] at hx
     rw [av (by omega)]
     exact hx
  ·rintro σ H3 ⟨kvs,v3,v4,v5,rfl,hod3,kl3,oa3,cov3,hd3,kp3⟩
   refine⟨_,rfl,k od kvs H3 hodH hod3 oa3 (fun x hx=>cov3 x ?_) fun b u e=>kp3 b u (aB e hodH) (aB e hd) (sm2 b u e)⟩
   rw [av (by omega)]
   exact(t1 x).mpr hx
end
end K17
end
section
namespace K17.E
open PySem PyProof.Rows L2
def NmD(d:PyData):Prop:=∃ x,d=.str x∧Nm x
inductive Pl (f:Fam):Str→Prop
 | mk {r:Str × List Str}:r∈f→(∀ e∈r.2,Pl f e)→Pl f r.1
def wY(r:Str × List Str):Prop:=Nm r.1∧(∀ e∈r.2,Nm e)∧r.2.Nodup
section
variable {P:Program}{w:World}{K:PySem.W.Frag}{mg:Str→Option Value}{base:Heap}{t:Adr}
def CZ:Sp:=fun vs H Q _=>∃(v:V) (d:PyData) (n:Nat),vs=[v,.int n]∧RdV H v d∧Q (.bl (dcd (∃ ds,d=.tuple ds∧ds.length=n))) H
theorem Ib(D:Defs K mg t):aW P w K mg base CX0 1 t.d7.1 t.d7.2 ["thing","many"] CZ:=by
 refine D.d7.fn.ok tX (fun vs H Q E h=>?_) (fun cdv A outer s H vs Q E hr h=>?_)
 ·obtain ⟨v,d,n,rfl,_⟩:=h
  rfl
 ·obtain ⟨v,d,n,rfl,rd,k⟩:=h
  refine⟨_,(aF (aQ (iM (aO bR (by rfl) D.bM bI (aj (pv 0) (aj (fQ (v:=V.ty "tuple") rfl D.cV bY rfl) aA))) (ji (fG fu (aO bC (by rfl) D.iz eE (aj (pv 0) aA)) (pv 1) (bx _)))))),?_⟩
  refine⟨_,rfl,_,_,_,Gb d,rfl,rd.ty,Lf K d,_,rfl,?_⟩
  cases hb:Gb d with
  | true=>
   obtain ⟨ds,rfl⟩:=Jr hb
   obtain ⟨a,xs,rfl,ha,rl⟩:=rd.yO
   have hl:=rl.length
   refine dZ ⟨_,rfl,a,_,rfl,.inr (SqT.of ha),_,rfl,rfl,?_⟩
   by_cases e:ds.length=n
   ·rw [je ⟨ds,rfl,e⟩] at k
    rw [ay (by rw [hl,e])]
    exact k
   ·rw [iW (fun⟨es,e1,e2⟩=>by injection e1 with e1; exact e (by rw [e1]; exact e2))] at k
    rw [bv (fun z=>by injection z with z; omega)]
    exact k
  | false=>
   rw [iW (fun⟨es,e1,_⟩=>by rw [e1] at hb; cases hb)] at k
   exact fY k
theorem yZ(x:Str):(x.cps.toList.map fun c=>decide (c∈abc.cps.toList)).all id=dcd (Lw x):=by
 refine Mj ?_
 rw [n4,eQ]
 exact⟨fun h c hc=>cy (h c hc),fun h c hc=>ay (h c hc)⟩
def Ip:Sp:=fun vs H Q _=>∃(v:V) (d:PyData),vs=[v]∧RdV H v d∧gd d∧∀ H',Same H H'→Q (.bl (dcd (NmD d))) H'
theorem Kf(D:Defs K mg t)(GL:Glb mg):aW P w K mg base CX0 1 t.jT.1 t.jT.2 ["thing"] Ip:=by
 obtain ⟨tk1,hLET⟩:=GL.Fq
 obtain ⟨tk2,hMOL⟩:=GL.uH
 have hz:sizeLine=16777216:=cK
 refine D.jT.fn.ok BW (fun vs H Q E h=>?_) (fun cdv A outer s H vs Q E hr h=>?_)
 ·obtain ⟨v,d,rfl,_⟩:=h
  rfl
 ·obtain ⟨v,d,rfl,rd,g,k⟩:=h
  refine⟨_,(aD (bQ (PW.pt (tQ (jG (d9 (aO bR (by rfl) D.bM bI (aj (pv 0) (aj (fQ (v:=V.ty "str") rfl D.uG pH rfl) aA))))) (pC (jG (Hg Cw Cw aC (aO qm (by rfl) D.iz eE (aj (pv 0) aA)) (yq (v:=V.int 6) (by rfl) hMOL ⟨_,rfl⟩))))))
   (aF (aQ nR))
   aY)
   (aF (aQ (aO (nJ rfl) (by rfl) D.zx uQ (aj (bL rfl (aL.of ["sign"] [] ["sign"] (aq (top 9)) ["thing"] rfl rfl (by decide +kernel)) ⟨fun _ _ _ _ _=>(aN (i:=0) (show List.Nodup [("sign" : Str)] by decide +kernel) rfl (Or.inl (af rfl)) (.inr (af rfl))),fun _ _ _ _ _=>cg,fun _ _ _ _ _=>(fG Mx (pv 0) (yq (v:=V.str abc) (by rfl) hLET ⟨_,rfl⟩) (by with_unfolding_all rfl))⟩ (Jc (pv 0))) aA))))),?_⟩
  refine⟨_,rfl,_,_,_,Er d,rfl,rd.ty,LC K d,_,rfl,?_⟩
  cases hb:Er d with
  | false=>
   have kf:=k H (Same.refl H)
   rw [iW (fun⟨x,e,_⟩=>by rw [e] at hb; cases hb)] at kf
   exact dZ (dZ kf)
  | true=>
   obtain ⟨x,rfl⟩:=Gy hb
   obtain rfl:=rd.lE
   rw [gd] at g
   have nf:¬ (1≤x.length∧x.length≤6)→Q (.bl false) H:=fun h=>by
    have kf:=k H (Same.refl H)
    rw [iW (fun⟨y,e,n1,n2,_⟩=>by injection e with e; rw [← e] at n1 n2; exact h ⟨n1,n2⟩)] at kf
    exact kf
   refine fY ⟨_,rfl,x,rfl,by omega,_,_,rfl,rfl,_,rfl,?_⟩
   by_cases h1:1≤x.length
   ·refine iR (ay (by omega)) ⟨_,_,rfl,rfl,_,rfl,?_⟩
    by_cases h6:x.length≤6
    ·refine iQ (by rw [ay (show (x.length:Int)≤6 by omega)]; exact aE) ?_
     refine⟨_,rfl,x,rfl,g.2,fun Dd hD=>?_⟩
     refine bA (n:=x.length) (fun i ys H2=>ys=((x.cps.toList.take i).map fun c=>decide (c∈abc.cps.toList)).map V.bl∧H2=upd H Dd (.lst ys)) ⟨rfl,rfl⟩ ?_ ?_
     ·rintro ys H2 ⟨rfl,rfl⟩
      rw [av (by rw [eI]; exact am _)]
      refine⟨am _,Dd,_,rfl,SqL.of ak,?_⟩
      rw [yZ]
      have kf:=k _ (Same.new (o:=.lst ((x.cps.toList.map fun c=>decide (c∈abc.cps.toList)).map V.bl)) hD)
      rw [Ml (q:=Lw x) ⟨fun⟨y,e,_,_,n3⟩=>by injection e with e; rw [e]; exact n3,fun l=>⟨x,rfl,h1,h6,l⟩⟩] at kf
      exact kf
     ·rintro i ys H2 hi ⟨rfl,rfl⟩
      refine⟨hi,?_⟩
      rintro y H3 ⟨rfl,c,ec,rfl⟩ σo ho
      obtain ⟨o,rfl⟩:=own1 ho
      have ec':x.cps[i]?=some c:=ec
      refine⟨⟨[_],rfl,rfl⟩,dB ⟨_,rfl,c,abc,rfl,rfl,by rw [aa,aa,br]; omega,ak,aR hi ⟨?_,by rw [bO]⟩⟩⟩
      rw [ii,ky,ec',aw,aw]
      rfl
    ·refine iR (by rw [bv (show ¬ (x.length:Int)≤6 by omega)]; rfl) (nf fun h=>h6 h.2)
   ·refine iQ (by rw [bv (show ¬ (1:Int)≤(x.length:Int) by omega)]; exact aE) ?_
    exact⟨_,rfl,dZ (nf fun h=>h1 h.1)⟩
def JG:Sp:=fun vs H Q _=>∃(v:V) (d:PyData) (a:Addr) (ks:List Str),vs=[v,.ref a]∧RdV H v d∧H a=some (.tup (ks.map V.str))∧Q (.bl (dcd (∃ x,d=.str x∧x∈ks))) H
theorem Ky(D:Defs K mg t):aW P w K mg base CX0 1 t.cM.1 t.cM.2 ["thing","kinds"] JG:=by
 refine D.cM.fn.ok pA (fun vs H Q E h=>?_) (fun cdv A outer s H vs Q E hr h=>?_)
 ·obtain ⟨v,d,a,ks,rfl,_⟩:=h
  rfl
 ·obtain ⟨v,d,a,ks,rfl,rd,ha,k⟩:=h
  refine⟨_,(aF (aQ (iM (aO bR (by rfl) D.bM bI (aj (pv 0) (aj (fQ (v:=V.ty "str") rfl D.uG pH rfl) aA))) (ji (fG oF (pv 0) (pv 1) (by with_unfolding_all rfl)))))),?_⟩
  refine⟨_,rfl,_,_,_,Er d,rfl,rd.ty,LC K d,_,rfl,?_⟩
  cases hb:Er d with
  | true=>
   obtain ⟨x,rfl⟩:=Gy hb
   obtain rfl:=rd.lE
   refine dZ ⟨_,rfl,_,rfl,a,_,rfl,.inr (SqT.of ha),rfl,cH ks,?_⟩
   show Q (.bl (inV (.str x) (ks.map V.str))) H
   rw [cB]
   have e:dcd (∃ y,PyData.str x=.str y∧y∈ks)=decide (x∈ks):=by
    by_cases h:x∈ks
    ·rw [je ⟨x,rfl,h⟩,ay h]
    ·rw [iW (fun⟨y,e,hy⟩=>by injection e with e; exact h (e ▸ hy)),bv h]
   rw [e] at k
   exact k
  | false=>
   rw [iW (fun⟨x,e,_⟩=>by rw [e] at hb; cases hb)] at k
   exact fY k
end
end K17.E
end
section
namespace L2
open PySem PySem.Spec PyProof.Rows
theorem Nz:bootBuiltins "set" = some (.type "set"):=by decide +kernel
end L2
end
section
namespace K17.E
open PySem PyProof.Rows L2
theorem rE{ks:List Str}:∀ {ds:List PyData},(ds.map fun d=>dcd (∃ x,d=.str x∧x∈ks)).all id=true↔∃ es:List Str,ds=es.map PyData.str∧∀ e∈es,e∈ks
 | []=>⟨fun _=>⟨[],rfl,fun e he=>nomatch he⟩,fun _=>rfl⟩
 | d::ds=>by
  rw [eL,List.all_cons,gT,rE]
  show dcd _=true∧_↔_
  rw [KN]
  constructor
  ·rintro ⟨⟨x,rfl,hx⟩,es,rfl,he⟩
   exact⟨x::es,rfl,fun e h=>(bu.mp h).elim (fun z=>z ▸ hx) (he e)⟩
  ·rintro ⟨es,e,he⟩
   cases es with
   | nil=>cases e
   | cons x es=>
    injection e with e1 e2
    exact⟨⟨x,e1,he x aT⟩,es,e2,fun e h=>he e (cz _ h)⟩
def Od(ks:List Str)(d:PyData):Prop:=∃ es:List Str,d=.tuple (es.map .str)∧(∀ e∈es,e∈ks)∧es.Nodup
theorem JF{es fs:List Str}(h:es.map PyData.str=fs.map PyData.str):es=fs:=List.map_inj_right (f:=PyData.str) (fun a b e=>by injection e) |>.mp h
section
variable {P:Program}{w:World}{K:PySem.W.Frag}{mg:Str→Option Value}{base:Heap}{t:Adr}
def Lz:Sp:=fun vs H Q _=>∃(v:V) (d:PyData) (a:Addr) (ks:List Str),vs=[v,.ref a]∧RdV H v d∧H a=some (.tup (ks.map V.str))∧ks.length≤100∧∀ H',Same H H'→Q (.bl (dcd (Od ks d))) H'
theorem Nh(D:Defs K mg t):aW P w K mg base CX0 2 t.iH.1 t.iH.2 ["thing","kinds"] Lz:=by
 have G_is_kind:aW P w K mg base CX0 1 t.cM.1 t.cM.2 _ JG:=Ky D
 have hz:sizeLine=16777216:=cK
 refine D.iH.fn.ok xY (fun vs H Q E h=>?_) (fun cdv A outer s H vs Q E hr h=>?_)
 ·obtain ⟨v,d,a,ks,rfl,_⟩:=h
  rfl
 ·obtain ⟨v,d,a,ks,rfl,rd,ha,hk8,k⟩:=h
  refine⟨_,(aD (bQ (PW.pt (tQ (jG (d9 (aO bR (by rfl) D.bM bI (aj (pv 0) (aj (fQ (v:=V.ty "tuple") rfl D.cV bY rfl) aA))))) (pC (aV zT (aO bC (by rfl) D.iz eE (aj (pv 0) aA)) (aO bC (by rfl) D.iz eE (aj (pv 1) aA)) (bx _)))))
   (aF (aQ nR))
   aY)
   (aD (bQ (jG (d9 (aO (nJ rfl) (by rfl) D.zx uQ (aj (bL rfl (aL.of ["part"] [1] ["part","kinds"] (aq (top 11)) ["thing","kinds"] rfl rfl (by decide +kernel)) ⟨fun _ _ _ _ _=>(aN (i:=0) (show List.Nodup [("part" : Str),("kinds" : Str)] by decide +kernel) rfl (Or.inl (af rfl)) (.inr (af rfl))),fun _ _ _ _ _=>cg,fun _ _ _ _ _=>(aH D.cM G_is_kind (hr.mono (by omega)) (by rfl) (aj (pv 0) (aj (pv 1) aA)))⟩ (cU (pv 0))) aA))))
   (aF (aQ nR))
   aY)
   (aF (aQ (fG fu (aO vH (by rfl) D.iz eE (aj (bG (FJ rfl) (by rfl) D.Ph Nz (aj (pv 0) aA)) aA)) (aO bC (by rfl) D.iz eE (aj (pv 0) aA)) (bx _)))))),?_⟩
  have kf:∀ {H'},Same H H'→¬ Od ks d→Q (.bl false) H':=fun s h=>by have:=k _ s; rw [iW h] at this; exact this
  refine⟨_,rfl,_,_,_,Gb d,rfl,rd.ty,Lf K d,_,rfl,?_⟩
  cases hb:Gb d with
  | false=>exact dZ (dZ (kf (Same.refl H) fun⟨es,e,_⟩=>by rw [e] at hb; cases hb))
  | true=>
   obtain ⟨ds,rfl⟩:=Jr hb
   obtain ⟨b,xs,rfl,hb',rl⟩:=rd.yO
   have hxl:=rl.length
   refine fY ⟨_,rfl,b,_,rfl,.inr (SqT.of hb'),_,rfl,a,_,rfl,.inr (SqT.of ha),_,_,rfl,rfl,_,rfl,?_⟩
   rw [aa]
   by_cases hlen:ds.length > ks.length
   ·refine iR (ay (by omega)) (kf (Same.refl H) ?_)
    rintro ⟨es,e,sub,nd⟩
    injection e with e
    have:=cL nd sub
    rw [e,aa] at hlen
    omega
   ·refine iQ (by rw [bv (show ¬ ((xs.length:Int) > (ks.length:Int)) by omega)]; exact aE) ?_
    refine⟨_,rfl,b,rfl,⟨_,SqT.of hb'⟩,fun Dd hD=>?_⟩
    have sD:∀ o,Same H (upd H Dd o):=fun o=>Same.new hD
    refine bA (n:=xs.length) (fun i ys H2=>ys=((ds.take i).map fun d=>dcd (∃ x,d=.str x∧x∈ks)).map V.bl∧H2=upd H Dd (.lst ys)) ⟨rfl,rfl⟩ ?_ ?_
    ·rintro ys H2 ⟨rfl,rfl⟩
     rw [av (by omega)]
     have s2:=sD (.lst ((ds.map fun d=>dcd (∃ x,d=.str x∧x∈ks)).map V.bl))
     refine⟨⟨_,SqT.of (s2 b _ hb'),am _⟩,Dd,_,rfl,SqL.of ak,_,rfl,?_⟩
     generalize upd H Dd (.lst ((ds.map fun d=>dcd (∃ x,d=.str x∧x∈ks)).map V.bl))=H2 at s2
     cases hall:(ds.map fun d=>dcd (∃ x,d=.str x∧x∈ks)).all id with
     | false=>
      refine dZ (kf s2 ?_)
      rintro ⟨es,e,sub,nd⟩
      injection e with e
      rw [rE.mpr ⟨es,e,sub⟩] at hall
      cases hall
     | true=>
      obtain ⟨es,rfl,sub⟩:=rE.mp hall
      obtain rfl:=rl.lC
      have hel:es.length≤100:=by rw [aa] at hlen; omega
      refine fY ⟨_,rfl,b,es,rfl,.inr (SqT.of (s2 b _ hb')),by omega,fun sd hsd=>?_⟩
      refine⟨sd,_,rfl,ak,_,rfl,b,_,rfl,.inr (SqT.of (Same.new hsd b _ (s2 b _ hb'))),?_⟩
      rw [aa]
      have fin:=k _ (s2.trans (Same.new (o:=JW P w sd (un es es.length)) hsd))
      by_cases nd:es.Nodup
      ·rw [je ⟨es,rfl,sub,nd⟩] at fin
       refine⟨rfl,?_⟩
       rw [ay (by rw [(Gq es).mpr nd])]
       exact fin
      ·rw [iW (fun⟨fs,e,_,n⟩=>by injection e with e; rw [JF e] at nd; exact nd n)] at fin
       refine⟨rfl,?_⟩
       rw [bv (fun z=>by injection z with z; exact nd ((Gq es).mp (by omega)))]
       exact fin
    ·rintro i ys H2 hi ⟨rfl,rfl⟩
     have hil:i < ds.length:=by omega
     obtain ⟨y,ey,ry⟩:=rl.get (ae hil)
     have s2:=sD (.lst (((ds.take i).map fun d=>dcd (∃ x,d=.str x∧x∈ks)).map V.bl))
     refine⟨⟨_,_,SqT.of (s2 b _ hb'),ey⟩,?_⟩
     rintro z H3 ⟨rfl,yy⟩ σo ho
     obtain ⟨o,rfl⟩:=own1 ho
     have ez:=yy _ (SqT.of (s2 b _ hb'))
     rw [ey] at ez
     cases ez
     refine⟨⟨[_],rfl,rfl⟩,dB ⟨_,rfl,_,rfl,_,ds[i],a,ks,rfl,ry.sV s2,s2 a _ ha,by rw [aa,aa,br]; omega,ak,aR hi ⟨?_,by rw [bO]⟩⟩⟩
     rw [take_snoc hil,aw,aw]
     rfl
end
end K17.E
end
section
namespace K17.B
open PySem PyProof.Rows L2
structure Row where
 kind:Str
 bw:List Str
 order:List Str
 fields:List Str
 bh:List (Str × Int)
 num:Int
def Qk(r:Row):List T:=[.str r.kind,.tup (r.bw.map T.str),.tup (r.order.map T.str),.tup (r.fields.map T.str),.tup (r.bh.map fun d=>T.tup [.str d.1,.int d.2]),.int r.num]
def gw(r:Row):T:=.tup (Qk r)
def kW(tb:List Row):T:=.tup (tb.map gw)
def kns(tb:List Row):List Str:=tb.map (·.kind)
structure Hf (tb:List Row):Prop where
 nd:(kns tb).Nodup
 len:tb.length≤7
 ord:∀ r∈tb,∀ x∈r.order,x∈kns tb
 ol:∀ r∈tb,r.order.length≤8
 fl:∀ r∈tb,r.fields.length≤7
 kl:∀ r∈tb,Nm r.kind
 es:∀ r∈tb,(∀ x∈r.bw,x∈kns tb)∧r.bw.length≤7
theorem lJ{r:Row}:∀ {tb:List Row},(kns tb).Nodup→r∈tb→tb.filter (fun x=>decide (x.kind=r.kind))=[r]
 | [],_,h=>by cases h
 | y::tb,nd,h=>by
  obtain ⟨n1,n2⟩:=eW.mp nd
  rw [dk]
  by_cases e:y.kind=r.kind
  ·rw [ck (ay e)]
   have hy:y=r:=by
    rcases bu.mp h with h | h
    ·exact h.symm
    ·exact absurd (bg.mpr ⟨r,h,e.symm⟩) n1
   rw [hy,List.filter_eq_nil_iff.mpr fun z hz hk=>n1 (bg.mpr ⟨z,hz,(cy hk).trans e.symm⟩)]
  ·rw [bX (by rw [bv e]; exact aE)]
   rcases bu.mp h with h | h
   ·exact absurd (by rw [h]) e
   ·exact lJ n2 h
theorem Dp.qR{H:Hp}{r:Row}{v:V}(d:Dp H (gw r) v):∃(q e o f g:Addr) (ds:List V),v=.ref q∧H q=some (.tup [.str r.kind,.ref e,.ref o,.ref f,.ref g,.int r.num])∧H e=some (.tup (r.bw.map V.str))∧H o=some (.tup (r.order.map V.str))∧H f=some (.tup (r.fields.map V.str))∧H g=some (.tup ds):=by
 obtain ⟨q,xs,rfl,hq,dl⟩:=L2.Dp.cR d
 obtain ⟨x1,r1,rfl,d1,dl⟩:=DpL.cases dl
 obtain ⟨x2,r2,rfl,d2,dl⟩:=DpL.cases dl
 obtain ⟨x3,r3,rfl,d3,dl⟩:=DpL.cases dl
 obtain ⟨x4,r4,rfl,d4,dl⟩:=DpL.cases dl
 obtain ⟨x5,r5,rfl,d5,dl⟩:=DpL.cases dl
 obtain ⟨x6,r6,rfl,d6,dl⟩:=DpL.cases dl
 have e1:x1=.str r.kind:=d1.lE
 have e6:x6=.int r.num:=by rw [Dp] at d6; exact d6
 have e7:r6=[]:=by
  cases r6 with
  | nil=>rfl
  | cons _ _=>have:=dl.length; cases this
 obtain ⟨a2,y2,rfl,h2,l2⟩:=L2.Dp.cR d2
 obtain ⟨a3,y3,rfl,h3,l3⟩:=L2.Dp.cR d3
 obtain ⟨a4,y4,rfl,h4,l4⟩:=L2.Dp.cR d4
 obtain ⟨a5,y5,rfl,h5,_⟩:=L2.Dp.cR d5
 rw [DpL.lC l2] at h2
 rw [DpL.lC l3] at h3
 rw [DpL.lC l4] at h4
 subst e1 e6 e7
 exact⟨q,a2,a3,a4,a5,y5,rfl,hq,h2,h3,h4,h5⟩
section
variable {P:Program}{w:World}{K:PySem.W.Frag}{mg:Str→Option Value}{base:Heap}{t:Adr}
def lM:Sp:=fun vs H Q _=>∃(x:Str) (q:Addr) (ks:List Str),vs=[.str x,.ref q]∧H q=some (.tup (ks.map V.str))∧Q (.bl (decide (x∈ks))) H
theorem oK(D:Defs K mg t):aW P w K mg base CX0 1 t.cM.1 t.cM.2 ["thing","kinds"] lM:=by
 refine D.cM.fn.ok pA (fun vs H Q E h=>?_) (fun cdv A outer s H vs Q E hr h=>?_)
 ·obtain ⟨x,q,ks,rfl,_⟩:=h
  rfl
 ·obtain ⟨x,q,ks,rfl,hq,k⟩:=h
  refine⟨_,(aF (aQ (iM (aO bR (by rfl) D.bM bI (aj (pv 0) (aj (fQ (v:=V.ty "str") rfl D.uG pH rfl) aA))) (ji (fG oF (pv 0) (pv 1) (by with_unfolding_all rfl)))))),?_⟩
  refine⟨_,rfl,_,_,_,true,rfl,.str x,iu K "str",_,rfl,dZ ⟨_,rfl,_,rfl,q,_,rfl,.inr (SqT.of hq),rfl,cH _,?_⟩⟩
  show Q (.bl (inV (.str x) (ks.map V.str))) H
  rw [cB]
  exact k
def pR:Sp:=fun vs H Q _=>∃(x:Str) (q:Addr) (ks:List Str),vs=[.str x,.ref q]∧H q=some (.tup (ks.map V.str))∧x∈ks∧Q .non H
theorem sJ(D:Defs K mg t):aW P w K mg base CX0 2 t.cO.1 t.cO.2 ["kind","kinds"] pR:=by
 have G_is_kind:aW P w K mg base CX0 1 t.cM.1 t.cM.2 _ lM:=oK D
 refine D.cO.fn.ok oX (fun vs H Q E h=>?_) (fun cdv A outer s H vs Q E hr h=>?_)
 ·obtain ⟨x,q,ks,rfl,_⟩:=h
  rfl
 ·obtain ⟨x,q,ks,rfl,hq,hx,k⟩:=h
  refine⟨_,(aF (bQ (jG (d9 (aH D.cM G_is_kind (hr.mono (by omega)) (by rfl) (aj (pv 0) (aj (pv 1) aA)))))
   (aF mD)
   aY)),?_⟩
  refine⟨_,rfl,_,rfl,x,q,ks,rfl,hq,_,rfl,?_⟩
  rw [ay hx]
  exact fY k
def rT:Sp:=fun vs H Q _=>∃(v:V) (tb:List Row),vs=[v]∧Dp H (kW tb) v∧tb.length≤7∧∀(q:Addr) H',H' q=some (.tup ((kns tb).map V.str))→Same H H'→Q (.ref q) H'
theorem sU(D:Defs K mg t):aW P w K mg base CX0 1 t.kinds_of.1 t.kinds_of.2 ["rows"] rT:=by
 have hz:sizeLine=16777216:=cK
 refine D.kinds_of.fn.ok zF (fun vs H Q E h=>?_) (fun cdv A outer s H vs Q E hr h=>?_)
 ·obtain ⟨v,tb,rfl,_⟩:=h
  rfl
 ·obtain ⟨v,tb,rfl,dv,h7,k⟩:=h
  obtain ⟨a,xs,rfl,ha,dl⟩:=L2.Dp.cR dv
  have hxl:xs.length=tb.length:=by have:=dl.length; rwa [aa] at this
  refine⟨_,(aF (aQ (bG bD (by rfl) D.cV bY (aj (bL rfl (aL.of ["row"] [] ["row"] (aq (top 13)) ["rows"] rfl rfl (by decide +kernel)) ⟨fun _ _ _ _ _=>(aN (i:=0) (show List.Nodup [("row" : Str)] by decide +kernel) rfl (Or.inl (af rfl)) (.inr (af rfl))),fun _ _ _ _ _=>cg,fun _ _ _ _ _=>(aM (bB (K:=K) rfl) (pv 0) aC (fun _ _=>rfl))⟩ (cU (pv 0))) aA)))),?_⟩
  refine⟨_,rfl,a,rfl,⟨_,SqT.of ha⟩,fun D1 hD1=>?_⟩
  have s1:∀ u,Same H (upd H D1 u):=fun u=>Same.new hD1
  refine bA (n:=xs.length) (fun i ys H2=>ys=((kns tb).take i).map V.str∧H2=upd H D1 (.lst ys)) ⟨rfl,rfl⟩ ?_ ?_
  rotate_left
  ·rintro i ys H2 hi ⟨rfl,rfl⟩
   have hit:i < tb.length:=by omega
   obtain ⟨y,ei,dy⟩:=dl.get (i:=i) (t:=gw tb[i]) (by rw [bc,ae hit]; rfl)
   obtain ⟨q,e,o,f,g,ds,rfl,hq,_⟩:=K17.B.Dp.qR dy
   have hai:=s1 (.lst (((kns tb).take i).map V.str)) a _ ha
   refine⟨⟨_,_,SqT.of hai,ei⟩,?_⟩
   rintro v H3 ⟨rfl,yy⟩ σo ho
   obtain ⟨oo,rfl⟩:=own1 ho
   have ev:=yy _ (SqT.of hai)
   rw [ei] at ev
   cases ev
   have hkl:i < (kns tb).length:=by show i < (tb.map _).length; rw [aa]; exact hit
   have ek:(kns tb)[i]=tb[i].kind:=gp _
   refine⟨⟨[_],rfl,rfl⟩,dB ⟨_,rfl,q,_,_,_,rfl,rfl,SqT.of (s1 _ q _ hq),aG (j:=0) rfl,by rw [aa,br]; omega,ak,aR hi ⟨?_,by rw [bO]⟩⟩⟩
   rw [take_snoc hkl,aw,ek]
   rfl
  rintro ys H2 ⟨rfl,rfl⟩
  rw [av (by show (tb.map _).length≤_; rw [aa]; omega)]
  refine⟨⟨_,SqT.of (s1 _ a _ ha),am _⟩,D1,_,rfl,.inl ⟨SqL.of ak,fun q hq=>?_⟩⟩
  exact k q _ ak ((s1 _).trans (Same.new hq))
def yc:Sp:=fun vs H Q _=>∃(v:V) (tb:List Row) (r:Row),vs=[v,.str r.kind]∧Dp H (kW tb) v∧Hf tb∧r∈tb∧∀(u:V) H',Dp H' (gw r) u→Same H H'→Q u H'
theorem zy(D:Defs K mg t):aW P w K mg base CX0 3 t.jE.1 t.jE.2 ["table","kind"] yc:=by
 have G_check_kind:aW P w K mg base CX0 2 t.cO.1 t.cO.2 _ pR:=sJ D
 have G_kinds_of:aW P w K mg base CX0 1 t.kinds_of.1 t.kinds_of.2 _ rT:=sU D
 have hz:sizeLine=16777216:=cK
 refine D.jE.fn.ok EY (fun vs H Q E h=>?_) (fun cdv A outer s H vs Q E hr h=>?_)
 ·obtain ⟨v,tb,r,rfl,_⟩:=h
  rfl
 ·obtain ⟨v,tb,r,rfl,dv,G,hr',k⟩:=h
  obtain ⟨a,xs,rfl,ha,dl⟩:=L2.Dp.cR dv
  have hxl:xs.length=tb.length:=by have:=dl.length; rwa [aa] at this
  have h7:=G.len
  have hx:r.kind∈kns tb:=bg.mpr ⟨r,hr',rfl⟩
  refine⟨_,(aD (jd (aH D.cO G_check_kind (hr.mono (by omega)) (by rfl) (aj (pv 1) (aj (aH D.kinds_of G_kinds_of (hr.mono (by omega)) (by rfl) (aj (pv 0) aA)) aA))))
   (aF (aQ (aM cu (bL rfl (aL.of ["row"] [1] ["row","kind"] (aq (top 30)) ["table","kind"] rfl rfl (by decide +kernel)) ⟨fun _ _ _ _ _=>(aN (i:=0) (show List.Nodup [("row" : Str),("kind" : Str)] by decide +kernel) rfl (Or.inl (af rfl)) (.inr (af rfl))),fun _ _ _ _ _=>(dM (aV fu (aM (bB (K:=K) rfl) (pv 0) aC (fun _ _=>rfl)) (pv 1) (bx _))),fun _ _ _ _ _=>(pv 0)⟩ (cU (pv 0))) aC (fun _ _=>rfl))))),?_⟩
  refine⟨_,rfl,_,rfl,.ref a,tb,rfl,dv,h7,fun q H1 hq s1=>⟨r.kind,q,_,rfl,hq,hx,?_⟩⟩
  have ha1:=s1 a _ ha
  have dl1:=dl.mono (Same.tups s1)
  refine⟨_,rfl,a,rfl,⟨_,SqT.of ha1⟩,fun D1 hD1=>?_⟩
  have s2:∀ u,Same H1 (upd H1 D1 u):=fun u=>Same.new hD1
  refine bA (n:=xs.length) (fun i ys H2=>Paired (fun(v:V) (r:Row)=>Dp H1 (gw r) v) ys ((tb.take i).filter fun x=>decide (x.kind=r.kind))∧H2=upd H1 D1 (.lst ys)) ⟨.nil,rfl⟩ ?_ ?_
  rotate_left
  ·rintro i ys H2 hi ⟨pr,rfl⟩
   have hit:i < tb.length:=by omega
   obtain ⟨y,ei,dy⟩:=dl1.get (i:=i) (t:=gw tb[i]) (by rw [bc,ae hit]; rfl)
   obtain ⟨q,e,o,f,g,ds,rfl,hq',_⟩:=K17.B.Dp.qR dy
   have hai:=s2 (.lst ys) a _ ha1
   refine⟨⟨_,_,SqT.of hai,ei⟩,?_⟩
   rintro v H3 ⟨rfl,yy⟩ σo ho
   obtain ⟨oo,rfl⟩:=own1 ho
   have ev:=yy _ (SqT.of hai)
   rw [ei] at ev
   cases ev
   have hyl:ys.length≤7:=by
    rw [cS pr]
    refine dC (de _ _) ?_
    rw [br]
    omega
   have etk:(tb.take (i+1)).filter (fun x=>decide (x.kind=r.kind))=(tb.take i).filter (fun x=>decide (x.kind=r.kind))++(if decide (tb[i].kind=r.kind)=true then [tb[i]] else []):=by
    rw [take_snoc hit,eS,dk]
    rfl
   refine⟨⟨[_],rfl,rfl⟩,_,rfl,q,_,_,_,rfl,rfl,SqT.of (s2 _ q _ hq'),aG (j:=0) rfl,_,rfl,rfl,_,rfl,eX (fun hb=>?_) (fun hb=>?_)⟩
   ·have hb:tb[i].kind=r.kind:=by
     have:=cy hb
     injection this
    refine⟨_,rfl,by omega,ak,aR hi ⟨?_,by rw [bO]⟩⟩
    rw [etk,ck (ay hb)]
    exact cP pr dy
   ·have hb:¬ tb[i].kind=r.kind:=fun e=>hb (ay (by rw [e]))
    refine aR hi ⟨?_,rfl⟩
    rw [etk,bX (by rw [bv hb]; exact aE),eB]
    exact pr
  rintro ys H2 ⟨pr,rfl⟩
  rw [av (by omega),lJ G.nd hr'] at pr
  cases pr with
  | cons du nn=>
   cases nn
   refine⟨⟨_,SqT.of (s2 _ a _ ha1),am _⟩,D1,_,_,_,rfl,rfl,SqL.of ak,aG (j:=0) rfl,?_⟩
   exact k _ _ (du.mono (Same.tups (s2 _))) (s1.trans (s2 _))
def mZ(d:Str × Int):T:=.tup [.str d.1,.int d.2]
def tR(ns:List Str)(ds:List (Str × Int)):Prop:=(ds.map Prod.fst).Nodup∧(∀ d∈ds,d.1∈ns)∧(∀ d∈ds,1≤d.2∧d.2≤99)∧(ds.map Prod.fst).Pairwise leS
theorem Bm{l:List Str}(h:sortedS l=true):l.Pairwise leS:=by
 cases l with
 | nil=>exact .nil
 | cons x r=>exact wU r x h
def Lk:Sp:=fun vs H Q _=>∃(p l:Addr) (ns:List Str),vs=[.ref p,.ref l]∧Pu H p∧H l=some (.lst (ns.map V.str))∧ns.length≤11∧
 ∀(v:V) (ds:List (Str × Int)) H',Dp H' (.tup (ds.map mZ)) v→tR ns ds→Off p H H'→Pu H' p→Q v H'
theorem Np(D:Defs K mg t):aW P w K mg base CX0 3 t.jh.1 t.jh.2 ["_law_purse_here","_law_deeds"] Lk:=by
 have G__law_take:aW P w K mg base CX0 1 t.aU.1 t.aU.2 _ mQ:=kY D
 have G__law_some:aW P w K mg base CX0 2 t.bW.1 t.bW.2 _ vm:=sy D
 have hz:sizeLine=16777216:=cK
 refine D.jh.fn.ok rM (fun vs H Q E h=>?_) (fun cdv A outer s H vs Q E hr h=>?_)
 ·obtain ⟨p,l,ns,rfl,_⟩:=h
  rfl
 ·obtain ⟨p,l,ns,rfl,hp,hl,h3,k⟩:=h
  refine⟨_,(aD (aP (i:=2) rM.nd rfl (Or.inl rfl) (aO yp (by rfl) D.uZ rm (aj (aH D.bW G__law_some (hr.mono (by omega)) (by rfl) (aj (pv 0) (aj (pv 1) (aj (aO bC (by rfl) D.iz eE (aj (pv 1) aA)) aA)))) aA)))
   (aF (aQ (bG bD (by rfl) D.cV bY (aj (bL rfl (aL.of ["_law_deed"] [0] ["_law_deed","_law_purse_here"] (aq (top 52)) ["_law_purse_here","_law_deeds","_law_some_here"] rfl rfl (by decide +kernel)) ⟨fun _ _ _ _ _=>(aN (i:=0) (show List.Nodup [("_law_deed" : Str),("_law_purse_here" : Str)] by decide +kernel) rfl (Or.inl (af rfl)) (.inr (af rfl))),fun _ _ _ _ _=>cg,fun _ _ _ _ _=>(dg (aj (pv 0) (aj (aM (mz (K:=K) rfl) (dU (aj aC (aj aC (aj (bJ gQ aC (aH D.aU G__law_take (hr.mono (by omega)) (by rfl) (aj (pv 1) (aj aC aA)))) aA)))) (aH D.aU G__law_take (hr.mono (by omega)) (by rfl) (aj (pv 1) (aj aC aA))) (fun _ _=>rfl)) aA)))⟩ (gU (pv 2))) aA))))),?_⟩
  refine⟨_,rfl,_,rfl,_,rfl,l,_,rfl,.inl (SqL.of hl),p,l,ns,ns.length,by rw [aa]; rfl,hp,hl,by omega,by omega,?_⟩
  intro q es H1 hq sub nd hle o1 p1
  refine⟨q,es,rfl,.inr (SqT.of hq),by omega,fun d ss pm srt hd=>?_⟩
  have hsl:ss.length=es.length:=pm.length_eq
  have pd:p≠d:=p1.neN hd
  have o2:Off p H (upd H1 d (.lst (ss.map V.str))):=o1.trans (Off.new hd)
  have p2:Pu (upd H1 d (.lst (ss.map V.str))) p:=p1.au pd
  have hd2:(upd H1 d (.lst (ss.map V.str))) d=some (.lst (ss.map V.str)):=ak
  generalize upd H1 d (.lst (ss.map V.str))=H2 at o2 p2 hd2
  refine⟨_,rfl,d,rfl,⟨_,SqL.of hd2⟩,fun D1 hD1=>?_⟩
  have pD:p≠D1:=p2.neN hD1
  have dD:d≠D1:=aB hd2 hD1
  refine bA (n:=(ss.map V.str).length) (fun i ys H3=>∃ ds:List (Str × Int),ds.length=i∧ds.map Prod.fst=ss.take i∧(∀ d∈ds,1≤d.2∧d.2≤99)∧DpL H3 (ds.map mZ) ys∧H3 D1=some (.lst ys)∧H3 d=some (.lst (ss.map V.str))∧Off p H2 H3∧Pu H3 p)
   ⟨[],rfl,rfl,(fun _ h=>nomatch h),.nil,ak,by rw [au dD]; exact hd2,Off.new hD1,p2.au pD⟩ ?_ ?_
  ·rintro ys H3 ⟨ds,hdl,hdn,hdb,dl,hD3,hd3,o3,p3⟩
   refine⟨⟨_,SqL.of hd3,am _⟩,D1,_,rfl,.inl ⟨SqL.of hD3,fun q4 hq4=>?_⟩⟩
   exact k (.ref q4) ds _ (L2.Dp.tup ak (dl.mono (Same.tups (Same.new hq4)))) (by
    rw [aa,av (am _)] at hdn
    refine⟨by rw [hdn]; exact pm.nodup_iff.mpr nd,fun d hd=>sub _ (pm.mem_iff.mp ?_),hdb,by rw [hdn]; exact Bm srt⟩
    rw [← hdn]
    exact d0 hd) (o2.trans (o3.trans (Off.new hq4))) (p3.au (p3.neN hq4))
  ·rintro i ys H3 hi ⟨ds,hdl,hdn,hdb,dl,hD3,hd3,o3,p3⟩
   have hi':i < ss.length:=by rw [aa] at hi; exact hi
   have ei:(ss.map V.str)[i]?=some (.str ss[i]):=by rw [bc,ae hi']; rfl
   refine⟨⟨_,_,SqL.of hd3,ei⟩,?_⟩
   rintro x H4 ⟨rfl,yy⟩ σo ho
   obtain ⟨oo,rfl⟩:=own1 ho
   have ev:=yy _ (SqL.of hd3)
   rw [ei] at ev
   cases ev
   refine⟨⟨[_],rfl,rfl⟩,dB ?_⟩
   refine⟨_,rfl,_,rfl,p,99,rfl,p3,by decide,by decide,fun r1 a1 b1 c1 l1 u1=>⟨_,_,rfl,rfl,by show 3≤sizeLine; decide,fun m hm=>?_⟩⟩
   have pm':p≠m:=Pu.upd.neN hm
   have p5:=(Pu.upd (H:=H4) (p:=p) (a:=a1) (b:=b1) (c:=c1)).au (o:=.lst [.int 1,.int 99,.int (1+r1)]) pm'
   have o5:Off p H4 (upd (upd H4 p (.lst [.int a1,.int b1,.int c1])) m (.lst [.int 1,.int 99,.int (1+r1)])):=Off.upd.trans (Off.new hm)
   have hm5:(upd (upd H4 p (.lst [.int a1,.int b1,.int c1])) m (.lst [.int 1,.int 99,.int (1+r1)])) m=some (.lst [.int 1,.int 99,.int (1+r1)]):=ak
   generalize upd (upd H4 p (.lst [.int a1,.int b1,.int c1])) m (.lst [.int 1,.int 99,.int (1+r1)])=H5 at p5 o5 hm5
   refine⟨_,rfl,p,3,rfl,p5,by decide,by decide,fun r2 a2 b2 c2 l2 u2=>?_⟩
   have p6:Pu (upd H5 p (.lst [.int a2,.int b2,.int c2])) p:=Pu.upd
   have o6:Off p H4 (upd H5 p (.lst [.int a2,.int b2,.int c2])):=o5.trans Off.upd
   have hm6:(upd H5 p (.lst [.int a2,.int b2,.int c2])) m=some (.lst [.int 1,.int 99,.int (1+r1)]):=by rw [au pm'.symm]; exact hm5
   generalize upd H5 p (.lst [.int a2,.int b2,.int c2])=H6 at p6 o6 hm6
   obtain ⟨z,hz',hz1,hz2⟩:∃ z:Int,atI [V.int 1,V.int 99,V.int (1+r1)] r2=some (.int z)∧1≤z∧z≤99:=by
    rcases (by omega:r2=0∨r2=1∨r2=2) with rfl | rfl | rfl
    ·exact⟨_,aG (j:=0) rfl,by omega,by omega⟩
    ·exact⟨_,aG (j:=1) rfl,by omega,by omega⟩
    ·exact⟨_,aG (j:=2) rfl,by omega,by omega⟩
   refine⟨m,_,_,_,rfl,rfl,SqL.of hm6,hz',by show 2≤sizeLine; decide,fun q7 hq7=>?_⟩
   have Dp':D1≠p:=pD.symm
   have dp':d≠p:=pd.symm
   have hD6:=o6 D1 _ Dp' hD3
   have hd6:=o6 d _ dp' hd3
   have tu6:gD H4 H6:=fun c zs e=>by
    obtain ⟨x1,x2,x3,ep⟩:=p3
    exact o6 c _ (eG e ep (fun z=>nomatch z)) e
   have s7:Same H6 (upd H6 q7 (.tup [.str ss[i],.int z])):=Same.new hq7
   have q7D:q7≠D1:=fun e=>by rw [e,hD6] at hq7; cases hq7
   have hyl:ys.length=i:=by
    have:=dl.length
    rw [aa] at this
    omega
   refine⟨by omega,s7 D1 _ hD6,aR hi ⟨ds++[(ss[i],z)],by rw [bz,hdl]; rfl,by rw [take_snoc hi',aw,hdn]; rfl,?_,?_,ak,by rw [au dD]; exact s7 d _ hd6,?_,?_⟩⟩
   ·intro d hd
    rcases bS.mp hd with h | h
    ·exact hdb d h
    ·rw [aS.mp h]
     exact⟨hz1,hz2⟩
   ·rw [aw]
    have tu7:gD (upd H6 q7 (.tup [.str ss[i],.int z])) (upd (upd H6 q7 (.tup [.str ss[i],.int z])) D1 (.lst (ys++[.ref q7]))):=fun c zs e=>by
     rw [au (eG e (s7 D1 _ hD6) (fun z=>nomatch z))]
     exact e
    refine(dl.mono (tu6.trans ((Same.tups s7).trans tu7))).append (.cons ?_ .nil)
    exact L2.Dp.tup (by rw [au q7D,ak]) (.cons (L2.Dp.str _) (.cons (L2.Dp.int _) .nil))
   ·exact fun b u hb e=>by
     rw [au (fun e'=>by subst e'; rw [e] at hD1; cases hD1)]
     exact s7 b u (o6 b u hb (o3 b u hb e))
   ·exact(p6.au (p6.neN hq7)).au pD
def qM(H:Hp)(kvs:List (Key × V))(g:Str→List Str)(ns:List Str):Prop:=∀ x∈ns,∃ q,bZ kvs (.inr x)=some (.ref q)∧H q=some (.tup ((g x).map V.str))∧(g x).length≤8
theorem qM.mono{H H':Hp}{kvs:List (Key × V)}{g:Str→List Str}{ns:List Str}(h:qM H kvs g ns)(s:gD H H'):qM H' kvs g ns:=fun x hx=>by
 obtain ⟨q,h1,h2,h3⟩:=h x hx
 exact⟨q,h1,s q _ h2,h3⟩
theorem Dk(xs:List V)(k:Nat)(h:k≤xs.length):eF xs none (some (k:Int))=xs.take k:=by
 unfold eF
 rw [HT.qI,Nat.min_eq_left h]
 rfl
theorem J5(xs:List V):eF xs none (some 1)=xs.take 1:=by
 cases xs with
 | nil=>rfl
 | cons x xs=>exact Dk (x::xs) 1 (by rw [dQ]; omega)
def iV(g:Str→List Str)(es:List Str):List (List Str):=es.map g++[es]
theorem wu{g:Str→List Str}{es:List Str}(h:∀ x∈es,(g x).length≤8):tot (iV g es)≤9 * es.length:=by
 have tl:∀ es:List Str,(∀ x∈es,(g x).length≤8)→tot (es.map g)≤8 * es.length:=by
  intro es
  induction es with
  | nil=>exact fun _=>am _
  | cons x es ih=>
   intro h
   rw [eL,gW,dQ]
   have:=h x aT
   have:=ih fun y hy=>h y (cz _ hy)
   omega
 have ta:tot (iV g es)=tot (es.map g)+es.length:=by
  unfold iV tot
  rw [aw,nL]
  simp
 have:=tl es h
 omega
theorem Fp{ns:List Str}(h:ns.Nodup):ns.reverse.Nodup:=(List.pairwise_reverse.mpr (List.Pairwise.imp (fun e z=>e z.symm) h))
theorem KQ(ns:List Str)(lo hi:Option Int):∃ ms:List Str,eF (ns.map V.str) lo hi=ms.map V.str∧ms.Sublist ns:=
 ⟨(ns.drop (HT.sIx ns.length 0 lo)).take (HT.sIx ns.length ns.length hi - HT.sIx ns.length 0 lo),by unfold eF; rw [aa,oQ,List.map_drop],(me _ _).trans (List.drop_sublist _ _)⟩
def LQ:Sp:=fun vs H Q _=>∃(p nl od:Addr) (sh:Int) (ns:List Str) (kvs:List (Key × V)) (g:Str→List Str),vs=[.ref p,.ref nl,.int sh,.ref od]∧Pu H p∧H nl=some (.lst (ns.map V.str))∧ns.Nodup∧ns.length≤7∧0≤sh∧sh < 6∧H od=some (.dK kvs)∧qM H kvs g ns∧
 ∀(q:Addr) (es:List Str) H',H' q=some (.tup (es.map V.str))→(∀ x∈es,x∈ns)→es.Nodup→(es.length≤1∨∃ os,Mg (full (iV g es)) (some os))→Off p H H'→Pu H' p→Q (.ref q) H'
theorem Ni(D:Defs K mg t):aW P w K mg base CX0 3 t.fM.1 t.fM.2 ["_law_purse_here","_law_names_here","_law_shape","_law_orders_here"] LQ:=by
 have G__law_take:aW P w K mg base CX0 1 t.aU.1 t.aU.2 _ mQ:=kY D
 have G__law_some:aW P w K mg base CX0 2 t.bW.1 t.bW.2 _ vm:=sy D
 have G__law_merge:aW P w K mg base CX0 1 t.cN.1 t.cN.2 _ su:=tZ D
 have hz:sizeLine=16777216:=cK
 refine D.fM.fn.ok kh (fun vs H Q E h=>?_) (fun cdv A outer s H vs Q E hr h=>?_)
 ·obtain ⟨p,nl,od,sh,ns,kvs,g,rfl,_⟩:=h
  rfl
 ·obtain ⟨p,nl,od,sh,ns,kvs,g,rfl,hp,hnl,nd,h7,hs0,hs6,hod,og,k⟩:=h
  have np:nl≠p:=hp.ne hnl
  refine⟨_,(aD (aP (i:=4) kh.nd rfl (Or.inl rfl) (aH D.bW G__law_some (hr.mono (by omega)) (by rfl) (aj (pv 0) (aj (pv 1) (aj (aM cu (dU (aj aC (aj aC (aj aC (aj aC aA))))) (aH D.aU G__law_take (hr.mono (by omega)) (by rfl) (aj (pv 0) (aj aC aA))) (fun _ _=>rfl)) aA)))))
   (j8 (bQ (aV zU (pv 2) aC (bx _))
   (aF (aP (i:=4) kh.nd rfl (Or.inl rfl) (bG bD (by rfl) D.cV bY (aj (Hx (dJ qL (pv 1) (gk (aO (vW rfl) (by rfl) D.Lj GD (aj aC (aj (bJ xZ (bJ xZ (aO bC (by rfl) D.iz eE (aj (pv 1) aA)) aC) (bJ mJ aC (pv 2))) aA)))) fZ) (bJ xZ aC (bJ mJ aC (aH D.aU G__law_take (hr.mono (by omega)) (by rfl) (aj (pv 0) (aj aC aA)))))) aA))))
   aY)
   (aD (bQ (aV lF (aH D.cN G__law_merge (hr.mono (by omega)) (by rfl) (aj cF (aj (bJ uN (bL rfl (aL.of ["_law_one"] [3] ["_law_one","_law_orders_here"] (aq (top 51)) ["_law_purse_here","_law_names_here","_law_shape","_law_orders_here","_law_elders_here"] rfl rfl (by decide +kernel)) ⟨fun _ _ _ _ _=>(aN (i:=0) (show List.Nodup [("_law_one" : Str),("_law_orders_here" : Str)] by decide +kernel) rfl (Or.inl (af rfl)) (.inr (af rfl))),fun _ _ _ _ _=>cg,fun _ _ _ _ _=>(dF (cY hr) (pv 1) (pv 0) (fun _ _=>rfl))⟩ (cU (pv 4))) (dU (aj (pv 4) aA))) aA))) eV (bx _))
   (aF (aQ (dJ Ko (pv 4) fZ (gk aC))))
   aY)
   (aF (aQ (pv 4)))))),?_⟩
  refine⟨_,rfl,_,rfl,by show 4≤sizeLine; decide,fun m hm=>?_⟩
  have pm':p≠m:=hp.neN hm
  refine⟨_,rfl,p,4,rfl,hp.au pm',by decide,by decide,fun r a1 b1 c1 l1 u1=>?_⟩
  have o1:Off p H (upd (upd H m (.lst [.int 4,.int 4,.int 4,.int 14])) p (.lst [.int a1,.int b1,.int c1])):=(Off.new hm).trans Off.upd
  have p1:Pu (upd (upd H m (.lst [.int 4,.int 4,.int 4,.int 14])) p (.lst [.int a1,.int b1,.int c1])) p:=Pu.upd
  have hm1:(upd (upd H m (.lst [.int 4,.int 4,.int 4,.int 14])) p (.lst [.int a1,.int b1,.int c1])) m=some (.lst [.int 4,.int 4,.int 4,.int 14]):=by rw [au pm'.symm,ak]
  generalize upd (upd H m (.lst [.int 4,.int 4,.int 4,.int 14])) p (.lst [.int a1,.int b1,.int c1])=H1 at o1 p1 hm1
  obtain ⟨z,hz',hz14⟩:∃ z:Nat,atI [V.int 4,V.int 4,V.int 4,V.int 14] r=some (.int (z:Nat))∧z≤14:=by
   rcases (by omega:r=0∨r=1∨r=2∨r=3) with rfl | rfl | rfl | rfl
   ·exact⟨4,aG (j:=0) rfl,by decide⟩
   ·exact⟨4,aG (j:=1) rfl,by decide⟩
   ·exact⟨4,aG (j:=2) rfl,by decide⟩
   ·exact⟨14,aG (j:=3) rfl,by decide⟩
  refine⟨m,_,_,_,rfl,rfl,SqL.of hm1,hz',p,nl,ns,z,rfl,p1,o1 nl _ np hnl,by omega,by omega,fun q es H2 hq sub nde hle o2 p2=>?_⟩
  have o2:Off p H H2:=o1.trans o2
  refine⟨fun σ H3=>∃(q:Addr) (es:List Str),σ=[some (.ref p),some (.ref nl),some (.int sh),some (.ref od),some (.ref q)]∧H3 q=some (.tup (es.map V.str))∧(∀ x∈es,x∈ns)∧es.Nodup∧Off p H H3∧Pu H3 p,?_,?_⟩
  ·refine⟨_,rfl,_,_,rfl,rfl,_,rfl,eX (fun hb=>?_) (fun hb=>⟨q,es,rfl,hq,sub,nde,o2,p2⟩)⟩
   refine⟨_,rfl,_,rfl,nl,_,rfl,.inl (SqL.of (o2 nl _ np hnl)),_,_,rfl,rfl,?_⟩
   refine⟨_,rfl,_,_,rfl,rfl,.inl ⟨by decide,by decide⟩,_,_,rfl,rfl,_,_,rfl,_,rfl,nl,_,rfl,SqL.of (o2 nl _ np hnl),fun m2 hm2=>?_⟩
   obtain ⟨ms,em,sbm⟩:=KQ ns (some (if ((ns.map V.str).length:Int) - 1 - 2 * sh > 0 then ((ns.map V.str).length:Int) - 1 - 2 * sh else 0)) none
   have p5:=p2.au (o:=.lst (eF (ns.map V.str) (some (if ((ns.map V.str).length:Int) - 1 - 2 * sh > 0 then ((ns.map V.str).length:Int) - 1 - 2 * sh else 0)) none)) (p2.neN hm2)
   have hm5:(upd H2 m2 (.lst (eF (ns.map V.str) (some (if ((ns.map V.str).length:Int) - 1 - 2 * sh > 0 then ((ns.map V.str).length:Int) - 1 - 2 * sh else 0)) none))) m2=some (.lst (ms.map V.str)):=by rw [ak,em]
   have o5:Off p H (upd H2 m2 (.lst (eF (ns.map V.str) (some (if ((ns.map V.str).length:Int) - 1 - 2 * sh > 0 then ((ns.map V.str).length:Int) - 1 - 2 * sh else 0)) none))):=o2.trans (Off.new hm2)
   have m2p:m2≠p:=(p2.neN hm2).symm
   generalize upd H2 m2 (.lst (eF (ns.map V.str) (some (if ((ns.map V.str).length:Int) - 1 - 2 * sh > 0 then ((ns.map V.str).length:Int) - 1 - 2 * sh else 0)) none))=H5 at p5 hm5 o5
   refine⟨_,rfl,p,2,rfl,p5,by decide,by decide,fun r7 a7 b7 c7 l7 u7=>⟨_,_,rfl,rfl,.inl ⟨by decide,by decide⟩,_,_,rfl,rfl,m2,_,_,rfl,rfl,SqL.of (by rw [au m2p]; exact hm5),?_⟩⟩
   have o7:Off p H (upd H5 p (.lst [.int a7,.int b7,.int c7])):=o5.trans Off.upd
   have p7:Pu (upd H5 p (.lst [.int a7,.int b7,.int c7])) p:=Pu.upd
   generalize upd H5 p (.lst [.int a7,.int b7,.int c7])=H7 at o7 p7
   rcases (by omega:r7=0∨r7=1) with rfl | rfl
   ·refine .inl ⟨by decide,fun q6 hq6=>⟨q6,_,rfl,.inl ⟨SqL.of ak,fun q8 hq8=>?_⟩⟩⟩
    have p8:=p7.au (o:=.lst (ms.map V.str)) (p7.neN hq6)
    exact⟨q8,ms,rfl,ak,fun x hx=>sbm.subset hx,nd.sublist sbm,o7.trans ((Off.new hq6).trans (Off.new hq8)),p8.au (p8.neN hq8)⟩
   ·refine .inr ⟨by decide,fun q6 hq6=>⟨q6,_,rfl,.inl ⟨SqL.of ak,fun q8 hq8=>?_⟩⟩⟩
    have p8:=p7.au (o:=.lst (ms.map V.str).reverse) (p7.neN hq6)
    exact⟨q8,ms.reverse,rfl,by rw [ak,List.map_reverse],fun x hx=>sbm.subset (List.mem_reverse.mp hx),Fp (nd.sublist sbm),o7.trans ((Off.new hq6).trans (Off.new hq8)),p8.au (p8.neN hq8)⟩
  ·rintro σ H3 ⟨q,es,rfl,hq,sub,nde,o3,p3⟩
   have odp:od≠p:=by
    obtain ⟨x1,x2,x3,ep⟩:=hp
    exact eG hod ep (fun z=>nomatch z)
   have hod3:=o3 od _ odp hod
   have og3:qM H3 kvs g ns:=og.mono fun c zs e=>by
    obtain ⟨x1,x2,x3,ep⟩:=hp
    exact o3 c _ (eG e ep (fun z=>nomatch z)) e
   have hel:es.length≤7:=dC (cL nde (m:=ns) sub) h7
   refine⟨_,rfl,q,rfl,⟨_,SqT.of hq⟩,fun D1 hD1=>?_⟩
   have s4:∀ u,Same H3 (upd H3 D1 u):=fun u=>Same.new hD1
   refine bA (n:=(es.map V.str).length) (fun j ys H4=>jK H3 ys ((es.take j).map g)∧H4=upd H3 D1 (.lst ys)) ⟨.nil,rfl⟩ ?_ ?_
   rotate_left
   ·rintro j ys H4 hj ⟨rt,rfl⟩
    have hj':j < es.length:=by rw [aa] at hj; exact hj
    have ej:(es.map V.str)[j]?=some (.str es[j]):=by rw [bc,ae hj']; rfl
    refine⟨⟨_,_,SqT.of (s4 _ q _ hq),ej⟩,?_⟩
    rintro y H5 ⟨rfl,yy⟩ σo ho
    obtain ⟨oo,rfl⟩:=own1 ho
    have ey:=yy _ (SqT.of (s4 _ q _ hq))
    rw [ej] at ey
    cases ey
    obtain ⟨q',h1,h2,_⟩:=og3 es[j] (sub _ (cn hj'))
    refine⟨⟨[_],rfl,rfl⟩,dB ⟨_,rfl,_,rfl,od,.ref q',rfl,.inl ⟨kvs,.inr es[j],.inl (s4 _ od _ hod3),rfl,h1.symm⟩,by rw [cS rt,aa,br]; omega,ak,aR hj ⟨?_,by rw [bO]⟩⟩⟩
    rw [take_snoc hj',aw]
    exact cP rt ⟨q',rfl,h2⟩
   rintro ys H4 ⟨rt,rfl⟩
   rw [aa,av (am _)] at rt
   refine⟨⟨_,SqT.of (s4 _ q _ hq),am _⟩,?_⟩
   have hyl:ys.length=es.length:=by rw [cS rt,aa]
   refine⟨_,rfl,by show 1≤sizeLine; decide,fun m2 hm2=>?_⟩
   have s5:=(s4 (.lst ys)).trans (Same.new (o:=.lst [.ref q]) hm2)
   have hD5:(upd (upd H3 D1 (.lst ys)) m2 (.lst [.ref q])) D1=some (.lst ys):=by rw [au (aB ak hm2),ak]
   refine⟨D1,m2,ys,[.ref q],rfl,rfl,hD5,ak,by show ys.length+1≤sizeLine; omega,fun rl hrl=>?_⟩
   have s6:=s5.trans (Same.new (o:=.lst (ys++[.ref q])) hrl)
   have hrl6:(upd (upd (upd H3 D1 (.lst ys)) m2 (.lst [.ref q])) rl (.lst (ys++[.ref q]))) rl=some (.lst (ys++[.ref q])):=ak
   generalize upd (upd (upd H3 D1 (.lst ys)) m2 (.lst [.ref q])) rl (.lst (ys++[.ref q]))=H6 at s6 hrl6
   have rt6:jK H6 (ys++[.ref q]) (iV g es):=cP (rt.mono (Same.tups s6)) ⟨q,rfl,s6 q _ hq⟩
   have tt:=wu (g:=g) (es:=es) fun x hx=>by
    obtain ⟨_,_,_,h⟩:=og3 x (sub x hx)
    exact h
   refine⟨"",rl,_,iV g es,rfl,hrl6,rt6,by omega,by unfold iV; rw [bz,aa,dm]; omega,fun v r H7 hm res s7=>?_⟩
   have s37:=s6.trans s7
   have p7:Pu H7 p:=p3.same s37
   have o7:Off p H H7:=o3.trans s37.off
   cases r with
   | none=>
    have ev:v=.non:=res
    subst ev
    refine⟨rfl,_,rfl,iR (ay rfl) ?_⟩
    refine⟨_,rfl,_,rfl,q,_,rfl,s37 q _ hq,fun q8 H8 hq8 s8=>?_⟩
    rw [J5,← oQ] at hq8
    exact k q8 (es.take 1) H8 hq8 (fun x hx=>sub x (nz hx)) (nde.sublist (me _ _)) (.inl (by rw [br]; omega)) (o7.trans s8.off) (p7.same s8)
   | some os=>
    obtain ⟨a',ev,_⟩:∃ a',v=V.ref a'∧True:=by
     obtain ⟨a',h,_⟩:=res
     exact⟨a',h,trivial⟩
    subst ev
    refine⟨rfl,_,rfl,iQ (by rw [bv (fun z=>nomatch z)]; exact aE) ?_⟩
    exact⟨_,rfl,k q es H7 (s37 q _ hq) sub nde (.inr ⟨os,hm⟩) o7 p7⟩
theorem Mg.qC{rows:List (List Str)}{r:Option (List Str)}(h:Mg rows r):∀ os,r=some os→(∀ y∈os,∃ q∈rows,y∈q)∧os.Nodup:=by
 induction h with
 | nil=>
  intro os e
  cases e
  exact⟨by simp,iL⟩
 | stuck _ _=>
  intro os e
  cases e
 | @step rows x more r hf _ ih=>
  intro os e
  cases r with
  | none=>cases e
  | some os'=>
   cases e
   obtain ⟨h1,h2⟩:=ih os' rfl
   have back:∀ y∈os',y≠x∧∃ q∈rows,y∈q:=fun y hy=>by
    obtain ⟨q,hq,hyq⟩:=h1 y hy
    obtain ⟨hq1,_⟩:=bE.mp hq
    obtain ⟨q0,hq0,rfl⟩:=bg.mp hq1
    obtain ⟨a,b⟩:=bE.mp hyq
    exact⟨cy b,q0,hq0,a⟩
   refine⟨fun y hy=>?_,eW.mpr ⟨fun h=>(back x h).1 rfl,h2⟩⟩
   rcases bu.mp hy with rfl | h
   ·obtain ⟨q,hq,hh⟩:=n6 (by rw [hf]; exact aT)
    refine⟨q,hq,?_⟩
    cases q with
    | nil=>cases hh
    | cons z q=>
     cases hh
     exact aT
   ·exact(back y h).2
theorem uK{x:Str}{q:List Str}(h:¬ x∈q):bT x q=q:=by
 unfold bT
 rw [nV]
 intro y hy
 exact ay fun e=>h (e ▸ hy)
theorem wN:∀(os:List Str),os.Nodup→Mg (full [os]) (some os)
 | [],_=>.nil
 | y::os,nd=>by
  obtain ⟨n1,n2⟩:=eW.mp nd
  have ih:=wN os n2
  have hh:¬ cC [y::os] y=true:=by
   unfold cC
   simp [n1]
  have hf:frees [y::os]=y::[]:=by
   show (if cC [y::os] y=true then [] else [y])++[]=_
   rw [bX hh]
   rfl
  have ho:full ([y::os].map (bT y))=full [os]:=by
   have:bT y (y::os)=os:=by
    have h1:bT y (y::os)=bT y os:=by
     unfold bT
     rw [dk]
     simp
    rw [h1,uK n1]
   show full [bT y (y::os)]=_
   rw [this]
  have:=Mg.step hf (r:=some os) (by rw [ho]; exact ih)
  exact this
theorem Nr{e:Str}{os:List Str}(nd:(e::os).Nodup):Mg (full [e::os,[e]]) (some (e::os)):=by
 obtain ⟨n1,n2⟩:=eW.mp nd
 have ih:=wN os n2
 have hh:¬ cC [e::os,[e]] e=true:=by
  unfold cC
  simp [n1]
 have hf:frees [e::os,[e]]=e::[e]:=by
  show (if cC [e::os,[e]] e=true then [] else [e])++((if cC [e::os,[e]] e=true then [] else [e])++[])=_
  rw [bX hh]
  rfl
 have h1:bT e (e::os)=os:=by
  have h1:bT e (e::os)=bT e os:=by
   unfold bT
   rw [dk]
   simp
  rw [h1,uK n1]
 have h2:bT e [e]=[]:=by
  unfold bT
  simp
 have ho:full ([e::os,[e]].map (bT e))=full [os]:=by
  show full [bT e (e::os),bT e [e]]=_
  rw [h1,h2]
  cases os <;> rfl
 have hfull:full [e::os,[e]]=[e::os,[e]]:=rfl
 rw [hfull]
 exact Mg.step hf (r:=some os) (by rw [ho]; exact ih)
theorem Paired.perm{α β:Type}{F:α→β→Prop}:∀ {us ws:List α},us.Perm ws→∀ {xs:List β},Paired F ws xs→∃ ys,ys.Perm xs∧Paired F us ys:=by
 intro us ws h
 induction h with
 | nil=>exact fun {xs} r=>⟨xs,.refl _,r⟩
 | cons a _ ih=>
  intro xs r
  cases r with
  | cons q t=>
   obtain ⟨ys,p,r'⟩:=ih t
   exact⟨_::ys,p.cons _,.cons q r'⟩
 | swap a b l=>
  intro xs r
  cases r with
  | cons q t=>
   cases t with
   | cons q' t'=>exact⟨_,.swap _ _ _,.cons q' (.cons q t')⟩
 | trans _ _ ih1 ih2=>
  intro xs r
  obtain ⟨ys,p,r'⟩:=ih2 r
  obtain ⟨zs,p',r''⟩:=ih1 r'
  exact⟨zs,p'.trans p,r''⟩
def GOk(g:Str→List Str)(S:List Str):Prop:=∀ x∈S,(g x).Nodup∧(∃ os,g x=x::os)∧∀ y∈g x,y∈S
theorem N7{g:Str→List Str}{es S:List Str}(gg:GOk g S)(sub:∀ x∈es,x∈S)(h:es.length≤1∨∃ os,Mg (full (iV g es)) (some os)):∃ os,Mg (full (iV g es)) (some os):=by
 rcases h with h | h
 ·cases es with
  | nil=>exact⟨[],.nil⟩
  | cons e r=>
   cases r with
   | nil=>
    obtain ⟨nd,⟨os,eo⟩,_⟩:=gg e (sub e aT)
    rw [eo] at nd
    refine⟨e::os,?_⟩
    show Mg (full [g e,[e]]) _
    rw [eo]
    exact Nr nd
   | cons e2 r=>simp at h
 ·exact h
theorem MN{g:Str→List Str}{es S os:List Str}(gg:GOk g S)(sub:∀ x∈es,x∈S)(h:Mg (full (iV g es)) (some os)):os.Nodup∧∀ y∈os,y∈S:=by
 obtain ⟨h1,h2⟩:=Mg.qC h os rfl
 refine⟨h2,fun y hy=>?_⟩
 obtain ⟨q,hq,hyq⟩:=h1 y hy
 have hq:=(bE.mp hq).1
 rcases bS.mp hq with h | h
 ·obtain ⟨e,he,rfl⟩:=bg.mp h
  exact(gg e (sub e he)).2.2 y hyq
 ·rw [aS.mp h] at hyq
  exact sub y hyq
def uy(g:Str→List Str)(x:Str)(o:List Str):Str→List Str:=fun y=>if y=x then o else g y
theorem GOk.put{g:Str→List Str}{S os:List Str}{x:Str}(gg:GOk g S)(hx:¬ x∈S)(nd:os.Nodup)(sub:∀ y∈os,y∈S):GOk (uy g x (x::os)) (S++[x]):=fun y hy=>by
 unfold uy
 by_cases e:y=x
 ·rw [ck e,e]
  refine⟨eW.mpr ⟨fun h=>hx (sub x h),nd⟩,⟨os,rfl⟩,fun z hz=>?_⟩
  rcases bu.mp hz with rfl | h
  ·exact cE _ (aS.mpr rfl)
  ·exact dP _ (sub z h)
 ·rw [bX e]
  have hy':y∈S:=by
   rcases bS.mp hy with h | h
   ·exact h
   ·exact absurd (aS.mp h) e
  obtain ⟨a,b,c⟩:=gg y hy'
  exact⟨a,b,fun z hz=>dP _ (c z hz)⟩
theorem qM.put{H H':Hp}{kvs:List (Key × V)}{g:Str→List Str}{S os:List Str}{x:Str}{q:Addr}(h:qM H kvs g S)(s:gD H H')(hq:H' q=some (.tup (os.map V.str)))(hl:os.length≤8):qM H' (putK kvs (.inr x) (.ref q)) (uy g x os) (S++[x]):=fun y hy=>by
 unfold uy
 rw [jC]
 by_cases e:y=x
 ·rw [ck e,ck (by rw [e])]
  exact⟨q,rfl,hq,hl⟩
 ·rw [bX e,bX (by intro z; injection z with z; exact e z)]
  have hy':y∈S:=by
   rcases bS.mp hy with h | h
   ·exact h
   ·exact absurd (aS.mp h) e
  exact h.mono s y hy'
theorem Dp.Ia{H:Hp}{q e o f:Addr}{d:V}{x:Str}{es os fs:List Str}{ds:List (Str × Int)}{n:Int}(hq:H q=some (.tup [.str x,.ref e,.ref o,.ref f,d,.int n]))(he:H e=some (.tup (es.map V.str)))(ho:H o=some (.tup (os.map V.str)))(hf:H f=some (.tup (fs.map V.str)))(hd:Dp H (.tup (ds.map mZ)) d):Dp H (gw ⟨x,es,os,fs,ds,n⟩) (.ref q):=
 L2.Dp.tup hq (.cons (L2.Dp.str x) (.cons (L2.Dp.tup he (DpL.strs es)) (.cons (L2.Dp.tup ho (DpL.strs os)) (.cons (L2.Dp.tup hf (DpL.strs fs)) (.cons hd (.cons (L2.Dp.int n) .nil))))))
def bf(tb:List Row):Fam:=tb.map fun r=>(r.kind,r.bw)
theorem dW(tb:List Row):nms (bf tb)=kns tb:=by
 unfold nms bf kns
 rw [fb]
 rfl
structure cD (ds:List Str) (tb:List Row):Prop where
 fam:eO (bf tb)
 ord:∀ r∈tb,bU (bf tb) r.kind=some r.order
 fl:∀ r∈tb,r.fields.length≤7
 own:∀ r∈tb,tR ds r.bh
 num:∀ r∈tb,0≤r.num
theorem ord_tab{f:Fam}(G:eO f){g:Str→List Str}(h:∀ r∈f,∃ os,Mg (full (iV g r.2)) (some os)∧g r.1=r.1::os):∀ x∈nms f,bU f x=some (g x):=by
 obtain ⟨top,t0,t1,t2⟩:=G.vL
 have key:∀(j:Nat) (x:Str),top[j]?=some x→bU f x=some (g x):=by
  intro j
  induction j using Nat.strongRecOn with
  | ind j ih=>
   intro x hx
   obtain ⟨r,hr,e0⟩:=bg.mp ((t1 x).mp (eJ hx))
   have e0:r.1=x:=e0
   subst e0
   obtain ⟨j',e1,e2⟩:=t2 r hr
   have:=jM t0 hx e1
   subst this
   have he:∀ e∈r.2,bU f e=some (g e):=fun e h=>by
    obtain ⟨i,hi,ei⟩:=ig (e2 e h)
    exact ih i hi e ei
   have er:dh (bU f) r.2=iV g r.2:=by
    unfold dh iV
    congr 1
    exact eM fun e h=>by rw [he e h]; rfl
   obtain ⟨os,m,eg⟩:=h r hr
   rw [pB G hr,ck (eQ.mpr fun e h=>by rw [he e h]; rfl),er,lV m,eg]
   rfl
 intro x hx
 obtain ⟨j,hj,e⟩:=fc ((t1 x).mpr hx)
 exact key j x (by rw [ae hj,e])
def wY(ns ds:List Str)(g:Str→List Str)(i:Nat)(r:Row):Prop:=(∃ j,j < i∧ns[j]?=some r.kind∧∀ x∈r.bw,x∈ns.take j)∧r.bw.Nodup∧r.bw.length≤7∧(∃ os,Mg (full (iV g r.bw)) (some os)∧r.order=r.kind::os)∧g r.kind=r.order∧r.fields.length≤7∧tR ds r.bh∧0≤r.num
theorem wG{g:Str→List Str}{k:Str}{o es:List Str}(h:¬ k∈es):iV (uy g k o) es=iV g es:=by
 unfold iV
 congr 1
 exact eM fun e he=>by
  unfold uy
  exact bX (fun(z:e=k)=>h (z ▸ he))
theorem wY.put{ns ds:List Str}{g:Str→List Str}{i:Nat}{r:Row}{k:Str}{o:List Str}(h:wY ns ds g i r)(hk:¬ k∈ns.take i):wY ns ds (uy g k o) (i+1) r:=by
 obtain ⟨⟨j,hj,ej,he⟩,a,b,⟨os,m,eo⟩,eg,c,d,e⟩:=h
 have sub:∀ x∈ns.take j,x∈ns.take i:=fun x hx=>(List.take_sublist_take_left (l:=ns) (lP hj)).subset hx
 have hne:¬ r.kind=k:=fun z=>hk (by
  rw [← z]
  obtain ⟨hl,ee⟩:=bj.mp ej
  refine eJ (i:=j) ?_
  rw [ja hj]
  exact ej)
 refine⟨⟨j,by omega,ej,he⟩,a,b,⟨os,?_,eo⟩,?_,c,d,e⟩
 ·rw [wG fun h=>hk (sub _ (he _ h))]
  exact m
 ·unfold uy
  rw [bX hne]
  exact eg
theorem cD.of{tb rows:List Row}{ns ds:List Str}{g:Str→List Str}{i:Nat}(p:tb.Perm rows)(hk:kns rows=ns)(nd:ns.Nodup)(l7:rows.length≤7)(l1:0 < rows.length)(nm:∀ x∈ns,Nm x)(h:∀ r∈rows,wY ns ds g i r):cD ds tb:=by
 have G:eO (bf rows):=by
  refine⟨by rw [dW,hk]; exact nd,fun r hr e he=>?_,by unfold bf; rw [aa]; exact l7,by unfold bf; rw [aa]; exact l1,fun r hr=>?_,fun r hr=>?_,⟨ns,nd,fun x=>by rw [dW,hk],fun r hr=>?_⟩,fun x hx=>nm x (by rw [dW,hk] at hx; exact hx)⟩
  ·obtain ⟨r0,h0,rfl⟩:=bg.mp hr
   obtain ⟨⟨j,_,_,hs⟩,_⟩:=h r0 h0
   rw [dW,hk]
   exact nz (hs e he)
  ·obtain ⟨r0,h0,rfl⟩:=bg.mp hr
   exact(h r0 h0).2.2.1
  ·obtain ⟨r0,h0,rfl⟩:=bg.mp hr
   exact(h r0 h0).2.1
  ·obtain ⟨r0,h0,rfl⟩:=bg.mp hr
   obtain ⟨⟨j,_,ej,hs⟩,_⟩:=h r0 h0
   exact⟨j,ej,hs⟩
 have G':eO (bf tb):=G.perm (p.map _)
 have o:=ord_tab G' (g:=g) fun r hr=>by
  obtain ⟨r0,h0,rfl⟩:=bg.mp hr
  obtain ⟨_,_,_,⟨os,m,eo⟩,eg,_⟩:=h r0 (p.mem_iff.mp h0)
  exact⟨os,m,eg.trans eo⟩
 refine⟨G',fun r hr=>?_,fun r hr=>(h r (p.mem_iff.mp hr)).2.2.2.2.2.1,fun r hr=>(h r (p.mem_iff.mp hr)).2.2.2.2.2.2.1,fun r hr=>(h r (p.mem_iff.mp hr)).2.2.2.2.2.2.2⟩
 rw [o r.kind (by rw [dW]; exact d0 hr),(h r (p.mem_iff.mp hr)).2.2.2.2.1]
def AtJ(H:Hp)(y:V)(j:Nat):Prop:=∃(q:Addr) (i:Int),y=.ref q∧H q=some (.tup [.int i,.int j])
def Dm:Sp:=fun vs H Q _=>∃(p dl fl:Addr) (n:Nat) (ds fs:List Str),vs=[.ref p,.int n,.ref dl,.ref fl]∧Pu H p∧1≤n∧n≤7∧H dl=some (.lst (ds.map V.str))∧ds.length≤11∧H fl=some (.lst (fs.map V.str))∧fs.length≤100∧
 ∀(v:V) (tb:List Row) H',Dp H' (kW tb) v→cD ds tb→tb.length=n→Off p H H'→Pu H' p→Q v H'
theorem Im(D:Defs K mg t):aW P w K mg base CX0 4 t.gJ.1 t.gJ.2 ["_law_purse_here","_law_many","_law_deeds","_law_fields"] Dm:=by
 have G__law_take:aW P w K mg base CX0 1 t.aU.1 t.aU.2 _ mQ:=kY D
 have G__law_names:aW P w K mg base CX0 3 t.dz.1 t.dz.2 _ xK:=Ae D
 have G__law_some:aW P w K mg base CX0 2 t.bW.1 t.bW.2 _ vm:=sy D
 have G__law_elders:aW P w K mg base CX0 3 t.fM.1 t.fM.2 _ LQ:=Ni D
 have G__law_merge:aW P w K mg base CX0 1 t.cN.1 t.cN.2 _ su:=tZ D
 have G__law_own:aW P w K mg base CX0 3 t.jh.1 t.jh.2 _ Lk:=Np D
 have hz:sizeLine=16777216:=cK
 refine D.gJ.fn.ok cT (fun vs H Q E h=>?_) (fun cdv A outer s H vs Q E hr h=>?_)
 ·obtain ⟨p,dl,fl,n,ds,fs,rfl,_⟩:=h
  rfl
 ·obtain ⟨p,dl,fl,n,ds,fs,rfl,hp,hn1,hn7,hdl,hds,hfl,hfs,k⟩:=h
  have dlp:dl≠p:=hp.ne hdl
  have flp:fl≠p:=hp.ne hfl
  refine⟨_,(aD (aP (i:=4) cT.nd rfl (Or.inl rfl) (aH D.aU G__law_take (hr.mono (by omega)) (by rfl) (aj (pv 0) (aj aC aA))))
   (aD (aP (i:=5) cT.nd rfl (Or.inl rfl) (aH D.dz G__law_names (hr.mono (by omega)) (by rfl) (aj (pv 0) (aj (pv 1) (aj (dU aA) aA)))))
   (aD (yI (dg (aj (dU aA) (aj j9 aA))) (uJ rfl (dH (aN (i:=6) cT.nd rfl (Or.inr rfl)) (dH (aN (i:=7) cT.nd rfl (Or.inr rfl)) lg))))
   (aD (gR dS rfl (xP rfl D.rK (aj (pv 5) aA)) (uJ rfl (dH (aN (i:=8) cT.nd rfl (Or.inl rfl)) (dH (aN (i:=9) cT.nd rfl (Or.inl rfl)) lg)))
   (aD (aP (i:=10) cT.nd rfl (Or.inl rfl) (aH D.fM G__law_elders (hr.mono (by omega)) (by rfl) (aj (pv 0) (aj (dJ qL (pv 5) fZ (gk (pv 8))) (aj (pv 4) (aj (pv 7) aA))))))
   (aD (jR (cY hr) (pv 7) (pv 9) (aH D.cN G__law_merge (hr.mono (by omega)) (by rfl) (aj (pv 9) (aj (bJ uN (bL rfl (aL.of ["_law_one"] [7] ["_law_one","_law_orders_here"] (aq (top 53)) ["_law_purse_here","_law_many","_law_deeds","_law_fields","_law_shape","_law_names_here","_law_rows","_law_orders_here","_law_k","_law_kind","_law_elders_here","_law_number","_law_places"] rfl rfl (by decide +kernel)) ⟨fun _ _ _ _ _=>(aN (i:=0) (show List.Nodup [("_law_one" : Str),("_law_orders_here" : Str)] by decide +kernel) rfl (Or.inl (af rfl)) (.inr (af rfl))),fun _ _ _ _ _=>cg,fun _ _ _ _ _=>(dF (cY hr) (pv 1) (pv 0) (fun _ _=>rfl))⟩ (cU (pv 10))) (dU (aj (pv 10) aA))) aA))) rfl)
   (aD (aP (i:=11) cT.nd rfl (Or.inl rfl) (aH D.aU G__law_take (hr.mono (by omega)) (by rfl) (aj (pv 0) (aj (aM cu (dU (aj aC (aj aC (aj (bJ Jt aC aC) aA)))) (aH D.aU G__law_take (hr.mono (by omega)) (by rfl) (aj (pv 0) (aj aC aA))) (fun _ _=>rfl)) aA))))
   (aF (jd (qx fh fT gh iK (pv 6) (aj (dg (aj (pv 9) (aj (pv 10) (aj (dF (cY hr) (pv 7) (pv 9) (fun _ _=>rfl)) (aj (aH D.bW G__law_some (hr.mono (by omega)) (by rfl) (aj (pv 0) (aj (pv 3) (aj aC aA)))) (aj (aH D.jh G__law_own (hr.mono (by omega)) (by rfl) (aj (pv 0) (aj (pv 2) aA))) (aj (pv 11) aA))))))) aA))))))))
   (aD (aP (i:=12) cT.nd rfl (Or.inl rfl) (aO (zA false) (by rfl) D.uZ rm (aj (bL rfl (aL.of ["_law_k"] [0] ["_law_k","_law_purse_here"] (aq (top 53)) ["_law_purse_here","_law_many","_law_deeds","_law_fields","_law_shape","_law_names_here","_law_rows","_law_orders_here","_law_k","_law_kind","_law_elders_here","_law_number","_law_places"] rfl rfl (by decide +kernel)) ⟨fun _ _ _ _ _=>(aN (i:=0) (show List.Nodup [("_law_k" : Str),("_law_purse_here" : Str)] by decide +kernel) rfl (Or.inl (af rfl)) (.inr (af rfl))),fun _ _ _ _ _=>cg,fun _ _ _ _ _=>(dg (aj (aH D.aU G__law_take (hr.mono (by omega)) (by rfl) (aj (pv 1) (aj aC aA))) (aj (pv 0) aA)))⟩ (jx rfl D.mR (aj (pv 1) aA))) aA)))
   (aF (aQ (bG bD (by rfl) D.cV bY (aj (bL rfl (aL.of ["_law_number","_law_k"] [6] ["_law_number","_law_k","_law_rows"] (aq (top 53)) ["_law_purse_here","_law_many","_law_deeds","_law_fields","_law_shape","_law_names_here","_law_rows","_law_orders_here","_law_k","_law_kind","_law_elders_here","_law_number","_law_places"] rfl rfl (by decide +kernel)) ⟨fun _ _ _ _ _=>(qN (K:=K) (n:=2) rfl rfl (dH (aN (i:=0) (show List.Nodup [("_law_number" : Str),("_law_k" : Str),("_law_rows" : Str)] by decide +kernel) rfl (Or.inl (af rfl)) (.inr (af rfl))) (dH (aN (i:=1) (show List.Nodup [("_law_number" : Str),("_law_k" : Str),("_law_rows" : Str)] by decide +kernel) rfl (Or.inl (af rfl)) (.inr (af rfl))) lg))),fun _ _ _ _ _=>cg,fun _ _ _ _ _=>(aM (mz (K:=K) rfl) (pv 2) (pv 1) (fun _ _=>rfl))⟩ (gU (pv 12))) aA))))))))),?_⟩
  refine⟨_,rfl,p,6,rfl,hp,by decide,by decide,fun sh a1 b1 c1 l1 u1=>?_⟩
  refine⟨_,rfl,_,rfl,dq _,fun u hu=>?_⟩
  have pu:p≠u:=Pu.upd.neN hu
  refine⟨p,u,[],n,rfl,Pu.upd.au pu,ak,by omega,by show 0+_≤25; omega,fun l ns H1 hl hns nd nm hl1 o1 p1=>?_⟩
  have o1:Off p H H1:=(Off.upd.trans (Off.new hu)).trans o1
  have lp:l≠p:=p1.ne hl1
  have hns7:ns.length≤7:=by omega
  refine⟨dq _,fun rl hrl od hod=>⟨by show 2≤sizeLine; decide,fun tq htq=>?_⟩⟩
  have p3:=((p1.au (o:=.lst []) (p1.neN hrl)).au (o:=.dK []) ((p1.au (p1.neN hrl)).neN hod)).au (o:=.tup [.ref rl,.ref od]) (((p1.au (p1.neN hrl)).au ((p1.au (p1.neN hrl)).neN hod)).neN htq)
  have o3:Off p H (upd (upd (upd H1 rl (.lst [])) od (.dK [])) tq (.tup [.ref rl,.ref od])):=o1.trans ((Off.new hrl).trans ((Off.new hod).trans (Off.new htq)))
  have rlo:rl≠od:=aB ak hod
  have odt:od≠tq:=aB ak htq
  have rlt:rl≠tq:=fun e=>by rw [← e,au rlo,ak] at htq; cases htq
  have hrl3:(upd (upd (upd H1 rl (.lst [])) od (.dK [])) tq (.tup [.ref rl,.ref od])) rl=some (.lst []):=by rw [au rlt,au rlo,ak]
  have hod3:(upd (upd (upd H1 rl (.lst [])) od (.dK [])) tq (.tup [.ref rl,.ref od])) od=some (.dK []):=by rw [au odt,ak]
  have lrl:l≠rl:=aB hl1 hrl
  have lod:l≠od:=fun e=>by rw [← e,au lrl,hl1] at hod; cases hod
  have ltq:l≠tq:=fun e=>by rw [← e,au lod,au lrl,hl1] at htq; cases htq
  have hl3:(upd (upd (upd H1 rl (.lst [])) od (.dK [])) tq (.tup [.ref rl,.ref od])) l=some (.lst (ns.map V.str)):=by rw [au ltq,au lod,au lrl]; exact hl1
  have nof:∀ {b:Addr},b≠p→H1 b=none→H b=none:=fun {b} hb hn=>by
   cases q:H b with
   | none=>rfl
   | some o=>rw [o1 b o hb q] at hn; cases hn
  have hrlH:H rl=none:=nof (p1.neN hrl).symm hrl
  have hodH:H od=none:=nof ((p1.au (p1.neN hrl)).neN hod).symm (by rw [au rlo.symm] at hod; exact hod)
  have rlp:rl≠p:=(p1.neN hrl).symm
  have odp:od≠p:=((p1.au (p1.neN hrl)).neN hod).symm
  refine⟨tq,_,rfl,SqT.of ak,rfl,_,_,rfl,_,_,rfl,rfl,?_⟩
  generalize upd (upd (upd H1 rl (.lst [])) od (.dK [])) tq (.tup [.ref rl,.ref od])=H3 at p3 o3 hrl3 hod3 hl3
  refine⟨_,rfl,l,_,rfl,SqL.of hl3,Iu (K:=K) (a:=l) (xs:=ns.map V.str) (fun i σ H2=>∃(rs:List Row) (ys:List V) (kvs:List (Key × V)) (g:Str→List Str) (v8 v9 v10 v11:Option V),σ=[some (.ref p),some (.int n),some (.ref dl),some (.ref fl),some (.int sh),some (.ref l),some (.ref rl),some (.ref od),v8,v9,v10,v11,none]∧
   kns rs=ns.take i∧(∀ r∈rs,wY ns ds g i r)∧kvs.length≤i∧qM H2 kvs g (ns.take i)∧GOk g (ns.take i)∧H2 rl=some (.lst ys)∧DpL H2 (rs.map gw) ys∧H2 od=some (.dK kvs)∧H2 l=some (.lst (ns.map V.str))∧Off p H H2∧Pu H2 p)
   ⟨[],[],[],fun _=>[],_,_,_,_,rfl,rfl,by simp,am _,fun x hx=>by simp at hx,fun x hx=>by simp at hx,hrl3,.nil,hod3,hl3,o3,p3⟩ (fun i σ H2 _ ⟨_,_,_,_,_,_,_,_,_,_,_,_,_,_,_,_,_,e,_⟩=>SqL.of e) ?_ ?_⟩
  ·rintro i x σ H2 q0 hi ⟨rs,ys,kvs,g,v8,v9,v10,v11,rfl,hrn,hrs,hkl,og,gg,hrl2,dl2,hod2,hl2,o2,p2⟩ hq0
   have hil:i < ns.length:=by
    have:=(bj.mp hi).1
    rwa [aa] at this
   have ex:x=.str ns[i]:=by
    rw [bc,ae hil] at hi
    exact(dE hi).symm
   subst ex
   have hni:¬ ns[i]∈ns.take i:=fun h=>by
    have nd':=nd
    rw [← iA i ns] at nd'
    exact(g9.mp nd').2.2 _ h _ (by rw [kQ hil]; exact aT) rfl
   refine⟨q0,_,rfl,SqT.of ak,rfl,_,_,rfl,_,_,rfl,rfl,?_⟩
   have s0:Same H2 (upd H2 q0 (.tup [.int i,.str ns[i]])):=Same.new hq0
   refine⟨_,rfl,_,rfl,_,rfl,_,rfl,l,_,rfl,SqL.of (s0 l _ hl2),fun m hm=>?_⟩
   have s1:=s0.trans (Same.new (o:=.lst (eF (ns.map V.str) none (some (i:Int)))) hm)
   have hm1:(upd (upd H2 q0 (.tup [.int i,.str ns[i]])) m (.lst (eF (ns.map V.str) none (some (i:Int))))) m=some (.lst ((ns.take i).map V.str)):=by rw [ak,Dk _ _ (by rw [aa]; omega),oQ]
   generalize upd (upd H2 q0 (.tup [.int i,.str ns[i]])) m (.lst (eF (ns.map V.str) none (some (i:Int))))=H4 at s1 hm1
   have hti:(ns.take i).length≤7:=by rw [br]; omega
   refine⟨_,rfl,_,rfl,p,m,od,sh,ns.take i,kvs,g,rfl,p2.same s1,hm1,nd.sublist (me _ _),hti,l1,u1,s1 od _ hod2,og.mono (Same.tups s1),fun q es H5 hq sub nde hmg o5 p5=>?_⟩
   have o5:Off p H2 H5:=s1.off.trans o5
   have hod5:=o5 od _ odp hod2
   have hrl5:=o5 rl _ rlp hrl2
   have hl5:=o5 l _ lp hl2
   have tu5:gD H2 H5:=fun c zs e=>by
    obtain ⟨x1,x2,x3,ep⟩:=p2
    exact o5 c _ (eG e ep (fun z=>nomatch z)) e
   have og5:=og.mono tu5
   have hel:es.length≤7:=dC (cL nde (m:=ns.take i) sub) hti
   refine⟨_,rfl,_,rfl,q,rfl,⟨_,SqT.of hq⟩,fun D1 hD1=>?_⟩
   have s4:∀ u,Same H5 (upd H5 D1 u):=fun u=>Same.new hD1
   refine bA (n:=(es.map V.str).length) (fun j ys H6=>jK H5 ys ((es.take j).map g)∧H6=upd H5 D1 (.lst ys)) ⟨.nil,rfl⟩ ?_ ?_
   rotate_left
   ·rintro j ys H6 hj ⟨rt,rfl⟩
    have hj':j < es.length:=by rw [aa] at hj; exact hj
    have ej:(es.map V.str)[j]?=some (.str es[j]):=by rw [bc,ae hj']; rfl
    refine⟨⟨_,_,SqT.of (s4 _ q _ hq),ej⟩,?_⟩
    rintro y H7 ⟨rfl,yy⟩ σo ho
    obtain ⟨oo,rfl⟩:=own1 ho
    have ey:=yy _ (SqT.of (s4 _ q _ hq))
    rw [ej] at ey
    cases ey
    obtain ⟨q',h1,h2,_⟩:=og5 es[j] (sub _ (cn hj'))
    refine⟨⟨[_],rfl,rfl⟩,dB ⟨_,rfl,_,rfl,od,.ref q',rfl,.inl ⟨kvs,.inr es[j],.inl (s4 _ od _ hod5),rfl,h1.symm⟩,by rw [cS rt,aa,br]; omega,ak,aR hj ⟨?_,by rw [bO]⟩⟩⟩
    rw [take_snoc hj',aw]
    exact cP rt ⟨q',rfl,h2⟩
   rintro us H6 ⟨rt,rfl⟩
   rw [aa,av (am _)] at rt
   refine⟨⟨_,SqT.of (s4 _ q _ hq),am _⟩,?_⟩
   have hyl:us.length=es.length:=by rw [cS rt,aa]
   refine⟨_,rfl,by show 1≤sizeLine; decide,fun m2 hm2=>?_⟩
   have s6:=(s4 (.lst us)).trans (Same.new (o:=.lst [.ref q]) hm2)
   have hD6:(upd (upd H5 D1 (.lst us)) m2 (.lst [.ref q])) D1=some (.lst us):=by rw [au (aB ak hm2),ak]
   refine⟨D1,m2,us,[.ref q],rfl,rfl,hD6,ak,by show us.length+1≤sizeLine; omega,fun ra hra=>?_⟩
   have s7:=s6.trans (Same.new (o:=.lst (us++[.ref q])) hra)
   have hra7:(upd (upd (upd H5 D1 (.lst us)) m2 (.lst [.ref q])) ra (.lst (us++[.ref q]))) ra=some (.lst (us++[.ref q])):=ak
   generalize upd (upd (upd H5 D1 (.lst us)) m2 (.lst [.ref q])) ra (.lst (us++[.ref q]))=H7 at s7 hra7
   have rt7:jK H7 (us++[.ref q]) (iV g es):=cP (rt.mono (Same.tups s7)) ⟨q,rfl,s7 q _ hq⟩
   have tt:=wu (g:=g) (es:=es) fun x hx=>by
    obtain ⟨_,_,_,h⟩:=og5 x (sub x hx)
    exact h
   refine⟨ns[i],ra,_,iV g es,rfl,hra7,rt7,by omega,by unfold iV; rw [bz,aa,dm]; omega,fun v r H8 hm res s8=>?_⟩
   have s58:=s7.trans s8
   have p8:Pu H8 p:=p5.same s58
   have o8:Off p H2 H8:=o5.trans s58.off
   obtain ⟨os,hos⟩:=N7 gg sub hmg
   have er:=Mg.det hm hos
   subst er
   obtain ⟨qo,rfl,hqo⟩:∃ qo,v=V.ref qo∧H8 qo=some (.tup ((ns[i]::os).map V.str)):=res
   obtain ⟨ndo,subo⟩:=MN gg sub hos
   have hol:(ns[i]::os).length≤8:=by
    have:=cL ndo subo
    rw [dQ]
    omega
   have hod8:=s58 od _ hod5
   have hrl8:=s58 rl _ hrl5
   have hl8:=s58 l _ hl5
   have hq8:=s58 q _ hq
   refine⟨_,rfl,_,rfl,od,_,rfl,rC.k (k:=.inr ns[i]) hod8 (by omega),?_⟩
   have tu9:gD H8 (upd H8 od (.dK (putK kvs (.inr ns[i]) (.ref qo)))):=fun c zs e=>by
    rw [au (eG e hod8 (fun z=>nomatch z))]
    exact e
   have og9:=(og5.mono (Same.tups s58)).put (x:=ns[i]) tu9 (tu9 qo _ hqo) hol
   have gg9:=gg.put hni ndo subo
   have p9:=p8.au (o:=.dK (putK kvs (.inr ns[i]) (.ref qo))) odp.symm
   have kp9:∀ b u,b≠od→H8 b=some u→(upd H8 od (.dK (putK kvs (.inr ns[i]) (.ref qo)))) b=some u:=fun b u hb e=>by rw [au hb]; exact e
   have hod9:(upd H8 od (.dK (putK kvs (.inr ns[i]) (.ref qo)))) od=some (.dK (putK kvs (.inr ns[i]) (.ref qo))):=ak
   have tu29:gD H2 (upd H8 od (.dK (putK kvs (.inr ns[i]) (.ref qo)))):=tu5.trans ((Same.tups s58).trans tu9)
   have hqo9:=tu9 qo _ hqo
   have hq9:=tu9 q _ hq8
   have hrl9:=kp9 rl _ rlo hrl8
   have hl9:=kp9 l _ lod hl8
   have o9:Off p H (upd H8 od (.dK (putK kvs (.inr ns[i]) (.ref qo)))):=fun b u hb e=>kp9 b u (aB e hodH) (o8 b u hb (o2 b u hb e))
   have hkl9:(putK kvs (.inr ns[i]) (V.ref qo)).length≤i+1:=dC (gB _ _ _) (by omega)
   have hg9:bZ (putK kvs (.inr ns[i]) (V.ref qo)) (.inr ns[i])=some (.ref qo):=by rw [jC,ck rfl]
   generalize hk9:putK kvs (.inr ns[i]) (V.ref qo)=kvs9 at og9 p9 hod9 tu29 hqo9 hq9 hrl9 hl9 o9 hkl9 hg9
   generalize upd H8 od (.dK kvs9)=H9 at og9 p9 hod9 tu29 hqo9 hq9 hrl9 hl9 o9
   clear kp9 tu9 hk9
   refine⟨_,rfl,_,_,rfl,rfl,⟨by decide,by decide,by decide⟩,by show 3≤sizeLine; decide,fun mn hmn=>?_⟩
   have pmn:p≠mn:=p9.neN hmn
   have p10:Pu (upd H9 mn (.lst [.int 1,.int 4,.int (10 ^ (12:Int).toNat)])) p:=p9.au pmn
   have s10:Same H9 (upd H9 mn (.lst [.int 1,.int 4,.int (10 ^ (12:Int).toNat)])):=Same.new hmn
   have hmn10:(upd H9 mn (.lst [.int 1,.int 4,.int (10 ^ (12:Int).toNat)])) mn=some (.lst [.int 1,.int 4,.int (10 ^ (12:Int).toNat)]):=ak
   refine⟨_,rfl,p,3,rfl,p10,by decide,by decide,fun r2 a2 b2 c2 l2 u2=>?_⟩
   have o11:Off p H9 (upd (upd H9 mn (.lst [.int 1,.int 4,.int (10 ^ (12:Int).toNat)])) p (.lst [.int a2,.int b2,.int c2])):=s10.off.trans Off.upd
   have hmn11:(upd (upd H9 mn (.lst [.int 1,.int 4,.int (10 ^ (12:Int).toNat)])) p (.lst [.int a2,.int b2,.int c2])) mn=some (.lst [.int 1,.int 4,.int (10 ^ (12:Int).toNat)]):=by rw [au pmn.symm]; exact hmn10
   have p11:Pu (upd (upd H9 mn (.lst [.int 1,.int 4,.int (10 ^ (12:Int).toNat)])) p (.lst [.int a2,.int b2,.int c2])) p:=Pu.upd
   generalize upd (upd H9 mn (.lst [.int 1,.int 4,.int (10 ^ (12:Int).toNat)])) p (.lst [.int a2,.int b2,.int c2])=H11 at o11 hmn11 p11
   obtain ⟨z,hz',hz1,hz2⟩:∃ z:Int,atI [V.int 1,V.int 4,V.int (10 ^ (12:Int).toNat)] r2=some (.int z)∧0 < z∧z < 1606938044258990275541962092341162602522202993782792835301376:=by
    rcases (by omega:r2=0∨r2=1∨r2=2) with rfl | rfl | rfl
    ·exact⟨_,aG (j:=0) rfl,by decide,by decide⟩
    ·exact⟨_,aG (j:=1) rfl,by decide,by decide⟩
    ·exact⟨_,aG (j:=2) rfl,by decide,by decide⟩
   refine⟨mn,_,_,_,rfl,rfl,SqL.of hmn11,hz',p,z,rfl,p11,hz1,hz2,fun num a3 b3 c3 l3 u3=>?_⟩
   have o12:Off p H9 (upd H11 p (.lst [.int a3,.int b3,.int c3])):=o11.trans Off.upd
   have p12:Pu (upd H11 p (.lst [.int a3,.int b3,.int c3])) p:=Pu.upd
   generalize upd H11 p (.lst [.int a3,.int b3,.int c3])=H12 at o12 p12
   have hrl12:=o12 rl _ rlp hrl9
   have hod12:=o12 od _ odp hod9
   have hfl12:=o12 fl _ flp (o9 fl _ flp hfl)
   refine⟨_,rfl,.inl ⟨rfl,_,SqL.of hrl12⟩,_,rfl,_,rfl,_,rfl,_,rfl,od,.ref qo,rfl,.inl ⟨kvs9,.inr ns[i],.inl hod12,rfl,hg9.symm⟩,?_⟩
   refine⟨_,rfl,_,rfl,p,fl,fs,3,rfl,p12,hfl12,by decide,hfs,fun qf fs' H13 hqf _ _ hfl' o13 p13=>?_⟩
   have o13:Off p H9 H13:=o12.trans o13
   have hdl13:=o13 dl _ dlp (o9 dl _ dlp hdl)
   refine⟨_,rfl,_,rfl,p,dl,ds,rfl,p13,hdl13,hds,fun vd dds H14 dvd own o14 p14=>?_⟩
   have tu14:gD H13 H14:=fun c zs e=>by
    obtain ⟨x1,x2,x3,ep⟩:=p13
    exact o14 c _ (eG e ep (fun z=>nomatch z)) e
   have hqf14:=tu14 qf _ hqf
   have o14:Off p H9 H14:=o13.trans o14
   have tu914:gD H9 H14:=fun c zs e=>by
    obtain ⟨x1,x2,x3,ep⟩:=p9
    exact o14 c _ (eG e ep (fun z=>nomatch z)) e
   have hrl14:=o14 rl _ rlp hrl9
   have hod14:=o14 od _ odp hod9
   have hl14:=o14 l _ lp hl9
   refine⟨_,rfl,by show 6≤sizeLine; decide,fun qr hqr=>?_⟩
   have hyl:ys.length=i:=by
    have e1:=dl2.length
    rw [aa] at e1
    have e2:=congrArg List.length hrn
    unfold kns at e2
    rw [aa,br] at e2
    omega
   have qrr:rl≠qr:=aB hrl14 hqr
   refine⟨rl,ys,.ref qr,rfl,rfl,by rw [au qrr]; exact hrl14,by omega,?_⟩
   have tu15:gD H14 (upd (upd H14 qr (.tup [.str ns[i],.ref q,.ref qo,.ref qf,vd,.int num])) rl (.lst (ys++[.ref qr]))):=fun c zs e=>by
    rw [au (eG e hrl14 (fun z=>nomatch z)),au (aB e hqr)]
    exact e
   refine⟨rs++[⟨ns[i],es,ns[i]::os,fs',dds,num⟩],ys++[.ref qr],kvs9,uy g ns[i] (ns[i]::os),_,_,_,_,rfl,?_,?_,hkl9,?_,?_,ak,?_,?_,?_,?_,?_⟩
   ·unfold kns
    rw [aw,take_snoc hil]
    show kns rs++[ns[i]]=_
    rw [hrn]
   ·intro r hr'
    rcases bS.mp hr' with h | h
    ·exact(hrs r h).put hni
    ·rw [aS.mp h]
     refine⟨⟨i,mI i,ae hil,sub⟩,nde,hel,⟨os,?_,rfl⟩,?_,by show fs'.length≤7; omega,own,l3⟩
     ·show Mg (full (iV (uy g ns[i] (ns[i]::os)) es)) (some os)
      rw [wG fun h=>hni (sub _ h)]
      exact hos
     ·unfold uy
      rw [ck rfl]
   ·rw [take_snoc hil]
    exact og9.mono (tu914.trans tu15)
   ·rw [take_snoc hil]
    exact gg9
   ·rw [aw]
    refine(dl2.mono (tu29.trans (tu914.trans tu15))).append (.cons (K17.B.Dp.Ia (e:=q) (o:=qo) (f:=qf) ?_ ((tu914.trans tu15) q _ hq9) ((tu914.trans tu15) qo _ hqo9) (tu15 qf _ hqf14) (dvd.mono tu15)) .nil)
    rw [au qrr.symm,ak]
   ·rw [au rlo.symm,au (aB hod14 hqr)]
    exact hod14
   ·rw [au lrl,au (aB hl14 hqr)]
    exact hl14
   ·intro b u hb e
    rw [au (aB e hrlH)]
    exact(Off.new hqr:L2.Off p _ _) b u hb (o14 b u hb (o9 b u hb e))
   ·exact(p14.au (p14.neN hqr)).au rlp.symm
  ·rintro σ H2 ⟨rows,ys,kvs,g,v8,v9,v10,v11,rfl,hrn,hrs,_,_,_,hf2,dl,_,hl2,o2,p2⟩
   have hrn:kns rows=ns:=by rw [hrn,aa,av (am _)]
   have hrl:rows.length=ns.length:=by rw [← hrn]; exact(aa _).symm
   have good:∀ {tb:List Row},tb.Perm rows→cD ds tb:=fun pp=>cD.of pp hrn nd (by omega) (by omega) (fun x hx=>(nm x hx).2) hrs
   have hyl:ys.length=rows.length:=by have:=dl.length; rwa [aa] at this
   have hyn:ys.length=n:=by omega
   refine⟨_,rfl,_,rfl,by omega,by omega,fun Dd hD=>?_⟩
   have pD:p≠Dd:=p2.neN hD
   have fD:rl≠Dd:=aB hf2 hD
   have hDH:H Dd=none:=by
    cases q:H Dd with
    | none=>rfl
    | some o=>
     rw [o2 Dd o pD.symm q] at hD
     cases hD
   have fp2:rl≠p:=rlp
   refine bA (n:=((n:Nat):Int).toNat) (fun i zs H3=>Paired (AtJ H3) zs (List.range i)∧H3 Dd=some (.lst zs)∧H3 rl=some (.lst ys)∧DpL H3 (rows.map gw) ys∧Off p H H3∧Pu H3 p)
    ⟨.nil,ak,by rw [au fD]; exact hf2,dl.mono (Same.tups (Same.new hD)),o2.trans (Off.new hD),p2.au pD⟩ ?_ ?_
   ·rintro zs H3 ⟨pz,hD3,hf3,dl3,o3,p3⟩
    have hzl:zs.length=ys.length:=by have:=cS pz; rw [my] at this; omega
    refine⟨am _,Dd,zs,rfl,SqL.of hD3,by omega,?_,fun d qs pq hd=>?_⟩
    ·intro z hz'
     obtain ⟨i,hi,rfl⟩:=fc hz'
     obtain ⟨q,j,e,hq⟩:=fV pz i hi (by rw [← cS pz]; exact hi)
     exact⟨q,j,_,e,hq,by unfold NK; rw [bX aE]; exact⟨_,rfl⟩⟩
    obtain ⟨js,pj,pqj⟩:=K17.B.Paired.perm pq pz
    have pd:p≠d:=p3.neN hd
    have fd:rl≠d:=aB hf3 hd
    have hql:qs.length=ys.length:=by rw [pq.length_eq]; exact hzl
    have hjl:js.length=qs.length:=(cS pqj).symm
    have hjm:∀ j∈js,j < rows.length:=fun j hj=>by
     have:=gy.mp (pj.mem_iff.mp hj)
     omega
    refine⟨_,rfl,d,rfl,⟨_,SqL.of ak⟩,fun D2 hD2=>?_⟩
    have dD2:d≠D2:=aB ak hD2
    have s4:Same H3 (upd H3 d (.lst qs)):=Same.new hd
    have fD2:rl≠D2:=aB (s4 rl _ hf3) hD2
    have p4:Pu (upd H3 d (.lst qs)) p:=p3.same s4
    have s5:∀ o,Same H3 (upd (upd H3 d (.lst qs)) D2 o):=fun o=>s4.trans (Same.new hD2)
    refine bA (n:=qs.length) (fun i ws H5=>ws=(js.take i).map (fun j=>ys.getD j .non)∧H5=upd (upd H3 d (.lst qs)) D2 (.lst ws)) ⟨rfl,rfl⟩ ?_ ?_
    ·rintro ws H5 ⟨rfl,rfl⟩
     rw [av (by omega)]
     refine⟨⟨_,SqL.of (by rw [au dD2,ak]),am _⟩,D2,_,rfl,.inl ⟨SqL.of ak,fun q hq=>?_⟩⟩
     have s6:=(s5 (.lst (js.map fun j=>ys.getD j .non))).trans (Same.new (o:=.tup (js.map fun j=>ys.getD j .non)) hq)
     refine k (.ref q) (js.map fun j=>rows.getD j ⟨"",[],[],[],[],0⟩) _ (L2.Dp.tup ak ?_) (good ?_) (by rw [aa]; omega) (o3.trans s6.off) (p3.same s6)
     ·have key:∀ js:List Nat,(∀ j∈js,j < rows.length)→DpL H3 ((js.map fun j=>rows.getD j ⟨"",[],[],[],[],0⟩).map gw) (js.map fun j=>ys.getD j .non):=by
       intro js
       induction js with
       | nil=>exact fun _=>.nil
       | cons j js ih=>
        intro h
        have hj:j < rows.length:=h j aT
        obtain ⟨y,ey,dy⟩:=dl3.get (i:=j) (t:=gw rows[j]) (by rw [bc,ae hj]; rfl)
        have e1:rows.getD j ⟨"",[],[],[],[],0⟩=rows[j]:=by simp [hj]
        have e2:ys.getD j .non=y:=by rw [kH,ey]; rfl
        rw [eL,eL,eL,e1,e2]
        exact .cons dy (ih fun j' h'=>h j' (cz _ h'))
      exact(key js hjm).mono (Same.tups s6)
     ·have:=pj.map fun j=>rows.getD j ⟨"",[],[],[],[],0⟩
      have e3:(List.range ((n:Nat):Int).toNat).map (fun j=>rows.getD j ⟨"",[],[],[],[],0⟩)=rows:=by
       apply mM (by rw [aa,my]; omega)
       intro i a b
       simp [b]
      rw [e3] at this
      exact this
    ·rintro i ws H5 hi ⟨rfl,rfl⟩
     have ei:qs[i]?=some qs[i]:=ae hi
     have hd5:(upd (upd H3 d (.lst qs)) D2 (.lst ((js.take i).map fun j=>ys.getD j .non))) d=some (.lst qs):=by rw [au dD2,ak]
     refine⟨⟨_,_,SqL.of hd5,ei⟩,?_⟩
     rintro y H6 ⟨rfl,yy⟩ σo ho
     obtain ⟨o,o',rfl⟩:=Ku ho
     have ey:=yy _ (SqL.of hd5)
     rw [ei] at ey
     have ey:=(dE ey).symm
     have hij:i < js.length:=by omega
     obtain ⟨q',r',e,hq'⟩:=fV pqj i hi hij
     rw [e] at ey
     subst ey
     have hj:=hjm js[i] (cn hij)
     have ey:ys[js[i]]?=some ys[js[i]]:=ae (by omega)
     refine⟨q',_,rfl,SqT.of (s5 _ q' _ hq'),rfl,_,_,rfl,_,_,rfl,rfl,⟨[_,_],rfl,rfl⟩,dB ⟨_,rfl,_,rfl,rl,ys,_,_,rfl,rfl,SqL.of (s5 _ rl _ hf3),aG ey,by rw [aa,br]; omega,ak,aR hi ⟨?_,by rw [bO]⟩⟩⟩
     rw [ii,ae hij,aw]
     congr 1
     show [ys[js[i]]]=[ys.getD js[i] .non]
     rw [kH,ey]
     rfl
   ·rintro i zs H3 hi ⟨pz,hD3,hf3,dl3,o3,p3⟩
    refine⟨hi,?_⟩
    rintro x H4 ⟨rfl,rfl⟩ σo ho
    obtain ⟨o,rfl⟩:=own1 ho
    have hzl:zs.length=i:=by have:=cS pz; rwa [my] at this
    refine⟨⟨[_],rfl,rfl⟩,dB ⟨_,rfl,p,997,rfl,p3,by decide,by decide,fun r a4 b4 c4 l4 u4=>⟨_,rfl,by show 2≤sizeLine; decide,fun q hq=>?_⟩⟩⟩
    have qD:q≠Dd:=by
     intro e
     rw [e,au pD.symm,hD3] at hq
     cases hq
    have qp:q≠p:=fun e=>by
     rw [e,ak] at hq
     cases hq
    rw [au qp] at hq
    have tu:∀ o,gD H4 (upd (upd (upd H4 p (.lst [.int a4,.int b4,.int c4])) q (.tup [.int r,.int (0+(i:Int))])) Dd (.lst o)):=fun o c zs' e=>by
     obtain ⟨a,b,cc,ep⟩:=p3
     rw [au (eG e hD3 (fun z=>nomatch z)),au (aB e hq),au (eG e ep (fun z=>nomatch z))]
     exact e
    refine⟨by omega,by rw [au qD.symm,au pD.symm]; exact hD3,aR hi ⟨?_,ak,?_,dl3.mono (tu _),?_,?_⟩⟩
    ·rw [List.range_succ]
     have key:∀ {as:List V} {bs:List Nat} {y:V} {j:Nat} {F:V→Nat→Prop},Paired F as bs→F y j→Paired F (as++[y]) (bs++[j]):=by
      intro as bs y j F h hy
      induction h with
      | nil=>exact .cons hy .nil
      | cons a _ ih=>exact .cons a ih
     refine key (Paired.oN pz fun y j ⟨q',r',e,hq'⟩=>⟨q',r',e,tu _ q' _ hq'⟩) ⟨q,r,rfl,?_⟩
     rw [au qD,ak]
     simp
    ·rw [au fD,au (aB hf3 hq),au fp2]
     exact hf3
    ·intro b o hb e
     rw [au (aB e hDH),au (fun z=>by rw [← z] at hq; rw [o3 b o hb e] at hq; cases hq),au hb]
     exact o3 b o hb e
    ·exact(Pu.upd.au qp.symm).au pD
end
end K17.B
end
section
namespace K17
open PySem L2
def Up(f:Fam)(k x:Str):Prop:=x=k∨Reach f x k
def bV(f:Fam)(k:Str)(es:List Str):Fam:=f.map fun r=>if r.1=k then (r.1,es) else r
theorem jX(f:Fam)(k:Str)(es:List Str):nms (bV f k es)=nms f:=by
 unfold nms bV
 rw [fb]
 refine eM fun r _=>?_
 show (if r.1=k then (r.1,es) else r).1=r.1
 by_cases h:r.1=k
 ·rw [ck h]
 ·rw [bX h]
theorem jW{f:Fam}{k:Str}{es:List Str}{r:Str × List Str}(h:r∈bV f k es):(∃ r0∈f,r0.1=k∧r=(k,es))∨(r∈f∧r.1≠k):=by
 obtain ⟨r0,h0,e⟩:=bg.mp h
 by_cases hk:r0.1=k
 ·rw [ck hk] at e
  exact .inl ⟨r0,h0,hk,by rw [← e,hk]⟩
 ·rw [bX hk] at e
  subst e
  exact .inr ⟨h0,hk⟩
theorem xJ{l:List Str}{p:Str→Bool}{j:Nat}{x:Str}(h:l[j]?=some x)(hp:p x=true):(l.filter p)[((l.take j).filter p).length]?=some x∧(l.filter p).take ((l.take j).filter p).length=(l.take j).filter p:=by
 obtain ⟨hj,e⟩:=bj.mp h
 have el:l.filter p=(l.take j).filter p++x::(l.drop (j+1)).filter p:=by
  conv=>lhs; rw [← iA j l]
  rw [eS,kQ hj,e,dk,ck hp]
 rw [el]
 constructor
 ·rw [fz (am _),Nat.sub_self]
  rfl
 ·rw [List.take_left]
theorem eO.bV{f:Fam}(G:eO f){k:Str}{es:List Str}(sub:∀ e∈es,e∈nms f)(nd:es.Nodup)(hup:∀ e∈es,¬ Up f k e):eO (bV f k es):=by
 have hl:es.length≤7:=by
  have h1:=cL nd (m:=nms f) sub
  have h2:(nms f).length=f.length:=aa _
  have:=G.len
  omega
 have el:(K17.bV f k es).length=f.length:=aa _
 refine⟨by rw [jX]; exact G.nd,fun r hr e he=>?_,by rw [el]; exact G.len,by rw [el]; exact G.pos,fun r hr=>?_,fun r hr=>?_,?_,fun x hx=>G.lw x (by rw [jX] at hx; exact hx)⟩
 ·rw [jX]
  rcases jW hr with ⟨r0,h0,hk,rfl⟩ | ⟨h0,hk⟩
  ·exact sub e he
  ·exact G.sub r h0 e he
 ·rcases jW hr with ⟨r0,h0,hk,rfl⟩ | ⟨h0,hk⟩
  ·exact hl
  ·exact G.el r h0
 ·rcases jW hr with ⟨r0,h0,hk,rfl⟩ | ⟨h0,hk⟩
  ·exact nd
  ·exact G.G6 r h0
 ·obtain ⟨top,t0,t1,t2⟩:=G.vL
  rw [jX]
  have hd:∃ p:Str→Bool,∀ x,p x=true↔Up f k x:=by
   classical
   exact⟨fun x=>decide (Up f k x),fun x=>i7⟩
  obtain ⟨p,hp⟩:=hd
  have hn:∀ x,(!p x)=true↔¬ Up f k x:=fun x=>by
   rw [← hp x]
   cases p x <;> simp
  refine⟨top.filter (fun x=>!p x)++top.filter p,?_,fun x=>?_,fun r hr=>?_⟩
  ·refine g9.mpr ⟨t0.sublist iO,t0.sublist iO,fun a ha b hb e=>?_⟩
   subst e
   exact(hn a).mp (bE.mp ha).2 ((hp a).mp (bE.mp hb).2)
  ·rw [← t1 x,bS,bE,bE]
   cases p x <;> simp
  ·have low:∀ e∈nms f,¬ Up f k e→∀ j,e∈(top.filter (fun x=>!p x)++top.filter p).take ((top.filter (fun x=>!p x)).length+j):=fun e he hu j=>by
    rw [List.take_append,av (i4 _ _),j3]
    exact dP _ (bE.mpr ⟨(t1 e).mpr he,(hn e).mpr hu⟩)
   rcases jW hr with ⟨r0,h0,hk,rfl⟩ | ⟨h0,hk⟩
   ·obtain ⟨j,ej,_⟩:=t2 r0 h0
    rw [hk] at ej
    obtain ⟨a,b⟩:=xJ ej ((hp k).mpr (.inl rfl))
    refine⟨(top.filter (fun x=>!p x)).length+((top.take j).filter p).length,?_,fun e he=>low e (sub e he) (hup e he) _⟩
    rw [fz (i4 _ _),j3]
    exact a
   ·obtain ⟨j,ej,he⟩:=t2 r h0
    by_cases hu:Up f k r.1
    ·obtain ⟨a,b⟩:=xJ ej ((hp r.1).mpr hu)
     refine⟨(top.filter (fun x=>!p x)).length+((top.take j).filter p).length,?_,fun e h=>?_⟩
     ·rw [fz (i4 _ _),j3]
      exact a
     ·by_cases hue:Up f k e
      ·rw [List.take_append,av (i4 _ _),j3]
       refine cE _ ?_
       rw [b]
       exact bE.mpr ⟨he e h,(hp e).mpr hue⟩
      ·exact low e (G.sub r h0 e h) hue _
    ·obtain ⟨a,b⟩:=xJ (p:=fun x=>!p x) ej ((hn r.1).mpr hu)
     refine⟨((top.take j).filter (fun x=>!p x)).length,?_,fun e h=>?_⟩
     ·rw [g6 (bj.mp a).1]
      exact a
     ·have hl':=(bj.mp a).1
      rw [List.take_append_of_le_length (lP hl'),b]
      refine bE.mpr ⟨he e h,(hn e).mpr fun u=>hu (.inr ?_)⟩
      have ed:tO f r.1 e:=⟨r,h0,rfl,h⟩
      rcases u with rfl | u
      ·exact .one ed
      ·exact .step ed u
end K17
end
section
namespace L2
open PySem PySem.Spec PyProof.Rows PySem.W
def gA{α:Type}(lt:Nat→Nat→Bool):KasT α→α
 | .ret a=>a
 | .ask i j k=>gA lt (k (lt i j))
theorem jY{α β:Type}(lt:Nat→Nat→Bool)(f:α→KasT β):∀ t:KasT α,gA lt (t.bind f)=gA lt (f (gA lt t))
 | .ret a=>rfl
 | .ask i j k=>jY lt f (k (lt i j))
theorem CW{α:Type}{n:Nat}{P:α→Prop}{Q:α→Shared→Prop}{s:Shared}{lt:Nat→Nat→Bool}{cmp:Nat→Nat→(Bool→Shared→Prop)→Shared→Prop}(hc:∀ i j (C:Bool→Shared→Prop),i < n→j < n→C (lt i j) s→cmp i j C s) :
  ∀ {t:KasT α},KOk n P t→Q (gA lt t) s→t.kasWp cmp Q s
 | .ret a,_,q=>q
 | .ask i j k,h,q=>hc i j _ h.1 h.2.1 (CW hc (h.2.2 _) q)
theorem DX{α:Type}{n:Nat}{P:α→Prop}(lt:Nat→Nat→Bool):∀ {t:KasT α},KOk n P t→P (gA lt t)
 | .ret a,h=>h
 | .ask i j k,h=>DX (n:=n) lt (t:=k (lt i j)) (h.2.2 (lt i j))
def rF(lt:Nat→Nat→Bool):Prop:=∀ a b c,lt a c=true→lt a b=true∨lt b c=true
theorem Gp{lt:Nat→Nat→Bool}(nt:rF lt){p:Array Nat}{k:Nat}(up:∀ i j,i < j→j < k→lt (p.getD j 0) (p.getD i 0)=false) :
  ∀(f l r:Nat),r - l≤f→l≤r→r≤k→(∀ i,i < l→lt (p.getD k 0) (p.getD i 0)=false)→(∀ i,r≤i→i < k→lt (p.getD k 0) (p.getD i 0)=true)→
   gA lt (kas_place p k f l r)≤k∧(∀ i,i < gA lt (kas_place p k f l r)→lt (p.getD k 0) (p.getD i 0)=false)∧∀ i,gA lt (kas_place p k f l r)≤i→i < k→lt (p.getD k 0) (p.getD i 0)=true:=by
 intro f
 induction f with
 | zero=>
  intro l r h1 h2 h3 hl hr
  have e:l=r:=by omega
  subst e
  exact⟨h3,hl,hr⟩
 | succ f ih=>
  intro l r h1 h2 h3 hl hr
  unfold kas_place
  by_cases c:l ≥ r
  ·have e:l=r:=by omega
   subst e
   rw [ck c]
   exact⟨h3,hl,hr⟩
  ·rw [bX c]
   have m1:(l+r) / 2 < r:=by omega
   have m2:l≤(l+r) / 2:=by omega
   show gA lt (if lt (p.getD k 0) (p.getD ((l+r) / 2) 0)=true then _ else _)≤k∧_
   cases hb:lt (p.getD k 0) (p.getD ((l+r) / 2) 0) with
   | true=>
    have hr':∀ i,(l+r) / 2≤i→i < k→lt (p.getD k 0) (p.getD i 0)=true:=fun i hi hk=>by
     rcases kM ((l+r) / 2) i with g | g
     ·rcases nt _ (p.getD i 0) _ hb with h | h
      ·exact h
      ·rw [up _ _ g hk] at h; cases h
     ·have e:i=(l+r) / 2:=by omega
      rw [e]; exact hb
    have:=ih l ((l+r) / 2) (by omega) m2 (by omega) hl hr'
    simp only [gA,hb,iF]
    exact this
   | false=>
    have hl':∀ i,i < (l+r) / 2+1→lt (p.getD k 0) (p.getD i 0)=false:=fun i hi=>by
     rcases kM i ((l+r) / 2) with g | g
     ·cases hx:lt (p.getD k 0) (p.getD i 0) with
      | false=>rfl
      | true=>
       rcases nt _ (p.getD ((l+r) / 2) 0) _ hx with h | h
       ·rw [hb] at h; cases h
       ·rw [up _ _ g (by omega)] at h; cases h
     ·have e:i=(l+r) / 2:=by omega
      rw [e]; exact hb
    have:=ih ((l+r) / 2+1) r (by omega) (by omega) h3 hl' hr
    simp only [gA,hb,gv,jp]
    exact this
theorem Ks{p:Array Nat}{k d:Nat}(hk:k < p.size)(hd:d≤k)(i:Nat):(bubble p k d).getD i 0=if i=k - d then p.getD k 0 else if k - d < i∧i≤k then p.getD (i - 1) 0 else p.getD i 0:=by
 have e:=getElem?_bubble hk d hd i
 have g:∀(q:Array Nat) (j:Nat),q.getD j 0=(q[j]?).getD 0:=fun q j=>by simp [Array.getD_eq_getD_getElem?]
 rw [g,e,g p k,g p (i - 1),g p i]
 by_cases c1:i=k - d
 ·rw [ck c1,ck c1]
 ·rw [bX c1,bX c1]
  by_cases c2:k - d < i∧i≤k
  ·rw [ck c2,ck c2]
  ·rw [bX c2,bX c2]
theorem Nb{lt:Nat→Nat→Bool}(nt:rF lt)(as:∀ a b,lt a b=true→lt b a=false):∀(f:Nat) (p:Array Nat) (k:Nat),k+f=p.size→(∀ i j,i < j→j < k→lt (p.getD j 0) (p.getD i 0)=false)→
  (gA lt (kas_bin f p k)).size=p.size∧∀ i j,i < j→j < p.size→lt ((gA lt (kas_bin f p k)).getD j 0) ((gA lt (kas_bin f p k)).getD i 0)=false:=by
 intro f
 induction f with
 | zero=>
  intro p k h up
  exact⟨rfl,fun i j h1 h2=>up i j h1 (by omega)⟩
 | succ f ih=>
  intro p k h up
  obtain ⟨m1,m2,m3⟩:=Gp nt up k 0 k (by omega) (dq _) (am _) (fun i hi=>absurd hi (Nat.not_lt_zero _)) (fun i h1 h2=>absurd h2 (by omega))
  have e:gA lt (kas_bin (f+1) p k)=gA lt (kas_bin f (bubble p k (k - gA lt (kas_place p k k 0 k))) (k+1)):=jY lt _ _
  rw [e]
  generalize gA lt (kas_place p k k 0 k)=m at m1 m2 m3
  have hk:k < p.size:=by omega
  have gb:=Ks (d:=k - m) hk (by omega)
  have ekm:k - (k - m)=m:=by omega
  rw [ekm] at gb
  have sz:=bubble_size p k (k - m)
  have key:=ih (bubble p k (k - m)) (k+1) (by rw [sz]; omega) (fun i j h1 h2=>by
   rw [gb j,gb i]
   by_cases c1:j=m
   ·rw [ck c1,bX (by omega),bX (by omega)]
    exact m2 i (by omega)
   ·rw [bX c1]
    by_cases c2:m < j∧j≤k
    ·rw [ck c2]
     by_cases c3:i=m
     ·rw [ck c3]
      exact as _ _ (m3 (j - 1) (by omega) (by omega))
     ·rw [bX c3]
      by_cases c4:m < i∧i≤k
      ·rw [ck c4]
       exact up (i - 1) (j - 1) (by omega) (by omega)
      ·rw [bX c4]
       exact up i (j - 1) (by omega) (by omega)
    ·rw [bX c2,bX (by omega),bX (by omega)]
     exact up i j h1 (by omega))
  rw [sz] at key
  exact key
theorem Ig{lt:Nat→Nat→Bool}{p:Array Nat}:∀(f n:Nat),n≤gA lt (kas_asc p f n)∧gA lt (kas_asc p f n)≤n+f∧(∀ i,n≤i→i < gA lt (kas_asc p f n)→lt (p.getD i 0) (p.getD (i - 1) 0)=false)∧
  (gA lt (kas_asc p f n) < n+f→lt (p.getD (gA lt (kas_asc p f n)) 0) (p.getD (gA lt (kas_asc p f n) - 1) 0)=true):=by
 intro f
 induction f with
 | zero=>
  intro n
  refine⟨am _,am _,fun i h1 h2=>?_,fun h=>?_⟩
  ·have h2:i < n:=h2
   omega
  ·have h:n < n+0:=h
   omega
 | succ f ih=>
  intro n
  cases hb:lt (p.getD n 0) (p.getD (n - 1) 0) with
  | true=>
   have e:gA lt (kas_asc p (f+1) n)=n:=by
    unfold kas_asc
    simp only [gA,hb,iF]
   rw [e]
   exact⟨am _,by omega,fun i h1 h2=>by omega,fun _=>hb⟩
  | false=>
   have e:gA lt (kas_asc p (f+1) n)=gA lt (kas_asc p f (n+1)):=by
    rw [show kas_asc p (f+1) n=.ask (p.getD n 0) (p.getD (n - 1) 0) (fun c=>if c=true then .ret n else kas_asc p f (n+1)) from rfl]
    simp only [gA,hb,gv,jp]
   obtain ⟨h1,h2,h3,h4⟩:=ih (n+1)
   rw [e]
   refine⟨by omega,by omega,fun i g1 g2=>?_,fun g=>h4 (by omega)⟩
   rcases kM n i with c | c
   ·exact h3 i c g2
   ·have:i=n:=by omega
    rw [this]; exact hb
theorem Ag{lt:Nat→Nat→Bool}(nt:rF lt){p:Array Nat}{m:Nat}(ir:∀ a,lt a a=false)(h:∀ i,1≤i→i < m→lt (p.getD i 0) (p.getD (i - 1) 0)=false):∀ i j,i < j→j < m→lt (p.getD j 0) (p.getD i 0)=false:=by
 intro i j
 induction j with
 | zero=>intro h1; omega
 | succ j ih=>
  intro h1 h2
  have s:=h (j+1) (by omega) h2
  rcases kM i j with c | c
  ·have:=ih c (by omega)
   cases hx:lt (p.getD (j+1) 0) (p.getD i 0) with
   | false=>rfl
   | true=>
    rcases nt _ (p.getD j 0) _ hx with g | g
    ·rw [show j+1 - 1=j from rfl] at s
     rw [s] at g; cases g
    ·rw [this] at g; cases g
  ·have:i=j:=by omega
   rw [this]; exact s
theorem Kv{lt:Nat→Nat→Bool}{p:Array Nat}{z:Nat}(tot:∀ i j,i < j→j < z→lt (p.getD i 0) (p.getD j 0)=true∨lt (p.getD j 0) (p.getD i 0)=true):∀(f n:Nat),1≤n→n+f≤z→
  ∃ m,gA lt (kas_desc f p n 0)=(p,m,0)∧n≤m∧m≤n+f∧∀ i,n≤i→i < m→lt (p.getD i 0) (p.getD (i - 1) 0)=true:=by
 intro f
 induction f with
 | zero=>intro n h1 h2; exact⟨n,rfl,am _,am _,fun i g1 g2=>by omega⟩
 | succ f ih=>
  intro n h1 h2
  rw [show kas_desc (f+1) p n 0=.ask (p.getD n 0) (p.getD (n - 1) 0) (fun c=>
   if c=true then (if 0 > 0 then kas_desc f (kas_rev p (n - (0+1)) n) (n+1) 0 else kas_desc f p (n+1) 0)
   else .ask (p.getD (n - 1) 0) (p.getD n 0) fun d=>if d=true then .ret (p,n,0) else kas_desc f p (n+1) (0+1)) from rfl]
  cases hb:lt (p.getD n 0) (p.getD (n - 1) 0) with
  | true=>
   obtain ⟨m,e,g1,g2,g3⟩:=ih (n+1) (by omega) (by omega)
   refine⟨m,?_,by omega,by omega,fun i k1 k2=>?_⟩
   ·simp only [gA,hb,iF,iE,jp,gt_iff_lt]
    exact e
   ·rcases kM n i with c | c
    ·exact g3 i c k2
    ·have:i=n:=by omega
     rw [this]; exact hb
  | false=>
   have hd:lt (p.getD (n - 1) 0) (p.getD n 0)=true:=by
    rcases tot (n - 1) n (by omega) (by omega) with g | g
    ·exact g
    ·rw [hb] at g; cases g
   refine⟨n,?_,am _,by omega,fun i k1 k2=>by omega⟩
   simp only [gA,hb,gv,jp,hd,iF]
theorem Kw{p:Array Nat}{m:Nat}(hm:m≤p.size)(k:Nat):(kas_rev p 0 m).getD k 0=if k < m then p.getD (m - 1 - k) 0 else p.getD k 0:=by
 have e:=getElem?_mirror_all (i:=0) hm k
 have g:∀(q:Array Nat) (j:Nat),q.getD j 0=(q[j]?).getD 0:=fun q j=>by simp [Array.getD_eq_getD_getElem?]
 rw [g p,g p,g]
 show ((mirror p 0 m ((m - 0) / 2))[k]?).getD 0=_
 rw [e]
 by_cases c:k < m
 ·rw [ck ⟨dq _,c⟩,ck c,Nat.zero_add]
 ·rw [bX (fun z=>c z.2),bX c]
theorem Ho{lt:Nat→Nat→Bool}(nt:rF lt)(ir:∀ a,lt a a=false)(as:∀ a b,lt a b=true→lt b a=false){p:Array Nat}(h0:1≤p.size)
  (tot:∀ i j,i < j→j < p.size→lt (p.getD i 0) (p.getD j 0)=true∨lt (p.getD j 0) (p.getD i 0)=true) :
  ∃ r p',gA lt (kas_count p.size p)=(r,p')∧p'.size=p.size∧1≤r∧r≤p.size∧∀ i j,i < j→j < r→lt (p'.getD j 0) (p'.getD i 0)=false:=by
 obtain ⟨a1,a2,a3,a4⟩:=Ig (lt:=lt) (p:=p) (p.size - 1) 1
 unfold kas_count
 rw [jY]
 generalize gA lt (kas_asc p (p.size - 1) 1)=n at a1 a2 a3 a4
 have ch:=Ag nt ir a3
 by_cases c1:n=p.size
 ·rw [ck (by rw [c1]; exact beq_self_eq_true _)]
  exact⟨n,p,rfl,rfl,a1,by omega,ch⟩
 ·rw [bX (fun z=>c1 (eq_of_beq z))]
  by_cases c2:n > 1
  ·rw [ck c2]
   have hb:lt (p.getD 0 0) (p.getD (n - 1) 0)=true:=by
    rcases tot 0 (n - 1) (by omega) (by omega) with g | g
    ·exact g
    ·rw [ch 0 (n - 1) (by omega) (by omega)] at g; cases g
   refine⟨n,p,?_,rfl,a1,by omega,ch⟩
   simp only [gA,hb,iF]
  ·rw [bX c2]
   have e1:n=1:=by omega
   subst e1
   have h10:=a4 (by omega)
   obtain ⟨m,e,g1,g2,g3⟩:=Kv (lt:=lt) (p:=p) tot (p.size - (1+1)) (1+1) (by omega) (by omega)
   unfold kas_descPart
   rw [jY,e]
   show ∃ r p',gA lt (if (0:Nat) > 0 then kas_tail3 m p.size (kas_rev p (m - (0+1)) m) else kas_tail3 m p.size p)=(r,p')∧_
   rw [bX (iE 0)]
   unfold kas_tail3
   rw [jY]
   have hm:m≤p.size:=by omega
   have rg:=Kw (p:=p) hm
   obtain ⟨b1,b2,b3,_⟩:=Ig (lt:=lt) (p:=kas_rev p 0 m) (p.size - m) m
   refine⟨_,_,rfl,kas_rev_size _ _,by omega,by omega,Ag nt ir fun i i1 i2=>?_⟩
   rcases kM i m with c | c
   ·rw [rg i,rg (i - 1),ck c,ck (by omega)]
    refine as _ _ ?_
    have ek:m - 1 - (i - 1)=(m - 1 - i)+1:=by omega
    rw [ek]
    rcases kM (m - 1 - i) 1 with d | d
    ·have:m - 1 - i=0:=by omega
     rw [this]; exact h10
    ·exact g3 (m - 1 - i+1) (by omega) (by omega)
   ·exact b3 i c i2
theorem J3{lt:Nat→Nat→Bool}(nt:rF lt)(ir:∀ a,lt a a=false)(as:∀ a b,lt a b=true→lt b a=false){n:Nat}(h0:1≤n)(tot:∀ i j,i < j→j < n→lt i j=true∨lt j i=true) :
  ∀ i j,i < j→j < n→lt ((gA lt (kas_sort n)).getD j 0) ((gA lt (kas_sort n)).getD i 0)=false:=by
 have sz:(List.toArray (List.range n)).size=n:=by simp
 have gr:∀ i,i < n→(List.toArray (List.range n)).getD i 0=i:=fun i hi=>by simp [Array.getD,hi]
 obtain ⟨r,p',e,z,r1,r2,up⟩:=Ho nt ir as (p:=List.toArray (List.range n)) (by omega) (fun i j h1 h2=>by
  rw [gr i (by omega),gr j (by omega)]
  exact tot i j h1 (by omega))
 rw [sz] at e z r2
 unfold kas_sort
 rw [jY,e]
 show ∀ i j,i < j→j < n→lt ((gA lt (if r < n then kas_bin (n - max r 1) p' (max r 1) else .ret p')).getD j 0) ((gA lt (if r < n then kas_bin (n - max r 1) p' (max r 1) else .ret p')).getD i 0)=false
 have em:max r 1=r:=by omega
 rw [em]
 by_cases c:r < n
 ·rw [ck c]
  obtain ⟨_,h⟩:=Nb nt as (n - r) p' r (by omega) up
  intro i j h1 h2
  exact h i j h1 (by omega)
 ·rw [bX c]
  intro i j h1 h2
  exact up i j h1 (by omega)
def vA(lt:Nat→Nat→Bool)(vs out:List Value):Prop:=∃ p:Array Nat,Pm vs.length p∧out=p.toList.map (fun i=>vs.getD i Value.none)∧∀ i j,i < j→j < vs.length→lt (p.getD j 0) (p.getD i 0)=false
theorem vA.perm{lt:Nat→Nat→Bool}{vs out:List Value}(h:vA lt vs out):out.Perm vs:=by
 obtain ⟨p,h1,rfl,_⟩:=h
 exact h1.out
theorem vA.len{lt:Nat→Nat→Bool}{vs out:List Value}(h:vA lt vs out):out.length=vs.length:=h.perm.length_eq
theorem JL{lt:Nat→Nat→Bool}{vs:List Value}(h:vs.length < 2):vA lt vs vs:=by
 refine⟨(List.range vs.length).toArray,.refl _,?_,fun i j h1 h2=>by omega⟩
 apply mM (by simp)
 intro i a b
 simp [a]
section
variable {prog:Program}{w:World}{A:Around}{E:Value→Shared→Prop}{s:Shared}
structure Hl (prog:Program) (w:World) (lt:Nat→Nat→Bool) (A:Around) (κ:SortKind) (vs:List Value) (h:Heap):Prop where
 kind:∀ (s':Shared) (Q:SortKind→Shared→Prop) (E:Value→Shared→Prop),(∀ b o,h.get? b=some o→s'.heap.get? b=some o)→Q κ s'→wpAny (model prog w) A (keyKind' vs.toArray) Q E s'
 lt:∀ i j,i < vs.length→j < vs.length→∀ (s':Shared) (C:Bool→Shared→Prop),(∀ b o,h.get? b=some o→s'.heap.get? b=some o)→C (lt i j) s'→wpAny (model prog w) A (keyLt' κ (vs.getD i Value.none) (vs.getD j Value.none)) C (fun _ _=>False) s'
theorem sS{a:Addr}{vs:List Value}{n:Nat}{P:Fin→Shared→Prop}{h₀:Heap}{κ:SortKind}{lt:Nat→Nat→Bool}(nt:rF lt)(ir:∀ a,lt a a=false)(as:∀ a b,lt a b=true→lt b a=false)(tot:∀ i j,i < j→j < vs.length→lt i j=true∨lt j i=true)(ho:s.heap.get? a=some (seqObj "list" vs.toArray n))(h64:vs.length < 64)(keep:∀ b o,h₀.get? b=some o→s.heap.get? b=some o∧b≠a)
  (hc:2≤vs.length→Hl prog w lt A κ vs h₀)
  (h:∀ out:Array Value,vA lt vs out.toList→P (.done (.ret .none)) { s with heap:=sortedHeap s.heap a vs out }) :
  wpAny (model prog w) A (Builtin.«list.sort» ⟨[.ref a],[]⟩) P E s:=by
 rw [list_sort_plain]
 have ha:a < s.heap.objs.size:=cr ho
 refine ac (listItems_at ho rfl ?_)
 refine ac (oP ho rfl ?_ (by rw [bo,cK]; omega) (dq _))
 obtain ⟨e1,ho1⟩:∃ e1,(s.heap.update a (Obj.mapSeq fun _=>#[])).get? a=some (seqObj "list" #[] e1):=⟨_,get?_update_seq ho (fun _=>#[])⟩
 refine ac (seqEpoch_at ho1 rfl ?_)
 refine ac (oq ?_ (by show vs.length≤_; rw [cK]; omega))
 refine ac (nk ?_ (dq _))
 refine fk ?_
 have ho6:(((s.heap.update a (Obj.mapSeq fun _=>#[])).push (seqObj "tuple" vs.toArray 0)).push (seqObj "list" #[] 0)).get? a=some (seqObj "list" #[] e1):=by
  rw [ij _ _ _ (by rw [size_push',jI]; exact dc (gu ha)),ij _ _ _ (by rw [jI]; exact dc ha)]
  exact ho1
 have kp:∀ b o,h₀.get? b=some o→(((s.heap.update a (Obj.mapSeq fun _=>#[])).push (seqObj "tuple" vs.toArray 0)).push (seqObj "list" #[] 0)).get? b=some o:=fun b o e=>by
  obtain ⟨e',ne⟩:=keep b o e
  exact ar _ (ar _ ((km _ _ (kK ne)).trans e'))
 show wpAny (model prog w) A _ P E { s with heap:=((s.heap.update a (Obj.mapSeq fun _=>#[])).push (seqObj "tuple" vs.toArray 0)).push (seqObj "list" #[] 0) }
 dsimp only
 have hsz:vs.toArray.size=vs.length:=by simp
 have fin:∀ st':SortSt,failedOf st'=none→vA lt vs ((arrOf st').map (·.2)).toList→wpAny (model prog w) A (do
   let touched:=(← seqEpoch a) != e1
   Builtin.List.listUpdate (.ref a) fun _=>(arrOf st').map (·.2)
   if let some e:=failedOf st' then rule "list.sort.comparison-raised"; throw e
   if touched then rule "list.sort.modified"; raiseError "ValueError" "list modified during sort"
   ret .none) P E { s with heap:=((s.heap.update a (Obj.mapSeq fun _=>#[])).push (seqObj "tuple" vs.toArray 0)).push (seqObj "list" #[] 0) }:=fun st' hf hp=>by
  refine ac (seqEpoch_at ho6 rfl ?_)
  refine ac (oP ho6 rfl ?_ (dq _) (by
   have:=hp.len
   rw [eI] at this
   show ((arrOf st').map (·.2)).size≤_
   rw [this,cK]
   omega))
  rw [hf]
  simp only [bne_self_eq_false,gv,jp]
  exact aI (h _ hp)
 by_cases h2:vs.toArray.size < 2
 ·rw [ck h2,ck h2]
  refine ac (aI ?_)
  rw [StateT.run_pure]
  refine ac (aI ?_)
  refine fin (SortSt.mk' general' (vs.toArray.zip vs.toArray) #[] 7 none) rfl ?_
  have e:((vs.toArray.zip vs.toArray).map (·.2)).toList=vs:=by
   simp only [List.zip_toArray,List.map_toArray]
   exact List.map_snd_zip (am _)
  show vA lt vs ((vs.toArray.zip vs.toArray).map (·.2)).toList
  rw [e]
  rw [hsz] at h2
  exact JL h2
 ·rw [bX h2,bX h2]
  rw [hsz] at h2
  have C:=hc (by omega)
  refine ac (C.kind _ _ _ kp ?_)
  refine ac (ic (kat_run (ks:=vs) (Q:=fun st' s'=>s'={ s with heap:=((s.heap.update a (Obj.mapSeq fun _=>#[])).push (seqObj "tuple" vs.toArray 0)).push (seqObj "list" #[] 0) }∧failedOf st'=none∧vA lt vs ((arrOf st').map (·.2)).toList)
   (G:=fun p s'=>s'={ s with heap:=((s.heap.update a (Obj.mapSeq fun _=>#[])).push (seqObj "tuple" vs.toArray 0)).push (seqObj "list" #[] 0) }∧Pm vs.length p∧∀ i j,i < j→j < vs.length→lt (p.getD j 0) (p.getD i 0)=false) rfl (by omega) h64 (fun p st' s' _ e1 e2 ⟨e3,e4⟩=>⟨e3,e2,?_⟩) ?_) ?_ fun _ _ e=>e)
  ·rw [kat_snds rfl e1]
   exact⟨p,e4.1,by simp,e4.2⟩
  ·exact CW (lt:=lt) (fun i j Cc hi hj hC=>C.lt i j hi hj _ _ kp hC) (yw (by omega)) ⟨rfl,DX lt (yw (by omega)),J3 nt ir as (by omega) tot⟩
  ·rintro ⟨⟨⟩,st'⟩ s' ⟨rfl,hf,hp⟩
   exact fin st' hf hp
theorem yU{l:Addr}{vs:List Value}{Q:Value→Shared→Prop}{κ:SortKind}{lt:Nat→Nat→Bool}(nt:rF lt)(ir:∀ a,lt a a=false)(as:∀ a b,lt a b=true→lt b a=false)(tot:∀ i j,i < j→j < vs.length→lt i j=true∨lt j i=true)(hl:s.heap.IsList l vs.toArray)(h64:vs.length < 64)(hc:2≤vs.length→Hl prog w lt A.in1.in1 κ vs s.heap)
  (h:∀ out:Array Value,vA lt vs out.toList→Q (.ref (s.heap.objs.size+1)) { s with heap:=sortedAll s.heap vs out }) :
  wpAny (model prog w) A (call (.builtin "sorted") [.ref l]) Q E s:=by
 refine kP kind_sorted plain_sorted entry_sorted (args_sorted1 _) ?_
 unfold Builtin.«sorted»
 refine ac (m:=checkCount "sorted" 1 1 _) (aI ?_)
 refine ac (collect_list hl ?_ (by rw [cK]; omega))
 refine ac (nk ?_ (by rw [cK]; omega))
 have hsz:((s.heap.push (seqObj "list" #[] 0)).update s.heap.objs.size (Obj.mapSeq (·++vs.toArray))).objs.size=s.heap.objs.size+1:=by
  rw [jI,size_push']
 have hoL:(((s.heap.push (seqObj "list" #[] 0)).update s.heap.objs.size (Obj.mapSeq (·++vs.toArray))).push (seqObj "list" vs.toArray 0)).get? (s.heap.objs.size+1)=some (seqObj "list" vs.toArray 0):=by
  rw [← hsz]; exact bn _ rfl
 have keep:∀ b o,s.heap.get? b=some o→(((s.heap.push (seqObj "list" #[] 0)).update s.heap.objs.size (Obj.mapSeq (·++vs.toArray))).push (seqObj "list" vs.toArray 0)).get? b=some o∧b≠s.heap.objs.size+1:=fun b o q=>by
  have hlt:b < s.heap.objs.size:=cr q
  refine⟨?_,dc (gu hlt)⟩
  rw [ij _ _ _ (by rw [hsz]; exact dc (gu hlt)),Heap.get?_update_ne _ _ _ _ (dc hlt),ij _ _ _ (dc hlt)]
  exact q
 show wpAny _ _ _ _ _ { s with heap:=((s.heap.push (seqObj "list" #[] 0)).update s.heap.objs.size (Obj.mapSeq (·++vs.toArray))).push (seqObj "list" vs.toArray 0) }
 rw [hsz]
 refine ac (fk (fN slot_list_sort ⟨_,hoL,rfl⟩ entry_list_sort (sS nt ir as tot hoL h64 keep hc fun out a1=>⟨_,rfl,?_⟩) (args_list_sort _)))
 exact aI ⟨_,rfl,h out a1⟩
end
def ltS(a b:Str):Bool:=ltCps a.cps.toList b.cps.toList
theorem gO{a b:Str}:ltS b a=false↔leS a b:=by
 refine⟨fun h=>Il h,fun h=>?_⟩
 unfold ltS
 rw [ltCps_eq]
 exact bv (List.not_lt.mpr h)
theorem Mf(a:Str):ltS a a=false:=gO.mpr (List.le_refl _)
theorem Gh(a b:Str):leS a b∨leS b a:=List.le_total _ _
theorem Ii{a b:Str}(h:ltS a b=true):ltS b a=false:=by
 refine gO.mpr ?_
 rcases Gh a b with g | g
 ·exact g
 ·rw [gO.mpr g] at h
  cases h
theorem HX{a b c:Str}(h:ltS a c=true):ltS a b=true∨ltS b c=true:=by
 cases h1:ltS a b with
 | true=>exact .inl rfl
 | false=>
  cases h2:ltS b c with
  | true=>exact .inr rfl
  | false=>
   have:=wF (gO.mp h2) (gO.mp h1)
   rw [gO.mpr this] at h
   cases h
theorem Dg{a b:Str}(h:¬ a=b):ltS a b=true∨ltS b a=true:=by
 cases h1:ltS a b with
 | true=>exact .inl rfl
 | false=>
  cases h2:ltS b a with
  | true=>exact .inr rfl
  | false=>exact absurd (Jf (gO.mp h2) (gO.mp h1)) h
def ltAt(ns:List Str)(i j:Nat):Bool:=ltS (ns.getD i "") (ns.getD j "")
theorem JX(ns:List Str):rF (ltAt ns):=fun _ _ _ h=>HX h
theorem Kl(ns:List Str)(a:Nat):ltAt ns a a=false:=Mf _
theorem KD(ns:List Str)(a b:Nat)(h:ltAt ns a b=true):ltAt ns b a=false:=Ii h
theorem Jv{ns:List Str}(nd:ns.Nodup)(i j:Nat)(h1:i < j)(h2:j < ns.length):ltAt ns i j=true∨ltAt ns j i=true:=by
 refine Dg fun e=>?_
 have e1:ns.getD i "" = ns[i]'(by omega):=by simp [iP h1 h2]
 have e2:ns.getD j "" = ns[j]:=by simp [h2]
 rw [e1,e2] at e
 exact(il.mp nd) _ _ _ _ h1 e
theorem wA:∀ {ps:List (Addr × Str × Int)} {its:List Value},Vals (ps.map fun p=>V.ref p.1) its→its=ps.map fun p=>Value.ref p.1
 | [],_,.nil=>rfl
 | p::ps,_,.cons r t=>by
  cases (show _=Value.ref p.1 from r)
  rw [wA t]
  rfl
theorem wW:∀(ps:List (Addr × Str × Int)),Vals (ps.map fun p=>V.ref p.1) (ps.map fun p=>Value.ref p.1)
 | []=>.nil
 | p::ps=>.cons rfl (wW ps)
section
variable {X:Cx}
theorem vG:gn X (.builtin "sorted") (fun xs H Q=>∃(l:Addr) (ps:List (Addr × Str × Int)),xs=[.ref l]∧SqL X.K H l (ps.map fun p=>.ref p.1)∧ps.length < 64∧(∀ p∈ps,H p.1=some (.tup [.str p.2.1,.int p.2.2]))∧(ps.map (·.2.1)).Nodup∧
  ∀(d:Addr) (qs:List (Addr × Str × Int)),qs.Perm ps→(∀ i j (h:i < j) (hj:j < qs.length),ltS qs[j].2.1 (qs[i]'(iP h hj)).2.1=false)→H d=none→Q (.ref d) (upd H d (.lst (qs.map fun p=>.ref p.1)))):=by
 intro pins s σ H xs us Q I r h
 obtain ⟨l,ps,rfl,hl,h64,hp,nd,q⟩:=h
 obtain ⟨u,rfl,ru⟩:=vals1 r
 cases ru
 obtain ⟨its,rv,pl,hz⟩:=I.list hl
 obtain rfl:=wA rv
 have item:∀ p∈ps,∃(o:Obj) (t t':Tok) (n:Nat),s.heap.get? p.1=some o∧o.cls=.type "tuple" ∧ o.data=.seq #[.str p.2.1 t,.int p.2.2 t'] n:=fun p hm=>by
  obtain ⟨jts,rj,⟨o,go,co,n,dn⟩,_⟩:=I.tuple (SqT.of (hp p hm))
  obtain ⟨v1,v2,rfl,⟨t,rfl⟩,⟨t',rfl⟩⟩:=rj.two
  exact⟨o,t,t',n,go,co,dn⟩
 have hcmp:2≤(ps.map fun p=>Value.ref p.1).length→Hl X.prog X.w (ltAt (ps.map (·.2.1))) X.A.in1.in1 (tuples' ((Value.type "str") != Value.type "tuple")) (ps.map fun p=>Value.ref p.1) s.heap:=fun h2=>by
  refine⟨fun s' Q' E' kp hq=>?_,fun i j hi hj s' C kp hC=>?_⟩
  ·have tups:∀ ls:List (Addr × Str × Int),(∀ p∈ls,p∈ps)→∃ fs:List Value,KatTups s'.heap (ls.map fun p=>Value.ref p.1) fs∧fs.length=ls.length∧∀ f∈fs,∃ x t,f=Value.str x t:=by
    intro ls
    induction ls with
    | nil=>exact fun _=>⟨[],.nil,rfl,fun _ h=>nomatch h⟩
    | cons v ls ih=>
     intro hm
     obtain ⟨fs,k,e,hf⟩:=ih fun v hv=>hm v (cz _ hv)
     obtain ⟨o,t,t',n,go,co,dn⟩:=item v (hm v aT)
     refine⟨.str v.2.1 t::fs,.cons (kp _ o go) co dn rfl k,by rw [dQ,dQ,e],fun f hf'=>?_⟩
     rcases bu.mp hf' with rfl | h'
     ·exact⟨_,t,rfl⟩
     ·exact hf f h'
   obtain ⟨fs,k,e,hf⟩:=tups ps fun _ h=>h
   rw [aa] at h2
   refine kat_kind (T:=.type "str") k (by omega) (fun v hv=>?_) rfl hq
   obtain ⟨i,t,rfl⟩:=hf v hv
   exact .now
  ·rw [aa] at hi hj
   have e1:(ps.map fun p=>Value.ref p.1).getD i Value.none=.ref ps[i].1:=by simp [hi]
   have e2:(ps.map fun p=>Value.ref p.1).getD j Value.none=.ref ps[j].1:=by simp [hj]
   have e3:ltAt (ps.map (·.2.1)) i j=decide (ps[i].2.1.cps.toList < ps[j].2.1.cps.toList):=by
    unfold ltAt ltS
    rw [ltCps_eq]
    simp [hi,hj]
   rw [e1,e2]
   rw [e3] at hC
   obtain ⟨o,t,t',n,go,co,dn⟩:=item _ (cn hi)
   obtain ⟨o',u,u',n',go',co',dn'⟩:=item _ (cn hj)
   refine kat_lt (kp _ o go) dn (kp _ o' go') dn' ?_
   show KatLex _ _ _ _ _ _ [(Value.str ps[i].2.1 t,Value.str ps[j].2.1 u),(Value.int ps[i].2.2 t',Value.int ps[j].2.2 u')] 0 s'
   refine kat_cons (wpAny_eqBool_str (kat_go (fun e=>kat_yes ?_) fun _=>kat_no ?_))
   ·have e:=cy e
    have eij:i=j:=by
     rcases Nat.lt_trichotomy i j with g | g | g
     ·exact absurd (by rw [gp,gp]; exact e) ((il.mp nd) i j (by simpa using hi) (by simpa using hj) g)
     ·exact g
     ·exact absurd (by rw [gp,gp]; exact e.symm) ((il.mp nd) j i (by simpa using hj) (by simpa using hi) g)
    subst eij
    have ef:decide (ps[i].2.1.cps.toList < ps[i].2.1.cps.toList)=false:=bv (List.lt_irrefl _)
    rw [ef] at hC
    refine kat_cons (mE (kat_go (fun _=>kat_yes (kat_nil hC)) fun g=>?_))
    rw [beq_self_eq_true] at g
    cases g
   ·exact oneLt_str hC
 have hlp:(ps.map (·.2.1)).length=ps.length:=aa _
 have hlv:(ps.map fun p=>Value.ref p.1).length=ps.length:=aa _
 refine yU (JX _) (Kl _) (KD _) (fun i j h1 h2=>Jv nd i j h1 (by omega)) pl.isList (by omega) hcmp fun out ⟨p,pm,eo,up⟩=>?_
 obtain ⟨e,he⟩:=sortedAll_at s.heap (ps.map fun p=>Value.ref p.1) out
 have hd:H (s.heap.objs.size+1)=none:=I.hok.fresh (lI _)
 rw [hlv] at pm up
 have psz:p.size=ps.length:=by have:=pm.size_eq; simpa using this
 have plt:∀ i,i < ps.length→p.getD i 0 < ps.length:=fun i hi=>pm.lt (by omega) i
 let qs:List (Addr × Str × Int):=p.toList.map fun i=>ps.getD i (0,"",0)
 have eq1:out.toList=qs.map fun p=>Value.ref p.1:=by
  rw [eo,fb]
  refine eM fun i hi=>?_
  have:i < ps.length:=by
   have h1:p.toList.Perm (List.range ps.length):=by simpa using pm.toList
   exact gy.mp (h1.mem_iff.mp hi)
  simp [this]
 have pq:qs.Perm ps:=by
  have h1:p.toList.Perm (List.range ps.length):=by simpa using pm.toList
  have h2:=h1.map fun i=>ps.getD i (0,"",0)
  have h3:(List.range ps.length).map (fun i=>ps.getD i (0,"",0))=ps:=by
   apply mM (by simp)
   intro i a b
   simp [b]
  rw [h3] at h2
  exact h2
 refine⟨.ref (s.heap.objs.size+1),_,I.laid (t':=s.toks) (o:=.lst (qs.map fun p=>.ref p.1)) (fun b o q=>sortedAll_old q) (lI _) ⟨by rw [aa,pq.length_eq]; rw [aa] at hz; exact hz,out.toList,e,by rw [eq1]; exact wW qs,by rw [kF]; exact he⟩,rfl,q _ qs pq (fun i j h hj=>?_) hd⟩
 have hql:qs.length=ps.length:=pq.length_eq
 have u:=up i j h (by omega)
 unfold ltAt at u
 have gi:∀ k (hk:k < qs.length),qs[k].2.1=(ps.map (fun x=>x.2.1)).getD (p.getD k 0) ("" : Str):=fun k hk=>by
  have k1:k < p.size:=by omega
  have k2:=plt k (by omega)
  have e1:p.getD k 0=p[k]:=by simp [Array.getD,k1]
  rw [e1] at k2 ⊢
  simp [qs,k2]
 rw [gi j hj,gi i (iP h hj)]
 exact u
end
end L2
end
section
namespace K17.B
open PySem L2
theorem um{ds:List Str}{tb:List Row}(G:cD ds tb){r:Row}(hr:r∈tb)(k:Str):k∈r.order↔Up (bf tb) k r.kind:=by
 obtain ⟨os,eo,_,h,_⟩:=vZ G.fam r.kind (by rw [dW]; exact d0 hr) _ (G.ord r hr)
 rw [eo,bu,h k]
 unfold Up
 constructor
 ·rintro (e | e)
  ·exact .inl e.symm
  ·exact .inr e
 ·rintro (e | e)
  ·exact .inl e.symm
  ·exact .inr e
noncomputable def Js (ds:List (Str × Int)):List (Str × Int):=ds.mergeSort fun a b=>!ltS b.1 a.1
theorem iJ(ds:List (Str × Int)):(Js ds).Perm ds:=List.mergeSort_perm _ _
theorem Dh{ds:List (Str × Int)}(nd:(ds.map Prod.fst).Nodup){a b:Str × Int}(ha:a∈ds)(hb:b∈ds)(e:a.1=b.1):a=b:=by
 induction ds with
 | nil=>cases ha
 | cons x ds ih=>
  obtain ⟨n1,n2⟩:=eW.mp nd
  rcases bu.mp ha with e1 | ha'
  ·rcases bu.mp hb with e2 | hb'
   ·exact e1.trans e2.symm
   ·exact absurd (by rw [← e1,e]; exact d0 hb') n1
  ·rcases bu.mp hb with e2 | hb'
   ·exact absurd (by rw [← e2,← e]; exact d0 ha') n1
   ·exact ih n2 ha' hb'
theorem CK(ds:List (Str × Int)):(Js ds).Pairwise (fun a b=>(!ltS b.1 a.1)=true):=by
 refine List.pairwise_mergeSort (fun a b c h1 h2=>?_) (fun a b=>?_) ds
 ·cases e:ltS c.1 a.1 with
  | false=>rfl
  | true=>
   rcases HX (b:=b.1) e with e' | e'
   ·rw [e'] at h2
    cases h2
   ·rw [e'] at h1
    cases h1
 ·cases e:ltS b.1 a.1 with
  | false=>rfl
  | true=>rw [Ii e]; rfl
theorem Jd(ds:List (Str × Int)):((Js ds).map Prod.fst).Pairwise leS:=by
 rw [List.pairwise_map]
 refine(CK ds).imp fun {a b} h=>gO.mp ?_
 cases e:ltS b.1 a.1 with
 | false=>rfl
 | true=>rw [e] at h; cases h
theorem w6{ds qs:List (Str × Int)}(nd:(ds.map Prod.fst).Nodup)(p:qs.Perm ds)(h:∀ i j (h:i < j) (hj:j < qs.length),ltS qs[j].1 (qs[i]'(iP h hj)).1=false):qs=Js ds:=by
 have pw:=CK ds
 have pq:qs.Pairwise (fun a b=>(!ltS b.1 a.1)=true):=by
  rw [il]
  intro i j hi hj hij
  rw [h i j hij hj]
  rfl
 refine List.Perm.eq_of_pairwise (fun a b ha hb h1 h2=>?_) pq pw (p.trans (iJ ds).symm)
 refine Dh nd (p.mem_iff.mp ha) ((iJ ds).mem_iff.mp hb) ?_
 refine dA fun ne=>?_
 rcases Dg ne with e | e
 ·rw [e] at h2
  cases h2
 ·rw [e] at h1
  cases h1
def lZ(ds:List (Str × Int))(d:Str)(b:Option Int):List (Str × Int):=ds.filter (fun x=>!decide (x.1=d))++match b with | none=>[] | some n=>[(d,n)]
noncomputable def dY (ds:List (Str × Int)) (d:Str) (b:Option Int):List (Str × Int):=Js (lZ ds d b)
theorem lW{ds:List (Str × Int)}(nd:(ds.map Prod.fst).Nodup)(d:Str)(b:Option Int):((lZ ds d b).map Prod.fst).Nodup:=by
 unfold lZ
 have h1:((ds.filter (fun x=>!decide (x.1=d))).map Prod.fst).Nodup:=nd.sublist (iO.map _)
 cases b with
 | none=>rw [eB]; exact h1
 | some n=>
  rw [aw]
  refine g9.mpr ⟨h1,by simp,fun a ha c hc e=>?_⟩
  obtain ⟨x,hx,rfl⟩:=bg.mp ha
  have:=(bE.mp hx).2
  have hc:c=d:=aS.mp hc
  rw [hc] at e
  simp [e] at this
theorem tR.own{ns:List Str}{ds:List (Str × Int)}(h:tR ns ds){d:Str}{b:Option Int}(hd:d∈ns)(hb:∀ n,b=some n→1≤n∧n≤99):tR ns (dY ds d b):=by
 obtain ⟨h1,h2,h3,_⟩:=h
 have pm:=iJ (lZ ds d b)
 have key:∀ x∈lZ ds d b,x∈ds∨∃ n,b=some n∧x=(d,n):=fun x hx=>by
  unfold lZ at hx
  rcases bS.mp hx with h | h
  ·exact .inl (bE.mp h).1
  ·cases b with
   | none=>cases h
   | some n=>exact .inr ⟨n,rfl,aS.mp h⟩
 refine⟨(pm.map _).nodup_iff.mpr (lW h1 d b),fun x hx=>?_,fun x hx=>?_,Jd _⟩
 ·rcases key x (pm.mem_iff.mp hx) with h | ⟨n,e,rfl⟩
  ·exact h2 x h
  ·exact hd
 ·rcases key x (pm.mem_iff.mp hx) with h | ⟨n,e,rfl⟩
  ·exact h3 x h
  ·exact hb n e
inductive Chg where
 | own (k d:Str) (b:Option Int)
 | eld (k:Str) (es:List Str)
def Chg.kind:Chg→Str
 | .own k _ _=>k
 | .eld k _=>k
def jr(p:Bool):Int:=if p=true then 1 else 0
noncomputable def jO (tb:List Row):Chg→Row→Row
 | .own k d b,r=>⟨r.kind,r.bw,r.order,r.fields,if r.kind=k then dY r.bh d b else r.bh,r.num+jr (decide (k∈r.order))⟩
 | .eld k es,r=>⟨r.kind,if r.kind=k then es else r.bw,(bU (bV (bf tb) k es) r.kind).getD [],r.fields,r.bh,r.num+jr (decide (k∈r.order))⟩
noncomputable def fX (tb:List Row) (c:Chg):List Row:=tb.map (jO tb c)
def OkC(ds:List Str)(tb:List Row):Chg→Prop
 | .own k d b=>k∈kns tb∧d∈ds∧(∀ n,b=some n→1≤n∧n≤99)∧(b=none→∀ r∈tb,r.kind=k→d∈r.bh.map Prod.fst)
 | .eld k es=>k∈kns tb∧(∀ e∈es,e∈kns tb)∧es.Nodup∧(∀ e∈es,¬ Up (bf tb) k e)∧∀ x∈kns tb,(bU (bV (bf tb) k es) x).isSome=true
theorem Aj(p:Bool):0≤jr p:=by
 cases p <;> decide
theorem Cy(tb:List Row)(k d:Str)(b:Option Int):bf (fX tb (.own k d b))=bf tb:=by
 unfold bf fX
 rw [fb]
 rfl
theorem oH(tb:List Row)(k:Str)(es:List Str):bf (fX tb (.eld k es))=bV (bf tb) k es:=by
 unfold bf fX bV
 rw [fb,fb]
 refine eM fun r _=>?_
 show (r.kind,if r.kind=k then es else r.bw)=if r.kind=k then (r.kind,es) else (r.kind,r.bw)
 by_cases h:r.kind=k
 ·rw [ck h,ck h]
 ·rw [bX h,bX h]
theorem pU(tb:List Row)(c:Chg):kns (fX tb c)=kns tb:=by
 unfold kns fX
 rw [fb]
 refine eM fun r _=>?_
 cases c <;> rfl
theorem cD.Lr{ds:List Str}{tb:List Row}(G:cD ds tb){c:Chg}(h:OkC ds tb c):cD ds (fX tb c):=by
 cases c with
 | own k d b=>
  obtain ⟨h1,h2,h3,_⟩:=h
  refine⟨by rw [Cy]; exact G.fam,fun r hr=>?_,fun r hr=>?_,fun r hr=>?_,fun r hr=>?_⟩
  ·rw [Cy]
   obtain ⟨r0,h0,rfl⟩:=bg.mp hr
   exact G.ord r0 h0
  ·obtain ⟨r0,h0,rfl⟩:=bg.mp hr
   exact G.fl r0 h0
  ·obtain ⟨r0,h0,rfl⟩:=bg.mp hr
   show tR ds (if r0.kind=k then dY r0.bh d b else r0.bh)
   by_cases e:r0.kind=k
   ·rw [ck e]
    exact(G.own r0 h0).own h2 h3
   ·rw [bX e]
    exact G.own r0 h0
  ·obtain ⟨r0,h0,rfl⟩:=bg.mp hr
   exact Int.add_nonneg (G.num r0 h0) (Aj _)
 | eld k es=>
  obtain ⟨h1,h2,h3,h4,h5⟩:=h
  refine⟨by rw [oH]; exact G.fam.bV (by rw [dW]; exact h2) h3 h4,fun r hr=>?_,fun r hr=>?_,fun r hr=>?_,fun r hr=>?_⟩
  ·rw [oH]
   obtain ⟨r0,h0,rfl⟩:=bg.mp hr
   obtain ⟨o,eo⟩:=ff.mp (h5 r0.kind (d0 h0))
   show bU _ r0.kind=some ((bU (bV (bf tb) k es) r0.kind).getD [])
   rw [eo]
   rfl
  ·obtain ⟨r0,h0,rfl⟩:=bg.mp hr
   exact G.fl r0 h0
  ·obtain ⟨r0,h0,rfl⟩:=bg.mp hr
   exact G.own r0 h0
  ·obtain ⟨r0,h0,rfl⟩:=bg.mp hr
   exact Int.add_nonneg (G.num r0 h0) (Aj _)
end K17.B
end
section
namespace K17.B
open PySem PyProof.Rows L2
theorem Dp.fJ{H:Hp}{r:Row}{v:V}(d:Dp H (gw r) v):∃(q e o f:Addr) (g:V),v=.ref q∧H q=some (.tup [.str r.kind,.ref e,.ref o,.ref f,g,.int r.num])∧H e=some (.tup (r.bw.map V.str))∧H o=some (.tup (r.order.map V.str))∧H f=some (.tup (r.fields.map V.str))∧Dp H (.tup (r.bh.map mZ)) g:=by
 obtain ⟨q,e,o,f,g,ds,rfl,hq,he,ho,hf,_⟩:=K17.B.Dp.qR d
 obtain ⟨q',xs,e',hq',dl⟩:=L2.Dp.cR d
 cases e'
 rw [hq] at hq'
 cases hq'
 obtain ⟨x1,r1,e1,d1,dl⟩:=DpL.cases dl
 cases e1
 obtain ⟨x2,r2,e2,d2,dl⟩:=DpL.cases dl
 cases e2
 obtain ⟨x3,r3,e3,d3,dl⟩:=DpL.cases dl
 cases e3
 obtain ⟨x4,r4,e4,d4,dl⟩:=DpL.cases dl
 cases e4
 obtain ⟨x5,r5,e5,d5,dl⟩:=DpL.cases dl
 cases e5
 exact⟨q,e,o,f,_,rfl,hq,he,ho,hf,d5⟩
theorem Dp.qP{H:Hp}{d:Str × Int}{v:V}(h:Dp H (mZ d) v):∃ q,v=.ref q∧H q=some (.tup [.str d.1,.int d.2]):=by
 obtain ⟨q,xs,rfl,hq,dl⟩:=L2.Dp.cR h
 obtain ⟨x1,r1,rfl,d1,dl⟩:=DpL.cases dl
 obtain ⟨x2,r2,rfl,d2,dl⟩:=DpL.cases dl
 have e1:x1=.str d.1:=d1.lE
 have e2:x2=.int d.2:=by rw [Dp] at d2; exact d2
 have e3:r2=[]:=by
  cases r2 with
  | nil=>rfl
  | cons _ _=>have:=dl.length; cases this
 subst e1 e2 e3
 exact⟨q,rfl,hq⟩
def bodyOf(ds:List (Str × Int))(d:Str):Option Int:=(ds.find? fun x=>decide (x.1=d)).map (·.2)
def O6:Option Int→V
 | none=>.non
 | some n=>.int n
theorem Ei{ds:List (Str × Int)}{d:Str}{i:Nat}(hi:i < ds.length)(h0:∀ x∈ds.take i,¬ x.1=d)(h:ds[i].1=d):bodyOf ds d=some ds[i].2:=by
 unfold bodyOf
 have e:ds=ds.take i++ds[i]::ds.drop (i+1):=by rw [← kQ hi,iA]
 have hf:(ds.take i).find? (fun x=>decide (x.1=d))=none:=List.find?_eq_none.mpr fun x hx=>by rw [kC]; exact h0 x hx
 have:ds.find? (fun x=>decide (x.1=d))=some ds[i]:=by
  conv=>lhs; rw [e]
  rw [List.find?_append,hf,ib,ay h]
  rfl
 rw [this]
 rfl
theorem m7{ds:List (Str × Int)}{d:Str}(h0:∀ x∈ds,¬ x.1=d):bodyOf ds d=none:=by
 unfold bodyOf
 rw [List.find?_eq_none.mpr fun x hx=>by rw [kC]; exact h0 x hx]
 rfl
section
variable {P:Program}{w:World}{K:PySem.W.Frag}{mg:Str→Option Value}{base:Heap}{t:Adr}
def rB:Sp:=fun vs H Q _=>∃(v:V) (r:Row) (d:Str),vs=[v,.str d]∧Dp H (gw r) v∧Q (O6 (bodyOf r.bh d)) H
theorem ur(D:Defs K mg t):aW P w K mg base CX0 1 t.gK.1 t.gK.2 ["row","deed"] rB:=by
 refine D.gK.fn.ok nQ (fun vs H Q E h=>?_) (fun cdv A outer s H vs Q E hr h=>?_)
 ·obtain ⟨v,r,d,rfl,_⟩:=h
  rfl
 ·obtain ⟨v,r,d,rfl,dv,k⟩:=h
  obtain ⟨q,e,o,f,vd,rfl,hq,_,_,_,dvd⟩:=K17.B.Dp.fJ dv
  obtain ⟨ad,xs,rfl,had,dl⟩:=L2.Dp.cR dvd
  have hxl:xs.length=r.bh.length:=by have:=dl.length; rwa [aa] at this
  refine⟨_,(aD (gR dS rfl (cU (aM aX (pv 0) aC (fun _ _=>rfl))) (uJ rfl (dH (aN (i:=2) nQ.nd rfl (Or.inl rfl)) (dH (aN (i:=3) nQ.nd rfl (Or.inl rfl)) lg)))
   (aF (bQ (aV fu (pv 2) (pv 1) (bx _))
   (aF (aQ (pv 3)))
   aY)))
   (aF (aQ eV))),?_⟩
  refine⟨_,rfl,q,_,_,_,rfl,rfl,SqT.of hq,aG (j:=4) rfl,ad,rfl,⟨_,SqT.of had⟩,?_⟩
  refine nW (K:=K) (a:=ad) (xs:=xs) (fun i σ H2=>∃(v2 v3:Option V),σ=[some (.ref q),some (.str d),v2,v3]∧H2=H∧∀ x∈r.bh.take i,¬ x.1=d)
   ⟨_,_,rfl,rfl,by simp⟩ (fun i σ H2 _ ⟨_,_,_,e,_⟩=>by rw [e]; exact SqT.of had) ?_ ?_
  ·rintro i x σ H2 hi ⟨v2,v3,rfl,rfl,h0⟩
   have hid:i < r.bh.length:=by
    have:=(bj.mp hi).1
    omega
   obtain ⟨y,ey,dy⟩:=dl.get (i:=i) (t:=mZ r.bh[i]) (by rw [bc,ae hid]; rfl)
   rw [hi] at ey
   cases ey
   obtain ⟨qd,rfl,hqd⟩:=K17.B.Dp.qP dy
   refine⟨qd,_,rfl,SqT.of hqd,rfl,_,_,rfl,_,_,rfl,rfl,?_⟩
   refine⟨_,rfl,_,rfl,rfl,_,rfl,eX (fun hb=>?_) (fun hb=>?_)⟩
   ·have hb:r.bh[i].1=d:=by
     have:=cy hb
     injection this
    rw [Ei hid h0 hb] at k
    exact⟨_,rfl,k⟩
   ·have hb:¬ r.bh[i].1=d:=fun e=>hb (ay (by rw [e]))
    refine⟨_,_,rfl,rfl,fun x hx=>?_⟩
    rw [take_snoc hid] at hx
    rcases bS.mp hx with h | h
    ·exact h0 x h
    ·rw [aS.mp h]
     exact hb
  ·rintro σ H2 ⟨v2,v3,rfl,rfl,h0⟩
   rw [av (by omega)] at h0
   rw [m7 h0] at k
   exact k
def Di:Sp:=fun vs H Q _=>∃(v:V) (ks:List Row),vs=[v]∧Dp H (.tup (ks.map gw)) v∧ks.length≤1000∧∀(u:V) H',Dp H' (J1 (bf ks)) u→Same H H'→Q u H'
theorem Jg(D:Defs K mg t):aW P w K mg base CX0 1 t.iI.1 t.iI.2 ["table"] Di:=by
 have hz:sizeLine=16777216:=cK
 refine D.iI.fn.ok yJ (fun vs H Q E h=>?_) (fun cdv A outer s H vs Q E hr h=>?_)
 ·obtain ⟨v,ks,rfl,_⟩:=h
  rfl
 ·obtain ⟨v,ks,rfl,dv,hlen,k⟩:=h
  obtain ⟨a,xs,rfl,ha,dl⟩:=L2.Dp.cR dv
  have hxl:xs.length=ks.length:=by have:=dl.length; rwa [aa] at this
  refine⟨_,(aF (aQ (bG bD (by rfl) D.cV bY (aj (bL rfl (aL.of ["row"] [] ["row"] (aq (top 28)) ["table"] rfl rfl (by decide +kernel)) ⟨fun _ _ _ _ _=>(aN (i:=0) (show List.Nodup [("row" : Str)] by decide +kernel) rfl (Or.inl (af rfl)) (.inr (af rfl))),fun _ _ _ _ _=>cg,fun _ _ _ _ _=>(dg (aj (aM (bB (K:=K) rfl) (pv 0) aC (fun _ _=>rfl)) (aj (aM (bB (K:=K) rfl) (pv 0) aC (fun _ _=>rfl)) aA)))⟩ (cU (pv 0))) aA)))),?_⟩
  refine⟨_,rfl,a,rfl,⟨_,SqT.of ha⟩,fun D1 hD1=>?_⟩
  refine bA (n:=xs.length) (fun i ys H2=>DpL H2 ((bf (ks.take i)).map oR) ys∧H2 D1=some (.lst ys)∧Same H H2) ⟨.nil,ak,Same.new hD1⟩ ?_ ?_
  ·rintro ys H2 ⟨dy,hD2,s2⟩
   rw [av (by omega)] at dy
   refine⟨⟨_,SqT.of (s2 a _ ha),am _⟩,D1,_,rfl,.inl ⟨SqL.of hD2,fun q hq=>?_⟩⟩
   exact k _ _ (L2.Dp.tup ak (dy.mono (Same.tups (Same.new hq)))) (s2.trans (Same.new hq))
  ·rintro i ys H2 hi ⟨dy,hD2,s2⟩
   have hik:i < ks.length:=by omega
   obtain ⟨x,ex,dx⟩:=dl.get (i:=i) (t:=gw ks[i]) (by rw [bc,ae hik]; rfl)
   refine⟨⟨_,_,SqT.of (s2 a _ ha),ex⟩,?_⟩
   rintro v H3 ⟨rfl,yy⟩ σo ho
   obtain ⟨oo,rfl⟩:=own1 ho
   have ev:=yy _ (SqT.of (s2 a _ ha))
   rw [ex] at ev
   cases ev
   obtain ⟨q,e,_,_,_,rfl,hq,he,_⟩:=K17.B.Dp.fJ (dx.mono (Same.tups s2))
   refine⟨⟨[_],rfl,rfl⟩,dB ⟨_,rfl,q,_,_,_,rfl,rfl,SqT.of hq,aG (j:=0) rfl,_,rfl,q,_,_,_,rfl,rfl,SqT.of hq,aG (j:=1) rfl,by show 2≤sizeLine; decide,fun p hp=>?_⟩⟩
   have pD:D1≠p:=aB hD2 hp
   have yl:ys.length≤1000:=by
    have:=dy.length
    unfold bf at this
    rw [aa,aa,br] at this
    omega
   refine⟨by omega,by rw [au pD]; exact hD2,aR hi ⟨?_,ak,fun c o z=>?_⟩⟩
   ·have tu:gD H3 (upd (upd H3 p (.tup [.str ks[i].kind,.ref e])) D1 (.lst (ys++[.ref p]))):=fun c zs z=>by
     rw [au (eG z hD2 (fun y=>nomatch y)),au (aB z hp)]
     exact z
    rw [take_snoc hik]
    unfold bf
    rw [aw,aw]
    refine(dy.mono tu).append (.cons (K17.Dp.row (e:=e) ?_ (tu e _ he)) .nil)
    rw [au pD.symm,ak]
   ·rw [au (aB z hD1),au (aB (s2 c _ z) hp)]
    exact s2 c _ z
noncomputable def dX (tb:List Row) (k:Str):List Str:=(kns tb).filter fun x=>dcd (Up (bf tb) k x)
def uW:Sp:=fun vs H Q _=>∃(v:V) (k:Str) (tb:List Row) (ds:List Str),vs=[v,.str k]∧Dp H (kW tb) v∧cD ds tb∧k∈kns tb∧∀(q:Addr) H',H' q=some (.tup ((dX tb k).map V.str))→Same H H'→Q (.ref q) H'
theorem xg(D:Defs K mg t):aW P w K mg base CX0 4 t.eY.1 t.eY.2 ["table","kind"] uW:=by
 have G_beneath:aW P w K mg base CX0 3 t.beneath.1 t.beneath.2 _ wR:=Bg D
 have G_family_of:aW P w K mg base CX0 1 t.iI.1 t.iI.2 _ Di:=Jg D
 have G_kinds_of:aW P w K mg base CX0 1 t.kinds_of.1 t.kinds_of.2 _ rT:=sU D
 have hz:sizeLine=16777216:=cK
 refine D.eY.fn.ok qJ (fun vs H Q E h=>?_) (fun cdv A outer s H vs Q E hr h=>?_)
 ·obtain ⟨v,k,tb,ds,rfl,_⟩:=h
  rfl
 ·obtain ⟨v,x,tb,ds,rfl,dv,G,hx,k⟩:=h
  have l7:tb.length≤7:=by have:=G.fam.len; unfold bf at this; rwa [aa] at this
  have knl:(kns tb).length=tb.length:=aa _
  refine⟨_,(aD (aP (i:=2) qJ.nd rfl (Or.inr rfl) (aH D.beneath G_beneath (hr.mono (by omega)) (by rfl) (aj (aH D.iI G_family_of (hr.mono (by omega)) (by rfl) (aj (pv 0) aA)) (aj (pv 1) aA))))
   (aF (aQ (bG bD (by rfl) D.cV bY (aj (bL rfl (aL.of ["name"] [1,2] ["name","kind","under"] (aq (top 38)) ["table","kind","under"] rfl rfl (by decide +kernel)) ⟨fun _ _ _ _ _=>(aN (i:=0) (show List.Nodup [("name" : Str),("kind" : Str),("under" : Str)] by decide +kernel) rfl (Or.inl (af rfl)) (.inr (af rfl))),fun _ _ _ _ _=>(dM (PW.pt (tQ (aV fu (pv 0) (pv 1) (bx _)) (pC (aV (lu (K:=K) rfl) (pv 0) (pv 2) (by with_unfolding_all rfl)))))),fun _ _ _ _ _=>(pv 0)⟩ (cU (aH D.kinds_of G_kinds_of (hr.mono (by omega)) (by rfl) (aj (pv 0) aA)))) aA))))),?_⟩
  refine⟨_,rfl,v,tb,rfl,dv,by omega,fun u H1 du s1=>?_⟩
  refine⟨_,rfl,u,x,bf tb,rfl,du,G.fam,by rw [dW]; exact hx,fun qb H2 hqb s2=>?_⟩
  have s12:=s1.trans s2
  refine⟨_,rfl,v,tb,rfl,dv.mono (Same.tups s12),l7,fun qk H3 hqk s3=>?_⟩
  have s13:=s12.trans s3
  have hqb3:=s3 qb _ hqb
  refine⟨qk,rfl,⟨_,SqT.of hqk⟩,fun D1 hD1=>?_⟩
  have s4:∀ u,Same H3 (upd H3 D1 u):=fun u=>Same.new hD1
  refine bA (n:=((kns tb).map V.str).length) (fun i ys H5=>ys=(((kns tb).take i).filter fun o=>dcd (Up (bf tb) x o)).map V.str∧H5=upd H3 D1 (.lst ys)) ⟨rfl,rfl⟩ ?_ ?_
  ·rintro ys H5 ⟨rfl,rfl⟩
   rw [av (by rw [aa]; exact am _)]
   refine⟨⟨_,SqT.of (s4 _ qk _ hqk),am _⟩,D1,_,rfl,.inl ⟨SqL.of ak,fun q hq=>?_⟩⟩
   exact k q _ ak (s13.trans ((s4 _).trans (Same.new hq)))
  ·rintro i ys H5 hi ⟨rfl,rfl⟩
   have hik:i < (kns tb).length:=by rw [aa] at hi; exact hi
   have ei:((kns tb).map V.str)[i]?=some (.str (kns tb)[i]):=by rw [bc,ae hik]; rfl
   refine⟨⟨_,_,SqT.of (s4 _ qk _ hqk),ei⟩,?_⟩
   rintro y H6 ⟨rfl,yy⟩ σo ho
   obtain ⟨oo,rfl⟩:=own1 ho
   have ev:=yy _ (SqT.of (s4 _ qk _ hqk))
   rw [ei] at ev
   cases ev
   refine⟨⟨[_],rfl,rfl⟩,?_⟩
   have hlen:((((kns tb).take i).filter fun o=>dcd (Up (bf tb) x o)).map V.str).length≤7:=by
    rw [aa]
    refine dC (de _ _) ?_
    rw [br]
    omega
   have ge:(kns tb)[i]?=some (kns tb)[i]:=ae hik
   have add:Up (bf tb) x (kns tb)[i]→((((kns tb).take i).filter fun o=>dcd (Up (bf tb) x o)).map V.str)++[V.str (kns tb)[i]]=((((kns tb).take (i+1)).filter fun o=>dcd (Up (bf tb) x o)).map V.str):=fun h=>by
    rw [lA ge,ck (je h),aw]
    rfl
   have skip:¬ Up (bf tb) x (kns tb)[i]→((((kns tb).take i).filter fun o=>dcd (Up (bf tb) x o)).map V.str)=((((kns tb).take (i+1)).filter fun o=>dcd (Up (bf tb) x o)).map V.str):=fun h=>by
    rw [lA ge,bX (by rw [iW h]; exact aE),eB]
   refine⟨_,rfl,_,rfl,rfl,_,rfl,eX (fun hb=>?_) (fun hb=>?_)⟩
   ·have hb:(kns tb)[i]=x:=by
     have:=cy hb
     injection this
    exact dZ ⟨_,rfl,by omega,ak,aR hi ⟨add (.inl hb),by rw [bO]⟩⟩
   ·have hb:¬ (kns tb)[i]=x:=fun e=>hb (ay (by rw [e]))
    refine⟨_,rfl,_,rfl,qb,_,rfl,.inr (SqT.of (s4 _ qb _ hqb3)),rfl,cH _,_,rfl,?_⟩
    show ite _ _ _
    refine eX (fun hb2=>?_) (fun hb2=>?_)
    ·have hb2:inV (V.str (kns tb)[i]) ((below (bf tb) x).map V.str)=true:=hb2
     rw [cB] at hb2
     have hR:Reach (bf tb) (kns tb)[i] x:=dA fun h=>by
      have:=(bE.mp (cy hb2)).2
      rw [iW h] at this
      cases this
     exact⟨_,rfl,by omega,ak,aR hi ⟨add (.inr hR),by rw [bO]⟩⟩
    ·have hb2:¬ inV (V.str (kns tb)[i]) ((below (bf tb) x).map V.str)=true:=hb2
     rw [cB] at hb2
     refine aR hi ⟨skip ?_,rfl⟩
     rintro (h | h)
     ·exact hb h
     ·exact hb2 (ay (bE.mpr ⟨by rw [dW]; exact cn hik,je h⟩))
def jy(ks:List Str)(r:Row):Row:=if r.kind∈ks then ⟨r.kind,r.bw,r.order,r.fields,r.bh,r.num+1⟩ else r
def CJ:Sp:=fun vs H Q _=>∃(v:V) (qk:Addr) (ks:List Str) (tb:List Row),vs=[v,.ref qk]∧Dp H (kW tb) v∧tb.length≤7∧H qk=some (.tup (ks.map V.str))∧∀(u:V) H',Dp H' (kW (tb.map (jy ks))) u→Same H H'→Q u H'
theorem Ie(D:Defs K mg t):aW P w K mg base CX0 1 t.fK.1 t.fK.2 ["table","kinds"] CJ:=by
 have hz:sizeLine=16777216:=cK
 refine D.fK.fn.ok vh (fun vs H Q E h=>?_) (fun cdv A outer s H vs Q E hr h=>?_)
 ·obtain ⟨v,qk,ks,tb,rfl,_⟩:=h
  rfl
 ·obtain ⟨v,qk,ks,tb,rfl,dv,l7,hqk,k⟩:=h
  obtain ⟨a,xs,rfl,ha,dl⟩:=L2.Dp.cR dv
  have hxl:xs.length=tb.length:=by have:=dl.length; rwa [aa] at this
  refine⟨_,(aF (aQ (bG bD (by rfl) D.cV bY (aj (bL rfl (aL.of ["row"] [1] ["row","kinds"] (aq (top 39)) ["table","kinds"] rfl rfl (by decide +kernel)) ⟨fun _ _ _ _ _=>(aN (i:=0) (show List.Nodup [("row" : Str),("kinds" : Str)] by decide +kernel) rfl (Or.inl (af rfl)) (.inr (af rfl))),fun _ _ _ _ _=>cg,fun _ _ _ _ _=>(vg (aV (lu (K:=K) rfl) (aM (bB (K:=K) rfl) (pv 0) aC (fun _ _=>rfl)) (pv 1) (by with_unfolding_all rfl)) (bJ oJ (dJ (sX (K:=K) rfl) (pv 0) fZ (gk aC)) (dg (aj (bJ gQ (aM (bB (K:=K) rfl) (pv 0) aC (fun _ _=>rfl)) aC) aA))) (pv 0))⟩ (cU (pv 0))) aA)))),?_⟩
  refine⟨_,rfl,a,rfl,⟨_,SqT.of ha⟩,fun D1 hD1=>?_⟩
  refine bA (n:=xs.length) (fun i ys H2=>DpL H2 (((tb.take i).map (jy ks)).map gw) ys∧H2 D1=some (.lst ys)∧Same H H2) ⟨.nil,ak,Same.new hD1⟩ ?_ ?_
  ·rintro ys H2 ⟨dy,hD2,s2⟩
   rw [av (by omega)] at dy
   refine⟨⟨_,SqT.of (s2 a _ ha),am _⟩,D1,_,rfl,.inl ⟨SqL.of hD2,fun q hq=>?_⟩⟩
   exact k _ _ (L2.Dp.tup ak (dy.mono (Same.tups (Same.new hq)))) (s2.trans (Same.new hq))
  ·rintro i ys H2 hi ⟨dy,hD2,s2⟩
   have hik:i < tb.length:=by omega
   obtain ⟨x,ex,dx⟩:=dl.get (i:=i) (t:=gw tb[i]) (by rw [bc,ae hik]; rfl)
   refine⟨⟨_,_,SqT.of (s2 a _ ha),ex⟩,?_⟩
   rintro v H3 ⟨rfl,yy⟩ σo ho
   obtain ⟨oo,rfl⟩:=own1 ho
   have ev:=yy _ (SqT.of (s2 a _ ha))
   rw [ex] at ev
   cases ev
   have dx3:=dx.mono (Same.tups s2)
   obtain ⟨q,e,o,f,vd,rfl,hq,he,ho,hf,hd⟩:=K17.B.Dp.fJ dx3
   refine⟨⟨[_],rfl,rfl⟩,dB ?_⟩
   refine⟨_,rfl,q,_,_,_,rfl,rfl,SqT.of hq,aG (j:=0) rfl,_,rfl,qk,_,rfl,.inr (SqT.of (s2 qk _ hqk)),rfl,cH _,_,rfl,?_⟩
   have yl:ys.length≤7:=by
    have:=dy.length
    rw [aa,aa,br] at this
    omega
   have fin:∀(y:V) (H4:Hp) (r':Row),jy ks tb[i]=r'→Same H3 H4→Dp H4 (gw r') y→DpL (upd H4 D1 (.lst (ys++[y]))) (((tb.take (i+1)).map (jy ks)).map gw) (ys++[y])∧upd H4 D1 (.lst (ys++[y])) D1=some (.lst (ys++[y]))∧Same H (upd H4 D1 (.lst (ys++[y]))):=by
    intro y H4 r' er s4 dy'
    have hD4:=s4 D1 _ hD2
    have tu:gD H4 (upd H4 D1 (.lst (ys++[y]))):=fun c zs z=>by
     rw [au (eG z hD4 (fun y=>nomatch y))]
     exact z
    refine⟨?_,ak,fun c u z=>?_⟩
    ·rw [take_snoc hik,aw,aw]
     refine((dy.mono (Same.tups s4)).mono tu).append (.cons ?_ .nil)
     rw [er]
     exact dy'.mono tu
    ·rw [au (aB z hD1)]
     exact s4 c _ (s2 c _ z)
   show ite _ _ _
   refine eX (fun hb=>?_) (fun hb=>?_)
   ·have hb:inV (V.str tb[i].kind) (ks.map V.str)=true:=hb
    rw [cB] at hb
    have hb:=cy hb
    refine⟨_,rfl,5,rfl,q,_,rfl,SqT.of hq,by show ¬ (HT.sIx 6 0 none=0∧HT.sIx 6 6 (some 5)=6); decide,fun p hp=>?_⟩
    have sp:Same H3 (upd H3 p (.tup (eF [.str tb[i].kind,.ref e,.ref o,.ref f,vd,.int tb[i].num] none (some 5)))):=Same.new hp
    have hp1:(upd H3 p (.tup (eF [.str tb[i].kind,.ref e,.ref o,.ref f,vd,.int tb[i].num] none (some 5)))) p=some (.tup [.str tb[i].kind,.ref e,.ref o,.ref f,vd]):=by
     rw [ak,show eF [.str tb[i].kind,.ref e,.ref o,.ref f,vd,.int tb[i].num] none (some 5)=_ from qW _ 5]
     rfl
    generalize upd H3 p (.tup (eF [.str tb[i].kind,.ref e,.ref o,.ref f,vd,.int tb[i].num] none (some 5)))=H5 at sp hp1
    refine⟨_,rfl,q,_,_,_,rfl,rfl,SqT.of (sp q _ hq),aG (j:=5) rfl,_,_,rfl,rfl,by show 1≤sizeLine; decide,fun p2 hp2=>?_⟩
    refine⟨p,p2,_,_,rfl,rfl,by rw [au (aB hp1 hp2)]; exact hp1,ak,by show 5+1≤sizeLine; decide,fun p3 H6 hp3 s6=>?_⟩
    have s36:Same H3 H6:=(sp.trans (Same.new hp2)).trans s6
    refine⟨by omega,s36 D1 _ hD2,aR hi (fin (.ref p3) H6 ⟨tb[i].kind,tb[i].bw,tb[i].order,tb[i].fields,tb[i].bh,tb[i].num+1⟩ (by unfold jy; rw [ck hb]) s36 ?_)⟩
    exact K17.B.Dp.Ia hp3 (s36 e _ he) (s36 o _ ho) (s36 f _ hf) (hd.mono (Same.tups s36))
   ·have hb:¬ inV (V.str tb[i].kind) (ks.map V.str)=true:=hb
    rw [cB] at hb
    refine⟨_,rfl,by omega,hD2,aR hi (fin _ H3 tb[i] (by unfold jy; rw [bX fun h=>hb (ay h)]) (Same.refl H3) dx3)⟩
theorem Aw(K:PySem.W.Frag):PySem.W.kitOne K (.type "int") (.type "bool")=some false:=rfl
def jt(b:Option Int):V:=match b with | none=>.non | some n=>.int n
def Dq:Sp:=fun vs H Q _=>∃ n:Int,vs=[.int n]∧Q (.bl true) H
theorem HY(D:Defs K mg t):aW P w K mg base CX0 1 t.jm.1 t.jm.2 ["thing"] Dq:=by
 refine D.jm.fn.ok yX (fun vs H Q E h=>?_) (fun cdv A outer s H vs Q E hr h=>?_)
 ·obtain ⟨n,rfl,_⟩:=h
  rfl
 ·obtain ⟨n,rfl,k⟩:=h
  refine⟨_,(aF (aQ (iM (aO bR (by rfl) D.bM bI (aj (pv 0) (aj (fQ (v:=V.ty "int") rfl D.Ji Cm rfl) aA))) (ji (Jx (aO bR (by rfl) D.bM bI (aj (pv 0) (aj (fQ (v:=V.ty "bool") rfl D.xH sE rfl) aA)))))))),?_⟩
  exact⟨_,rfl,_,_,_,true,rfl,.int n,iu K "int",_,rfl,dZ ⟨_,rfl,_,_,_,false,rfl,.int n,Aw K,_,rfl,k⟩⟩
def yM:Sp:=fun vs H Q _=>∃ n:Int,vs=[.int n]∧1≤n∧n≤99∧Q (.bl true) H
theorem FP(D:Defs K mg t)(GL:Glb mg):aW P w K mg base CX0 2 t.cW.1 t.cW.2 ["thing"] yM:=by
 obtain ⟨tk1,hMOB⟩:=GL.Af
 have G_is_whole:aW P w K mg base CX0 1 t.jm.1 t.jm.2 _ Dq:=HY D
 refine D.cW.fn.ok qH (fun vs H Q E h=>?_) (fun cdv A outer s H vs Q E hr h=>?_)
 ·obtain ⟨n,rfl,_⟩:=h
  rfl
 ·obtain ⟨n,rfl,h1,h2,k⟩:=h
  refine⟨_,(aF (aQ (iM (aH D.jm G_is_whole (hr.mono (by omega)) (by rfl) (aj (pv 0) aA)) (ji (HN Cw Cw aC (pv 0) (yq (v:=V.int 99) (by rfl) hMOB ⟨_,rfl⟩)))))),?_⟩
  refine⟨_,rfl,n,rfl,_,rfl,dZ ⟨_,rfl,_,_,rfl,rfl,_,rfl,iR (ay h1) ⟨_,_,rfl,rfl,?_⟩⟩⟩
  show Q (.bl (decide (n≤99))) H
  rw [ay h2]
  exact k
def uX:Sp:=fun vs H Q _=>∃ x:Str,vs=[.str x,.str x]∧Q (.bl true) H
theorem xV(D:Defs K mg t):aW P w K mg base CX0 1 t.jz.1 t.jz.2 ["thing","word"] uX:=by
 refine D.jz.fn.ok BK (fun vs H Q E h=>?_) (fun cdv A outer s H vs Q E hr h=>?_)
 ·obtain ⟨n,rfl,_⟩:=h
  rfl
 ·obtain ⟨x,rfl,k⟩:=h
  refine⟨_,(aF (aQ (iM (aO bR (by rfl) D.bM bI (aj (pv 0) (aj (fQ (v:=V.ty "str") rfl D.uG pH rfl) aA))) (ji (fG fu (pv 0) (pv 1) (bx _)))))),?_⟩
  refine⟨_,rfl,_,_,_,true,rfl,.str x,iu K "str",_,rfl,dZ ⟨_,rfl,_,rfl,rfl,?_⟩⟩
  rw [ay rfl]
  exact k
def DP:Sp:=fun vs H Q _=>∃(d:Str) (b:Option Int),vs=[.str d,jt b]∧Nm d∧(∀ n,b=some n→1≤n∧n≤99)∧∀ H',Same H H'→Q (.bl true) H'
theorem Ja(D:Defs K mg t)(GL:Glb mg):aW P w K mg base CX0 3 t.mK.1 t.mK.2 ["deed","body"] DP:=by
 have G_is_name:aW P w K mg base CX0 1 t.jT.1 t.jT.2 _ E.Ip:=E.Kf D GL
 have G_is_body_number:aW P w K mg base CX0 2 t.cW.1 t.cW.2 _ yM:=FP D GL
 refine D.mK.fn.ok Ea (fun vs H Q E h=>?_) (fun cdv A outer s H vs Q E hr h=>?_)
 ·obtain ⟨d,b,rfl,_⟩:=h
  rfl
 ·obtain ⟨d,b,rfl,hd,hb,k⟩:=h
  refine⟨_,(aF (aQ (iM (aH D.jT G_is_name (hr.mono (by omega)) (by rfl) (aj (pv 0) aA)) (ji (Pz (fG lF (pv 1) eV (bx _)) (ji (aH D.cW G_is_body_number (hr.mono (by omega)) (by rfl) (aj (pv 1) aA)))))))),?_⟩
  refine⟨_,rfl,_,_,rfl,.str d,⟨dC hd.2.1 (by decide),hd.2.2.asc⟩,fun H1 s1=>?_⟩
  rw [je (show K17.E.NmD (.str d) from ⟨d,rfl,hd⟩)]
  cases b with
  | none=>exact⟨_,rfl,dZ ⟨_,rfl,rfl,_,rfl,dZ (k H1 s1)⟩⟩
  | some n=>
   obtain ⟨h1,h2⟩:=hb n rfl
   exact⟨_,rfl,dZ ⟨_,rfl,rfl,_,rfl,fY ⟨_,rfl,n,rfl,h1,h2,k H1 s1⟩⟩⟩
def j7(H:Hp)(q:Addr):Chg→Prop
 | .own k d b=>H q=some (.tup [.str "own",.str k,.str d,jt b])
 | .eld k es=>∃ e,H q=some (.tup [.str "elders",.str k,.ref e])∧H e=some (.tup (es.map V.str))
theorem j7.same{H H':Hp}{q:Addr}{c:Chg}(h:j7 H q c)(s:Same H H'):j7 H' q c:=by
 cases c with
 | own k d b=>exact s q _ h
 | eld k es=>
  obtain ⟨e,h1,h2⟩:=h
  exact⟨e,s q _ h1,s e _ h2⟩
def JC(b:Option Int):PyData:=match b with | none=>.none | some n=>.int n
theorem Ke(H:Hp)(b:Option Int):RdV H (jt b) (JC b):=by
 cases b with
 | none=>exact .non
 | some n=>exact .int n
theorem xT(H:Hp):∀ es:List Str,RdA H (es.map V.str) (es.map PyData.str)
 | []=>.nil
 | x::es=>.cons (.str x) (xT H es)
def Dw:Sp:=fun vs H Q _=>∃(v:V) (q:Addr) (c:Chg) (tb:List Row) (ds:List Str),vs=[v,.ref q]∧Dp H (kW tb) v∧cD ds tb∧(∀ x∈ds,Nm x)∧OkC ds tb c∧j7 H q c∧∀ H',Same H H'→Q (.bl true) H'
theorem G3(D:Defs K mg t)(GL:Glb mg):aW P w K mg base CX0 4 t.iB.1 t.iB.2 ["table","thing"] Dw:=by
 have G_kinds_of:aW P w K mg base CX0 1 t.kinds_of.1 t.kinds_of.2 _ rT:=sU D
 have G_is_tuple_of:aW P w K mg base CX0 1 t.d7.1 t.d7.2 _ E.CZ:=E.Ib D
 have G_is_word:aW P w K mg base CX0 1 t.jz.1 t.jz.2 _ uX:=xV D
 have G_is_kind:aW P w K mg base CX0 1 t.cM.1 t.cM.2 _ lM:=oK D
 have G_is_own:aW P w K mg base CX0 3 t.mK.1 t.mK.2 _ DP:=Ja D GL
 have G_are_kinds:aW P w K mg base CX0 2 t.iH.1 t.iH.2 _ E.Lz:=E.Nh D
 refine D.iB.fn.ok pY (fun vs H Q E h=>?_) (fun cdv A outer s H vs Q E hr h=>?_)
 ·obtain ⟨v,q,c,tb,ds,rfl,_⟩:=h
  rfl
 ·obtain ⟨v,q,c,tb,ds,rfl,dv,G,nm,ok,hc,k⟩:=h
  have l7:tb.length≤7:=by have:=G.fam.len; unfold bf at this; rwa [aa] at this
  have knl:(kns tb).length=tb.length:=aa _
  refine⟨_,(aD (aP (i:=2) pY.nd rfl (Or.inl rfl) (aH D.kinds_of G_kinds_of (hr.mono (by omega)) (by rfl) (aj (pv 0) aA)))
   (aD (bQ (d9 (aH D.d7 G_is_tuple_of (hr.mono (by omega)) (by rfl) (aj (pv 1) (aj aC aA))))
   (aF (aQ (iM (aH D.jz G_is_word (hr.mono (by omega)) (by rfl) (aj (aM aX (pv 1) aC (fun _ _=>rfl)) (aj cF aA))) (iM (aH D.cM G_is_kind (hr.mono (by omega)) (by rfl) (aj (aM aX (pv 1) aC (fun _ _=>rfl)) (aj (pv 2) aA))) (ji (aH D.mK G_is_own (hr.mono (by omega)) (by rfl) (aj (aM aX (pv 1) aC (fun _ _=>rfl)) (aj (aM aX (pv 1) aC (fun _ _=>rfl)) aA))))))))
   aY)
   (aD (bQ (d9 (aH D.d7 G_is_tuple_of (hr.mono (by omega)) (by rfl) (aj (pv 1) (aj aC aA))))
   (aF (aQ (iM (aH D.jz G_is_word (hr.mono (by omega)) (by rfl) (aj (aM aX (pv 1) aC (fun _ _=>rfl)) (aj cF aA))) (iM (aH D.cM G_is_kind (hr.mono (by omega)) (by rfl) (aj (aM aX (pv 1) aC (fun _ _=>rfl)) (aj (pv 2) aA))) (ji (aH D.iH G_are_kinds (hr.mono (by omega)) (by rfl) (aj (aM aX (pv 1) aC (fun _ _=>rfl)) (aj (pv 2) aA))))))))
   aY)
   (aF (aQ nR))))),?_⟩
  refine⟨_,rfl,v,tb,rfl,dv,l7,fun qk H1 hqk s1=>?_⟩
  have hc1:=hc.same s1
  cases c with
  | own x d b=>
   obtain ⟨o1,o2,o3,_⟩:=ok
   have hq:H1 q=some (.tup [.str "own",.str x,.str d,jt b]):=hc1
   refine⟨_,rfl,.ref q,.tuple [.str "own",.str x,.str d,JC b],4,rfl,.tup hq (.cons (.str _) (.cons (.str _) (.cons (.str _) (.cons (Ke H1 b) .nil)))),?_⟩
   rw [je (show ∃ ds,PyData.tuple [.str "own",.str x,.str d,JC b]=.tuple ds∧ds.length=4 from ⟨_,rfl,rfl⟩)]
   refine⟨_,rfl,dZ ?_⟩
   refine⟨_,rfl,q,_,_,_,rfl,rfl,SqT.of hq,aG (j:=0) rfl,"own",rfl,_,rfl,dZ ?_⟩
   refine⟨_,rfl,q,_,_,_,rfl,rfl,SqT.of hq,aG (j:=1) rfl,_,rfl,x,qk,kns tb,rfl,hqk,?_⟩
   rw [ay o1]
   refine⟨_,rfl,dZ ?_⟩
   exact⟨_,rfl,q,_,_,_,rfl,rfl,SqT.of hq,aG (j:=2) rfl,_,rfl,q,_,_,_,rfl,rfl,SqT.of hq,aG (j:=3) rfl,d,b,rfl,nm d o2,o3,fun H2 s2=>k H2 (s1.trans s2)⟩
  | eld x es=>
   obtain ⟨o1,o2,o3,_⟩:=ok
   obtain ⟨e,hq,he⟩:=hc1
   have rd:RdV H1 (.ref q) (.tuple [.str "elders",.str x,.tuple (es.map .str)]):=.tup hq (.cons (.str _) (.cons (.str _) (.cons (.tup he (xT H1 es)) .nil)))
   refine⟨_,rfl,.ref q,_,4,rfl,rd,?_⟩
   rw [iW (show ¬ ∃ ds,PyData.tuple [.str "elders",.str x,.tuple (es.map .str)]=.tuple ds∧ds.length=4 from fun⟨ds,e1,e2⟩=>by cases e1; cases e2)]
   refine⟨_,rfl,fY ⟨_,rfl,.ref q,_,3,rfl,rd,?_⟩⟩
   rw [je (show ∃ ds,PyData.tuple [.str "elders",.str x,.tuple (es.map .str)]=.tuple ds∧ds.length=3 from ⟨_,rfl,rfl⟩)]
   refine⟨_,rfl,dZ ?_⟩
   refine⟨_,rfl,q,_,_,_,rfl,rfl,SqT.of hq,aG (j:=0) rfl,"elders",rfl,_,rfl,dZ ?_⟩
   refine⟨_,rfl,q,_,_,_,rfl,rfl,SqT.of hq,aG (j:=1) rfl,_,rfl,x,qk,kns tb,rfl,hqk,?_⟩
   rw [ay o1]
   refine⟨_,rfl,dZ ?_⟩
   refine⟨_,rfl,q,_,_,_,rfl,rfl,SqT.of hq,aG (j:=2) rfl,_,rfl,.ref e,.tuple (es.map .str),qk,kns tb,rfl,.tup he (xT H1 es),hqk,by omega,fun H2 s2=>?_⟩
   rw [je (show K17.E.Od (kns tb) (.tuple (es.map .str)) from ⟨es,rfl,o2,o3⟩)]
   exact k H2 (s1.trans s2)
theorem vM{f:Fam}(G:eO f){a b:Str}(h:Reach f a b):b∈nms f:=by
 induction h with
 | one e=>
  obtain ⟨r,hr,_,hb⟩:=e
  exact G.sub r hr _ hb
 | step _ _ ih=>exact ih
theorem cD.tb{ds:List Str}{tb:List Row}(G:cD ds tb):Hf tb:=by
 have knl:(kns tb).length=tb.length:=aa _
 have l7:tb.length≤7:=by have:=G.fam.len; unfold bf at this; rwa [aa] at this
 have hm:∀ r∈tb,r.kind∈nms (bf tb):=fun r hr=>by rw [dW]; exact d0 hr
 have hf:∀ r∈tb,(r.kind,r.bw)∈bf tb:=fun r hr=>bg.mpr ⟨r,hr,rfl⟩
 have od:∀ r∈tb,r.order.Nodup∧∀ x∈r.order,x∈kns tb:=fun r hr=>by
  obtain ⟨os,eo,nd,h,_⟩:=vZ G.fam r.kind (hm r hr) _ (G.ord r hr)
  refine⟨nd,fun x hx=>?_⟩
  rw [eo] at hx
  rw [← dW]
  rcases bu.mp hx with rfl | h'
  ·exact hm r hr
  ·exact vM G.fam ((h x).mp h')
 refine⟨by rw [← dW]; exact G.fam.nd,l7,fun r hr=>(od r hr).2,fun r hr=>?_,G.fl,fun r hr=>G.fam.lw _ (hm r hr),fun r hr=>⟨fun x hx=>?_,?_⟩⟩
 ·have:=cL (od r hr).1 (od r hr).2
  omega
 ·rw [← dW]
  exact G.fam.sub _ (hf r hr) x hx
 ·exact G.fam.el _ (hf r hr)
noncomputable def uR (k d:Str) (b:Option Int) (r:Row):Row:=if r.kind=k then ⟨r.kind,r.bw,r.order,r.fields,dY r.bh d b,r.num⟩ else r
theorem nC{ds:List (Str × Int)}{d:Str}(h:d∈ds.map Prod.fst):∃ n,bodyOf ds d=some n:=by
 obtain ⟨x,hx,e⟩:=bg.mp h
 unfold bodyOf
 cases hf:ds.find? fun x=>decide (x.1=d) with
 | none=>exact absurd (ay e) (by have:=List.find?_eq_none.mp hf x hx; exact this)
 | some y=>exact⟨y.2,rfl⟩
theorem wK{H:Hp}:∀ {qs:List (Addr × Str × Int)},(∀ p∈qs,H p.1=some (.tup [.str p.2.1,.int p.2.2]))→DpL H ((qs.map (·.2)).map mZ) (qs.map fun p=>V.ref p.1)
 | [],_=>.nil
 | x::qs,h=>.cons (L2.Dp.tup (h x aT) (.cons (L2.Dp.str _) (.cons (L2.Dp.int _) .nil))) (wK fun p hp=>h p (cz _ hp))
theorem Mq{c:TT}{t u r:TS}{D:_}{j:Nat}{v:V}{σ:L2.St}{H:Hp}(h:∀ Q:Bool→Hp→Prop,Q false H→c (σ.set j (some v)) H Q)(q:Mp u r D (σ.set j (some v)) H):yQ j v σ H (Mp (O8 c t u) r D):=h _ (fY q)
def wL:Sp:=fun vs H Q _=>∃(v:V) (k d:Str) (b:Option Int) (tb:List Row) (ds:List Str),vs=[v,.str k,.str d,jt b]∧Dp H (kW tb) v∧cD ds tb∧ds.length≤11∧OkC ds tb (.own k d b)∧∀(u:V) H',Dp H' (kW (tb.map (uR k d b))) u→Same H H'→Q u H'
theorem Bb(D:Defs K mg t):aW P w K mg base CX0 4 t.jo.1 t.jo.2 ["table","kind","deed","body"] wL:=by
 have G_row_at:aW P w K mg base CX0 3 t.jE.1 t.jE.2 _ yc:=zy D
 have G_own_body:aW P w K mg base CX0 1 t.gK.1 t.gK.2 _ rB:=ur D
 have hz:sizeLine=16777216:=cK
 refine D.jo.fn.ok kZ (fun vs H Q E h=>?_) (fun cdv A outer s H vs Q E hr h=>?_)
 ·obtain ⟨v,k,d,b,tb,ds,rfl,_⟩:=h
  rfl
 ·obtain ⟨v,k0,d,b,tb,ds,rfl,dv,G,l11,⟨o1,o2,o3,o4⟩,k⟩:=h
  obtain ⟨r,hr',er⟩:=bg.mp o1
  have er:r.kind=k0:=er
  subst er
  refine⟨_,(aD (aP (i:=4) kZ.nd rfl (Or.inl rfl) (aH D.jE G_row_at (hr.mono (by omega)) (by rfl) (aj (pv 0) (aj (pv 1) aA))))
   (aD (bQ (PW.pt (rD (aV lF (pv 3) eV (bx _)) (nU (aV lF (aH D.gK G_own_body (hr.mono (by omega)) (by rfl) (aj (pv 4) (aj (pv 2) aA))) eV (bx _)))))
   (aF mD)
   aY)
   (aD (jP (i:=5) rfl kZ.nd rfl (Or.inl rfl) (aL.of ["pair"] [2] ["pair","deed"] (aq (top 40)) ["table","kind","deed","body","row","deeds","new_row"] rfl rfl (by decide +kernel)) ⟨fun _ _ _ _ _=>(aN (i:=0) (show List.Nodup [("pair" : Str),("deed" : Str)] by decide +kernel) rfl (Or.inl (af rfl)) (.inr (af rfl))),fun _ _ _ _ _=>(dM (aV zL (aM (bB (K:=K) rfl) (pv 0) aC (fun _ _=>rfl)) (pv 1) (bx _))),fun _ _ _ _ _=>(pv 0)⟩ (cU (aM aX (pv 4) aC (fun _ _=>rfl))))
   (j8 (bQ (aV Dn (pv 3) eV (bx _))
   (aF (jd (qx fh fT gh iK (pv 5) (aj (dg (aj (pv 2) (aj (pv 3) aA))) aA))))
   aY)
   (aD (aP (i:=6) kZ.nd rfl (Or.inr rfl) (bJ oJ (dJ xO (pv 4) fZ (gk aC)) (dg (aj (bG bD (by rfl) D.cV bY (aj (aO vG (by rfl) D.uZ rm (aj (pv 5) aA)) aA)) (aj (aM aX (pv 4) aC (fun _ _=>rfl)) aA)))))
   (aF (aQ (bG bD (by rfl) D.cV bY (aj (bL rfl (aL.of ["old"] [6,1] ["old","new_row","kind"] (aq (top 40)) ["table","kind","deed","body","row","deeds","new_row"] rfl rfl (by decide +kernel)) ⟨fun _ _ _ _ _=>(aN (i:=0) (show List.Nodup [("old" : Str),("new_row" : Str),("kind" : Str)] by decide +kernel) rfl (Or.inl (af rfl)) (.inr (af rfl))),fun _ _ _ _ _=>cg,fun _ _ _ _ _=>(vg (aV fu (aM (bB (K:=K) rfl) (pv 0) aC (fun _ _=>rfl)) (pv 2) (bx _)) (pv 1) (pv 0))⟩ (cU (pv 0))) aA))))))))),?_⟩
  refine⟨_,rfl,_,rfl,v,tb,r,rfl,dv,G.tb,hr',fun u H1 du s1=>?_⟩
  obtain ⟨q,e,o,f,vd,rfl,hq,he,ho,hf,hd⟩:=K17.B.Dp.fJ du
  obtain ⟨ad,xs,rfl,had,dl⟩:=L2.Dp.cR hd
  obtain ⟨w1,w2,w3⟩:=G.own r hr'
  have hdl:r.bh.length≤11:=by
   have h1:=cL w1 (m:=ds) fun x hx=>by
    obtain ⟨y,hy,rfl⟩:=bg.mp hx
    exact w2 y hy
   rw [aa] at h1
   omega
  have hxl:xs.length=r.bh.length:=by have:=dl.length; rwa [aa] at this
  dsimp only
  refine Mq (fun Q0 hQ=>?g) ?r
  case g=>
   refine⟨_,rfl,rfl,_,rfl,?_⟩
   show ite _ _ _
   by_cases hbn:b=none
   ·refine iR (ay (by rw [hbn]; rfl)) ⟨_,rfl,_,rfl,.ref q,r,d,rfl,du,rfl,_,rfl,?_⟩
    obtain ⟨n,en⟩:=nC (o4 hbn r hr' rfl)
    rw [en]
    exact hQ
   ·refine iQ (fun z=>hbn ?_) hQ
    cases b with
    | none=>rfl
    | some n=>exact nomatch (cy z)
  case r=>
   refine⟨_,rfl,q,_,_,_,rfl,rfl,SqT.of hq,aG (j:=4) rfl,ad,rfl,⟨_,SqT.of had⟩,fun D1 hD1=>?_⟩
   have s4:∀ u,Same H1 (upd H1 D1 u):=fun u=>Same.new hD1
   refine bA (n:=xs.length) (fun i ys H2=>∃ ps:List (Addr × Str × Int),ys=ps.map (fun p=>V.ref p.1)∧ps.map (·.2)=(r.bh.take i).filter (fun x=>!decide (x.1=d))∧(∀ p∈ps,H1 p.1=some (.tup [.str p.2.1,.int p.2.2]))∧H2=upd H1 D1 (.lst ys)) ⟨[],rfl,rfl,(fun p hp=>nomatch hp),rfl⟩ ?_ ?_
   rotate_left
   ·rintro i ys H2 hi ⟨ps,rfl,ep,hps,rfl⟩
    have hik:i < r.bh.length:=by omega
    obtain ⟨x,ex,dx⟩:=dl.get (i:=i) (t:=mZ r.bh[i]) (by rw [bc,ae hik]; rfl)
    obtain ⟨qd,rfl,hqd⟩:=K17.B.Dp.qP dx
    refine⟨⟨_,_,SqT.of (s4 _ ad _ had),ex⟩,?_⟩
    rintro y H3 ⟨rfl,yy⟩ σo ho'
    obtain ⟨oo,rfl⟩:=own1 ho'
    have ev:=yy _ (SqT.of (s4 _ ad _ had))
    rw [ex] at ev
    cases ev
    have pl:ps.length≤11:=by
     have:=congrArg List.length ep
     rw [aa] at this
     have h2:=de (fun x:Str × Int=>!decide (x.1=d)) (r.bh.take i)
     rw [br] at h2
     omega
    refine⟨⟨[_],rfl,rfl⟩,⟨_,rfl,qd,_,_,_,rfl,rfl,SqT.of (s4 _ qd _ hqd),aG (j:=0) rfl,_,rfl,rfl,_,rfl,eX (fun hb=>?_) (fun hb=>?_)⟩⟩
    ·have hb:¬ r.bh[i].1=d:=fun e=>by
      rw [e] at hb
      simp at hb
     refine⟨_,rfl,by rw [aa]; omega,ak,aR hi ⟨ps++[(qd,r.bh[i])],by rw [aw]; rfl,?_,fun p hp=>?_,by rw [bO]⟩⟩
     ·rw [take_snoc hik,eS,aw,ep]
      congr 1
      show [r.bh[i]]=_
      rw [dk,ck (by rw [bv hb]; rfl)]
      rfl
     ·rcases bS.mp hp with h | h
      ·exact hps p h
      ·rw [aS.mp h]
       exact hqd
    ·have hb:r.bh[i].1=d:=dA fun ne=>hb (by
      rw [bv fun z=>ne (by injection z)]
      rfl)
     refine aR hi ⟨ps,rfl,?_,hps,rfl⟩
     rw [take_snoc hik,eS,ep,dk,bX (by rw [ay hb]; exact aE)]
     exact(eB _).symm
   ·rintro ys H2 ⟨ps,rfl,ep,hps,rfl⟩
    rw [av (by omega)] at ep
    refine⟨⟨_,SqT.of (s4 _ ad _ had),am _⟩,?_⟩
    refine⟨fun σ' H'=>∃ ps':List (Addr × Str × Int),σ'=[some v,some (.str r.kind),some (.str d),some (jt b),some (.ref q),some (.ref D1),none]∧H' D1=some (.lst (ps'.map fun p=>V.ref p.1))∧ps'.map (·.2)=lZ r.bh d b∧(∀ p∈ps',H' p.1=some (.tup [.str p.2.1,.int p.2.2]))∧Same H1 H',?_,?_⟩
    ·have pl:ps.length≤11:=by
      have:=congrArg List.length ep
      rw [aa] at this
      have h2:=de (fun x:Str × Int=>!decide (x.1=d)) r.bh
      omega
     cases b with
     | none=>
      refine⟨_,rfl,rfl,_,rfl,fY ⟨ps,rfl,ak,?_,fun p hp=>s4 _ _ _ (hps p hp),s4 _⟩⟩
      rw [ep]
      exact(eB _).symm
     | some n=>
      refine⟨_,rfl,rfl,_,rfl,dZ ⟨_,rfl,.inl ⟨rfl,_,SqL.of ak⟩,_,rfl,_,rfl,by show 2≤sizeLine; decide,fun pn hpn=>?_⟩⟩
      have nD:D1≠pn:=aB ak hpn
      have hpn1:H1 pn=none:=by rw [au nD.symm] at hpn; exact hpn
      refine⟨D1,_,_,rfl,rfl,by rw [au nD]; exact ak,by rw [aa]; omega,?_⟩
      have sN:Same H1 (upd (upd (upd H1 D1 (.lst (ps.map fun p=>V.ref p.1))) pn (.tup [.str d,jt (some n)])) D1 (.lst (ps.map (fun p=>V.ref p.1)++[.ref pn]))):=fun c u z=>by
       rw [au (aB z hD1),au (aB z hpn1),au (aB z hD1)]
       exact z
      refine⟨ps++[(pn,d,n)],rfl,by rw [ak,aw]; rfl,?_,fun p hp=>?_,sN⟩
      ·rw [aw,ep]
       rfl
      ·rcases bS.mp hp with h | h
       ·exact sN _ _ (hps p h)
       ·rw [aS.mp h,au nD.symm,ak]
        rfl
    ·rintro σ' H5 ⟨ps',rfl,hD5,ep',hps',s5⟩
     have hq5:=s5 q _ hq
     refine⟨_,rfl,4,rfl,q,_,rfl,SqT.of hq5,by show ¬ (HT.sIx 6 0 none=0∧HT.sIx 6 6 (some 4)=6); decide,fun p4 hp4=>?_⟩
     have sp:Same H5 (upd H5 p4 (.tup (eF [.str r.kind,.ref e,.ref o,.ref f,.ref ad,.int r.num] none (some 4)))):=Same.new hp4
     have hp41:(upd H5 p4 (.tup (eF [.str r.kind,.ref e,.ref o,.ref f,.ref ad,.int r.num] none (some 4)))) p4=some (.tup [.str r.kind,.ref e,.ref o,.ref f]):=by
      rw [ak,show eF [.str r.kind,.ref e,.ref o,.ref f,.ref ad,.int r.num] none (some 4)=_ from qW _ 4]
      rfl
     generalize upd H5 p4 (.tup (eF [.str r.kind,.ref e,.ref o,.ref f,.ref ad,.int r.num] none (some 4)))=H6 at sp hp41
     have en:ps'.map (fun x=>x.2.1)=(lZ r.bh d b).map Prod.fst:=by rw [← ep',fb]; rfl
     have kl:ps'.length≤12:=by
      have:=congrArg List.length ep'
      rw [aa] at this
      have h2:=de (fun x:Str × Int=>!decide (x.1=d)) r.bh
      unfold lZ at this
      rw [bz] at this
      cases b with
      | none=>simp at this; omega
      | some n=>simp at this; omega
     refine⟨_,rfl,D1,ps',rfl,SqL.of (sp D1 _ hD5),by omega,fun p hp=>sp _ _ (hps' p hp),by rw [en]; exact lW w1 d b,fun dd qs pm asc hdd=>?_⟩
     have e6:qs.map (·.2)=dY r.bh d b:=by
      refine w6 (lW w1 d b) (by rw [← ep']; exact pm.map _) fun i j h hj=>?_
      rw [gp,gp]
      exact asc i j h (by rw [aa] at hj; exact hj)
     refine⟨dd,_,rfl,.inl ⟨SqL.of ak,fun tt htt=>?_⟩⟩
     have s67:Same H6 (upd (upd H6 dd (.lst (qs.map fun p=>V.ref p.1))) tt (.tup (qs.map fun p=>V.ref p.1))):=(Same.new hdd).trans (Same.new htt)
     have htt7:(upd (upd H6 dd (.lst (qs.map fun p=>V.ref p.1))) tt (.tup (qs.map fun p=>V.ref p.1))) tt=some (.tup (qs.map fun p=>V.ref p.1)):=ak
     generalize upd (upd H6 dd (.lst (qs.map fun p=>V.ref p.1))) tt (.tup (qs.map fun p=>V.ref p.1))=H7 at s67 htt7
     have s57:=sp.trans s67
     refine⟨_,rfl,q,_,_,_,rfl,rfl,SqT.of (s57 q _ hq5),aG (j:=5) rfl,by show 2≤sizeLine; decide,fun p5 hp5=>?_⟩
     refine⟨p4,p5,_,_,rfl,rfl,(Same.new hp5) p4 _ (s67 p4 _ hp41),ak,by show 4+2≤sizeLine; decide,fun p6 H8 hp6 s8=>?_⟩
     have s78:Same H7 H8:=(Same.new hp5).trans s8
     have s18:Same H1 H8:=s5.trans (s57.trans s78)
     have dnew:Dp H8 (gw ⟨r.kind,r.bw,r.order,r.fields,dY r.bh d b,r.num⟩) (.ref p6):=by
      refine K17.B.Dp.Ia hp6 (s18 e _ he) (s18 o _ ho) (s18 f _ hf) (L2.Dp.tup (s78 tt _ htt7) ?_)
      rw [← e6]
      exact wK fun p hp=>(s57.trans s78) _ _ (hps' p (pm.mem_iff.mp hp))
     obtain ⟨a,zs,ev,ha,dlt⟩:=L2.Dp.cR dv
     subst ev
     have s08:Same H H8:=s1.trans s18
     have l7:tb.length≤7:=G.tb.len
     have hzl:zs.length=tb.length:=by have:=dlt.length; rwa [aa] at this
     refine⟨_,rfl,a,rfl,⟨_,SqT.of (s08 a _ ha)⟩,fun D2 hD2'=>?_⟩
     refine bA (n:=zs.length) (fun i ys H2=>DpL H2 (((tb.take i).map (uR r.kind d b)).map gw) ys∧H2 D2=some (.lst ys)∧Same H8 H2) ⟨.nil,ak,Same.new hD2'⟩ ?_ ?_
     ·rintro ys H2 ⟨dy,hD2,s2⟩
      rw [av (by omega)] at dy
      refine⟨⟨_,SqT.of (s2 a _ (s08 a _ ha)),am _⟩,D2,_,rfl,.inl ⟨SqL.of hD2,fun qz hqz=>?_⟩⟩
      exact k _ _ (L2.Dp.tup ak (dy.mono (Same.tups (Same.new hqz)))) (s08.trans (s2.trans (Same.new hqz)))
     ·rintro i ys H2 hi ⟨dy,hD2,s2⟩
      have hik:i < tb.length:=by omega
      obtain ⟨x,ex,dx⟩:=dlt.get (i:=i) (t:=gw tb[i]) (by rw [bc,ae hik]; rfl)
      have ha2:=s2 a _ (s08 a _ ha)
      refine⟨⟨_,_,SqT.of ha2,ex⟩,?_⟩
      rintro y H3 ⟨rfl,yy⟩ σo ho'
      obtain ⟨oo,rfl⟩:=own1 ho'
      have ev:=yy _ (SqT.of ha2)
      rw [ex] at ev
      cases ev
      have dx3:=dx.mono (Same.tups (s08.trans s2))
      obtain ⟨q',e',o',f',vd',rfl,hq',_⟩:=K17.B.Dp.fJ dx3
      have yl:ys.length≤7:=by
       have:=dy.length
       rw [aa,aa,br] at this
       omega
      have fin:∀(y:V),Dp H3 (gw (uR r.kind d b tb[i])) y→DpL (upd H3 D2 (.lst (ys++[y]))) (((tb.take (i+1)).map (uR r.kind d b)).map gw) (ys++[y])∧upd H3 D2 (.lst (ys++[y])) D2=some (.lst (ys++[y]))∧Same H8 (upd H3 D2 (.lst (ys++[y]))):=by
       intro y dy'
       have tu:gD H3 (upd H3 D2 (.lst (ys++[y]))):=fun c zs z=>by
        rw [au (eG z hD2 (fun y=>nomatch y))]
        exact z
       refine⟨?_,ak,fun c u z=>?_⟩
       ·rw [take_snoc hik,aw,aw]
        exact(dy.mono tu).append (.cons (dy'.mono tu) .nil)
       ·rw [au (aB z hD2')]
        exact s2 c _ z
      refine⟨⟨[_],rfl,rfl⟩,dB ⟨_,rfl,q',_,_,_,rfl,rfl,SqT.of hq',aG (j:=0) rfl,_,rfl,rfl,_,rfl,?_⟩⟩
      show ite _ _ _
      refine eX (fun hb=>?_) (fun hb=>?_)
      ·have hb:tb[i].kind=r.kind:=by
        have:=cy hb
        injection this
       have hir:tb[i]=r:=by
        have h1:=lJ G.tb.nd hr'
        have h2:tb[i]∈tb.filter (fun x=>decide (x.kind=r.kind)):=bE.mpr ⟨cn hik,ay hb⟩
        rw [h1] at h2
        exact aS.mp h2
       refine⟨_,rfl,by omega,hD2,aR hi (fin _ ?_)⟩
       unfold uR
       rw [ck hb,hir]
       exact dnew.mono (Same.tups s2)
      ·have hb:¬ tb[i].kind=r.kind:=fun e=>hb (ay (by rw [e]))
       refine⟨_,rfl,by omega,hD2,aR hi (fin _ ?_)⟩
       unfold uR
       rw [bX hb]
       exact dx3
def Fo:Key→Str
 | .inr x=>x
 | .inl _=> ""
def tU:Sp:=fun vs H Q _=>∃(e d:Addr) (es:List Str) (kvs:List (Key × V)) (f:Fam),vs=[.ref e,.ref d]∧H e=some (.lst (es.map V.str))∧Rd H d (.dK kvs)∧jZ H kvs f (·∈es)∧
 ((∀ x∈es,(bU f x).isSome=true)→Q .non H)∧(¬ (∀ x∈es,(bU f x).isSome=true)→∀ (q a rg),H q=some (.tup [.str "quarrel",.str a,.ref rg])→Q (.ref q) H)
theorem zV(D:Defs K mg t):aW P w K mg base CX0 1 t.bN.1 t.bN.2 ["kinds","told"] tU:=by
 refine D.bN.fn.ok iC (fun vs H Q E h=>?_) (fun cdv A outer s H vs Q E hr h=>?_)
 ·obtain ⟨e,d,es,kvs,f,rfl,_⟩:=h
  rfl
 ·obtain ⟨e,d,es,kvs,f,rfl,he,hd,told,k1,k2⟩:=h
  refine⟨_,(aD (gR dS rfl (gU (pv 0)) (aN (i:=2) iC.nd rfl (Or.inl rfl))
   (aF (bQ (aV fu (aM aX (dF (cY hr) (pv 1) (pv 2) (fun _ _=>rfl)) aC (fun _ _=>rfl)) cF (bx _))
   (aF (aQ (dF (cY hr) (pv 1) (pv 2) (fun _ _=>rfl))))
   aY)))
   (aF (aQ eV))),?_⟩
  refine⟨_,rfl,e,rfl,⟨_,SqL.of he⟩,nF (K:=K) (a:=e) (xs:=es.map V.str) (fun i σ H2=>∃ v2:Option V,σ=[some (.ref e),some (.ref d),v2]∧H2=H∧∀ x∈es.take i,(bU f x).isSome=true)
   ⟨_,rfl,rfl,by simp⟩ (fun i σ H2 _ ⟨_,_,e2,_⟩=>by rw [e2]; exact SqL.of he) ?_ ?_⟩
  ·rintro i v σ H2 hi ⟨v2,rfl,rfl,all⟩
   have hil:i < es.length:=by
    have:=(bj.mp hi).1
    rwa [aa] at this
   have ev:v=.str es[i]:=by
    rw [bc,ae hil] at hi
    exact(dE hi).symm
   subst ev
   have hm:es[i]∈es:=cn hil
   obtain ⟨q,hv,ht⟩:=told es[i] hm
   have gd:kO H2 d (.str es[i]) (some (.ref q)):=.inl ⟨kvs,.inr es[i],hd,rfl,hv.symm⟩
   rcases ht with ⟨o,qo,h1,h2,h3⟩ | ⟨h1,a,rg,h2⟩
   ·refine⟨_,rfl,_,rfl,d,.ref q,rfl,gd,q,_,_,_,rfl,rfl,SqT.of h2,rfl,rfl,_,rfl,iQ (by rw [bv (by intro h; injection h with h; exact tW h)]; exact aE) ?_⟩
    refine⟨_,rfl,rfl,fun x hx=>?_⟩
    rw [take_snoc hil] at hx
    rcases bS.mp hx with h | h
    ·exact all x h
    ·rw [aS.mp h,h1]
     rfl
   ·refine⟨_,rfl,_,rfl,d,.ref q,rfl,gd,q,_,_,_,rfl,rfl,SqT.of h2,rfl,rfl,_,rfl,iR (ay rfl) ?_⟩
    refine⟨_,rfl,_,rfl,d,.ref q,rfl,gd,k2 (fun h=>?_) q a rg h2⟩
    have:=h es[i] hm
    rw [h1] at this
    cases this
  ·rintro σ H2 ⟨v2,rfl,rfl,all⟩
   rw [aa,av (am _)] at all
   exact k1 all
def Hy:Sp:=fun vs H Q _=>∃(d:Addr) (kvs:List (Key × V)) (f:Fam),vs=[.ref d]∧H d=some (.dK kvs)∧jZ H kvs f (·∈nms f)∧KIn kvs f∧∀ H',Same H H'→Q (.bl (!dcd (∀ x∈nms f,(bU f x).isSome=true))) H'
theorem JT(D:Defs K mg t):aW P w K mg base CX0 2 t.fL.1 t.fL.2 ["told"] Hy:=by
 have G_quarrel_among:aW P w K mg base CX0 1 t.bN.1 t.bN.2 _ tU:=zV D
 refine D.fL.fn.ok uI (fun vs H Q E h=>?_) (fun cdv A outer s H vs Q E hr h=>?_)
 ·obtain ⟨d,kvs,f,rfl,_⟩:=h
  rfl
 ·obtain ⟨d,kvs,f,rfl,hd,told,ki,k⟩:=h
  have key:∀ kv∈kvs,∃ x∈nms f,kv.1=Sum.inr x:=fun kv hkv=>ki kv.1 (jB.mpr (d0 hkv))
  have ek:(kvs.map fun kv=>kV kv.1)=(kvs.map fun kv=>Fo kv.1).map V.str:=by
   rw [fb]
   refine eM fun kv hkv=>?_
   obtain ⟨x,_,e⟩:=key kv hkv
   show kV kv.1=V.str (Fo kv.1)
   rw [e]
   rfl
  have sub:∀ x∈(kvs.map fun kv=>Fo kv.1),x∈nms f:=fun x hx=>by
   obtain ⟨kv,hkv,rfl⟩:=bg.mp hx
   obtain ⟨x,hx,e⟩:=key kv hkv
   rw [e]
   exact hx
  have sup:∀ x∈nms f,x∈(kvs.map fun kv=>Fo kv.1):=fun x hx=>by
   obtain ⟨q,hq,_⟩:=told x hx
   obtain ⟨kv,hkv,e⟩:=bg.mp (jB.mp (show (bZ kvs (Sum.inr x)).isSome=true by rw [hq]; rfl))
   exact bg.mpr ⟨kv,hkv,by show Fo kv.1=x; rw [show kv.1=Sum.inr x from e]; rfl⟩
  refine⟨_,(aF (aQ (fG Dn (aH D.bN G_quarrel_among (hr.mono (by omega)) (by rfl) (aj (bG (Bk rfl) (by rfl) D.xM rY (aj (pv 0) aA)) (aj (pv 0) aA))) eV (bx _)))),?_⟩
  refine⟨_,rfl,d,kvs,rfl,.inl hd,fun l hl=>?_⟩
  have s1:Same H (upd H l (.lst (kvs.map fun kv=>kV kv.1))):=Same.new hl
  have hl1:(upd H l (.lst (kvs.map fun kv=>kV kv.1))) l=some (.lst ((kvs.map fun kv=>Fo kv.1).map V.str)):=by rw [ak,ek]
  generalize upd H l (.lst (kvs.map fun kv=>kV kv.1))=H1 at s1 hl1
  refine⟨_,rfl,l,d,_,kvs,f,rfl,hl1,.inl (s1 d _ hd),(fun x hx=>(told.mono (Same.tups s1)) x (sub x hx)),fun hall=>?_,fun hnot q a rg hq=>?_⟩
  ·have:=k H1 s1
   rw [je fun x hx=>hall x (sup x hx)] at this
   refine⟨rfl,?_⟩
   show Q (V.bl !decide (V.non=V.non)) H1
   rw [ay rfl]
   exact this
  ·have:=k H1 s1
   rw [iW fun h=>hnot fun x hx=>h x (sub x hx)] at this
   refine⟨rfl,?_⟩
   show Q (V.bl !decide (V.ref q=V.non)) H1
   rw [bv (fun z=>nomatch z)]
   exact this
noncomputable def zc (tb:List Row) (k:Str) (es:List Str) (r:Row):Row:=⟨r.kind,if r.kind=k then es else r.bw,(bU (bV (bf tb) k es) r.kind).getD [],r.fields,r.bh,r.num⟩
theorem uh{tb:List Row}{k x:Str}(h:x∈dX tb k):Up (bf tb) k x:=by
 have:=(bE.mp h).2
 refine dA fun hn=>?_
 rw [iW hn] at this
 cases this
theorem Bp(tb:List Row)(k:Str)(es:List Str)(i:Nat)(h:i < tb.length):bV (bf (tb.take (i+1))) k es=bV (bf (tb.take i)) k es++[(tb[i].kind,if tb[i].kind=k then es else tb[i].bw)]:=by
 rw [take_snoc h]
 unfold bV bf
 rw [aw,aw]
 congr 1
 show [if tb[i].kind=k then (tb[i].kind,es) else (tb[i].kind,tb[i].bw)]=_
 by_cases e:tb[i].kind=k
 ·rw [ck e,ck e]
 ·rw [bX e,bX e]
theorem Jm(tb:List Row)(k:Str)(es:List Str)(i:Nat)(h:i < tb.length):(bV (bf tb) k es)[i]?=some (tb[i].kind,if tb[i].kind=k then es else tb[i].bw):=by
 unfold bV bf
 rw [fb,bc,ae h]
 show some (if tb[i].kind=k then (tb[i].kind,es) else (tb[i].kind,tb[i].bw))=_
 by_cases e:tb[i].kind=k
 ·rw [ck e,ck e]
 ·rw [bX e,bX e]
def vU:Sp:=fun vs H Q _=>∃(v:V) (k:Str) (qe:Addr) (es:List Str) (tb:List Row) (ds:List Str),vs=[v,.str k,.ref qe]∧Dp H (kW tb) v∧cD ds tb∧H qe=some (.tup (es.map V.str))∧OkC ds tb (.eld k es)∧∀(u:V) H',Dp H' (kW (tb.map (zc tb k es))) u→Same H H'→Q u H'
theorem Bs(D:Defs K mg t):aW P w K mg base CX0 5 t.fj.1 t.fj.2 ["table","kind","elders"] vU:=by
 have G_raised_by:aW P w K mg base CX0 4 t.eY.1 t.eY.2 _ uW:=xg D
 have G_tell_orders:aW P w K mg base CX0 4 t.fO.1 t.fO.2 _ Gz:=KY D
 have G_has_quarrel:aW P w K mg base CX0 2 t.fL.1 t.fL.2 _ Hy:=JT D
 have hz:sizeLine=16777216:=cK
 refine D.fj.fn.ok kI (fun vs H Q E h=>?_) (fun cdv A outer s H vs Q E hr h=>?_)
 ·obtain ⟨v,k,qe,es,tb,ds,rfl,_⟩:=h
  rfl
 ·obtain ⟨v,k0,qe,es,tb,ds,rfl,dv,G,hqe,⟨o1,o2,o3,o4,o5⟩,k⟩:=h
  have l7:tb.length≤7:=G.tb.len
  have knl:(kns tb).length=tb.length:=aa _
  have GF:eO (bV (bf tb) k0 es):=G.fam.bV (by rw [dW]; exact o2) o3 o4
  obtain ⟨a,zs,ev,ha,dlt⟩:=L2.Dp.cR dv
  subst ev
  have hzl:zs.length=tb.length:=by have:=dlt.length; rwa [aa] at this
  refine⟨_,(aD (bQ (d9 (aO (qw rfl) (by rfl) D.Ai sW (aj (bL rfl (aL.of ["name"] [2] ["name","elders"] (aq (top 41)) ["table","kind","elders","family","told"] rfl rfl (by decide +kernel)) ⟨fun _ _ _ _ _=>(aN (i:=0) (show List.Nodup [("name" : Str),("elders" : Str)] by decide +kernel) rfl (Or.inl (af rfl)) (.inr (af rfl))),fun _ _ _ _ _=>cg,fun _ _ _ _ _=>(fG (lu (K:=K) rfl) (pv 0) (pv 1) (by with_unfolding_all rfl))⟩ (cU (aH D.eY G_raised_by (hr.mono (by omega)) (by rfl) (aj (pv 0) (aj (pv 1) aA))))) aA)))
   (aF mD)
   aY)
   (aD (aP (i:=3) kI.nd rfl (Or.inl rfl) (bG bD (by rfl) D.cV bY (aj (bL rfl (aL.of ["row"] [2,1] ["row","elders","kind"] (aq (top 41)) ["table","kind","elders","family","told"] rfl rfl (by decide +kernel)) ⟨fun _ _ _ _ _=>(aN (i:=0) (show List.Nodup [("row" : Str),("elders" : Str),("kind" : Str)] by decide +kernel) rfl (Or.inl (af rfl)) (.inr (af rfl))),fun _ _ _ _ _=>cg,fun _ _ _ _ _=>(dg (aj (aM (bB (K:=K) rfl) (pv 0) aC (fun _ _=>rfl)) (aj (vg (aV fu (aM (bB (K:=K) rfl) (pv 0) aC (fun _ _=>rfl)) (pv 2) (bx _)) (pv 1) (aM (bB (K:=K) rfl) (pv 0) aC (fun _ _=>rfl))) aA)))⟩ (cU (pv 0))) aA)))
   (aD (aP (i:=4) kI.nd rfl (Or.inr rfl) (aH D.fO G_tell_orders (hr.mono (by omega)) (by rfl) (aj (pv 3) aA)))
   (aD (bQ (d9 (aH D.fL G_has_quarrel (hr.mono (by omega)) (by rfl) (aj (pv 4) aA)))
   (aF mD)
   aY)
   (aF (aQ (bG bD (by rfl) D.cV bY (aj (bL rfl (aL.of ["pair","row"] [4] ["pair","row","told"] (aq (top 41)) ["table","kind","elders","family","told"] rfl rfl (by decide +kernel)) ⟨fun _ _ _ _ _=>(qN (K:=K) (n:=2) rfl rfl (dH (aN (i:=0) (show List.Nodup [("pair" : Str),("row" : Str),("told" : Str)] by decide +kernel) rfl (Or.inl (af rfl)) (.inr (af rfl))) (dH (aN (i:=1) (show List.Nodup [("pair" : Str),("row" : Str),("told" : Str)] by decide +kernel) rfl (Or.inl (af rfl)) (.inr (af rfl))) lg))),fun _ _ _ _ _=>cg,fun _ _ _ _ _=>(bJ oJ (bJ oJ (pv 0) (dg (aj (aM (bB (K:=K) rfl) (dF (cY hr) (pv 2) (aM (bB (K:=K) rfl) (pv 0) aC (fun _ _=>rfl)) (fun _ _=>rfl)) aC (fun _ _=>rfl)) aA))) (dJ (sX (K:=K) rfl) (pv 1) (gk aC) fZ))⟩ (K8 rfl D.PX (aj (pv 3) (aj (pv 0) aA)))) aA)))))))),?_⟩
  refine⟨_,rfl,_,rfl,.ref a,k0,tb,ds,rfl,dv,G,o1,fun qr H1 hqr s1=>?_⟩
  refine⟨qr,rfl,⟨_,SqT.of hqr⟩,fun D1 hD1=>?_⟩
  have s2:∀ u,Same H1 (upd H1 D1 u):=fun u=>Same.new hD1
  have rl:(dX tb k0).length≤7:=by
   refine dC (de _ _) ?_
   omega
  refine bA (n:=((dX tb k0).map V.str).length) (fun i ys H5=>ys=(((dX tb k0).take i).map fun _=>false).map V.bl∧H5=upd H1 D1 (.lst ys)) ⟨rfl,rfl⟩ ?_ ?_
  rotate_left
  ·rintro i ys H5 hi ⟨rfl,rfl⟩
   have hik:i < (dX tb k0).length:=by rw [aa] at hi; exact hi
   have ei:((dX tb k0).map V.str)[i]?=some (.str (dX tb k0)[i]):=by rw [bc,ae hik]; rfl
   refine⟨⟨_,_,SqT.of (s2 _ qr _ hqr),ei⟩,?_⟩
   rintro y H6 ⟨rfl,yy⟩ σo ho
   obtain ⟨oo,rfl⟩:=own1 ho
   have ev:=yy _ (SqT.of (s2 _ qr _ hqr))
   rw [ei] at ev
   cases ev
   refine⟨⟨[_],rfl,rfl⟩,dB ⟨_,rfl,_,rfl,qe,_,rfl,.inr (SqT.of (s2 _ qe _ (s1 qe _ hqe))),rfl,cH _,?_⟩⟩
   refine⟨by rw [aa,aa,br]; omega,ak,aR hi ⟨?_,by rw [bO]⟩⟩
   rw [take_snoc hik,aw,aw]
   congr 1
   show [V.bl (inV (V.str (dX tb k0)[i]) (es.map V.str))]=[V.bl false]
   rw [cB,bv fun h=>o4 _ h (uh (cn hik))]
  ·rintro ys H5 ⟨rfl,rfl⟩
   rw [av (by rw [aa]; exact am _)]
   refine⟨⟨_,SqT.of (s2 _ qr _ hqr),am _⟩,D1,_,rfl,SqL.of ak,_,rfl,?_⟩
   have ef:(((dX tb k0).map fun _=>false).any id)=false:=by
    rw [List.any_eq_false]
    intro x hx
    obtain ⟨_,_,rfl⟩:=bg.mp hx
    exact aE
   rw [ef]
   refine fY ?_
   have s02:=s1.trans (s2 (.lst (((dX tb k0).map fun _=>false).map V.bl)))
   generalize upd H1 D1 (.lst (((dX tb k0).map fun _=>false).map V.bl))=H2 at s02
   refine⟨_,rfl,a,rfl,⟨_,SqT.of (s02 a _ ha)⟩,fun D2 hD2=>?_⟩
   refine bA (n:=zs.length) (fun i ys H3=>DpL H3 ((bV (bf (tb.take i)) k0 es).map oR) ys∧H3 D2=some (.lst ys)∧Same H2 H3) ⟨.nil,ak,Same.new hD2⟩ ?_ ?_
   rotate_left
   ·rintro i ys H3 hi ⟨dy,hD3,s3⟩
    have hik:i < tb.length:=by omega
    obtain ⟨x,ex,dx⟩:=dlt.get (i:=i) (t:=gw tb[i]) (by rw [bc,ae hik]; rfl)
    have ha3:=s3 a _ (s02 a _ ha)
    refine⟨⟨_,_,SqT.of ha3,ex⟩,?_⟩
    rintro y H4 ⟨rfl,yy⟩ σo ho
    obtain ⟨oo,rfl⟩:=own1 ho
    have ev:=yy _ (SqT.of ha3)
    rw [ex] at ev
    cases ev
    obtain ⟨q,e,o,f,vd,rfl,hq,he,_⟩:=K17.B.Dp.fJ (dx.mono (Same.tups (s02.trans s3)))
    have yl:ys.length≤7:=by
     have:=dy.length
     unfold bV bf at this
     rw [aa,aa,aa,br] at this
     omega
    have fin:∀ (e':Addr) (us:List Str),H4 e'=some (.tup (us.map V.str))→(us=if tb[i].kind=k0 then es else tb[i].bw)→∀ p,H4 p=none→ys.length < sizeLine∧(upd H4 p (.tup [.str tb[i].kind,.ref e'])) D2=some (.lst ys)∧∃ m',m' < zs.length - i∧(m'=zs.length - (i+1)∧i+1≤zs.length∧DpL (upd (upd H4 p (.tup [.str tb[i].kind,.ref e'])) D2 (.lst (ys++[.ref p]))) ((bV (bf (tb.take (i+1))) k0 es).map oR) (ys++[.ref p])∧(upd (upd H4 p (.tup [.str tb[i].kind,.ref e'])) D2 (.lst (ys++[.ref p]))) D2=some (.lst (ys++[.ref p]))∧Same H2 (upd (upd H4 p (.tup [.str tb[i].kind,.ref e'])) D2 (.lst (ys++[.ref p])))):=by
     intro e' us he' eu p hp
     have pD:D2≠p:=aB hD3 hp
     have tu:gD H4 (upd (upd H4 p (.tup [.str tb[i].kind,.ref e'])) D2 (.lst (ys++[.ref p]))):=fun c zs z=>by
      rw [au (eG z hD3 (fun y=>nomatch y)),au (aB z hp)]
      exact z
     refine⟨by omega,by rw [au pD]; exact hD3,aR hi ⟨?_,ak,fun c u z=>?_⟩⟩
     ·rw [Bp tb k0 es i hik,aw]
      refine(dy.mono tu).append (.cons (K17.Dp.row (e:=e') ?_ ?_) .nil)
      ·rw [au pD.symm,ak]
      ·rw [← eu]
       exact tu e' _ he'
     ·rw [au (aB z hD2),au (aB (s3 c _ z) hp)]
      exact s3 c _ z
    refine⟨⟨[_],rfl,rfl⟩,dB ⟨_,rfl,q,_,_,_,rfl,rfl,SqT.of hq,aG (j:=0) rfl,_,rfl,q,_,_,_,rfl,rfl,SqT.of hq,aG (j:=0) rfl,_,rfl,rfl,_,rfl,?_⟩⟩
    show ite _ _ _
    refine eX (fun hb=>?_) (fun hb=>?_)
    ·have hb:tb[i].kind=k0:=by
      have:=cy hb
      injection this
     exact⟨_,rfl,by show 2≤sizeLine; decide,fin qe es ((s02.trans s3) qe _ hqe) (by rw [ck hb])⟩
    ·have hb:¬ tb[i].kind=k0:=fun e=>hb (ay (by rw [e]))
     exact⟨_,rfl,q,_,_,_,rfl,rfl,SqT.of hq,aG (j:=1) rfl,by show 2≤sizeLine; decide,fin e tb[i].bw he (by rw [bX hb])⟩
   ·rintro ys H3 ⟨dy,hD3,s3⟩
    rw [av (by omega)] at dy
    refine⟨⟨_,SqT.of (s3 a _ (s02 a _ ha)),am _⟩,D2,_,rfl,.inl ⟨SqL.of hD3,fun qf hqf=>?_⟩⟩
    have s4:Same H3 (upd H3 qf (.tup ys)):=Same.new hqf
    have hqf4:(upd H3 qf (.tup ys)) qf=some (.tup ys):=ak
    generalize upd H3 qf (.tup ys)=H4 at s4 hqf4
    have dy4:=dy.mono (Same.tups s4)
    have s04:=(s02.trans s3).trans s4
    have hyl:ys.length=tb.length:=by
     have:=dy.length
     unfold bV bf at this
     rw [aa,aa,aa] at this
     exact this
    refine⟨_,rfl,.ref qf,_,rfl,L2.Dp.tup hqf4 dy4,GF,fun d kvs H5 hdn hd told ki kl s5=>?_⟩
    refine⟨_,rfl,d,kvs,_,rfl,hd,told,ki,fun H6 s6=>?_⟩
    rw [je (show ∀ x∈nms (bV (bf tb) k0 es),(bU (bV (bf tb) k0 es) x).isSome=true from fun x hx=>by
     rw [jX,dW] at hx
     exact o5 x hx)]
    refine⟨_,rfl,fY ?_⟩
    have s06:=s04.trans (s5.trans s6)
    have s46:=s5.trans s6
    have hd6:=s6 d _ hd
    have told6:=told.mono (Same.tups s6)
    refine⟨_,rfl,_,rfl,qf,a,ys,zs,rfl,SqT.of (s46 qf _ hqf4),SqT.of (s06 a _ ha),fun D3 hD3'=>?_⟩
    refine bA (n:=tb.length) (fun i us H7=>DpL H7 (((tb.take i).map (zc tb k0 es)).map gw) us∧H7 D3=some (.lst us)∧Same H6 H7) ⟨.nil,ak,Same.new hD3'⟩ ?_ ?_
    ·rintro us H7 ⟨du,hD7,s7⟩
     rw [av (am _)] at du
     refine⟨⟨ys,zs,SqT.of (s7 qf _ (s46 qf _ hqf4)),SqT.of (s7 a _ (s06 a _ ha)),by omega⟩,D3,_,rfl,.inl ⟨SqL.of hD7,fun qz hqz=>?_⟩⟩
     exact k _ _ (L2.Dp.tup ak (du.mono (Same.tups (Same.new hqz)))) (s06.trans (s7.trans (Same.new hqz)))
    ·rintro i us H7 hi ⟨du,hD7,s7⟩
     have hqf7:=s7 qf _ (s46 qf _ hqf4)
     have ha7:=s7 a _ (s06 a _ ha)
     obtain ⟨x,ex,dx⟩:=dlt.get (i:=i) (t:=gw tb[i]) (by rw [bc,ae hi]; rfl)
     obtain ⟨y,ey,dyy⟩:=dy4.get (i:=i) (t:=oR (tb[i].kind,if tb[i].kind=k0 then es else tb[i].bw)) (by rw [bc,Jm tb k0 es i hi]; rfl)
     refine⟨⟨ys,zs,y,x,SqT.of hqf7,SqT.of ha7,ey,ex⟩,?_⟩
     rintro z H8 ⟨pz,hpz,rfl,yy⟩ σo ho
     have e8:=yy ys zs y x (SqT.of hqf7) (SqT.of ha7) ey ex
     subst e8
     obtain ⟨oo,oo',rfl⟩:=Ku ho
     have s78:Same H7 (upd H7 pz (.tup [y,x])):=Same.new hpz
     have hpz8:(upd H7 pz (.tup [y,x])) pz=some (.tup [y,x]):=ak
     generalize upd H7 pz (.tup [y,x])=H8 at s78 hpz8
     have s68:=s7.trans s78
     obtain ⟨q,e,o,f,vd,rfl,hq,he,ho,hf,hvd⟩:=K17.B.Dp.fJ (dx.mono (Same.tups (s06.trans s68)))
     obtain ⟨p,e',rfl,hp,he'⟩:=K17.Dp.yx (dyy.mono (Same.tups (s46.trans s68)))
     obtain ⟨q6,hv,ht⟩:=told6 tb[i].kind (by rw [jX,dW]; exact d0 (cn hi))
     rcases ht with ⟨oe,qo,h1,h2,h3⟩ | ⟨h1,_⟩
     rotate_left
     ·have:=o5 tb[i].kind (d0 (cn hi))
      rw [h1] at this
      cases this
     have ul:us.length≤7:=by
      have:=du.length
      rw [aa,aa,br] at this
      omega
     refine⟨pz,_,rfl,SqT.of hpz8,rfl,_,_,rfl,_,_,rfl,rfl,⟨[_,_],rfl,rfl⟩,dB ?_⟩
     refine⟨_,rfl,_,rfl,_,rfl,p,_,_,_,rfl,rfl,SqT.of hp,aG (j:=0) rfl,d,.ref q6,rfl,.inl ⟨kvs,.inr tb[i].kind,.inl (s68 d _ hd6),rfl,hv.symm⟩,q6,_,_,_,rfl,rfl,SqT.of (s68 q6 _ h2),aG (j:=1) rfl,by show 1≤sizeLine; decide,fun p1 hp1=>?_⟩
     have s89:Same H8 (upd H8 p1 (.tup [.ref qo])):=Same.new hp1
     refine⟨p,p1,_,_,rfl,rfl,s89 p _ hp,ak,by show 2+1≤sizeLine; decide,fun p2 H9 hp2 s9=>?_⟩
     have t9:=s89.trans s9
     refine⟨_,rfl,3,rfl,q,_,rfl,SqT.of (t9 q _ hq),by show ¬ (HT.sIx 6 0 (some 3)=0∧HT.sIx 6 6 none=6); decide,fun p3 hp3=>?_⟩
     have s10:Same H9 (upd H9 p3 (.tup (eF [.str tb[i].kind,.ref e,.ref o,.ref f,vd,.int tb[i].num] (some 3) none))):=Same.new hp3
     have hp31:(upd H9 p3 (.tup (eF [.str tb[i].kind,.ref e,.ref o,.ref f,vd,.int tb[i].num] (some 3) none))) p3=some (.tup [.ref f,vd,.int tb[i].num]):=by
      rw [ak,show eF [.str tb[i].kind,.ref e,.ref o,.ref f,vd,.int tb[i].num] (some 3) none=_ from Gf _ 3]
      rfl
     generalize upd H9 p3 (.tup (eF [.str tb[i].kind,.ref e,.ref o,.ref f,vd,.int tb[i].num] (some 3) none))=H10 at s10 hp31
     refine⟨p2,p3,_,_,rfl,rfl,s10 p2 _ hp2,hp31,by show 3+3≤sizeLine; decide,fun p4 H11 hp4 s11=>?_⟩
     have t11:Same H8 H11:=t9.trans (s10.trans s11)
     have hD11:=t11 D3 _ (s78 D3 _ hD7)
     have tu:gD H11 (upd H11 D3 (.lst (us++[.ref p4]))):=fun c zs z=>by
      rw [au (eG z hD11 (fun y=>nomatch y))]
      exact z
     refine⟨by omega,hD11,aR hi ⟨?_,ak,fun c u z=>?_⟩⟩
     ·rw [take_snoc hi,aw,aw]
      have dn:Dp H11 (gw (zc tb k0 es tb[i])) (.ref p4):=by
       unfold zc
       rw [h1]
       exact K17.B.Dp.Ia hp4 (t11 e' _ he') (t11 qo _ (s68 qo _ h3)) (t11 f _ hf) (hvd.mono (Same.tups t11))
      exact((du.mono (Same.tups (s78.trans t11))).mono tu).append (.cons (dn.mono tu) .nil)
     ·rw [au (aB z hD3')]
      exact t11 c _ (s68 c _ z)
theorem mL{ds:List Str}{tb:List Row}(G:cD ds tb){r:Row}(hr:r∈tb)(k:Str):r.kind∈dX tb k↔k∈r.order:=by
 rw [um G hr k]
 constructor
 ·exact uh
 ·exact fun h=>bE.mpr ⟨d0 hr,je h⟩
theorem DY{ds:List Str}{tb:List Row}(G:cD ds tb)(k d:Str)(b:Option Int):(tb.map (uR k d b)).map (jy (dX tb k))=fX tb (.own k d b):=by
 unfold fX
 rw [fb]
 refine eM fun r hr=>?_
 show jy (dX tb k) (uR k d b r)=⟨r.kind,r.bw,r.order,r.fields,if r.kind=k then dY r.bh d b else r.bh,r.num+jr (decide (k∈r.order))⟩
 have e1:uR k d b r=⟨r.kind,r.bw,r.order,r.fields,if r.kind=k then dY r.bh d b else r.bh,r.num⟩:=by
  unfold uR
  by_cases e:r.kind=k
  ·rw [ck e,ck e]
  ·rw [bX e,bX e]
 rw [e1]
 unfold jy
 by_cases h:k∈r.order
 ·rw [ck ((mL G hr k).mpr h),ay h]
  rfl
 ·rw [bX (fun z=>h ((mL G hr k).mp z)),bv h]
  show _=Row.mk _ _ _ _ _ (r.num+0)
  rw [Int.add_zero]
theorem Fi{ds:List Str}{tb:List Row}(G:cD ds tb)(k:Str)(es:List Str):(tb.map (zc tb k es)).map (jy (dX tb k))=fX tb (.eld k es):=by
 unfold fX
 rw [fb]
 refine eM fun r hr=>?_
 show jy (dX tb k) (zc tb k es r)=⟨r.kind,if r.kind=k then es else r.bw,(bU (bV (bf tb) k es) r.kind).getD [],r.fields,r.bh,r.num+jr (decide (k∈r.order))⟩
 unfold jy zc
 by_cases h:k∈r.order
 ·rw [ck ((mL G hr k).mpr h),ay h]
  rfl
 ·rw [bX (fun z=>h ((mL G hr k).mp z)),bv h]
  show _=Row.mk _ _ _ _ _ (r.num+0)
  rw [Int.add_zero]
noncomputable def JH (tb:List Row):Chg→List Row
 | .own k d b=>tb.map (uR k d b)
 | .eld k es=>tb.map (zc tb k es)
theorem J9(tb:List Row)(c:Chg):(JH tb c).length=tb.length:=by
 cases c <;> exact aa _
theorem Ez{ds:List Str}{tb:List Row}(G:cD ds tb)(c:Chg):(JH tb c).map (jy (dX tb c.kind))=fX tb c:=by
 cases c with
 | own k d b=>exact DY G k d b
 | eld k es=>exact Fi G k es
theorem j7.kind{H:Hp}{q:Addr}{c:Chg}(h:j7 H q c):∃ x rest,H q=some (.tup (x::.str c.kind::rest)):=by
 cases c with
 | own k d b=>exact⟨_,_,h⟩
 | eld k es=>
  obtain ⟨e,h,_⟩:=h
  exact⟨_,_,h⟩
theorem Bl:¬ ("elders" : Str) = "own" := by decide +kernel
def qY:Sp:=fun vs H Q _=>∃(v:V) (q:Addr) (c:Chg) (tb:List Row) (ds:List Str),vs=[v,.ref q]∧Dp H (kW tb) v∧cD ds tb∧ds.length≤11∧(∀ x∈ds,Nm x)∧OkC ds tb c∧j7 H q c∧∀(u:V) H',Dp H' (kW (fX tb c)) u→Same H H'→Q u H'
theorem u5(D:Defs K mg t)(GL:Glb mg):aW P w K mg base CX0 6 t.changed.1 t.changed.2 ["table","change"] qY:=by
 have G_is_change:aW P w K mg base CX0 4 t.iB.1 t.iB.2 _ Dw:=G3 D GL
 have G_with_own:aW P w K mg base CX0 4 t.jo.1 t.jo.2 _ wL:=Bb D
 have G_with_elders:aW P w K mg base CX0 5 t.fj.1 t.fj.2 _ vU:=Bs D
 have G_with_raised:aW P w K mg base CX0 1 t.fK.1 t.fK.2 _ CJ:=Ie D
 have G_raised_by:aW P w K mg base CX0 4 t.eY.1 t.eY.2 _ uW:=xg D
 refine D.changed.fn.ok pI (fun vs H Q E h=>?_) (fun cdv A outer s H vs Q E hr h=>?_)
 ·obtain ⟨v,q,c,tb,ds,rfl,_⟩:=h
  rfl
 ·obtain ⟨v,q,c,tb,ds,rfl,dv,G,l11,nm,ok,hc,k⟩:=h
  have l7:tb.length≤7:=G.tb.len
  have hk:c.kind∈kns tb:=by
   cases c with
   | own x d b=>exact ok.1
   | eld x es=>exact ok.1
  refine⟨_,(aD (bQ (jG (d9 (aH D.iB G_is_change (hr.mono (by omega)) (by rfl) (aj (pv 0) (aj (pv 1) aA)))))
   (aF mD)
   aY)
   (j8 (bQ (aV fu (aM aX (pv 1) aC (fun _ _=>rfl)) cF (bx _))
   (aF (aP (i:=2) pI.nd rfl (Or.inl rfl) (aH D.jo G_with_own (hr.mono (by omega)) (by rfl) (aj (pv 0) (aj (aM aX (pv 1) aC (fun _ _=>rfl)) (aj (aM aX (pv 1) aC (fun _ _=>rfl)) (aj (aM aX (pv 1) aC (fun _ _=>rfl)) aA)))))))
   (aF (aP (i:=2) pI.nd rfl (Or.inl rfl) (aH D.fj G_with_elders (hr.mono (by omega)) (by rfl) (aj (pv 0) (aj (aM aX (pv 1) aC (fun _ _=>rfl)) (aj (aM aX (pv 1) aC (fun _ _=>rfl)) aA)))))))
   (aF (aQ (aH D.fK G_with_raised (hr.mono (by omega)) (by rfl) (aj (pv 2) (aj (aH D.eY G_raised_by (hr.mono (by omega)) (by rfl) (aj (pv 0) (aj (aM aX (pv 1) aC (fun _ _=>rfl)) aA))) aA))))))),?_⟩
  refine⟨_,rfl,_,rfl,v,q,c,tb,ds,rfl,dv,G,nm,ok,hc,fun H1 s1=>⟨_,rfl,fY ?_⟩⟩
  have hc1:=hc.same s1
  have dv1:=dv.mono (Same.tups s1)
  refine⟨fun σ' H'=>∃ u,σ'=[some v,some (.ref q),some u]∧Dp H' (kW (JH tb c)) u∧Same H1 H',?_,?_⟩
  ·cases c with
   | own x d b=>
    have hq:H1 q=some (.tup [.str "own",.str x,.str d,jt b]):=hc1
    refine⟨_,rfl,q,_,_,_,rfl,rfl,SqT.of hq,aG (j:=0) rfl,rfl,_,rfl,dZ ?_⟩
    refine⟨_,rfl,_,rfl,q,_,_,_,rfl,rfl,SqT.of hq,aG (j:=1) rfl,_,rfl,q,_,_,_,rfl,rfl,SqT.of hq,aG (j:=2) rfl,_,rfl,q,_,_,_,rfl,rfl,SqT.of hq,aG (j:=3) rfl,?_⟩
    exact⟨v,x,d,b,tb,ds,rfl,dv1,G,l11,ok,fun u H2 du s2=>⟨u,rfl,du,s2⟩⟩
   | eld x es=>
    obtain ⟨e,hq,he⟩:=hc1
    refine⟨_,rfl,q,_,_,_,rfl,rfl,SqT.of hq,aG (j:=0) rfl,rfl,_,rfl,iQ (by rw [bv (by intro h; injection h with h; exact Bl h)]; exact aE) ?_⟩
    refine⟨_,rfl,_,rfl,q,_,_,_,rfl,rfl,SqT.of hq,aG (j:=1) rfl,_,rfl,q,_,_,_,rfl,rfl,SqT.of hq,aG (j:=2) rfl,?_⟩
    exact⟨v,x,e,es,tb,ds,rfl,dv1,G,he,ok,fun u H2 du s2=>⟨u,rfl,du,s2⟩⟩
  ·rintro σ' H2 ⟨u,rfl,du,s2⟩
   obtain ⟨x0,rest,hq⟩:=(hc1.same s2).kind
   refine⟨_,rfl,_,rfl,_,rfl,q,_,_,_,rfl,rfl,SqT.of hq,aG (j:=1) rfl,?_⟩
   refine⟨v,c.kind,tb,ds,rfl,dv1.mono (Same.tups s2),G,hk,fun qr H3 hqr s3=>?_⟩
   refine⟨u,qr,dX tb c.kind,JH tb c,rfl,du.mono (Same.tups s3),by rw [J9]; exact l7,hqr,fun u' H4 du' s4=>?_⟩
   rw [Ez G c] at du'
   exact k u' H4 du' (s1.trans (s2.trans (s3.trans s4)))
end
end K17.B
end
section
namespace K17.B
open PySem PyProof.Rows L2
section
variable {P:Program}{w:World}{K:PySem.W.Frag}{mg:Str→Option Value}{base:Heap}{t:Adr}
def xU(tb:List Row):Chg→Fam
 | .own _ _ _=>bf tb
 | .eld k es=>bV (bf tb) k es
theorem wz:¬ ("own" : Str) = "elders" := by decide +kernel
def G7(c:Chg)(r:Row):List Str:=match c with
 | .own _ _ _=>r.bw
 | .eld k es=>if r.kind=k then es else r.bw
theorem uM(tb:List Row)(c:Chg):xU tb c=tb.map fun r=>(r.kind,G7 c r):=by
 cases c with
 | own k d b=>rfl
 | eld k es=>
  show bV (bf tb) k es=_
  unfold bV bf
  rw [fb]
  refine eM fun r _=>?_
  show (if r.kind=k then (r.kind,es) else (r.kind,r.bw))=(r.kind,if r.kind=k then es else r.bw)
  by_cases e:r.kind=k
  ·rw [ck e,ck e]
  ·rw [bX e,bX e]
def vR:Sp:=fun vs H Q _=>∃(v:V) (q:Addr) (c:Chg) (tb:List Row),vs=[v,.ref q]∧Dp H (kW tb) v∧tb.length≤7∧j7 H q c∧∀(l:Addr) (xs:List V) H',H l=none→H' l=some (.lst xs)→DpL H' ((xU tb c).map oR) xs→Same H H'→Q (.ref l) H'
theorem Ci(D:Defs K mg t):aW P w K mg base CX0 1 t.cA.1 t.cA.2 ["_law_table_here","_law_change_here"] vR:=by
 have hz:sizeLine=16777216:=cK
 refine D.cA.fn.ok dI (fun vs H Q E h=>?_) (fun cdv A outer s H vs Q E hr h=>?_)
 ·obtain ⟨v,q,c,tb,rfl,_⟩:=h
  rfl
 ·obtain ⟨v,q,c,tb,rfl,dv,l7,hc,k⟩:=h
  obtain ⟨a,zs,rfl,ha,dlt⟩:=L2.Dp.cR dv
  have hzl:zs.length=tb.length:=by have:=dlt.length; rwa [aa] at this
  refine⟨_,(aD (aP (i:=2) dI.nd rfl (Or.inl rfl) (dU aA))
   (aD (gR dS rfl (cU (pv 0)) (aN (i:=3) dI.nd rfl (Or.inl rfl))
   (aD (aP (i:=4) dI.nd rfl (Or.inl rfl) (aM aX (pv 3) aC (fun _ _=>rfl)))
   (j8 (bQ (PW.pt (rD (aV fu (aM aX (pv 1) aC (fun _ _=>rfl)) cF (bx _)) (nU (aV fu (aM aX (pv 3) aC (fun _ _=>rfl)) (aM aX (pv 1) aC (fun _ _=>rfl)) (bx _)))))
   (aF (aP (i:=4) dI.nd rfl (Or.inl rfl) (aM aX (pv 1) aC (fun _ _=>rfl))))
   aY)
   (aF (jd (qx fh fT gh iK (pv 2) (aj (dg (aj (aM aX (pv 3) aC (fun _ _=>rfl)) (aj (pv 4) aA))) aA)))))))
   (aF (aQ (pv 2))))),?_⟩
  refine⟨dq _,fun fl hfl=>?_⟩
  have s1:Same H (upd H fl (.lst [])):=Same.new hfl
  have hfl1:(upd H fl (.lst [])) fl=some (.lst []):=ak
  generalize upd H fl (.lst [])=H1 at s1 hfl1
  refine⟨_,rfl,a,rfl,⟨_,SqT.of (s1 a _ ha)⟩,?_⟩
  refine nW (K:=K) (a:=a) (xs:=zs) (fun i σ H2=>∃(v3 v4:Option V) (ys:List V),σ=[some (.ref a),some (.ref q),some (.ref fl),v3,v4]∧H2 fl=some (.lst ys)∧DpL H2 ((tb.take i).map fun r=>oR (r.kind,G7 c r)) ys∧Same H H2)
   ⟨_,_,[],rfl,hfl1,.nil,s1⟩ (fun i σ H2 _ ⟨_,_,_,_,_,_,s2⟩=>SqT.of (s2 a _ ha)) ?_ ?_
  ·rintro i x σ H2 hi ⟨v3,v4,ys,rfl,hf2,dy,s2⟩
   have hik:i < tb.length:=by
    have:=(bj.mp hi).1
    omega
   obtain ⟨y,ey,dx⟩:=dlt.get (i:=i) (t:=gw tb[i]) (by rw [bc,ae hik]; rfl)
   rw [hi] at ey
   cases ey
   have yl:ys.length≤7:=by
    have:=dy.length
    rw [aa,br] at this
    omega
   obtain ⟨qr,e,o,f,vd,rfl,hq,he,ho,hf,hd⟩:=K17.B.Dp.fJ (dx.mono (Same.tups s2))
   refine⟨_,rfl,qr,_,_,_,rfl,rfl,SqT.of hq,aG (j:=1) rfl,?_⟩
   refine⟨fun σ' H'=>∃ e',σ'=[some (.ref a),some (.ref q),some (.ref fl),some (.ref qr),some (.ref e')]∧H'=H2∧H2 e'=some (.tup ((G7 c tb[i]).map V.str)),?_,?_⟩
   ·have hc2:=hc.same s2
    cases c with
    | own x d b=>
     have hc2:H2 q=some (.tup [.str "own",.str x,.str d,jt b]):=hc2
     refine⟨_,rfl,q,_,_,_,rfl,rfl,SqT.of hc2,aG (j:=0) rfl,rfl,_,rfl,iQ (by rw [bv (by intro h; injection h with h; exact wz h)]; exact aE) ?_⟩
     exact⟨e,rfl,rfl,he⟩
    | eld x es=>
     obtain ⟨ee,hc2,hee⟩:=hc2
     refine⟨_,rfl,q,_,_,_,rfl,rfl,SqT.of hc2,aG (j:=0) rfl,rfl,_,rfl,iR (ay rfl) ?_⟩
     refine⟨_,rfl,qr,_,_,_,rfl,rfl,SqT.of hq,aG (j:=0) rfl,_,rfl,q,_,_,_,rfl,rfl,SqT.of hc2,aG (j:=1) rfl,rfl,_,rfl,?_⟩
     show ite _ _ _
     refine eX (fun hb=>?_) (fun hb=>?_)
     ·have hb:tb[i].kind=x:=by
       have:=cy hb
       injection this
      refine⟨_,rfl,q,_,_,_,rfl,rfl,SqT.of hc2,aG (j:=2) rfl,ee,rfl,rfl,?_⟩
      show H2 ee=some (.tup ((if tb[i].kind=x then es else tb[i].bw).map V.str))
      rw [ck hb]
      exact hee
     ·have hb:¬ tb[i].kind=x:=fun e=>hb (ay (by rw [e]))
      refine⟨e,rfl,rfl,?_⟩
      show H2 e=some (.tup ((if tb[i].kind=x then es else tb[i].bw).map V.str))
      rw [bX hb]
      exact he
   ·rintro σ' H3 ⟨e',rfl,rfl,he'⟩
    refine⟨_,rfl,.inl ⟨rfl,_,SqL.of hf2⟩,_,rfl,qr,_,_,_,rfl,rfl,SqT.of hq,aG (j:=0) rfl,_,rfl,by show 2≤sizeLine; decide,fun pn hpn=>?_⟩
    have nD:fl≠pn:=aB hf2 hpn
    refine⟨fl,_,_,rfl,rfl,by rw [au nD]; exact hf2,by omega,?_⟩
    have tu:gD H3 (upd (upd H3 pn (.tup [.str tb[i].kind,.ref e'])) fl (.lst (ys++[.ref pn]))):=fun c zs z=>by
     rw [au (eG z hf2 (fun y=>nomatch y)),au (aB z hpn)]
     exact z
    refine⟨_,_,ys++[.ref pn],rfl,ak,?_,fun c u z=>?_⟩
    ·rw [take_snoc hik,aw]
     refine(dy.mono tu).append (.cons (K17.Dp.row (e:=e') ?_ (tu e' _ he')) .nil)
     rw [au nD.symm,ak]
    ·rw [au (aB z hfl),au (aB (s2 c _ z) hpn)]
     exact s2 c _ z
  ·rintro σ H2 ⟨v3,v4,ys,rfl,hf2,dy,s2⟩
   rw [av (by omega)] at dy
   refine⟨_,rfl,k fl ys H2 hfl hf2 ?_ s2⟩
   rw [uM,fb]
   exact dy
theorem yP(tb:List Row)(c:Chg):nms (xU tb c)=kns tb:=by
 rw [uM]
 unfold nms kns
 rw [fb]
 rfl
def Fz:Nat→T→Prop
 | 0,.tup _=>False
 | n+1,.tup ts=>ts.length≤1000∧∀ t∈ts,Fz n t
 | _,_=>True
theorem Mr(K:PySem.W.Frag):PySem.W.kitOne K (.type "str") (.type "tuple")=some false:=rfl
theorem Ng(K:PySem.W.Frag):PySem.W.kitOne K (.type "int") (.type "tuple")=some false:=rfl
theorem Mh(K:PySem.W.Frag):PySem.W.kitOne K (.type "NoneType") (.type "tuple")=some false:=rfl
theorem kit_is(K:PySem.W.Frag):PySem.W.kitOne K (.type "int") (.type "str")=some false:=rfl
def yt(n:Nat):Sp:=fun vs H Q _=>∃(u v:V) (tr:T),vs=[u,v]∧Fz n tr∧Dp H tr u∧Dp H tr v∧∀ H',Same H H'→Q (.bl true) H'
theorem vQ(D:Defs K mg t)(n:Nat)(ih:aW P w K mg base CX0 (n+1) t.cQ.1 t.cQ.2 ["_law_told","_law_due"] (fun vs H Q E=>match n with | 0=>False | m+1=>yt m vs H Q E)):aW P w K mg base CX0 (n+2) t.cQ.1 t.cQ.2 ["_law_told","_law_due"] (yt n):=by
 have G__law_same:=ih
 have hz:sizeLine=16777216:=cK
 refine D.cQ.fn.ok pQ (fun vs H Q E h=>?_) (fun cdv A outer s H vs Q E hr h=>?_)
 ·obtain ⟨u,v,tr,rfl,_⟩:=h
  rfl
 ·obtain ⟨u,v,tr,rfl,sh,du,dv,k⟩:=h
  refine⟨_,(aD (bQ (d9 (aO bR (by rfl) D.bM bI (aj (pv 1) (aj (fQ (v:=V.ty "tuple") rfl D.cV bY rfl) aA))))
   (aD (bQ (PW.pt (tQ (jG (d9 (aO bR (by rfl) D.bM bI (aj (pv 0) (aj (fQ (v:=V.ty "tuple") rfl D.cV bY rfl) aA))))) (pC (aV zL (aO bC (by rfl) D.iz eE (aj (pv 0) aA)) (aO bC (by rfl) D.iz eE (aj (pv 1) aA)) (bx _)))))
   (aF (aQ nR))
   aY)
   (aF (aQ (aO (nJ rfl) (by rfl) D.zx uQ (aj (bL rfl (aL.of ["_law_k"] [0,1] ["_law_k","_law_told","_law_due"] (aq (top 58)) ["_law_told","_law_due"] rfl rfl (by decide +kernel)) ⟨fun _ _ _ _ _=>(aN (i:=0) (show List.Nodup [("_law_k" : Str),("_law_told" : Str),("_law_due" : Str)] by decide +kernel) rfl (Or.inl (af rfl)) (.inr (af rfl))),fun _ _ _ _ _=>cg,fun _ _ _ _ _=>(aH D.cQ G__law_same (hr.mono (by omega)) (by rfl) (aj (aM (bB (K:=K) rfl) (pv 1) (pv 0) (fun _ _=>rfl)) (aj (aM (bB (K:=K) rfl) (pv 2) (pv 0) (fun _ _=>rfl)) aA)))⟩ (jx rfl D.mR (aj (aO bC (by rfl) D.iz eE (aj (pv 1) aA)) aA))) aA)))))
   aY)
   (aD (bQ (aV lF (pv 1) eV (bx _))
   (aF (aQ (fG lF (pv 0) eV (bx _))))
   aY)
   (aD (bQ (d9 (aO bR (by rfl) D.bM bI (aj (pv 1) (aj (fQ (v:=V.ty "str") rfl D.uG pH rfl) aA))))
   (aF (aQ (iM (aO bR (by rfl) D.bM bI (aj (pv 0) (aj (fQ (v:=V.ty "str") rfl D.uG pH rfl) aA))) (ji (fG fu (pv 0) (pv 1) (bx _))))))
   aY)
   (aD (bQ (d9 (aO bR (by rfl) D.bM bI (aj (pv 1) (aj (fQ (v:=V.ty "bool") rfl D.xH sE rfl) aA))))
   (aF (aQ (iM (aO bR (by rfl) D.bM bI (aj (pv 0) (aj (fQ (v:=V.ty "bool") rfl D.xH sE rfl) aA))) (ji (fG fu (pv 0) (pv 1) (bx _))))))
   aY)
   (aF (aQ (iM (aO bR (by rfl) D.bM bI (aj (pv 0) (aj (fQ (v:=V.ty "int") rfl D.Ji Cm rfl) aA))) (iM (Jx (aO bR (by rfl) D.bM bI (aj (pv 0) (aj (fQ (v:=V.ty "bool") rfl D.xH sE rfl) aA)))) (ji (fG fu (pv 0) (pv 1) (bx _))))))))))),?_⟩
  cases tr with
  | non=>
   have eu:u=.non:=by rw [Dp] at du; exact du
   have ev:v=.non:=by rw [Dp] at dv; exact dv
   subst eu ev
   refine⟨_,rfl,_,_,_,false,rfl,.non,Mh K,_,rfl,fY ⟨_,rfl,rfl,_,rfl,dZ ⟨_,rfl,rfl,?_⟩⟩⟩
   exact k H (Same.refl H)
  | int i=>
   obtain rfl:=du.G4
   obtain rfl:=dv.G4
   refine⟨_,rfl,_,_,_,false,rfl,.int i,Ng K,_,rfl,fY ⟨_,rfl,rfl,_,rfl,fY ⟨_,rfl,_,_,_,false,rfl,.int i,kit_is K,_,rfl,fY ⟨_,rfl,_,_,_,false,rfl,.int i,Aw K,_,rfl,fY ?_⟩⟩⟩⟩
   refine⟨_,rfl,_,_,_,true,rfl,.int i,iu K "int",_,rfl,dZ ⟨_,rfl,_,_,_,false,rfl,.int i,Aw K,_,rfl,_,rfl,dZ ⟨_,rfl,_,rfl,rfl,?_⟩⟩⟩
   rw [ay rfl]
   exact k H (Same.refl H)
  | str x=>
   obtain rfl:=du.lE
   obtain rfl:=dv.lE
   refine⟨_,rfl,_,_,_,false,rfl,.str x,Mr K,_,rfl,fY ⟨_,rfl,rfl,_,rfl,fY ⟨_,rfl,_,_,_,true,rfl,.str x,iu K "str",_,rfl,dZ ?_⟩⟩⟩
   refine⟨_,rfl,_,_,_,true,rfl,.str x,iu K "str",_,rfl,dZ ⟨_,rfl,_,rfl,rfl,?_⟩⟩
   rw [ay rfl]
   exact k H (Same.refl H)
  | tup ts=>
   cases n with
   | zero=>exact False.elim sh
   | succ n=>
   obtain ⟨tl,sh⟩:ts.length≤1000∧∀ t∈ts,Fz n t:=sh
   obtain ⟨a,xs,rfl,ha,dx⟩:=L2.Dp.cR du
   obtain ⟨b,ys,rfl,hb,dy⟩:=L2.Dp.cR dv
   have xl:=dx.length
   have yl:=dy.length
   refine⟨_,rfl,_,_,_,true,rfl,.tup hb,iu K "tuple",_,rfl,dZ ?_⟩
   refine⟨_,rfl,_,_,_,true,rfl,.tup ha,iu K "tuple",_,rfl,fY ⟨_,rfl,a,_,rfl,.inr (SqT.of ha),_,rfl,b,_,rfl,.inr (SqT.of hb),rfl,_,rfl,iQ ?_ ?_⟩⟩
   ·rw [ay (by rw [xl,yl])]
    exact aE
   refine⟨_,rfl,b,_,rfl,.inr (SqT.of hb),_,rfl,by omega,by omega,fun D1 hD1=>?_⟩
   have s1:∀ u,Same H (upd H D1 u):=fun u=>Same.new hD1
   refine bA (n:=ys.length) (fun i zs H2=>zs=(List.replicate i true).map V.bl∧H2 D1=some (.lst zs)∧Same H H2) ⟨rfl,ak,s1 _⟩ ?_ ?_
   ·rintro zs H2 ⟨rfl,hD2,s2⟩
    refine⟨am _,D1,_,rfl,SqL.of hD2,?_⟩
    have:(List.replicate ys.length true).all id=true:=by simp
    rw [this]
    exact k H2 s2
   ·rintro i zs H2 hi ⟨rfl,hD2,s2⟩
    refine⟨hi,?_⟩
    rintro x H3 ⟨rfl,rfl⟩ σo ho
    obtain ⟨oo,rfl⟩:=own1 ho
    have hit:i < ts.length:=by omega
    obtain ⟨x1,e1,d1⟩:=dx.get (i:=i) (t:=ts[i]) (ae hit)
    obtain ⟨y1,e2,d2⟩:=dy.get (i:=i) (t:=ts[i]) (ae hit)
    have a1:atI xs (0+(i:Int))=some x1:=by
     rw [Int.zero_add]
     exact aG (j:=i) e1
    have a2:atI ys (0+(i:Int))=some y1:=by
     rw [Int.zero_add]
     exact aG (j:=i) e2
    refine⟨⟨[_],rfl,rfl⟩,dB ⟨_,rfl,_,rfl,a,xs,_,x1,rfl,rfl,SqT.of (s2 a _ ha),a1,_,rfl,_,rfl,b,ys,_,y1,rfl,rfl,SqT.of (s2 b _ hb),a2,?_⟩⟩
    refine⟨x1,y1,ts[i],rfl,sh _ (cn hit),d1.mono (Same.tups s2),d2.mono (Same.tups s2),fun H4 s4=>?_⟩
    refine⟨by rw [aa,i8]; omega,s4 D1 _ hD2,aR hi ⟨?_,ak,fun c u z=>?_⟩⟩
    ·rw [List.replicate_succ',aw]
     rfl
    ·rw [au (aB z hD1)]
     exact s4 c _ (s2 c _ z)
theorem JM(D:Defs K mg t)(n:Nat):aW P w K mg base CX0 (n+2) t.cQ.1 t.cQ.2 ["_law_told","_law_due"] (yt n):=by
 induction n with
 | zero=>exact vQ D 0 (D.cQ.fn.ok pQ (fun vs H Q E h=>False.elim h) (fun cdv A outer s H vs Q E hr h=>False.elim h))
 | succ n ih=>exact vQ D (n+1) ih
def ChW(ds:List Str)(tb:List Row):Chg→Prop
 | .own k d b=>k∈kns tb∧d∈ds∧∀ n,b=some n→1≤n∧n≤99
 | .eld k es=>k∈kns tb∧(∀ e∈es,e∈kns tb)∧es.Nodup
theorem ChW.kind{ds:List Str}{tb:List Row}{c:Chg}(h:ChW ds tb c):c.kind∈kns tb:=by
 cases c with
 | own k d b=>exact h.1
 | eld k es=>exact h.1
def xQ(tb:List Row)(k d:Str):Prop:=∀ r∈tb,r.kind=k→¬ d∈r.bh.map Prod.fst
noncomputable def Hw (tb:List Row):Chg→Str
 | .own k d b=>if dcd (b=none∧xQ tb k d)=true then "nodeed" else ""
 | .eld k es=>if dcd (∃ e∈es,Up (bf tb) k e)=true then "ring" else if dcd (∀ x∈kns tb,(bU (bV (bf tb) k es) x).isSome=true)=true then "" else "quarrel"
theorem tY(tb:List Row)(k d:Str)(b:Option Int):Hw tb (.own k d b)=if dcd (b=none∧xQ tb k d)=true then ("nodeed" : Str) else "" := rfl
theorem ux(tb:List Row)(k:Str)(es:List Str):Hw tb (.eld k es)=if dcd (∃ e∈es,Up (bf tb) k e)=true then ("ring" : Str) else if dcd (∀ x∈kns tb,(bU (bV (bf tb) k es) x).isSome=true)=true then "" else "quarrel" := rfl
theorem FN:¬ ("nodeed" : Str) = "" := by decide +kernel
theorem Kd:¬ ("ring" : Str) = "" := by decide +kernel
theorem Am:¬ ("quarrel" : Str) = "" := by decide +kernel
theorem qO{ds:List Str}{tb:List Row}(G:cD ds tb){r r':Row}(h:r∈tb)(h':r'∈tb)(e:r'.kind=r.kind):r'=r:=by
 have h1:=lJ G.tb.nd h
 have h2:r'∈tb.filter (fun x=>decide (x.kind=r.kind)):=bE.mpr ⟨h',ay e⟩
 rw [h1] at h2
 exact aS.mp h2
theorem Nt{ds:List Str}{tb:List Row}(G:cD ds tb){c:Chg}(h:ChW ds tb c)(e:Hw tb c = ""):OkC ds tb c:=by
 cases c with
 | own k d b=>
  obtain ⟨h1,h2,h3⟩:=h
  refine⟨h1,h2,h3,fun hb r hr hk=>dA fun hn=>?_⟩
  have hnd:xQ tb k d:=fun r' hr' hk' hd=>hn (by
   rw [← qO G hr hr' (hk'.trans hk.symm)]
   exact hd)
  rw [tY,ck (je ⟨hb,hnd⟩)] at e
  exact FN e
 | eld k es=>
  obtain ⟨h1,h2,h3⟩:=h
  rw [ux] at e
  by_cases hr:∃ e∈es,Up (bf tb) k e
  ·rw [ck (je hr)] at e
   exact absurd e Kd
  ·rw [bX (by rw [iW hr]; exact aE)] at e
   by_cases hq:∀ x∈kns tb,(bU (bV (bf tb) k es) x).isSome=true
   ·exact⟨h1,h2,h3,fun e he hu=>hr ⟨e,he,hu⟩,hq⟩
   ·rw [bX (by rw [iW hq]; exact aE)] at e
    exact absurd e Am
def Ly:Sp:=fun vs H Q _=>∃(v:V) (q:Addr) (c:Chg) (tb:List Row) (ds:List Str),vs=[v,.ref q]∧Dp H (kW tb) v∧cD ds tb∧ds.length≤11∧ChW ds tb c∧j7 H q c∧∀ H',Same H H'→Q (.str (Hw tb c)) H'
theorem M5(D:Defs K mg t):aW P w K mg base CX0 3 t.jq.1 t.jq.2 ["_law_table_here","_law_change_here"] Ly:=by
 have G__law_family_then:aW P w K mg base CX0 1 t.cA.1 t.cA.2 _ vR:=Ci D
 have G__law_orders:aW P w K mg base CX0 2 t.fP.1 t.fP.2 _ zW:=Ft D
 have hz:sizeLine=16777216:=cK
 refine D.jq.fn.ok nT (fun vs H Q E h=>?_) (fun cdv A outer s H vs Q E hr h=>?_)
 ·obtain ⟨v,q,c,tb,ds,rfl,_⟩:=h
  rfl
 ·obtain ⟨v,q,c,tb,ds,rfl,dv,G,l11,cw,hc,k⟩:=h
  have l7:tb.length≤7:=G.tb.len
  obtain ⟨a,zs,ev,ha,dlt⟩:=L2.Dp.cR dv
  subst ev
  have hzl:zs.length=tb.length:=by have:=dlt.length; rwa [aa] at this
  obtain ⟨r,hr',er⟩:=bg.mp cw.kind
  have er:r.kind=c.kind:=er
  refine⟨_,(aD (aP (i:=2) nT.nd rfl (Or.inl rfl) (aM cu (bL rfl (aL.of ["_law_row"] [1] ["_law_row","_law_change_here"] (aq (top 57)) ["_law_table_here","_law_change_here","_law_row","_law_orders_here"] rfl rfl (by decide +kernel)) ⟨fun _ _ _ _ _=>(aN (i:=0) (show List.Nodup [("_law_row" : Str),("_law_change_here" : Str)] by decide +kernel) rfl (Or.inl (af rfl)) (.inr (af rfl))),fun _ _ _ _ _=>(dM (aV fu (aM (bB (K:=K) rfl) (pv 0) aC (fun _ _=>rfl)) (aM (bB (K:=K) rfl) (pv 1) aC (fun _ _=>rfl)) (bx _))),fun _ _ _ _ _=>(pv 0)⟩ (cU (pv 0))) aC (fun _ _=>rfl)))
   (aD (bQ (aV fu (aM aX (pv 1) aC (fun _ _=>rfl)) cF (bx _))
   (aD (bQ (PW.pt (rD (aV lF (aM aX (pv 1) aC (fun _ _=>rfl)) eV (bx _)) (nU (aV jQ (aM aX (pv 1) aC (fun _ _=>rfl)) (bL rfl (aL.of ["_law_one"] [] ["_law_one"] (aq (top 57)) ["_law_table_here","_law_change_here","_law_row","_law_orders_here"] rfl rfl (by decide +kernel)) ⟨fun _ _ _ _ _=>(aN (i:=0) (show List.Nodup [("_law_one" : Str)] by decide +kernel) rfl (Or.inl (af rfl)) (.inr (af rfl))),fun _ _ _ _ _=>cg,fun _ _ _ _ _=>(aM (bB (K:=K) rfl) (pv 0) aC (fun _ _=>rfl))⟩ (cU (aM aX (pv 2) aC (fun _ _=>rfl)))) (by with_unfolding_all rfl)))))
   (aF (aQ cF))
   aY)
   (aF (aQ cF)))
   aY)
   (aD (bQ (d9 (aO (qw rfl) (by rfl) D.Ai sW (aj (bL rfl (aL.of ["_law_one"] [1] ["_law_one","_law_change_here"] (aq (top 57)) ["_law_table_here","_law_change_here","_law_row","_law_orders_here"] rfl rfl (by decide +kernel)) ⟨fun _ _ _ _ _=>(aN (i:=0) (show List.Nodup [("_law_one" : Str),("_law_change_here" : Str)] by decide +kernel) rfl (Or.inl (af rfl)) (.inr (af rfl))),fun _ _ _ _ _=>(dM (aV (lu (K:=K) rfl) (aM (bB (K:=K) rfl) (pv 0) aC (fun _ _=>rfl)) (aM (bB (K:=K) rfl) (pv 1) aC (fun _ _=>rfl)) (by with_unfolding_all rfl))),fun _ _ _ _ _=>(fG (lu (K:=K) rfl) (aM (bB (K:=K) rfl) (pv 1) aC (fun _ _=>rfl)) (aM (bB (K:=K) rfl) (pv 0) aC (fun _ _=>rfl)) (by with_unfolding_all rfl))⟩ (cU (pv 0))) aA)))
   (aF (aQ cF))
   aY)
   (aD (aP (i:=3) nT.nd rfl (Or.inr rfl) (aH D.fP G__law_orders (hr.mono (by omega)) (by rfl) (aj (aH D.cA G__law_family_then (hr.mono (by omega)) (by rfl) (aj (pv 0) (aj (pv 1) aA))) aA)))
   (aD (bQ (d9 (aO (qw rfl) (by rfl) D.Ai sW (aj (bL rfl (aL.of ["_law_one"] [3] ["_law_one","_law_orders_here"] (aq (top 57)) ["_law_table_here","_law_change_here","_law_row","_law_orders_here"] rfl rfl (by decide +kernel)) ⟨fun _ _ _ _ _=>(aN (i:=0) (show List.Nodup [("_law_one" : Str),("_law_orders_here" : Str)] by decide +kernel) rfl (Or.inl (af rfl)) (.inr (af rfl))),fun _ _ _ _ _=>cg,fun _ _ _ _ _=>(fG lF (dF (cY hr) (pv 1) (aM (bB (K:=K) rfl) (pv 0) aC (fun _ _=>rfl)) (fun _ _=>rfl)) eV (bx _))⟩ (cU (pv 0))) aA)))
   (aF (aQ cF))
   aY)
   (aF (aQ cF))))))),?_⟩
  refine⟨_,rfl,a,rfl,⟨_,SqT.of ha⟩,fun D1 hD1=>?_⟩
  have s2:∀ u,Same H (upd H D1 u):=fun u=>Same.new hD1
  refine bA (n:=zs.length) (fun i ys H2=>Paired (fun(v:V) (r:Row)=>Dp H (gw r) v) ys ((tb.take i).filter fun x=>decide (x.kind=r.kind))∧H2=upd H D1 (.lst ys)) ⟨.nil,rfl⟩ ?_ ?_
  rotate_left
  ·rintro i ys H2 hi ⟨pr,rfl⟩
   have hit:i < tb.length:=by omega
   obtain ⟨y,ei,dy⟩:=dlt.get (i:=i) (t:=gw tb[i]) (by rw [bc,ae hit]; rfl)
   obtain ⟨q',e,o,f,g,ds,rfl,hq',_⟩:=K17.B.Dp.qR dy
   have hai:=s2 (.lst ys) a _ ha
   refine⟨⟨_,_,SqT.of hai,ei⟩,?_⟩
   rintro v H3 ⟨rfl,yy⟩ σo ho
   obtain ⟨oo,rfl⟩:=own1 ho
   have ev:=yy _ (SqT.of hai)
   rw [ei] at ev
   cases ev
   have hyl:ys.length≤7:=by
    rw [cS pr]
    refine dC (de _ _) ?_
    rw [br]
    omega
   have etk:(tb.take (i+1)).filter (fun x=>decide (x.kind=r.kind))=(tb.take i).filter (fun x=>decide (x.kind=r.kind))++(if decide (tb[i].kind=r.kind)=true then [tb[i]] else []):=by
    rw [take_snoc hit,eS,dk]
    rfl
   obtain ⟨x0,rest,hcq⟩:=(hc.same (s2 (.lst ys))).kind
   refine⟨⟨[_],rfl,rfl⟩,_,rfl,q',_,_,_,rfl,rfl,SqT.of (s2 _ q' _ hq'),aG (j:=0) rfl,_,rfl,q,_,_,_,rfl,rfl,SqT.of hcq,aG (j:=1) rfl,rfl,_,rfl,eX (fun hb=>?_) (fun hb=>?_)⟩
   ·have hb:tb[i].kind=r.kind:=by
     have:=cy hb
     injection this with this
     exact this.trans er.symm
    refine⟨_,rfl,by omega,ak,aR hi ⟨?_,by rw [bO]⟩⟩
    rw [etk,ck (ay hb)]
    exact cP pr dy
   ·have hb:¬ tb[i].kind=r.kind:=fun e=>hb (ay (by rw [e,er]))
    refine aR hi ⟨?_,rfl⟩
    rw [etk,bX (by rw [bv hb]; exact aE),eB]
    exact pr
  rintro ys H2 ⟨pr,rfl⟩
  rw [av (by omega),lJ G.tb.nd hr'] at pr
  cases pr with
  | cons du nn=>
   cases nn
   rename_i vr
   refine⟨⟨_,SqT.of (s2 _ a _ ha),am _⟩,D1,_,_,_,rfl,rfl,SqL.of ak,aG (j:=0) rfl,?_⟩
   have s1:Same H (upd H D1 (.lst [vr])):=s2 _
   generalize upd H D1 (.lst [vr])=H1 at s1
   obtain ⟨qr,e,o,f,vd,rfl,hq,he,ho,hf,hd⟩:=K17.B.Dp.fJ (du.mono (Same.tups s1))
   have hc1:=hc.same s1
   cases c with
   | own x d b=>
    have er:r.kind=x:=er
    subst er
    have hcq:H1 q=some (.tup [.str "own",.str r.kind,.str d,jt b]):=hc1
    refine⟨_,rfl,q,_,_,_,rfl,rfl,SqT.of hcq,aG (j:=0) rfl,rfl,_,rfl,iR (ay rfl) ?_⟩
    refine⟨_,rfl,q,_,_,_,rfl,rfl,SqT.of hcq,aG (j:=3) rfl,rfl,_,rfl,?_⟩
    show ite _ _ _
    by_cases hbn:b=none
    rotate_left
    ·refine iQ (fun z=>hbn ?_) ?_
     ·cases b with
      | none=>rfl
      | some n=>exact nomatch (cy z)
     ·have:=k H1 s1
      rw [tY] at this
      rw [bX (by rw [iW fun h=>hbn h.1]; exact aE)] at this
      exact this
    refine iR (ay (by rw [hbn]; rfl)) ?_
    obtain ⟨ad,xs,rfl,had,dl⟩:=L2.Dp.cR hd
    have hxl:xs.length=r.bh.length:=by have:=dl.length; rwa [aa] at this
    obtain ⟨w1,w2,w3⟩:=G.own r hr'
    have hdl:r.bh.length≤11:=by
     have h1:=cL w1 (m:=ds) fun x hx=>by
      obtain ⟨y,hy,rfl⟩:=bg.mp hx
      exact w2 y hy
     rw [aa] at h1
     omega
    refine⟨_,rfl,q,_,_,_,rfl,rfl,SqT.of hcq,aG (j:=2) rfl,_,rfl,qr,_,_,_,rfl,rfl,SqT.of hq,aG (j:=4) rfl,ad,rfl,⟨_,SqT.of had⟩,fun D2 hD2=>?_⟩
    have s3:∀ u,Same H1 (upd H1 D2 u):=fun u=>Same.new hD2
    refine bA (n:=xs.length) (fun i ys H2=>ys=((r.bh.take i).map Prod.fst).map V.str∧H2=upd H1 D2 (.lst ys)) ⟨rfl,rfl⟩ ?_ ?_
    rotate_left
    ·rintro i ys H2 hi ⟨rfl,rfl⟩
     have hik:i < r.bh.length:=by omega
     obtain ⟨x,ex,dx⟩:=dl.get (i:=i) (t:=mZ r.bh[i]) (by rw [bc,ae hik]; rfl)
     obtain ⟨qd,rfl,hqd⟩:=K17.B.Dp.qP dx
     refine⟨⟨_,_,SqT.of (s3 _ ad _ had),ex⟩,?_⟩
     rintro y H3 ⟨rfl,yy⟩ σo ho'
     obtain ⟨oo,rfl⟩:=own1 ho'
     have ev:=yy _ (SqT.of (s3 _ ad _ had))
     rw [ex] at ev
     cases ev
     refine⟨⟨[_],rfl,rfl⟩,dB ⟨_,rfl,qd,_,_,_,rfl,rfl,SqT.of (s3 _ qd _ hqd),aG (j:=0) rfl,by rw [aa,aa,br]; omega,ak,aR hi ⟨?_,by rw [bO]⟩⟩⟩
     rw [take_snoc hik,aw,aw]
     rfl
    ·rintro ys H2 ⟨rfl,rfl⟩
     rw [av (by omega)]
     refine⟨⟨_,SqT.of (s3 _ ad _ had),am _⟩,D2,_,rfl,.inl (SqL.of ak),rfl,cH _,_,rfl,?_⟩
     show ite _ _ _
     have key:xQ tb r.kind d↔¬ d∈r.bh.map Prod.fst:=by
      constructor
      ·exact fun h=>h r hr' rfl
      ·intro h r' hr'' e
       rw [qO G hr' hr'' e]
       exact h
     have:=k _ (s1.trans (s3 (.lst ((r.bh.map Prod.fst).map V.str))))
     rw [tY] at this
     refine eX (fun hb2=>?_) (fun hb2=>?_)
     ·have hb2:(!inV (V.str d) ((r.bh.map Prod.fst).map V.str))=true:=hb2
      rw [cB] at hb2
      rw [ck (je ⟨hbn,key.mpr fun h=>by rw [ay h] at hb2; cases hb2⟩)] at this
      exact this
     ·have hb2:¬ (!inV (V.str d) ((r.bh.map Prod.fst).map V.str))=true:=hb2
      rw [cB] at hb2
      rw [bX (by rw [iW fun h=>hb2 (by rw [bv (key.mp h.2)]; rfl)]; exact aE)] at this
      exact this
   | eld x es=>
    have er:r.kind=x:=er
    subst er
    obtain ⟨ee,hcq,hee⟩:=hc1
    obtain ⟨c1,c2,c3⟩:=cw
    refine⟨_,rfl,q,_,_,_,rfl,rfl,SqT.of hcq,aG (j:=0) rfl,rfl,_,rfl,iQ (by rw [bv (by intro h; injection h with h; exact Bl h)]; exact aE) ?_⟩
    refine⟨_,rfl,a,rfl,⟨_,SqT.of (s1 a _ ha)⟩,fun D2 hD2=>?_⟩
    have s3:∀ u,Same H1 (upd H1 D2 u):=fun u=>Same.new hD2
    refine bA (n:=zs.length) (fun i ys H2=>∃ bs:List Bool,ys=bs.map V.bl∧bs.length≤i∧((bs.any id=true)↔∃ r'∈tb.take i,r'.kind∈es∧r.kind∈r'.order)∧H2=upd H1 D2 (.lst ys)) ⟨[],rfl,am _,by simp,rfl⟩ ?_ ?_
    rotate_left
    ·rintro i ys H2 hi ⟨bs,rfl,bl,ba,rfl⟩
     have hit:i < tb.length:=by omega
     obtain ⟨y,ei,dy⟩:=dlt.get (i:=i) (t:=gw tb[i]) (by rw [bc,ae hit]; rfl)
     have hai:=s3 (.lst (bs.map V.bl)) a _ (s1 a _ ha)
     refine⟨⟨_,_,SqT.of hai,ei⟩,?_⟩
     rintro v H3 ⟨rfl,yy⟩ σo ho
     obtain ⟨oo,rfl⟩:=own1 ho
     have ev:=yy _ (SqT.of hai)
     rw [ei] at ev
     cases ev
     obtain ⟨q',e',o',f',vd',rfl,hq',he',ho',_⟩:=K17.B.Dp.fJ (dy.mono (Same.tups (s1.trans (s3 (.lst (bs.map V.bl))))))
     have hcq3:=s3 (.lst (bs.map V.bl)) q _ hcq
     have hee3:=s3 (.lst (bs.map V.bl)) ee _ hee
     refine⟨⟨[_],rfl,rfl⟩,_,rfl,q',_,_,_,rfl,rfl,SqT.of hq',aG (j:=0) rfl,_,rfl,q,_,_,_,rfl,rfl,SqT.of hcq3,aG (j:=2) rfl,ee,_,rfl,.inr (SqT.of hee3),rfl,cH _,_,rfl,eX (fun hb=>?_) (fun hb=>?_)⟩
     ·have hb:inV (V.str tb[i].kind) (es.map V.str)=true:=hb
      rw [cB] at hb
      have hb:=cy hb
      refine⟨_,rfl,q,_,_,_,rfl,rfl,SqT.of hcq3,aG (j:=1) rfl,_,rfl,q',_,_,_,rfl,rfl,SqT.of hq',aG (j:=2) rfl,o',_,rfl,.inr (SqT.of ho'),rfl,cH _,by rw [aa]; omega,ak,aR hi ⟨bs++[decide (r.kind∈tb[i].order)],?_,by rw [bz,dm]; omega,?_,by rw [bO]⟩⟩
      ·rw [aw]
       congr 1
       show [V.bl (inV (V.str r.kind) (tb[i].order.map V.str))]=_
       rw [cB]
       rfl
      ·rw [List.any_append,Bool.or_eq_true,ba,take_snoc hit]
       constructor
       ·rintro (⟨r',h1,h2⟩ | h)
        ·exact⟨r',dP _ h1,h2⟩
        ·refine⟨tb[i],cE _ (aS.mpr rfl),hb,?_⟩
         simpa using h
       ·rintro ⟨r',h1,h2,h3⟩
        rcases bS.mp h1 with h | h
        ·exact .inl ⟨r',h,h2,h3⟩
        ·rw [aS.mp h] at h3
         right
         simpa using h3
     ·have hb:¬ inV (V.str tb[i].kind) (es.map V.str)=true:=hb
      rw [cB] at hb
      refine aR hi ⟨bs,rfl,by omega,?_,rfl⟩
      rw [ba,take_snoc hit]
      constructor
      ·rintro ⟨r',h1,h2⟩
       exact⟨r',dP _ h1,h2⟩
      ·rintro ⟨r',h1,h2,h3⟩
       rcases bS.mp h1 with h | h
       ·exact⟨r',h,h2,h3⟩
       ·rw [aS.mp h] at h2
        exact absurd (ay h2) hb
    ·rintro ys H2 ⟨bs,rfl,bl,ba,rfl⟩
     rw [av (by omega)] at ba
     have hring:bs.any id=true↔∃ e∈es,Up (bf tb) r.kind e:=by
      rw [ba]
      constructor
      ·rintro ⟨r',h1,h2,h3⟩
       exact⟨r'.kind,h2,(um G h1 r.kind).mp h3⟩
      ·rintro ⟨e,he,hu⟩
       obtain ⟨r',h1,rfl⟩:=bg.mp (c2 e he)
       exact⟨r',h1,he,(um G h1 r.kind).mpr hu⟩
     refine⟨⟨_,SqT.of (s3 _ a _ (s1 a _ ha)),am _⟩,D2,bs,rfl,SqL.of ak,_,rfl,?_⟩
     have s12:=s1.trans (s3 (.lst (bs.map V.bl)))
     generalize upd H1 D2 (.lst (bs.map V.bl))=H2 at s12
     refine eX (fun hb=>?_) (fun hb=>?_)
     ·have:=k H2 s12
      rw [ux] at this
      rw [ck (je (hring.mp hb))] at this
      exact this
     ·have hnr:¬ ∃ e∈es,Up (bf tb) r.kind e:=fun h=>hb (hring.mpr h)
      have hk:∀ H',Same H H'→Q (.str (if dcd (∀ x∈kns tb,(bU (bV (bf tb) r.kind es) x).isSome=true)=true then ("" : Str) else "quarrel")) H':=fun H' s'=>by
       have:=k H' s'
       rw [ux] at this
       rw [bX (by rw [iW hnr]; exact aE)] at this
       exact this
      have GF:eO (bV (bf tb) r.kind es):=G.fam.bV (by rw [dW]; exact c2) c3 fun e he hu=>hnr ⟨e,he,hu⟩
      refine⟨_,rfl,_,rfl,.ref a,q,.eld r.kind es,tb,rfl,dv.mono (Same.tups s12),l7,hc.same s12,fun fl fxs H3 hfl hf3 dfl s3'=>?_⟩
      refine⟨fl,fxs,_,rfl,hf3,dfl,GF,fun od kvs H4 hod hod4 oat osk s4=>?_⟩
      have s04:=s12.trans (s3'.trans s4)
      refine⟨_,rfl,a,rfl,⟨_,SqT.of (s04 a _ ha)⟩,fun D3 hD3=>?_⟩
      have s5:∀ u,Same H4 (upd H4 D3 u):=fun u=>Same.new hD3
      refine bA (n:=zs.length) (fun i ys H5=>∃ bs:List Bool,ys=bs.map V.bl∧bs.length≤i∧((bs.any id=true)↔¬ ∀ r'∈tb.take i,(bU (bV (bf tb) r.kind es) r'.kind).isSome=true)∧H5=upd H4 D3 (.lst ys)) ⟨[],rfl,am _,by simp,rfl⟩ ?_ ?_
      rotate_left
      ·rintro i ys H5 hi ⟨bs,rfl,bl,ba,rfl⟩
       have hit:i < tb.length:=by omega
       obtain ⟨y,ei,dy⟩:=dlt.get (i:=i) (t:=gw tb[i]) (by rw [bc,ae hit]; rfl)
       have hai:=s5 (.lst (bs.map V.bl)) a _ (s04 a _ ha)
       refine⟨⟨_,_,SqT.of hai,ei⟩,?_⟩
       rintro v H6 ⟨rfl,yy⟩ σo ho
       obtain ⟨oo,rfl⟩:=own1 ho
       have ev:=yy _ (SqT.of hai)
       rw [ei] at ev
       cases ev
       obtain ⟨q',e',o',f',vd',rfl,hq',he',ho',_⟩:=K17.B.Dp.fJ (dy.mono (Same.tups (s04.trans (s5 (.lst (bs.map V.bl))))))
       have hkm:tb[i].kind∈kns tb:=d0 (cn hit)
       obtain ⟨vo,evo⟩:=ff.mp (osk tb[i].kind (by rw [yP]; exact hkm))
       obtain ⟨_,ov⟩:=oat _ _ evo
       have hnon:(vo=V.non)↔¬ (bU (bV (bf tb) r.kind es) tb[i].kind).isSome=true:=by
        rcases ov with ⟨hn,e1⟩ | ⟨oo,qo,h1,e1,h3⟩
        ·have hn:bU (bV (bf tb) r.kind es) tb[i].kind=none:=hn
         rw [hn]
         simp [e1]
        ·have h1:bU (bV (bf tb) r.kind es) tb[i].kind=some oo:=h1
         rw [h1,e1]
         simp
       refine⟨⟨[_],rfl,rfl⟩,dB ⟨_,rfl,_,rfl,q',_,_,_,rfl,rfl,SqT.of hq',aG (j:=0) rfl,od,vo,rfl,.inl ⟨kvs,.inr tb[i].kind,.inl (s5 _ od _ hod4),rfl,evo.symm⟩,rfl,by rw [aa]; omega,ak,aR hi ⟨bs++[decide (vo=V.non)],?_,by rw [bz,dm]; omega,?_,by rw [bO]⟩⟩⟩
       ·rw [aw]
        rfl
       ·rw [List.any_append,Bool.or_eq_true,ba,take_snoc hit]
        have e1:([decide (vo=V.non)].any id=true)↔vo=V.non:=by simp
        rw [e1,hnon]
        constructor
        ·rintro (h | h) hall
         ·exact h fun r' hr=>hall r' (dP _ hr)
         ·exact h (hall _ (cE _ (aS.mpr rfl)))
        ·intro h
         by_cases h2:(bU (bV (bf tb) r.kind es) tb[i].kind).isSome=true
         ·left
          intro hall
          refine h fun r' hr=>?_
          rcases bS.mp hr with h' | h'
          ·exact hall r' h'
          ·rw [aS.mp h']
           exact h2
         ·exact .inr h2
      ·rintro ys H5 ⟨bs,rfl,bl,ba,rfl⟩
       rw [av (by omega)] at ba
       refine⟨⟨_,SqT.of (s5 _ a _ (s04 a _ ha)),am _⟩,D3,bs,rfl,SqL.of ak,_,rfl,?_⟩
       have hk5:=hk _ (s04.trans (s5 (.lst (bs.map V.bl))))
       have hall:(∀ r'∈tb,(bU (bV (bf tb) r.kind es) r'.kind).isSome=true)↔∀ x∈kns tb,(bU (bV (bf tb) r.kind es) x).isSome=true:=by
        constructor
        ·intro h x hx
         obtain ⟨r',h1,rfl⟩:=bg.mp hx
         exact h r' h1
        ·exact fun h r' h1=>h _ (d0 h1)
       rw [hall] at ba
       refine eX (fun hb=>?_) (fun hb=>?_)
       ·rw [bX (by rw [iW (ba.mp hb)]; exact aE)] at hk5
        exact hk5
       ·rw [ck (je (dA fun h=>hb (ba.mpr h)))] at hk5
        exact hk5
theorem Pu.tups{H H':Hp}{p:Addr}(h:Pu H p)(o:L2.Off p H H'):gD H H':=fun c zs e=>by
 obtain ⟨x1,x2,x3,ep⟩:=h
 exact o c _ (eG e ep (fun z=>nomatch z)) e
theorem N8(r:Int)(h0:0≤r)(h8:r < 8):∃ z:Nat,atI [V.int 4,V.int 14] (r / 6)=some (.int (z:Nat))∧z≤14:=by
 have:r / 6=0∨r / 6=1:=by omega
 rcases this with e | e
 ·rw [e]
  exact⟨4,aG (j:=0) rfl,by decide⟩
 ·rw [e]
  exact⟨14,aG (j:=1) rfl,by decide⟩
def Al:Sp:=fun vs H Q _=>∃(p dl:Addr) (v:V) (tb:List Row) (ds:List Str),vs=[.ref p,v,.ref dl]∧Pu H p∧Dp H (kW tb) v∧cD ds tb∧H dl=some (.lst (ds.map V.str))∧1≤ds.length∧ds.length≤11∧
 ∀(q:Addr) (c:Chg) H',j7 H' q c→ChW ds tb c→Off p H H'→Pu H' p→Q (.ref q) H'
theorem Em(D:Defs K mg t):aW P w K mg base CX0 3 t.fH.1 t.fH.2 ["_law_purse_here","_law_table_here","_law_deeds"] Al:=by
 have G__law_take:aW P w K mg base CX0 1 t.aU.1 t.aU.2 _ mQ:=kY D
 have G__law_some:aW P w K mg base CX0 2 t.bW.1 t.bW.2 _ vm:=sy D
 have hz:sizeLine=16777216:=cK
 refine D.fH.fn.ok cZ (fun vs H Q E h=>?_) (fun cdv A outer s H vs Q E hr h=>?_)
 ·obtain ⟨p,dl,v,tb,ds,rfl,_⟩:=h
  rfl
 ·obtain ⟨p,dl,v,tb,ds,rfl,hp,dv,G,hdl,d1,d11,k⟩:=h
  have l7:tb.length≤7:=G.tb.len
  have l1:1≤tb.length:=by have:=G.fam.pos; unfold bf at this; rwa [aa] at this
  obtain ⟨a,zs,ev,ha,dlt⟩:=L2.Dp.cR dv
  subst ev
  have hzl:zs.length=tb.length:=by have:=dlt.length; rwa [aa] at this
  have dlp:dl≠p:=hp.ne hdl
  refine⟨_,(aD (aP (i:=3) cZ.nd rfl (Or.inl rfl) (aH D.aU G__law_take (hr.mono (by omega)) (by rfl) (aj (pv 0) (aj aC aA))))
   (aD (aP (i:=4) cZ.nd rfl (Or.inr rfl) (aM aX (pv 1) (aH D.aU G__law_take (hr.mono (by omega)) (by rfl) (aj (pv 0) (aj (aO bC (by rfl) D.iz eE (aj (pv 1) aA)) aA))) (fun _ _=>rfl)))
   (aD (aP (i:=5) cZ.nd rfl (Or.inl rfl) (bJ gQ aC (aH D.aU G__law_take (hr.mono (by omega)) (by rfl) (aj (pv 0) (aj aC aA)))))
   (aD (aP (i:=6) cZ.nd rfl (Or.inl rfl) (aM cu (pv 2) (aH D.aU G__law_take (hr.mono (by omega)) (by rfl) (aj (pv 0) (aj (aO bC (by rfl) D.iz eE (aj (pv 2) aA)) aA))) (fun _ _=>rfl)))
   (aD (aP (i:=7) cZ.nd rfl (Or.inl rfl) (aH D.aU G__law_take (hr.mono (by omega)) (by rfl) (aj (pv 0) (aj aC aA))))
   (aD (jP (i:=8) rfl cZ.nd rfl (Or.inl rfl) (aL.of ["_law_one"] [] ["_law_one"] (aq (top 55)) ["_law_purse_here","_law_table_here","_law_deeds","_law_pick","_law_row","_law_body","_law_deed","_law_place","_law_kinds","_law_others"] rfl rfl (by decide +kernel)) ⟨fun _ _ _ _ _=>(aN (i:=0) (show List.Nodup [("_law_one" : Str)] by decide +kernel) rfl (Or.inl (af rfl)) (.inr (af rfl))),fun _ _ _ _ _=>cg,fun _ _ _ _ _=>(aM (bB (K:=K) rfl) (pv 0) aC (fun _ _=>rfl))⟩ (cU (pv 1)))
   (aD (bQ (PW.pt (rD (aV zU (pv 3) aC (bx _)) (nU (aV zT (aO bC (by rfl) D.iz eE (aj (aM aX (pv 4) aC (fun _ _=>rfl)) aA)) aC (bx _)))))
   (aF (aQ (dg (aj cF (aj (aM aX (pv 4) aC (fun _ _=>rfl)) (aj (aM aX (aM aX (aM aX (pv 4) aC (fun _ _=>rfl)) (bJ mU (pv 7) (aO bC (by rfl) D.iz eE (aj (aM aX (pv 4) aC (fun _ _=>rfl)) aA))) (fun _ _=>rfl)) aC (fun _ _=>rfl)) (aj (aM cu (dU (aj (aM aX (aM aX (aM aX (pv 4) aC (fun _ _=>rfl)) (bJ mU (pv 7) (aO bC (by rfl) D.iz eE (aj (aM aX (pv 4) aC (fun _ _=>rfl)) aA))) (fun _ _=>rfl)) aC (fun _ _=>rfl)) (aj eV aA))) (pv 3) (fun _ _=>rfl)) aA)))))))
   aY)
   (aD (bQ (aV zU (pv 3) aC (bx _))
   (aF (aQ (dg (aj cF (aj (aM aX (pv 4) aC (fun _ _=>rfl)) (aj (pv 6) (aj (pv 5) aA)))))))
   aY)
   (aD (bQ (aV fu (pv 3) aC (bx _))
   (aF (aQ (dg (aj cF (aj (aM aX (pv 4) aC (fun _ _=>rfl)) (aj (pv 6) (aj eV aA)))))))
   aY)
   (aD (bQ (aV fu (pv 3) aC (bx _))
   (aF (aQ (dg (aj cF (aj (aM aX (pv 4) aC (fun _ _=>rfl)) (aj (J2 (aM aX (pv 4) aC (fun _ _=>rfl)) (DQ xu aC)) aA))))))
   aY)
   (aD (bQ (aV fu (pv 3) aC (bx _))
   (aF (aQ (dg (aj cF (aj (aM aX (pv 4) aC (fun _ _=>rfl)) (aj (aH D.bW G__law_some (hr.mono (by omega)) (by rfl) (aj (pv 0) (aj (pv 8) (aj (aM cu (dU (aj aC (aj aC aA))) (bJ yF (pv 7) aC) (fun _ _=>rfl)) aA)))) aA))))))
   aY)
   (aD (jP (i:=9) rfl cZ.nd rfl (Or.inl rfl) (aL.of ["_law_one"] [4] ["_law_one","_law_row"] (aq (top 55)) ["_law_purse_here","_law_table_here","_law_deeds","_law_pick","_law_row","_law_body","_law_deed","_law_place","_law_kinds","_law_others"] rfl rfl (by decide +kernel)) ⟨fun _ _ _ _ _=>(aN (i:=0) (show List.Nodup [("_law_one" : Str),("_law_row" : Str)] by decide +kernel) rfl (Or.inl (af rfl)) (.inr (af rfl))),fun _ _ _ _ _=>(dM (aV (pG (K:=K) rfl) (aM (bB (K:=K) rfl) (pv 1) aC (fun _ _=>rfl)) (aM (bB (K:=K) rfl) (pv 0) aC (fun _ _=>rfl)) (by with_unfolding_all rfl))),fun _ _ _ _ _=>(aM (bB (K:=K) rfl) (pv 0) aC (fun _ _=>rfl))⟩ (cU (pv 1)))
   (aD (bQ (aV fu (pv 3) aC (bx _))
   (aD (jP (i:=9) rfl cZ.nd rfl (Or.inl rfl) (aL.of ["_law_kind"] [4] ["_law_kind","_law_row"] (aq (top 55)) ["_law_purse_here","_law_table_here","_law_deeds","_law_pick","_law_row","_law_body","_law_deed","_law_place","_law_kinds","_law_others"] rfl rfl (by decide +kernel)) ⟨fun _ _ _ _ _=>(aN (i:=0) (show List.Nodup [("_law_kind" : Str),("_law_row" : Str)] by decide +kernel) rfl (Or.inl (af rfl)) (.inr (af rfl))),fun _ _ _ _ _=>(dM (aV (pG (K:=K) rfl) (pv 0) (aM (bB (K:=K) rfl) (pv 1) aC (fun _ _=>rfl)) (by with_unfolding_all rfl))),fun _ _ _ _ _=>(pv 0)⟩ (gU (pv 9)))
   (aF (aQ (dg (aj cF (aj (aM aX (pv 4) aC (fun _ _=>rfl)) (aj (bJ oJ (aM aX (pv 4) aC (fun _ _=>rfl)) (aH D.bW G__law_some (hr.mono (by omega)) (by rfl) (aj (pv 0) (aj (pv 9) (aj aC aA))))) aA)))))))
   aY)
   (aF (aQ (dg (aj cF (aj (aM aX (pv 4) aC (fun _ _=>rfl)) (aj (aH D.bW G__law_some (hr.mono (by omega)) (by rfl) (aj (pv 0) (aj (pv 9) (aj (aM cu (dU (aj aC (aj aC aA))) (bJ yF (pv 7) aC) (fun _ _=>rfl)) aA)))) aA))))))))))))))))))),?_⟩
  refine⟨_,rfl,p,9,rfl,hp,by decide,by decide,fun pk a1 b1 c1 k0 k9=>?_⟩
  have o1:Off p H (upd H p (.lst [.int a1,.int b1,.int c1])):=Off.upd
  have p1:Pu (upd H p (.lst [.int a1,.int b1,.int c1])) p:=Pu.upd
  generalize upd H p (.lst [.int a1,.int b1,.int c1])=H1 at o1 p1
  refine⟨_,rfl,_,rfl,_,rfl,a,_,rfl,.inr (SqT.of (Pu.tups hp o1 a _ ha)),p,(zs.length:Int),rfl,p1,by omega,by omega,fun rw' a2 b2 c2 r0 rn=>?_⟩
  obtain ⟨j,rfl⟩:∃ j:Nat,rw'=(j:Int):=⟨rw'.toNat,by omega⟩
  have hj:j < tb.length:=by omega
  have o2:Off p H (upd H1 p (.lst [.int a2,.int b2,.int c2])):=o1.trans Off.upd
  have p2:Pu (upd H1 p (.lst [.int a2,.int b2,.int c2])) p:=Pu.upd
  generalize upd H1 p (.lst [.int a2,.int b2,.int c2])=H2 at o2 p2
  obtain ⟨vr,evr,dvr⟩:=dlt.get (i:=j) (t:=gw tb[j]) (by rw [bc,ae hj]; rfl)
  refine⟨a,_,_,_,rfl,rfl,SqT.of (Pu.tups hp o2 a _ ha),aG (j:=j) evr,?_⟩
  refine⟨_,rfl,p,99,rfl,p2,by decide,by decide,fun bd a3 b3 c3 n0 n99=>⟨_,_,rfl,rfl,?_⟩⟩
  have o3:Off p H (upd H2 p (.lst [.int a3,.int b3,.int c3])):=o2.trans Off.upd
  have p3:Pu (upd H2 p (.lst [.int a3,.int b3,.int c3])) p:=Pu.upd
  generalize upd H2 p (.lst [.int a3,.int b3,.int c3])=H3 at o3 p3
  refine⟨_,rfl,_,rfl,_,rfl,dl,_,rfl,.inl (SqL.of (o3 dl _ dlp hdl)),p,(ds.length:Int),by rw [aa]; rfl,p3,by omega,by omega,fun dd a4 b4 c4 m0 mn=>?_⟩
  obtain ⟨m,rfl⟩:∃ m:Nat,dd=(m:Int):=⟨dd.toNat,by omega⟩
  have hm:m < ds.length:=by omega
  have o4:Off p H (upd H3 p (.lst [.int a4,.int b4,.int c4])):=o3.trans Off.upd
  have p4:Pu (upd H3 p (.lst [.int a4,.int b4,.int c4])) p:=Pu.upd
  generalize upd H3 p (.lst [.int a4,.int b4,.int c4])=H4 at o4 p4
  refine⟨dl,_,_,.str ds[m],rfl,rfl,SqL.of (o4 dl _ dlp hdl),aG (j:=m) (by rw [bc,ae hm]; rfl),?_⟩
  refine⟨_,rfl,p,8,rfl,p4,by decide,by decide,fun pl a5 b5 c5 q0 q8=>?_⟩
  have o5:Off p H (upd H4 p (.lst [.int a5,.int b5,.int c5])):=o4.trans Off.upd
  have p5:Pu (upd H4 p (.lst [.int a5,.int b5,.int c5])) p:=Pu.upd
  generalize upd H4 p (.lst [.int a5,.int b5,.int c5])=H5 at o5 p5
  have ha5:=Pu.tups hp o5 a _ ha
  refine⟨_,rfl,a,rfl,⟨_,SqT.of ha5⟩,fun kl hkl=>?_⟩
  have sk:∀ u,Same H5 (upd H5 kl u):=fun u=>Same.new hkl
  refine bA (n:=zs.length) (fun i ys H6=>ys=(kns (tb.take i)).map V.str∧H6=upd H5 kl (.lst ys)) ⟨rfl,rfl⟩ ?_ ?_
  rotate_left
  ·rintro i ys H6 hi ⟨rfl,rfl⟩
   have hit:i < tb.length:=by omega
   obtain ⟨y,ei,dy⟩:=dlt.get (i:=i) (t:=gw tb[i]) (by rw [bc,ae hit]; rfl)
   have hai:=sk (.lst ((kns (tb.take i)).map V.str)) a _ ha5
   refine⟨⟨_,_,SqT.of hai,ei⟩,?_⟩
   rintro v H7 ⟨rfl,yy⟩ σo ho
   obtain ⟨oo,rfl⟩:=own1 ho
   have ev:=yy _ (SqT.of hai)
   rw [ei] at ev
   cases ev
   obtain ⟨q',e',o',f',vd',rfl,hq',_⟩:=K17.B.Dp.fJ ((dy.mono (Pu.tups hp o5)).mono (Same.tups (sk (.lst ((kns (tb.take i)).map V.str)))))
   refine⟨⟨[_],rfl,rfl⟩,dB ⟨_,rfl,q',_,_,_,rfl,rfl,SqT.of hq',aG (j:=0) rfl,by unfold kns; rw [aa,aa,br]; omega,ak,aR hi ⟨?_,by rw [bO]⟩⟩⟩
   unfold kns
   rw [take_snoc hit,aw,aw]
   rfl
  rintro ys H6 ⟨rfl,rfl⟩
  rw [av (by omega)]
  refine⟨⟨_,SqT.of (sk _ a _ ha5),am _⟩,?_⟩
  have hk6:(upd H5 kl (.lst ((kns tb).map V.str))) kl=some (.lst ((kns tb).map V.str)):=ak
  have o6:Off p H (upd H5 kl (.lst ((kns tb).map V.str))):=o5.trans (Off.new hkl)
  have p6:Pu (upd H5 kl (.lst ((kns tb).map V.str))) p:=p5.same (sk _)
  generalize upd H5 kl (.lst ((kns tb).map V.str))=H6 at hk6 o6 p6
  obtain ⟨qr,e,o,f,vd,rfl,hq,he,ho,hf,hd⟩:=K17.B.Dp.fJ (dvr.mono (Pu.tups hp o6))
  obtain ⟨ad,xs,rfl,had,ddl⟩:=L2.Dp.cR hd
  have hxl:xs.length=tb[j].bh.length:=by have:=ddl.length; rwa [aa] at this
  have knl:(kns tb).length=tb.length:=aa _
  have hkm:tb[j].kind∈kns tb:=d0 (cn hj)
  obtain ⟨w1,w2,w3⟩:=G.own tb[j] (cn hj)
  have hfm:(tb[j].kind,tb[j].bw)∈bf tb:=bg.mpr ⟨tb[j],cn hj,rfl⟩
  have esub:∀ x∈tb[j].bw,x∈kns tb:=fun x hx=>by rw [← dW]; exact G.fam.sub _ hfm x hx
  have end':tb[j].bw.Nodup:=G.fam.G6 _ hfm
  have e7:tb[j].bw.length≤7:=G.fam.el _ hfm
  have own:∀(b:Option Int) (d:Str),d∈ds→(∀ n,b=some n→1≤n∧n≤99)→∀(H7:Hp),Off p H H7→Pu H7 p→∀ q,H7 q=none→Q (.ref q) (upd H7 q (.tup [.str "own",.str tb[j].kind,.str d,jt b])):=fun b d hd hb H7 o7 p7 q hq=>k q (.own tb[j].kind d b) _ ak ⟨hkm,hd,hb⟩ (o7.trans (Off.new hq)) (p7.same (Same.new hq))
  have eld:∀(es:List Str) (ee:Addr),(∀ x∈es,x∈kns tb)→es.Nodup→∀(H7:Hp),H7 ee=some (.tup (es.map V.str))→Off p H H7→Pu H7 p→∀ q,H7 q=none→Q (.ref q) (upd H7 q (.tup [.str "elders",.str tb[j].kind,.ref ee])):=fun es ee h1 h2 H7 hee o7 p7 q hq=>k q (.eld tb[j].kind es) _ ⟨ee,ak,(Same.new hq) ee _ hee⟩ ⟨hkm,h1,h2⟩ (o7.trans (Off.new hq)) (p7.same (Same.new hq))
  refine⟨_,rfl,_,_,rfl,rfl,_,rfl,?_⟩
  show ite _ _ _
  refine eX (fun hb=>?_) (fun hb=>?_)
  ·have hb:pk < 2:=cy hb
   refine⟨_,rfl,qr,_,_,_,rfl,rfl,SqT.of hq,aG (j:=4) rfl,ad,_,rfl,.inr (SqT.of had),_,_,rfl,rfl,_,rfl,?_⟩
   show ite _ _ _
   refine eX (fun hb2=>?_) (fun hb2=>?_)
   ·have hb2:(xs.length:Int) > 0:=cy hb2
    obtain ⟨m2,em2,hm2⟩:∃ m2:Nat,pl % (xs.length:Int)=(m2:Int)∧m2 < xs.length:=⟨(pl % (xs.length:Int)).toNat,by have:=ku pl (by omega:(xs.length:Int)≠0); omega,by have:=ku pl (by omega:(xs.length:Int)≠0); have:=kq pl (by omega:0 < (xs.length:Int)); omega⟩
    have hm2d:m2 < tb[j].bh.length:=by omega
    obtain ⟨y,ey,dy⟩:=ddl.get (i:=m2) (t:=mZ tb[j].bh[m2]) (by rw [bc,ae hm2d]; rfl)
    obtain ⟨qd,rfl,hqd⟩:=K17.B.Dp.qP dy
    have ai:atI xs (pl % (xs.length:Int))=some (.ref qd):=by
     rw [em2]
     exact aG (j:=m2) ey
    refine⟨_,rfl,qr,_,_,_,rfl,rfl,SqT.of hq,aG (j:=0) rfl,?_⟩
    refine⟨_,rfl,qr,_,_,_,rfl,rfl,SqT.of hq,aG (j:=4) rfl,_,rfl,_,rfl,qr,_,_,_,rfl,rfl,SqT.of hq,aG (j:=4) rfl,ad,_,rfl,.inr (SqT.of had),_,_,rfl,rfl,by omega,ad,xs,_,.ref qd,rfl,rfl,SqT.of had,ai,qd,_,_,_,rfl,rfl,SqT.of hqd,aG (j:=0) rfl,?_⟩
    refine⟨_,rfl,qr,_,_,_,rfl,rfl,SqT.of hq,aG (j:=4) rfl,_,rfl,_,rfl,qr,_,_,_,rfl,rfl,SqT.of hq,aG (j:=4) rfl,ad,_,rfl,.inr (SqT.of had),_,_,rfl,rfl,by omega,ad,xs,_,.ref qd,rfl,rfl,SqT.of had,ai,qd,_,_,_,rfl,rfl,SqT.of hqd,aG (j:=1) rfl,by show 2≤sizeLine; decide,fun m3 hm3=>?_⟩
    obtain ⟨bb,ebb,hbb⟩:∃ b:Option Int,atI [V.int tb[j].bh[m2].2,V.non] pk=some (jt b)∧∀ n,b=some n→1≤n∧n≤99:=by
     have:pk=0∨pk=1:=by omega
     rcases this with e | e
     ·rw [e]
      exact⟨some tb[j].bh[m2].2,aG (j:=0) rfl,fun n hn=>by cases hn; exact w3.1 _ (cn hm2d)⟩
     ·rw [e]
      exact⟨none,aG (j:=1) rfl,fun n hn=>nomatch hn⟩
    refine⟨_,rfl,m3,_,_,jt bb,rfl,rfl,SqL.of ak,ebb,by show 4≤sizeLine; decide,fun q hq=>?_⟩
    exact own bb _ (w2 _ (cn hm2d)) hbb _ (o6.trans (Off.new hm3)) (p6.same (Same.new hm3)) q hq
   ·refine⟨_,rfl,_,_,rfl,rfl,_,rfl,iR (ay (show pk < 4 by omega)) ?_⟩
    refine⟨_,rfl,qr,_,_,_,rfl,rfl,SqT.of hq,aG (j:=0) rfl,_,rfl,_,rfl,by show 4≤sizeLine; decide,fun q hq=>?_⟩
    exact own (some (1+bd)) _ (cn hm) (fun n hn=>by cases hn; omega) H6 o6 p6 q hq
  ·have hb:¬ pk < 2:=fun h=>hb (ay h)
   refine⟨_,rfl,_,_,rfl,rfl,_,rfl,?_⟩
   show ite _ _ _
   refine eX (fun hb4=>?_) (fun hb4=>?_)
   ·refine⟨_,rfl,qr,_,_,_,rfl,rfl,SqT.of hq,aG (j:=0) rfl,_,rfl,_,rfl,by show 4≤sizeLine; decide,fun q hq=>?_⟩
    exact own (some (1+bd)) _ (cn hm) (fun n hn=>by cases hn; omega) H6 o6 p6 q hq
   have hb4:¬ pk < 4:=fun h=>hb4 (ay h)
   refine⟨_,rfl,rfl,_,rfl,?_⟩
   show ite _ _ _
   refine eX (fun hb5=>?_) (fun hb5=>?_)
   ·refine⟨_,rfl,qr,_,_,_,rfl,rfl,SqT.of hq,aG (j:=0) rfl,_,rfl,by show 4≤sizeLine; decide,fun q hq=>?_⟩
    exact own none _ (cn hm) (fun n hn=>nomatch hn) H6 o6 p6 q hq
   refine⟨_,rfl,rfl,_,rfl,?_⟩
   show ite _ _ _
   refine eX (fun hb6=>?_) (fun hb6=>?_)
   ·refine⟨_,rfl,qr,_,_,_,rfl,rfl,SqT.of hq,aG (j:=0) rfl,_,rfl,qr,_,_,_,rfl,rfl,SqT.of hq,aG (j:=1) rfl,_,rfl,e,_,rfl,rfl,he,fun pr hpr=>⟨by show 3≤sizeLine; decide,fun q hq=>?_⟩⟩
    exact eld tb[j].bw.reverse pr (fun x hx=>esub x (List.mem_reverse.mp hx)) ((List.reverse_perm _).nodup_iff.mpr end') _ (by rw [ak,List.map_reverse]) (o6.trans (Off.new hpr)) (p6.same (Same.new hpr)) q hq
   refine⟨_,rfl,rfl,_,rfl,?_⟩
   show ite _ _ _
   obtain ⟨z,ez,hz14⟩:=N8 pl q0 q8
   refine eX (fun hb7=>?_) (fun hb7=>?_)
   ·refine⟨_,rfl,qr,_,_,_,rfl,rfl,SqT.of hq,aG (j:=0) rfl,_,rfl,_,rfl,by show 2≤sizeLine; decide,fun m3 hm3=>?_⟩
    refine⟨_,rfl,_,_,rfl,rfl,⟨by decide,by decide⟩,m3,_,_,.int z,rfl,rfl,SqL.of ak,ez,?_⟩
    have s7:Same H6 (upd H6 m3 (.lst [.int 4,.int 14])):=Same.new hm3
    refine⟨p,kl,kns tb,z,rfl,p6.same s7,s7 kl _ hk6,by omega,by omega,fun ee es H8 hee sub nde _ o8 p8=>⟨by show 3≤sizeLine; decide,fun q hq=>?_⟩⟩
    exact eld es ee sub nde H8 hee (o6.trans (s7.off.trans o8)) p8 q hq
   have ha6:=Pu.tups hp o6 a _ ha
   refine⟨_,rfl,a,rfl,⟨_,SqT.of ha6⟩,fun ol hol=>?_⟩
   have so:∀ u,Same H6 (upd H6 ol u):=fun u=>Same.new hol
   refine bA (n:=zs.length) (fun i ys H7=>∃ os:List Str,ys=os.map V.str∧os.length≤i∧(∀ x∈os,x∈kns tb)∧H7=upd H6 ol (.lst ys)) ⟨[],rfl,am _,(fun x hx=>nomatch hx),rfl⟩ ?_ ?_
   rotate_left
   ·rintro i ys H7 hi ⟨os,rfl,ol',os',rfl⟩
    have hit:i < tb.length:=by omega
    obtain ⟨y,ei,dy⟩:=dlt.get (i:=i) (t:=gw tb[i]) (by rw [bc,ae hit]; rfl)
    have hai:=so (.lst (os.map V.str)) a _ ha6
    refine⟨⟨_,_,SqT.of hai,ei⟩,?_⟩
    rintro v H8 ⟨rfl,yy⟩ σo ho
    obtain ⟨oo,rfl⟩:=own1 ho
    have ev:=yy _ (SqT.of hai)
    rw [ei] at ev
    cases ev
    obtain ⟨q',e',o',f',vd',rfl,hq',_,ho',_⟩:=K17.B.Dp.fJ ((dy.mono (Pu.tups hp o6)).mono (Same.tups (so (.lst (os.map V.str)))))
    refine⟨⟨[_],rfl,rfl⟩,_,rfl,qr,_,_,_,rfl,rfl,SqT.of (so _ qr _ hq),aG (j:=0) rfl,_,rfl,q',_,_,_,rfl,rfl,SqT.of hq',aG (j:=2) rfl,o',_,rfl,.inr (SqT.of ho'),rfl,cH _,_,rfl,eX (fun hbo=>?_) (fun hbo=>?_)⟩
    ·refine⟨_,rfl,q',_,_,_,rfl,rfl,SqT.of hq',aG (j:=0) rfl,by rw [aa]; omega,ak,aR hi ⟨os++[tb[i].kind],by rw [aw]; rfl,by rw [bz,dm]; omega,fun x hx=>?_,by rw [bO]⟩⟩
     rcases bS.mp hx with h | h
     ·exact os' x h
     ·rw [aS.mp h]
      exact d0 (cn hit)
    ·exact aR hi ⟨os,rfl,by omega,os',rfl⟩
   rintro ys H7 ⟨os,rfl,ol',os',rfl⟩
   refine⟨⟨_,SqT.of (so _ a _ ha6),am _⟩,?_⟩
   have s7:Same H6 (upd H6 ol (.lst (os.map V.str))):=so _
   have hol7:(upd H6 ol (.lst (os.map V.str))) ol=some (.lst (os.map V.str)):=ak
   generalize upd H6 ol (.lst (os.map V.str))=H7 at s7 hol7
   have o7:Off p H H7:=o6.trans s7.off
   have p7:Pu H7 p:=p6.same s7
   have hq7:=s7 qr _ hq
   refine⟨_,rfl,rfl,_,rfl,?_⟩
   show ite _ _ _
   refine eX (fun hb8=>?_) (fun hb8=>?_)
   rotate_left
   ·refine⟨_,rfl,qr,_,_,_,rfl,rfl,SqT.of hq7,aG (j:=0) rfl,_,rfl,_,rfl,by show 2≤sizeLine; decide,fun m3 hm3=>?_⟩
    refine⟨_,rfl,_,_,rfl,rfl,⟨by decide,by decide⟩,m3,_,_,.int z,rfl,rfl,SqL.of ak,ez,?_⟩
    have s8:Same H7 (upd H7 m3 (.lst [.int 4,.int 14])):=Same.new hm3
    refine⟨p,ol,os,z,rfl,p7.same s8,s8 ol _ hol7,by omega,by omega,fun ee es H8 hee sub nde _ o8 p8=>⟨by show 3≤sizeLine; decide,fun q hq=>?_⟩⟩
    exact eld es ee (fun x hx=>os' x (sub x hx)) nde H8 hee (o7.trans (s8.off.trans o8)) p8 q hq
   have he7:=s7 e _ he
   refine⟨_,rfl,ol,rfl,⟨_,SqL.of hol7⟩,fun ol2 hol2=>?_⟩
   have so2:∀ u,Same H7 (upd H7 ol2 u):=fun u=>Same.new hol2
   refine bA (n:=(os.map V.str).length) (fun i ys H8=>∃ os2:List Str,ys=os2.map V.str∧os2.length≤i∧(∀ x∈os2,x∈kns tb∧¬ x∈tb[j].bw)∧H8=upd H7 ol2 (.lst ys)) ⟨[],rfl,am _,(fun x hx=>nomatch hx),rfl⟩ ?_ ?_
   rotate_left
   ·rintro i ys H8 hi ⟨os2,rfl,ol2',os2',rfl⟩
    have hit:i < os.length:=by rw [aa] at hi; exact hi
    have ei:(os.map V.str)[i]?=some (.str os[i]):=by rw [bc,ae hit]; rfl
    have hai:=so2 (.lst (os2.map V.str)) ol _ hol7
    refine⟨⟨_,_,SqL.of hai,ei⟩,?_⟩
    rintro v H9 ⟨rfl,yy⟩ σo ho
    obtain ⟨oo,rfl⟩:=own1 ho
    have ev:=yy _ (SqL.of hai)
    rw [ei] at ev
    cases ev
    refine⟨⟨[_],rfl,rfl⟩,_,rfl,_,rfl,qr,_,_,_,rfl,rfl,SqT.of (so2 _ qr _ hq7),aG (j:=1) rfl,e,_,rfl,.inr (SqT.of (so2 _ e _ he7)),rfl,cH _,_,rfl,eX (fun hbo=>?_) (fun hbo=>?_)⟩
    ·have hbo:(!inV (V.str os[i]) (tb[j].bw.map V.str))=true:=hbo
     rw [cB] at hbo
     refine⟨_,rfl,by rw [aa]; omega,ak,aR hi ⟨os2++[os[i]],by rw [aw]; rfl,by rw [bz,dm]; omega,fun x hx=>?_,by rw [bO]⟩⟩
     rcases bS.mp hx with h | h
     ·exact os2' x h
     ·rw [aS.mp h]
      refine⟨os' _ (cn hit),fun hin=>?_⟩
      rw [ay hin] at hbo
      cases hbo
    ·exact aR hi ⟨os2,rfl,by omega,os2',rfl⟩
   rintro ys H8 ⟨os2,rfl,ol2',os2',rfl⟩
   refine⟨⟨_,SqL.of (so2 _ ol _ hol7),am _⟩,?_⟩
   have s8:Same H7 (upd H7 ol2 (.lst (os2.map V.str))):=so2 _
   have hol8:(upd H7 ol2 (.lst (os2.map V.str))) ol2=some (.lst (os2.map V.str)):=ak
   generalize upd H7 ol2 (.lst (os2.map V.str))=H8 at s8 hol8
   rw [aa] at ol2'
   refine⟨_,rfl,qr,_,_,_,rfl,rfl,SqT.of (s8 qr _ hq7),aG (j:=0) rfl,_,rfl,qr,_,_,_,rfl,rfl,SqT.of (s8 qr _ hq7),aG (j:=1) rfl,_,rfl,_,rfl,?_⟩
   refine⟨p,ol2,os2,2,rfl,p7.same s8,hol8,by omega,by omega,fun ee es H9 hee sub nde es2 o9 p9=>?_⟩
   have he9:H9 e=some (.tup (tb[j].bw.map V.str)):=Pu.tups (p7.same s8) o9 e _ (s8 e _ he7)
   refine⟨e,ee,_,_,rfl,rfl,he9,hee,by rw [aa,aa]; omega,fun pc HA hpc sA=>⟨by show 3≤sizeLine; decide,fun q hq=>?_⟩⟩
   refine eld (tb[j].bw++es) pc (fun x hx=>?_) ?_ HA (by rw [aw]; exact hpc) (o7.trans (s8.off.trans (o9.trans sA.off))) (p9.same sA) q hq
   ·rcases bS.mp hx with h | h
    ·exact esub x h
    ·exact(os2' x (sub x h)).1
   ·refine g9.mpr ⟨end',nde,fun x hx y hy e=>?_⟩
    rw [e] at hx
    exact(os2' y (sub y hy)).2 hx
end
end K17.B
end
section
namespace K17.B
open PySem L2
theorem uE{f:Fam}{k:Str}{es:List Str}{r:Str × List Str}(h:r∈f)(ne:¬ r.1=k):r∈bV f k es:=bg.mpr ⟨r,h,bX ne⟩
theorem HW{f:Fam}{k:Str}{es:List Str}{a c:Str}(h:Reach (bV f k es) a c)(e:c=k):Up f k a:=by
 induction h with
 | one ed=>
  obtain ⟨r,hr,ea,hb⟩:=ed
  rcases jW hr with ⟨r0,h0,hk,e'⟩ | ⟨h0,hk⟩
  ·rw [e'] at ea
   exact .inl ea.symm
  ·rw [e] at hb
   exact .inr (.one ⟨r,h0,ea,hb⟩)
 | step ed _ ih=>
  obtain ⟨r,hr,ea,hb⟩:=ed
  rcases jW hr with ⟨r0,h0,hk,e'⟩ | ⟨h0,hk⟩
  ·rw [e'] at ea
   exact .inl ea.symm
  ·rcases ih e with e2 | e2
   ·rw [e2] at hb
    exact .inr (.one ⟨r,h0,ea,hb⟩)
   ·exact .inr (.step ⟨r,h0,ea,hb⟩ e2)
theorem Io{f:Fam}{k:Str}(es:List Str){a c:Str}(h:Reach f a c)(e:c=k):Up (bV f k es) k a:=by
 induction h with
 | one ed=>
  obtain ⟨r,hr,ea,hb⟩:=ed
  by_cases hk:r.1=k
  ·exact .inl (ea.symm.trans hk)
  ·rw [e] at hb
   exact .inr (.one ⟨r,uE hr hk,ea,hb⟩)
 | step ed _ ih=>
  obtain ⟨r,hr,ea,hb⟩:=ed
  by_cases hk:r.1=k
  ·exact .inl (ea.symm.trans hk)
  ·rcases ih e with e2 | e2
   ·rw [e2] at hb
    exact .inr (.one ⟨r,uE hr hk,ea,hb⟩)
   ·exact .inr (.step ⟨r,uE hr hk,ea,hb⟩ e2)
theorem zf{f:Fam}{k:Str}{es:List Str}{x:Str}:Up (bV f k es) k x↔Up f k x:=by
 constructor
 ·rintro (h | h)
  ·exact .inl h
  ·exact HW h rfl
 ·rintro (h | h)
  ·exact .inl h
  ·exact Io es h rfl
theorem Kc{f:Fam}(G:eO f){x:Str}(h:Reach f x x):False:=by
 obtain ⟨top,t0,t1,t2⟩:=G.vL
 obtain ⟨j,hj,e⟩:=fc ((t1 x).mpr (vM G h))
 have ej:top[j]?=some x:=by rw [ae hj,e]
 obtain ⟨i,hi,ei⟩:=tK G t0 t2 h j ej
 have:=jM t0 ei ej
 omega
theorem tG{ds:List (Str × Int)}{d:Str}{n:Int}(h:bodyOf ds d=some n):(d,n)∈ds:=by
 unfold bodyOf at h
 cases hf:ds.find? fun x=>decide (x.1=d) with
 | none=>rw [hf] at h; cases h
 | some y=>
  rw [hf] at h
  cases h
  have h1:y.1=d:=by
   have:=List.find?_some hf
   exact cy this
  rw [← h1]
  exact List.mem_of_find?_eq_some hf
theorem wD{ds:List (Str × Int)}(nd:(ds.map Prod.fst).Nodup){d:Str}{n:Int}(h:(d,n)∈ds):bodyOf ds d=some n:=by
 obtain ⟨m,hm⟩:=nC (bg.mpr ⟨(d,n),h,rfl⟩:d∈ds.map Prod.fst)
 have:=Dh nd h (tG hm) rfl
 cases this
 exact hm
theorem GJ{d:Str}:∀ {ds:List (Str × Int)},(ds.map Prod.fst).Nodup→ds.filter (fun x=>decide (x.1=d))=match bodyOf ds d with | none=>[] | some n=>[(d,n)]
 | [],_=>rfl
 | x::ds,nd=>by
  obtain ⟨n1,n2⟩:=eW.mp nd
  by_cases e:x.1=d
  ·have hb:bodyOf (x::ds) d=some x.2:=by
    unfold bodyOf
    rw [ib,ay e]
    rfl
   rw [hb,dk,ck (ay e),List.filter_eq_nil_iff.mpr fun y hy hk=>n1 (by
    rw [e,← cy hk]
    exact d0 hy)]
   rw [← e]
  ·have hb:bodyOf (x::ds) d=bodyOf ds d:=by
    unfold bodyOf
    rw [ib,bv e]
   rw [hb,dk,bX (by rw [bv e]; exact aE)]
   exact GJ n2
theorem Gj(ds:List (Str × Int))(d:Str)(b:Option Int):(lZ ds d b).filter (fun x=>!decide (x.1=d))=ds.filter (fun x=>!decide (x.1=d)):=by
 unfold lZ
 rw [eS,lx]
 have h1:ds.filter (fun a=>(!decide (a.1=d)) && !decide (a.1=d))=ds.filter (fun x=>!decide (x.1=d)):=by
  congr 1
  funext a
  rw [Bool.and_self]
 rw [h1]
 cases b with
 | none=>exact eB _
 | some n=>
  rw [dk,bX (by rw [ay rfl]; exact aE)]
  exact eB _
theorem GR{ds:List (Str × Int)}(nd:(ds.map Prod.fst).Nodup)(asc:(ds.map Prod.fst).Pairwise leS)(d:Str)(b:Option Int):dY (dY ds d b) d (bodyOf ds d)=ds:=by
 have nd2:((dY ds d b).map Prod.fst).Nodup:=((iJ _).map _).nodup_iff.mpr (lW nd d b)
 refine(w6 (qs:=ds) (lW nd2 d (bodyOf ds d)) ?_ fun i j h hj=>?_).symm
 ·have h1:((dY ds d b).filter (fun x=>!decide (x.1=d))).Perm (ds.filter (fun x=>!decide (x.1=d))):=by
   have:=(iJ (lZ ds d b)).filter (fun x=>!decide (x.1=d))
   rw [Gj] at this
   exact this
  have h2:((ds.filter (fun x=>decide (x.1=d)))++ds.filter (fun x=>!decide (x.1=d))).Perm ds:=List.filter_append_perm _ ds
  rw [GJ nd] at h2
  refine h2.symm.trans (List.perm_append_comm.trans ?_)
  unfold lZ
  exact h1.symm.append_right _
 ·have:=(il.mp asc) i j (by rw [aa]; omega) (by rw [aa]; exact hj) h
  rw [gp,gp] at this
  exact gO.mpr this
theorem vB{ds:List (Str × Int)}(nd:(ds.map Prod.fst).Nodup)(d:Str)(b:Option Int):bodyOf (dY ds d b) d=b:=by
 have nd2:((dY ds d b).map Prod.fst).Nodup:=((iJ _).map _).nodup_iff.mpr (lW nd d b)
 cases b with
 | some n=>
  refine wD nd2 ((iJ _).mem_iff.mpr ?_)
  exact cE _ (aS.mpr rfl)
 | none=>
  refine m7 fun x hx e=>?_
  have hx:=(iJ _).mem_iff.mp hx
  rcases bS.mp hx with h | h
  ·have:=(bE.mp h).2
   rw [ay e] at this
   cases this
  ·cases h
def nH(r:Row):Chg→Chg
 | .own k d _=>.own k d (bodyOf r.bh d)
 | .eld k _=>.eld k r.bw
theorem BL(r:Row)(c:Chg):(nH r c).kind=c.kind:=by
 cases c <;> rfl
theorem u9{ds:List Str}{tb:List Row}(G:cD ds tb){r:Row}(hr:r∈tb)(es:List Str):bV (bV (bf tb) r.kind es) r.kind r.bw=bf tb:=by
 unfold bV bf
 rw [fb,fb]
 refine eM fun r' hr'=>?_
 show (if (if r'.kind=r.kind then (r'.kind,es) else (r'.kind,r'.bw)).1=r.kind then _ else _)=(r'.kind,r'.bw)
 by_cases e:r'.kind=r.kind
 ·have:=qO G hr hr' e
  subst this
  rw [ck rfl,ck (show (r'.kind,es).1=r'.kind from rfl)]
  show ((if r'.kind=r'.kind then (r'.kind,es) else (r'.kind,r'.bw)).1,r'.bw)=_
  rw [ck rfl]
 ·rw [bX e]
  exact bX e
theorem K7{ds:List Str}{tb:List Row}(G:cD ds tb){c:Chg}(ok:OkC ds tb c){r:Row}(hr:r∈tb)(er:r.kind=c.kind):OkC ds (fX tb c) (nH r c):=by
 cases c with
 | own k d b=>
  obtain ⟨h1,h2,h3,h4⟩:=ok
  obtain ⟨w1,w2,w3,w4⟩:=G.own r hr
  refine⟨by rw [pU]; exact h1,h2,fun n hn=>w3 _ (tG hn),fun hb r' hr' hk=>?_⟩
  obtain ⟨r0,h0,rfl⟩:=bg.mp hr'
  have hk:r0.kind=k:=hk
  have hb:bodyOf r.bh d=none:=hb
  show d∈(if r0.kind=k then dY r0.bh d b else r0.bh).map Prod.fst
  rw [ck hk]
  cases b with
  | none=>
   obtain ⟨n,hn⟩:=nC (h4 rfl r hr er)
   rw [hb] at hn
   cases hn
  | some n=>exact bg.mpr ⟨(d,n),(iJ _).mem_iff.mpr (cE _ (aS.mpr rfl)),rfl⟩
 | eld k es=>
  have er:r.kind=k:=er
  subst er
  obtain ⟨h1,h2,h3,h4,h5⟩:=ok
  have hfm:(r.kind,r.bw)∈bf tb:=bg.mpr ⟨r,hr,rfl⟩
  refine⟨by rw [pU]; exact h1,fun e he=>by rw [pU,← dW]; exact G.fam.sub _ hfm e he,G.fam.G6 _ hfm,fun e he hu=>?_,fun x hx=>?_⟩
  ·rw [oH,zf] at hu
   have rk:Reach (bf tb) r.kind r.kind:=by
    have ed:tO (bf tb) r.kind e:=⟨_,hfm,rfl,he⟩
    rcases hu with hu | hu
    ·rw [hu] at ed
     exact .one ed
    ·exact .step ed hu
   exact Kc G.fam rk
  ·rw [oH,u9 G hr]
   rw [pU] at hx
   obtain ⟨r',hr',rfl⟩:=bg.mp hx
   rw [G.ord r' hr']
   rfl
def JR(c:Chg)(r:Row):Row:=⟨r.kind,r.bw,r.order,r.fields,r.bh,r.num+2 * jr (decide (c.kind∈r.order))⟩
theorem Gr{ds:List Str}{tb:List Row}(G:cD ds tb){c:Chg}(ok:OkC ds tb c){r:Row}(hr:r∈tb)(er:r.kind=c.kind):fX (fX tb c) (nH r c)=tb.map (JR c):=by
 show (tb.map (jO tb c)).map _=_
 rw [fb]
 refine eM fun r' hr'=>?_
 show jO (fX tb c) (nH r c) (jO tb c r')=_
 cases c with
 | own k d b=>
  have er:r.kind=k:=er
  subst er
  show Row.mk r'.kind r'.bw r'.order r'.fields (if r'.kind=r.kind then dY (if r'.kind=r.kind then dY r'.bh d b else r'.bh) d (bodyOf r.bh d) else (if r'.kind=r.kind then dY r'.bh d b else r'.bh)) (r'.num+jr (decide (r.kind∈r'.order))+jr (decide (r.kind∈r'.order)))=Row.mk r'.kind r'.bw r'.order r'.fields r'.bh (r'.num+2 * jr (decide (r.kind∈r'.order)))
  have hn:r'.num+jr (decide (r.kind∈r'.order))+jr (decide (r.kind∈r'.order))=r'.num+2 * jr (decide (r.kind∈r'.order)):=by omega
  rw [hn]
  by_cases e:r'.kind=r.kind
  ·have:=qO G hr hr' e
   subst this
   obtain ⟨w1,w2,w3,w4⟩:=G.own r' hr'
   rw [ck rfl,ck rfl,GR w1 w4]
  ·rw [bX e,bX e]
 | eld k es=>
  have er:r.kind=k:=er
  subst er
  have G2:=G.Lr ok
  have h2:(r.kind∈(jO tb (.eld r.kind es) r').order)↔r.kind∈r'.order:=by
   rw [um G2 (d0 hr') r.kind,oH,zf,um G hr' r.kind]
   exact Iff.rfl
  show Row.mk r'.kind (if r'.kind=r.kind then r.bw else (if r'.kind=r.kind then es else r'.bw)) ((bU (bV (bf (fX tb (.eld r.kind es))) r.kind r.bw) r'.kind).getD []) r'.fields r'.bh (r'.num+jr (decide (r.kind∈r'.order))+jr (decide (r.kind∈(jO tb (.eld r.kind es) r').order)))=Row.mk r'.kind r'.bw r'.order r'.fields r'.bh (r'.num+2 * jr (decide (r.kind∈r'.order)))
  have e2:decide (r.kind∈(jO tb (.eld r.kind es) r').order)=decide (r.kind∈r'.order):=by
   apply fm.mpr
   rw [i7,i7]
   exact h2
  have hn:r'.num+jr (decide (r.kind∈r'.order))+jr (decide (r.kind∈r'.order))=r'.num+2 * jr (decide (r.kind∈r'.order)):=by omega
  rw [e2,hn,oH,u9 G hr,G.ord r' hr']
  by_cases e:r'.kind=r.kind
  ·have:=qO G hr hr' e
   subst this
   rw [ck rfl]
   rfl
  ·rw [bX e,bX e]
   rfl
theorem Fb{ds:List Str}{tb:List Row}(G:cD ds tb)(c:Chg){r:Row}(hr:r∈tb)(er:r.kind=c.kind):nH (jO tb c r) (nH r c)=c:=by
 cases c with
 | own k d b=>
  have er:r.kind=k:=er
  subst er
  show Chg.own r.kind d (bodyOf (if r.kind=r.kind then dY r.bh d b else r.bh) d)=_
  rw [ck rfl,vB (G.own r hr).1]
 | eld k es=>
  have er:r.kind=k:=er
  subst er
  show Chg.eld r.kind (if r.kind=r.kind then es else r.bw)=_
  rw [ck rfl]
end K17.B
end
section
namespace K17.B
open PySem PyProof.Rows L2
theorem Le(b:Option Int):O6 b=jt b:=by
 cases b <;> rfl
section
variable {P:Program}{w:World}{K:PySem.W.Frag}{mg:Str→Option Value}{base:Heap}{t:Adr}
def HJ:Sp:=fun vs H Q _=>∃(v:V) (q:Addr) (c:Chg) (tb:List Row) (ds:List Str) (r:Row),vs=[v,.ref q]∧Dp H (kW tb) v∧cD ds tb∧ds.length≤11∧(∀ x∈ds,Nm x)∧OkC ds tb c∧j7 H q c∧r∈tb∧r.kind=c.kind∧∀ (q':Addr) H',j7 H' q' (nH r c)→Same H H'→Q (.ref q') H'
theorem Kh(D:Defs K mg t)(GL:Glb mg):aW P w K mg base CX0 7 t.back.1 t.back.2 ["table","change"] HJ:=by
 have G_changed:aW P w K mg base CX0 6 t.changed.1 t.changed.2 _ qY:=u5 D GL
 have G_row_at:aW P w K mg base CX0 3 t.jE.1 t.jE.2 _ yc:=zy D
 have G_own_body:aW P w K mg base CX0 1 t.gK.1 t.gK.2 _ rB:=ur D
 refine D.back.fn.ok CQ (fun vs H Q E h=>?_) (fun cdv A outer s H vs Q E hr h=>?_)
 ·obtain ⟨v,q,c,tb,ds,r,rfl,_⟩:=h
  rfl
 ·obtain ⟨v,q,c,tb,ds,r,rfl,dv,G,l11,nm,ok,hc,hr',er,k⟩:=h
  refine⟨_,(aD (jd (aH D.changed G_changed (hr.mono (by omega)) (by rfl) (aj (pv 0) (aj (pv 1) aA))))
   (aD (aP (i:=2) CQ.nd rfl (Or.inl rfl) (aH D.jE G_row_at (hr.mono (by omega)) (by rfl) (aj (pv 0) (aj (aM aX (pv 1) aC (fun _ _=>rfl)) aA))))
   (aD (bQ (aV fu (aM aX (pv 1) aC (fun _ _=>rfl)) cF (bx _))
   (aF (aQ (dg (aj cF (aj (aM aX (pv 1) aC (fun _ _=>rfl)) (aj (aM aX (pv 1) aC (fun _ _=>rfl)) (aj (aH D.gK G_own_body (hr.mono (by omega)) (by rfl) (aj (pv 2) (aj (aM aX (pv 1) aC (fun _ _=>rfl)) aA))) aA)))))))
   aY)
   (aF (aQ (dg (aj cF (aj (aM aX (pv 1) aC (fun _ _=>rfl)) (aj (aM aX (pv 2) aC (fun _ _=>rfl)) aA))))))))),?_⟩
  refine⟨_,rfl,_,rfl,v,q,c,tb,ds,rfl,dv,G,l11,nm,ok,hc,fun u0 H1 _ s1=>?_⟩
  have hc1:=hc.same s1
  obtain ⟨x0,rest,hcq⟩:=hc1.kind
  refine⟨_,rfl,_,rfl,q,_,_,_,rfl,rfl,SqT.of hcq,aG (j:=1) rfl,v,tb,r,by rw [er]; rfl,dv.mono (Same.tups s1),G.tb,hr',fun u H2 du s2=>?_⟩
  have s02:=s1.trans s2
  obtain ⟨qr,e,o,f,vd,rfl,hq,he,ho,hf,hd⟩:=K17.B.Dp.fJ du
  have hc2:=hc1.same s2
  cases c with
  | own x d b=>
   have hcq:H2 q=some (.tup [.str "own",.str x,.str d,jt b]):=hc2
   refine⟨_,rfl,q,_,_,_,rfl,rfl,SqT.of hcq,aG (j:=0) rfl,rfl,_,rfl,iR (ay rfl) ?_⟩
   refine⟨_,rfl,q,_,_,_,rfl,rfl,SqT.of hcq,aG (j:=1) rfl,_,rfl,q,_,_,_,rfl,rfl,SqT.of hcq,aG (j:=2) rfl,_,rfl,_,rfl,q,_,_,_,rfl,rfl,SqT.of hcq,aG (j:=2) rfl,.ref qr,r,d,rfl,du,by show 4≤sizeLine; decide,fun qn hqn=>?_⟩
   refine k qn _ ?_ (s02.trans (Same.new hqn))
   show upd _ _ _ qn=some (.tup [.str "own",.str x,.str d,jt (bodyOf r.bh d)])
   rw [ak,Le]
  | eld x es=>
   obtain ⟨ee,hcq,hee⟩:=hc2
   refine⟨_,rfl,q,_,_,_,rfl,rfl,SqT.of hcq,aG (j:=0) rfl,rfl,_,rfl,iQ (by rw [bv (by intro h; injection h with h; exact Bl h)]; exact aE) ?_⟩
   refine⟨_,rfl,q,_,_,_,rfl,rfl,SqT.of hcq,aG (j:=1) rfl,_,rfl,qr,_,_,_,rfl,rfl,SqT.of hq,aG (j:=1) rfl,by show 3≤sizeLine; decide,fun qn hqn=>?_⟩
   exact k qn _ ⟨e,ak,(Same.new hqn) e _ he⟩ (s02.trans (Same.new hqn))
def Dl:Sp:=fun vs H Q _=>∃(v:V) (q:Addr) (c:Chg) (tb:List Row) (ds:List Str) (r:Row),vs=[v,.ref q]∧Dp H (kW tb) v∧cD ds tb∧j7 H q c∧r∈tb∧r.kind=c.kind∧∀ (q':Addr) H',j7 H' q' (nH r c)→Same H H'→Q (.ref q') H'
theorem Jw(D:Defs K mg t):aW P w K mg base CX0 1 t.iD.1 t.iD.2 ["_law_table_here","_law_change_here"] Dl:=by
 have hz:sizeLine=16777216:=cK
 refine D.iD.fn.ok iG (fun vs H Q E h=>?_) (fun cdv A outer s H vs Q E hr h=>?_)
 ·obtain ⟨v,q,c,tb,ds,r,rfl,_⟩:=h
  rfl
 ·obtain ⟨v,q,c,tb,ds,r,rfl,dv,G,hc,hr',er,k⟩:=h
  have l7:tb.length≤7:=G.tb.len
  obtain ⟨a,zs,ev,ha,dlt⟩:=L2.Dp.cR dv
  subst ev
  have hzl:zs.length=tb.length:=by have:=dlt.length; rwa [aa] at this
  refine⟨_,(aD (aP (i:=2) iG.nd rfl (Or.inl rfl) (aM cu (bL rfl (aL.of ["_law_row"] [1] ["_law_row","_law_change_here"] (aq (top 59)) ["_law_table_here","_law_change_here","_law_row","_law_body","_law_deed","_law_number"] rfl rfl (by decide +kernel)) ⟨fun _ _ _ _ _=>(aN (i:=0) (show List.Nodup [("_law_row" : Str),("_law_change_here" : Str)] by decide +kernel) rfl (Or.inl (af rfl)) (.inr (af rfl))),fun _ _ _ _ _=>(dM (aV fu (aM (bB (K:=K) rfl) (pv 0) aC (fun _ _=>rfl)) (aM (bB (K:=K) rfl) (pv 1) aC (fun _ _=>rfl)) (bx _))),fun _ _ _ _ _=>(pv 0)⟩ (cU (pv 0))) aC (fun _ _=>rfl)))
   (aD (bQ (aV fu (aM aX (pv 1) aC (fun _ _=>rfl)) cF (bx _))
   (aF (aQ (dg (aj cF (aj (aM aX (pv 1) aC (fun _ _=>rfl)) (aj (aM aX (pv 2) aC (fun _ _=>rfl)) aA))))))
   aY)
   (aD (aP (i:=3) iG.nd rfl (Or.inl rfl) eV)
   (aD (gR dS rfl (cU (aM aX (pv 2) aC (fun _ _=>rfl))) (uJ rfl (dH (aN (i:=4) iG.nd rfl (Or.inl rfl)) (dH (aN (i:=5) iG.nd rfl (Or.inl rfl)) lg)))
   (aF (bQ (aV fu (pv 4) (aM aX (pv 1) aC (fun _ _=>rfl)) (bx _))
   (aF (aP (i:=3) iG.nd rfl (Or.inl rfl) (pv 5)))
   aY)))
   (aF (aQ (dg (aj cF (aj (aM aX (pv 1) aC (fun _ _=>rfl)) (aj (aM aX (pv 1) aC (fun _ _=>rfl)) (aj (pv 3) aA))))))))))),?_⟩
  refine⟨_,rfl,a,rfl,⟨_,SqT.of ha⟩,fun D1 hD1=>?_⟩
  have s2:∀ u,Same H (upd H D1 u):=fun u=>Same.new hD1
  refine bA (n:=zs.length) (fun i ys H2=>Paired (fun(v:V) (r:Row)=>Dp H (gw r) v) ys ((tb.take i).filter fun x=>decide (x.kind=r.kind))∧H2=upd H D1 (.lst ys)) ⟨.nil,rfl⟩ ?_ ?_
  rotate_left
  ·rintro i ys H2 hi ⟨pr,rfl⟩
   have hit:i < tb.length:=by omega
   obtain ⟨y,ei,dy⟩:=dlt.get (i:=i) (t:=gw tb[i]) (by rw [bc,ae hit]; rfl)
   obtain ⟨q',e,o,f,g,ds,rfl,hq',_⟩:=K17.B.Dp.qR dy
   have hai:=s2 (.lst ys) a _ ha
   refine⟨⟨_,_,SqT.of hai,ei⟩,?_⟩
   rintro v H3 ⟨rfl,yy⟩ σo ho
   obtain ⟨oo,rfl⟩:=own1 ho
   have ev:=yy _ (SqT.of hai)
   rw [ei] at ev
   cases ev
   have hyl:ys.length≤7:=by
    rw [cS pr]
    refine dC (de _ _) ?_
    rw [br]
    omega
   have etk:(tb.take (i+1)).filter (fun x=>decide (x.kind=r.kind))=(tb.take i).filter (fun x=>decide (x.kind=r.kind))++(if decide (tb[i].kind=r.kind)=true then [tb[i]] else []):=by
    rw [take_snoc hit,eS,dk]
    rfl
   obtain ⟨x0,rest,hcq⟩:=(hc.same (s2 (.lst ys))).kind
   refine⟨⟨[_],rfl,rfl⟩,_,rfl,q',_,_,_,rfl,rfl,SqT.of (s2 _ q' _ hq'),aG (j:=0) rfl,_,rfl,q,_,_,_,rfl,rfl,SqT.of hcq,aG (j:=1) rfl,rfl,_,rfl,eX (fun hb=>?_) (fun hb=>?_)⟩
   ·have hb:tb[i].kind=r.kind:=by
     have:=cy hb
     injection this with this
     exact this.trans er.symm
    refine⟨_,rfl,by omega,ak,aR hi ⟨?_,by rw [bO]⟩⟩
    rw [etk,ck (ay hb)]
    exact cP pr dy
   ·have hb:¬ tb[i].kind=r.kind:=fun e=>hb (ay (by rw [e,er]))
    refine aR hi ⟨?_,rfl⟩
    rw [etk,bX (by rw [bv hb]; exact aE),eB]
    exact pr
  rintro ys H2 ⟨pr,rfl⟩
  rw [av (by omega),lJ G.tb.nd hr'] at pr
  cases pr with
  | cons du nn=>
   cases nn
   rename_i vr
   refine⟨⟨_,SqT.of (s2 _ a _ ha),am _⟩,D1,_,_,_,rfl,rfl,SqL.of ak,aG (j:=0) rfl,?_⟩
   have s1:Same H (upd H D1 (.lst [vr])):=s2 _
   generalize upd H D1 (.lst [vr])=H1 at s1
   obtain ⟨qr,e,o,f,vd,rfl,hq,he,ho,hf,hd⟩:=K17.B.Dp.fJ (du.mono (Same.tups s1))
   have hc1:=hc.same s1
   cases c with
   | eld x es=>
    obtain ⟨ee,hcq,hee⟩:=hc1
    refine⟨_,rfl,q,_,_,_,rfl,rfl,SqT.of hcq,aG (j:=0) rfl,rfl,_,rfl,iR (ay rfl) ?_⟩
    refine⟨_,rfl,q,_,_,_,rfl,rfl,SqT.of hcq,aG (j:=1) rfl,_,rfl,qr,_,_,_,rfl,rfl,SqT.of hq,aG (j:=1) rfl,by show 3≤sizeLine; decide,fun qn hqn=>?_⟩
    exact k qn _ ⟨e,ak,(Same.new hqn) e _ he⟩ (s1.trans (Same.new hqn))
   | own x d b=>
    have hcq:H1 q=some (.tup [.str "own",.str x,.str d,jt b]):=hc1
    refine⟨_,rfl,q,_,_,_,rfl,rfl,SqT.of hcq,aG (j:=0) rfl,rfl,_,rfl,iQ (by rw [bv (by intro h; injection h with h; exact wz h)]; exact aE) ?_⟩
    obtain ⟨ad,xs,rfl,had,dl⟩:=L2.Dp.cR hd
    have hxl:xs.length=r.bh.length:=by have:=dl.length; rwa [aa] at this
    obtain ⟨w1,_⟩:=G.own r hr'
    refine⟨_,rfl,qr,_,_,_,rfl,rfl,SqT.of hq,aG (j:=4) rfl,ad,rfl,⟨_,SqT.of had⟩,?_⟩
    refine nW (K:=K) (a:=ad) (xs:=xs) (fun i σ H2=>∃ (b':Option Int) (v4 v5:Option V),σ=[some (.ref a),some (.ref q),some (.ref qr),some (jt b'),v4,v5]∧H2=H1∧((b'=none∧∀ x∈r.bh.take i,¬ x.1=d)∨∃ n,b'=some n∧(d,n)∈r.bh))
     ⟨none,_,_,rfl,rfl,.inl ⟨rfl,by simp⟩⟩ (fun i σ H2 _ ⟨_,_,_,_,e,_⟩=>by rw [e]; exact SqT.of had) ?_ ?_
    ·rintro i y σ H2 hi ⟨b',v4,v5,rfl,rfl,h0⟩
     have hid:i < r.bh.length:=by
      have:=(bj.mp hi).1
      omega
     obtain ⟨y',ey,dy⟩:=dl.get (i:=i) (t:=mZ r.bh[i]) (by rw [bc,ae hid]; rfl)
     rw [hi] at ey
     cases ey
     obtain ⟨qd,rfl,hqd⟩:=K17.B.Dp.qP dy
     refine⟨qd,_,rfl,SqT.of hqd,rfl,_,_,rfl,_,_,rfl,rfl,?_⟩
     refine⟨_,rfl,_,rfl,q,_,_,_,rfl,rfl,SqT.of hcq,aG (j:=2) rfl,rfl,_,rfl,eX (fun hb=>?_) (fun hb=>?_)⟩
     ·have hb:r.bh[i].1=d:=by
       have:=cy hb
       injection this
      refine⟨_,rfl,some r.bh[i].2,_,_,rfl,rfl,.inr ⟨_,rfl,?_⟩⟩
      rw [← hb]
      exact cn hid
     ·have hb:¬ r.bh[i].1=d:=fun e=>hb (ay (by rw [e]))
      refine⟨b',_,_,rfl,rfl,?_⟩
      rcases h0 with ⟨h1,h2⟩ | h0
      ·refine .inl ⟨h1,fun x hx=>?_⟩
       rw [take_snoc hid] at hx
       rcases bS.mp hx with h | h
       ·exact h2 x h
       ·rw [aS.mp h]
        exact hb
      ·exact .inr h0
    ·rintro σ H2 ⟨b',v4,v5,rfl,rfl,h0⟩
     rw [av (by omega)] at h0
     have eb:b'=bodyOf r.bh d:=by
      rcases h0 with ⟨h1,h2⟩ | ⟨n,h1,h2⟩
      ·rw [h1,m7 h2]
      ·rw [h1,wD w1 h2]
     subst eb
     refine⟨_,rfl,q,_,_,_,rfl,rfl,SqT.of hcq,aG (j:=1) rfl,_,rfl,q,_,_,_,rfl,rfl,SqT.of hcq,aG (j:=2) rfl,_,rfl,by show 4≤sizeLine; decide,fun qn hqn=>?_⟩
     exact k qn _ ak (s1.trans (Same.new hqn))
end
end K17.B
end
section
namespace K17
open PySem PyProof.Rows L2
theorem lO{p:Addr}{H H1 H2:Hp}(s:Same H H1)(o:L2.Off p H1 H2)(hp:H p=none):Same H H2:=fun b u e=>o b u (aB e hp) (s b u e)
theorem SqL.keep{K:PySem.W.Frag}{H H':Hp}{a:Addr}{xs:List V}(h:SqL K H a xs)(k:∀ o,H a=some o→H' a=some o):SqL K H' a xs:=by
 rcases h with (h | ⟨o,h⟩) | h
 ·exact .inl (.inl (k _ h))
 ·exact .inl (.inr ⟨o,k _ h⟩)
 ·exact .inr h
theorem none_of{H H':Hp}{p:Addr}(s:Same H H')(h:H' p=none):H p=none:=by
 cases q:H p with
 | none=>rfl
 | some o=>rw [s p o q] at h; cases h
theorem pW(n:Nat)(ns:List Str)(h:ns.length≤1000):B.Fz (n+1) (.tup (ns.map T.str)):=⟨by rw [aa]; exact h,fun t ht=>by
 obtain ⟨x,_,rfl⟩:=bg.mp ht
 cases n <;> trivial⟩
theorem Gg{ds:List Str}{tb:List B.Row}(G:B.cD ds tb)(d11:ds.length≤11)(g:B.Row→Int):B.Fz 4 (B.kW (tb.map fun r=>⟨r.kind,r.bw,r.order,r.fields,r.bh,g r⟩)):=by
 refine⟨by rw [aa,aa]; have:=G.tb.len; omega,fun t ht=>?_⟩
 rw [fb] at ht
 obtain ⟨r,hr,rfl⟩:=bg.mp ht
 obtain ⟨w1,w2,w3⟩:=G.own r hr
 have hdl:r.bh.length≤11:=by
  have h1:=cL w1 (m:=ds) fun x hx=>by
   obtain ⟨y,hy,rfl⟩:=bg.mp hx
   exact w2 y hy
  rw [aa] at h1
  omega
 have e7:=(G.tb.es r hr).2
 have o8:=G.tb.ol r hr
 have f7:=G.fl r hr
 refine⟨by show 6≤1000; decide,fun t ht=>?_⟩
 have ht:t∈[T.str r.kind,.tup (r.bw.map T.str),.tup (r.order.map T.str),.tup (r.fields.map T.str),.tup (r.bh.map B.mZ),.int (g r)]:=ht
 simp only [bu,dL,gN] at ht
 rcases ht with rfl | rfl | rfl | rfl | rfl | rfl
 ·trivial
 ·exact pW 1 _ (by omega)
 ·exact pW 1 _ (by omega)
 ·exact pW 1 _ (by omega)
 ·refine⟨by rw [aa]; omega,fun t ht=>?_⟩
  obtain ⟨d,_,rfl⟩:=bg.mp ht
  refine⟨by show 2≤1000; decide,fun t ht=>?_⟩
  have ht:t∈[T.str d.1,T.int d.2]:=ht
  simp only [bu,dL,gN] at ht
  rcases ht with rfl | rfl <;> trivial
 ·trivial
def Ma:Option Int→T
 | none=>.non
 | some n=>.int n
def chT:B.Chg→T
 | .own k d b=>.tup [.str "own",.str k,.str d,Ma b]
 | .eld k es=>.tup [.str "elders",.str k,.tup (es.map T.str)]
theorem xR{H:Hp}{q:Addr}{c:B.Chg}(h:B.j7 H q c):Dp H (chT c) (.ref q):=by
 cases c with
 | own k d b=>
  refine L2.Dp.tup h (.cons (L2.Dp.str _) (.cons (L2.Dp.str _) (.cons (L2.Dp.str _) (.cons ?_ .nil))))
  cases b with
  | none=>show Dp H .non V.non; rw [Dp]
  | some n=>exact L2.Dp.int n
 | eld k es=>
  obtain ⟨e,h1,h2⟩:=h
  exact L2.Dp.tup h1 (.cons (L2.Dp.str _) (.cons (L2.Dp.str _) (.cons (L2.Dp.tup h2 (DpL.strs es)) .nil)))
theorem Dc{ds:List Str}{tb:List B.Row}(G:B.cD ds tb){c:B.Chg}(ok:B.OkC ds tb c):B.Fz 4 (chT c):=by
 cases c with
 | own k d b=>
  refine⟨by show 4≤1000; decide,fun t ht=>?_⟩
  have ht:t∈[T.str "own",.str k,.str d,Ma b]:=ht
  simp only [bu,dL,gN] at ht
  rcases ht with rfl | rfl | rfl | rfl
  ·trivial
  ·trivial
  ·trivial
  ·cases b <;> trivial
 | eld k es=>
  obtain ⟨o1,o2,o3,_⟩:=ok
  refine⟨by show 3≤1000; decide,fun t ht=>?_⟩
  have ht:t∈[T.str "elders",.str k,.tup (es.map T.str)]:=ht
  simp only [bu,dL,gN] at ht
  rcases ht with rfl | rfl | rfl
  ·trivial
  ·trivial
  ·refine pW 2 _ ?_
   have h1:=cL o3 o2
   have h2:(B.kns tb).length=tb.length:=aa _
   have:=G.tb.len
   omega
section
variable {P:Program}{w:World}{K:PySem.W.Frag}{mg:Str→Option Value}{base:Heap}{t:Adr}
def CN(K:PySem.W.Frag):Sp:=fun vs H Q _=>∃(a:Addr) (ns:List Int),vs=[.ref a,.int 1,.int 3,.int 8]∧SqL K H a (ns.map V.int)∧ns.length≤63∧∀(l:Addr) (ms:List Int) H',H' l=some (.lst (ms.map V.int))→ms.length≤8→H l=none→Same H H'→Q (.ref l) H'
theorem Jh(D:Defs K mg t):aW P w K mg base CX0 2 t.gF.1 t.gF.2 ["_law_script","_law_first","_law_least","_law_most"] (CN K):=by
 have G__law_cell:aW P w K mg base CX0 1 t.eZ.1 t.eZ.2 _ (Bu K):=Cz D
 have hz:sizeLine=16777216:=cK
 refine D.gF.fn.ok oY (fun vs H Q E h=>?_) (fun cdv A outer s H vs Q E hr h=>?_)
 ·obtain ⟨a,ns,rfl,_⟩:=h
  rfl
 ·obtain ⟨a,ns,rfl,hS,hl,k⟩:=h
  refine⟨_,(aD (aP (i:=4) oY.nd rfl (Or.inl rfl) (aO (vW rfl) (by rfl) D.Lj GD (aj (pv 2) (aj (aO (wQ rfl) (by rfl) D.Ln Jj (aj (pv 3) (aj (bJ xZ (aO bC (by rfl) D.iz eE (aj (pv 0) aA)) (pv 1)) aA))) aA))))
   (aF (aQ (bL rfl (aL.of ["_law_k"] [0,1] ["_law_k","_law_script","_law_first"] (aq (top 44)) ["_law_script","_law_first","_law_least","_law_most","_law_many"] rfl rfl (by decide +kernel)) ⟨fun _ _ _ _ _=>(aN (i:=0) (show List.Nodup [("_law_k" : Str),("_law_script" : Str),("_law_first" : Str)] by decide +kernel) rfl (Or.inl (af rfl)) (.inr (af rfl))),fun _ _ _ _ _=>cg,fun _ _ _ _ _=>(aH D.eZ G__law_cell (hr.mono (by omega)) (by rfl) (aj (pv 1) (aj (bJ gQ (pv 2) (pv 0)) aA)))⟩ (jx rfl D.mR (aj (pv 4) aA)))))),?_⟩
  refine⟨_,rfl,_,rfl,_,rfl,a,_,rfl,.inl hS,_,rfl,_,_,rfl,rfl,_,_,rfl,_,_,rfl,?_⟩
  have hN:∃ N:Int,(if (if ((ns.map V.int).length:Int) - 1 < 8 then ((ns.map V.int).length:Int) - 1 else 8) > 3 then (if ((ns.map V.int).length:Int) - 1 < 8 then ((ns.map V.int).length:Int) - 1 else 8) else 3)=N∧0≤N∧N≤8:=by
   refine⟨_,rfl,?_,?_⟩ <;> (split <;> split <;> omega)
  obtain ⟨N,eN,hN0,hN12⟩:=hN
  rw [eN]
  refine⟨_,rfl,N,rfl,by omega,by omega,fun D1 hD1=>?_⟩
  have s1:∀ u,Same H (upd H D1 u):=fun u=>Same.new hD1
  refine bA (n:=N.toNat) (fun i ys H2=>∃ ms:List Int,ys=ms.map V.int∧ms.length=i∧H2 D1=some (.lst ys)∧Same H H2) ⟨[],rfl,rfl,ak,s1 _⟩ ?_ ?_
  ·rintro ys H2 ⟨ms,rfl,hm,hD2,s2⟩
   refine⟨am _,?_⟩
   exact k D1 ms H2 hD2 (by omega) hD1 s2
  ·rintro i ys H2 hi ⟨ms,rfl,hm,hD2,s2⟩
   refine⟨hi,?_⟩
   rintro x H3 ⟨rfl,rfl⟩ σo ho
   obtain ⟨oo,rfl⟩:=own1 ho
   refine⟨⟨[_],rfl,rfl⟩,dB ⟨_,rfl,_,rfl,_,rfl,_,_,rfl,rfl,a,ns,_,rfl,K17.SqL.keep hS fun o e=>s2 a o e,hl,by omega,by omega,fun n H4 s4=>?_⟩⟩
   refine⟨by rw [aa]; omega,s4 D1 _ hD2,aR hi ⟨ms++[n],by rw [aw]; rfl,by rw [bz,hm]; rfl,ak,fun b u e=>by rw [au (aB e hD1)]; exact s4 b u (s2 b u e)⟩⟩
theorem Gx(r:Int)(h0:0≤r)(h4:r < 4):∃ z:Nat,atI [V.int 1,V.int 11,V.int 3,V.int 4] r=some (.int (z:Nat))∧1≤z∧z≤11:=by
 have:r=0∨r=1∨r=2∨r=3:=by omega
 rcases this with e | e | e | e <;> rw [e]
 ·exact⟨1,aG (j:=0) rfl,by decide,by decide⟩
 ·exact⟨11,aG (j:=1) rfl,by decide,by decide⟩
 ·exact⟨3,aG (j:=2) rfl,by decide,by decide⟩
 ·exact⟨4,aG (j:=3) rfl,by decide,by decide⟩
def DK(K:PySem.W.Frag):Sp:=fun vs H Q _=>∃(a:Addr) (ns:List Int),vs=[.ref a]∧SqL K H a (ns.map V.int)∧ns.length≤63∧∀ H',Q (.bl true) H'
theorem Oa(D:Defs K mg t)(GL:Glb mg):aW P w K mg base CX0 8 t.law.1 t.law.2 ["_law_script"] (DK K):=by
 have G__law_take:aW P w K mg base CX0 1 t.aU.1 t.aU.2 _ mQ:=kY D
 have G__law_purse:aW P w K mg base CX0 1 t.fW.1 t.fW.2 _ Dt:=Iz D
 have G__law_cell:aW P w K mg base CX0 1 t.eZ.1 t.eZ.2 _ (Bu K):=Cz D
 have G__law_cells:aW P w K mg base CX0 2 t.gF.1 t.gF.2 _ (CN K):=Jh D
 have G__law_names:aW P w K mg base CX0 3 t.dz.1 t.dz.2 _ xK:=Ae D
 have G__law_table:aW P w K mg base CX0 4 t.gJ.1 t.gJ.2 _ B.Dm:=B.Im D
 have G__law_change:aW P w K mg base CX0 3 t.fH.1 t.fH.2 _ B.Al:=B.Em D
 have G__law_why:aW P w K mg base CX0 3 t.jq.1 t.jq.2 _ B.Ly:=B.M5 D
 have G_back:aW P w K mg base CX0 7 t.back.1 t.back.2 _ B.HJ:=B.Kh D GL
 have G__law_back:aW P w K mg base CX0 1 t.iD.1 t.iD.2 _ B.Dl:=B.Jw D
 have G__law_same:aW P w K mg base CX0 6 t.cQ.1 t.cQ.2 _ (B.yt 4):=B.JM D 4
 have G_changed:aW P w K mg base CX0 6 t.changed.1 t.changed.2 _ B.qY:=B.u5 D GL
 have hz:sizeLine=16777216:=cK
 refine D.law.fn.ok jH (fun vs H Q E h=>?_) (fun cdv A outer s H vs Q E hr h=>?_)
 ·obtain ⟨a,ns,rfl,_⟩:=h
  rfl
 ·obtain ⟨a,ns,rfl,hS,hl,k⟩:=h
  refine⟨_,(aD (aP (i:=1) jH.nd rfl (Or.inl rfl) (aH D.fW G__law_purse (hr.mono (by omega)) (by rfl) (aj (aH D.eZ G__law_cell (hr.mono (by omega)) (by rfl) (aj (pv 0) (aj aC aA))) aA)))
   (aD (aP (i:=2) jH.nd rfl (Or.inl rfl) (bJ gQ aC (aH D.aU G__law_take (hr.mono (by omega)) (by rfl) (aj (pv 1) (aj aC aA)))))
   (aD (aP (i:=3) jH.nd rfl (Or.inl rfl) (aH D.dz G__law_names (hr.mono (by omega)) (by rfl) (aj (pv 1) (aj (aM cu (dU (aj aC (aj aC (aj aC (aj aC aA))))) (aH D.aU G__law_take (hr.mono (by omega)) (by rfl) (aj (pv 1) (aj aC aA))) (fun _ _=>rfl)) (aj (dU aA) aA)))))
   (aD (aP (i:=4) jH.nd rfl (Or.inl rfl) (aH D.dz G__law_names (hr.mono (by omega)) (by rfl) (aj (pv 1) (aj (bJ gQ aC (aH D.aU G__law_take (hr.mono (by omega)) (by rfl) (aj (pv 1) (aj aC aA)))) (aj (dU aA) aA)))))
   (aD (aP (i:=5) jH.nd rfl (Or.inl rfl) (aH D.gJ G__law_table (hr.mono (by omega)) (by rfl) (aj (pv 1) (aj (pv 2) (aj (pv 3) (aj (pv 4) aA))))))
   (aD (gR dS rfl (gU (aH D.gF G__law_cells (hr.mono (by omega)) (by rfl) (aj (pv 0) (aj aC (aj aC (aj aC aA)))))) (aN (i:=6) jH.nd rfl (Or.inl rfl))
   (aD (aP (i:=7) jH.nd rfl (Or.inr rfl) (aH D.fH G__law_change (hr.mono (by omega)) (by rfl) (aj (aH D.fW G__law_purse (hr.mono (by omega)) (by rfl) (aj (pv 6) aA)) (aj (pv 5) (aj (pv 3) aA)))))
   (aF (bQ (aV fu (aH D.jq G__law_why (hr.mono (by omega)) (by rfl) (aj (pv 5) (aj (pv 7) aA))) cF (bx _))
   (aD (aP (i:=8) jH.nd rfl (Or.inl rfl) (aH D.back G_back (hr.mono (by omega)) (by rfl) (aj (pv 5) (aj (pv 7) aA))))
   (aD (bQ (jG (d9 (aH D.cQ G__law_same (hr.mono (by omega)) (by rfl) (aj (pv 8) (aj (aH D.iD G__law_back (hr.mono (by omega)) (by rfl) (aj (pv 5) (aj (pv 7) aA))) aA)))))
   (aF (aQ nR))
   aY)
   (aD (aP (i:=9) jH.nd rfl (Or.inl rfl) (aH D.changed G_changed (hr.mono (by omega)) (by rfl) (aj (pv 5) (aj (pv 7) aA))))
   (aD (aP (i:=10) jH.nd rfl (Or.inl rfl) (bG bD (by rfl) D.cV bY (aj (bL rfl (aL.of ["_law_row"] [7] ["_law_row","_law_change_here"] (aq (top 60)) ["_law_script","_law_purse_here","_law_many","_law_deeds","_law_fields","_law_table_here","_law_cell_here","_law_change_here","_law_home","_law_then","_law_due"] rfl rfl (by decide +kernel)) ⟨fun _ _ _ _ _=>(aN (i:=0) (show List.Nodup [("_law_row" : Str),("_law_change_here" : Str)] by decide +kernel) rfl (Or.inl (af rfl)) (.inr (af rfl))),fun _ _ _ _ _=>cg,fun _ _ _ _ _=>(bJ oJ (dJ (sX (K:=K) rfl) (pv 0) fZ (gk aC)) (dg (aj (bJ gQ (aM (bB (K:=K) rfl) (pv 0) aC (fun _ _=>rfl)) (bJ mJ aC (bG Ep (by rfl) D.Ji Cm (aj (fG (lu (K:=K) rfl) (aM (bB (K:=K) rfl) (pv 1) aC (fun _ _=>rfl)) (aM (bB (K:=K) rfl) (pv 0) aC (fun _ _=>rfl)) (by with_unfolding_all rfl)) aA)))) aA)))⟩ (cU (pv 5))) aA)))
   (aD (bQ (PW.pt (tQ (jG (d9 (aH D.cQ G__law_same (hr.mono (by omega)) (by rfl) (aj (aH D.changed G_changed (hr.mono (by omega)) (by rfl) (aj (pv 9) (aj (pv 8) aA))) (aj (pv 10) aA))))) (pC (jG (d9 (aH D.cQ G__law_same (hr.mono (by omega)) (by rfl) (aj (aH D.back G_back (hr.mono (by omega)) (by rfl) (aj (pv 9) (aj (pv 8) aA))) (aj (pv 7) aA))))))))
   (aF (aQ nR))
   aY)
   (aF (aP (i:=5) jH.nd rfl (Or.inl rfl) (pv 9))))))))
   aY))))
   (aF (aQ nR)))))))),?_⟩
  refine⟨_,rfl,a,ns,0,rfl,hS,hl,by decide,by decide,fun z0 H1 s1=>⟨z0,rfl,fun p a1 b1 c1 hp=>?_⟩⟩
  have hpH:H p=none:=none_of s1 hp
  have s2:Same H (upd H1 p (.lst [.int a1,.int b1,.int c1])):=s1.trans (Same.new hp)
  have p2:Pu (upd H1 p (.lst [.int a1,.int b1,.int c1])) p:=Pu.upd
  generalize upd H1 p (.lst [.int a1,.int b1,.int c1])=H2 at s2 p2
  refine⟨_,rfl,p,7,rfl,p2,by decide,by decide,fun r a2 b2 c2 l2 u2=>⟨_,_,rfl,rfl,?_⟩⟩
  have s3:=lO s2 (Off.upd (p:=p) (o:=.lst [.int a2,.int b2,.int c2])) hpH
  have p3:Pu (upd H2 p (.lst [.int a2,.int b2,.int c2])) p:=Pu.upd
  generalize upd H2 p (.lst [.int a2,.int b2,.int c2])=H3 at s3 p3
  obtain ⟨n,en,hn1,hn7⟩:∃ n:Nat,1+r=(n:Int)∧1≤n∧n≤7:=⟨(1+r).toNat,by omega,by omega,by omega⟩
  refine⟨_,rfl,by show 4≤sizeLine; decide,fun m hm=>⟨_,rfl,p,4,rfl,p3.same (Same.new hm),by decide,by decide,fun r4 a4 b4 c4 l4 u4=>?_⟩⟩
  have pm:p≠m:=p3.neN hm
  have s4:=lO (s3.trans (Same.new (o:=.lst [.int 1,.int 11,.int 3,.int 4]) hm)) (Off.upd (p:=p) (o:=.lst [.int a4,.int b4,.int c4])) hpH
  have p4:Pu (upd (upd H3 m (.lst [.int 1,.int 11,.int 3,.int 4])) p (.lst [.int a4,.int b4,.int c4])) p:=Pu.upd
  have hm4:(upd (upd H3 m (.lst [.int 1,.int 11,.int 3,.int 4])) p (.lst [.int a4,.int b4,.int c4])) m=some (.lst [.int 1,.int 11,.int 3,.int 4]):=by rw [au pm.symm,ak]
  generalize upd (upd H3 m (.lst [.int 1,.int 11,.int 3,.int 4])) p (.lst [.int a4,.int b4,.int c4])=H4 at s4 p4 hm4
  obtain ⟨dn,edn,dn1,dn11⟩:=Gx r4 l4 u4
  refine⟨m,_,_,.int dn,rfl,rfl,SqL.of hm4,edn,dq _,fun u hu=>?_⟩
  refine⟨p,u,[],dn,rfl,p4.same (Same.new hu),ak,by omega,by show 0+_≤25; omega,fun dl ds H5 hdlN hds nds nmd hdl5 o5 p5=>?_⟩
  have s5:=lO (s4.trans (Same.new (o:=.lst []) hu)) o5 hpH
  have d1:1≤ds.length:=by omega
  have d11:ds.length≤11:=by omega
  have dlp:dl≠p:=p5.ne hdl5
  refine⟨_,rfl,_,rfl,p,4,rfl,p5,by decide,by decide,fun r6 a6 b6 c6 l6 u6=>⟨_,_,rfl,rfl,dq _,fun u6' hu6=>?_⟩⟩
  have o6:L2.Off p H5 (upd H5 p (.lst [.int a6,.int b6,.int c6])):=Off.upd
  have p6:Pu (upd H5 p (.lst [.int a6,.int b6,.int c6])) p:=Pu.upd
  generalize upd H5 p (.lst [.int a6,.int b6,.int c6])=H6 at o6 p6 hu6 ⊢
  refine⟨p,u6',[],1+r6,rfl,p6.same (Same.new hu6),ak,by omega,by show 0+_≤25; omega,fun fl fs H7 hflN hfs nfs nmf hfl7 o7 p7=>?_⟩
  have o57:L2.Off p H5 H7:=o6.trans ((Off.new hu6).trans o7)
  have s7:=lO s5 o57 hpH
  have hdl7:=o57 dl _ dlp hdl5
  refine⟨_,rfl,_,rfl,_,rfl,_,rfl,p,dl,fl,n,ds,fs,?_,p7,hn1,hn7,hdl7,d11,hfl7,by omega,fun v tb H8 dv gt tbl o8 p8=>?_⟩
  ·show [V.ref p,V.int (1+r),V.ref dl,V.ref fl]=_
   rw [en]
  have s8:=lO s7 o8 hpH
  have hdl8:=o8 dl _ dlp hdl7
  have nmd:∀ x∈ds,Nm x:=fun x hx=>(nmd x hx).2
  refine⟨_,rfl,a,ns,rfl,K17.SqL.keep hS fun o e=>s8 a o e,hl,fun l ms H9 hl9 msl hlN s9=>⟨l,rfl,⟨_,SqL.of hl9⟩,?_⟩⟩
  refine nF (K:=K) (a:=l) (xs:=ms.map V.int) (fun i σ H4=>∃(v:V) (tb:List B.Row) (v6 v7 v8 v9 v10:Option V),σ=[some (.ref a),some (.ref p),some (.int (1+r)),some (.ref dl),some (.ref fl),some v,v6,v7,v8,v9,v10]∧Dp H4 (B.kW tb) v∧B.cD ds tb∧H4 dl=some (.lst (ds.map V.str))∧H4 l=some (.lst (ms.map V.int)))
   ⟨v,tb,_,_,_,_,_,rfl,dv.mono (Same.tups s9),gt,s9 dl _ hdl8,hl9⟩ (fun i σ H4 _ ⟨_,_,_,_,_,_,_,_,_,_,_,e⟩=>SqL.of e) ?_ ?_
  ·rintro i x σ H4 hi ⟨v,tb,v6,v7,v8,v9,v10,rfl,dv,G,hdl4,hl4⟩
   have hil:i < ms.length:=by
    have:=(bj.mp hi).1
    rwa [aa] at this
   have ex:x=.int ms[i]:=by
    rw [bc,ae hil] at hi
    exact(dE hi).symm
   subst ex
   refine⟨_,rfl,ms[i],rfl,fun pc a1 b1 c1 hpc=>?_⟩
   have t1:Same H4 (upd H4 pc (.lst [.int a1,.int b1,.int c1])):=Same.new hpc
   have q1:Pu (upd H4 pc (.lst [.int a1,.int b1,.int c1])) pc:=Pu.upd
   generalize upd H4 pc (.lst [.int a1,.int b1,.int c1])=H5 at t1 q1
   refine⟨_,rfl,_,rfl,pc,dl,v,tb,ds,rfl,q1,dv.mono (Same.tups t1),G,t1 dl _ hdl4,d1,d11,fun qc c H6 hc cw oc qp=>?_⟩
   have t2:Same H4 H6:=lO t1 oc hpc
   refine⟨_,rfl,_,rfl,v,qc,c,tb,ds,rfl,dv.mono (Same.tups t2),G,d11,cw,hc,fun H7 t3=>⟨rfl,_,rfl,?_⟩⟩
   have t23:=t2.trans t3
   show ite _ _ _
   refine eX (fun hb=>?_) (fun hb=>?_)
   rotate_left
   ·exact⟨v,tb,_,_,_,_,_,rfl,dv.mono (Same.tups t23),G,t23 dl _ hdl4,t23 l _ hl4⟩
   have hw:B.Hw tb c = "" := by
    have:=cy hb
    injection this
   have ok:=B.Nt G cw hw
   obtain ⟨rr,hrr,err⟩:=bg.mp cw.kind
   have err:rr.kind=c.kind:=err
   have hc7:=hc.same t3
   refine⟨_,rfl,_,rfl,v,qc,c,tb,ds,rr,rfl,dv.mono (Same.tups t23),G,d11,nmd,ok,hc7,hrr,err,fun qb H8 hcb t4=>?_⟩
   have t24:=t23.trans t4
   refine⟨_,rfl,_,rfl,_,rfl,v,qc,c,tb,ds,rr,rfl,dv.mono (Same.tups t24),G,hc7.same t4,hrr,err,fun qb2 H9 hcb2 t5=>?_⟩
   have G2:=G.Lr ok
   have okb:=B.K7 G ok hrr err
   refine⟨.ref qb,.ref qb2,chT (B.nH rr c),rfl,Dc G2 okb,xR (hcb.same t5),xR hcb2,fun HA t6=>⟨_,rfl,fY ?_⟩⟩
   have t2A:=t24.trans (t5.trans t6)
   have hcA:=(hc7.same t4).same (t5.trans t6)
   have hcbA:=(hcb.same t5).same t6
   refine⟨_,rfl,_,rfl,v,qc,c,tb,ds,rfl,dv.mono (Same.tups t2A),G,d11,nmd,ok,hcA,fun u HB du t7=>?_⟩
   have t2B:=t2A.trans t7
   obtain ⟨a',zs,ev,ha,dlt⟩:=L2.Dp.cR (dv.mono (Same.tups t2B))
   subst ev
   have hzl:zs.length=tb.length:=by have:=dlt.length; rwa [aa] at this
   have l7:tb.length≤7:=G.tb.len
   refine⟨_,rfl,a',rfl,⟨_,SqT.of ha⟩,fun D1 hD1=>?_⟩
   refine bA (n:=zs.length) (fun i ys H2=>DpL H2 (((tb.take i).map (B.JR c)).map B.gw) ys∧H2 D1=some (.lst ys)∧Same HB H2) ⟨.nil,ak,Same.new hD1⟩ ?_ ?_
   rotate_left
   ·rintro i ys H2 hi ⟨dy,hD2,s2⟩
    have hik:i < tb.length:=by omega
    obtain ⟨x,ex,dx⟩:=dlt.get (i:=i) (t:=B.gw tb[i]) (by rw [bc,ae hik]; rfl)
    refine⟨⟨_,_,SqT.of (s2 a' _ ha),ex⟩,?_⟩
    rintro y H3 ⟨rfl,yy⟩ σo ho
    obtain ⟨oo,rfl⟩:=own1 ho
    have ev:=yy _ (SqT.of (s2 a' _ ha))
    rw [ex] at ev
    cases ev
    obtain ⟨q,e,o,f,vd,rfl,hq,he,ho',hf,hd⟩:=K17.B.Dp.fJ (dx.mono (Same.tups s2))
    obtain ⟨x0,rest,hcq⟩:=((hcA.same t7).same s2).kind
    have yl:ys.length≤7:=by
     have:=dy.length
     rw [aa,aa,br] at this
     omega
    refine⟨⟨[_],rfl,rfl⟩,dB ?_⟩
    refine⟨_,rfl,5,rfl,q,_,rfl,SqT.of hq,by show ¬ (HT.sIx 6 0 none=0∧HT.sIx 6 6 (some 5)=6); decide,fun p hp=>?_⟩
    have sp:Same H3 (upd H3 p (.tup (eF [.str tb[i].kind,.ref e,.ref o,.ref f,vd,.int tb[i].num] none (some 5)))):=Same.new hp
    have hp1:(upd H3 p (.tup (eF [.str tb[i].kind,.ref e,.ref o,.ref f,vd,.int tb[i].num] none (some 5)))) p=some (.tup [.str tb[i].kind,.ref e,.ref o,.ref f,vd]):=by
     rw [ak,show eF [.str tb[i].kind,.ref e,.ref o,.ref f,vd,.int tb[i].num] none (some 5)=_ from qW _ 5]
     rfl
    generalize upd H3 p (.tup (eF [.str tb[i].kind,.ref e,.ref o,.ref f,vd,.int tb[i].num] none (some 5)))=H5 at sp hp1
    refine⟨_,rfl,q,_,_,_,rfl,rfl,SqT.of (sp q _ hq),aG (j:=5) rfl,_,rfl,qc,_,_,_,rfl,rfl,SqT.of (sp qc _ hcq),aG (j:=1) rfl,_,rfl,q,_,_,_,rfl,rfl,SqT.of (sp q _ hq),aG (j:=2) rfl,o,_,rfl,.inr (SqT.of (sp o _ ho')),rfl,cH _,.inr ⟨_,rfl,_,_,rfl,rfl,.inl ⟨by decide,by decide⟩,_,_,rfl,rfl,by show 1≤sizeLine; decide,fun p2 hp2=>?_⟩⟩
    refine⟨p,p2,_,_,rfl,rfl,(Same.new hp2) p _ hp1,ak,by show 5+1≤sizeLine; decide,fun p3 H6 hp3 s6=>?_⟩
    have s36:Same H3 H6:=(sp.trans (Same.new hp2)).trans s6
    have hD6:=s36 D1 _ hD2
    have tu:gD H6 (upd H6 D1 (.lst (ys++[.ref p3]))):=fun c zs z=>by
     rw [au (eG z hD6 (fun y=>nomatch y))]
     exact z
    refine⟨by omega,hD6,aR hi ⟨?_,ak,fun c u z=>?_⟩⟩
    ·rw [take_snoc hik,aw,aw]
     have dn:Dp H6 (B.gw (B.JR c tb[i])) (.ref p3):=by
      refine K17.B.Dp.Ia (e:=e) (o:=o) (f:=f) (d:=vd) ?_ (s36 e _ he) (s36 o _ ho') (s36 f _ hf) (hd.mono (Same.tups s36))
      rw [cB] at hp3
      exact hp3
     exact((dy.mono (Same.tups s36)).mono tu).append (.cons (dn.mono tu) .nil)
    ·rw [au (aB z hD1)]
     exact s36 c _ (s2 c _ z)
   ·rintro ys H2 ⟨dy,hD2,s2⟩
    rw [av (by omega)] at dy
    refine⟨⟨_,SqT.of (s2 a' _ ha),am _⟩,D1,_,rfl,.inl ⟨SqL.of hD2,fun qd hqd=>?_⟩⟩
    have sd:Same HB (upd H2 qd (.tup ys)):=s2.trans (Same.new hqd)
    have ddue:Dp (upd H2 qd (.tup ys)) (B.kW (tb.map (B.JR c))) (.ref qd):=L2.Dp.tup ak (dy.mono (Same.tups (Same.new hqd)))
    generalize upd H2 qd (.tup ys)=HC at sd ddue
    have hcbC:=(hcbA.same t7).same sd
    refine⟨_,rfl,_,rfl,u,qb,B.nH rr c,B.fX tb c,ds,rfl,du.mono (Same.tups sd),G2,d11,nmd,okb,hcbC,fun u2 HD du2 t8=>?_⟩
    rw [B.Gr G ok hrr err] at du2
    refine⟨_,rfl,u2,.ref qd,_,rfl,Gg G d11 _,du2,ddue.mono (Same.tups t8),fun HE t9=>⟨_,rfl,fY ?_⟩⟩
    have tCE:=t8.trans t9
    refine⟨_,rfl,_,rfl,u,qb,B.nH rr c,B.fX tb c,ds,B.jO tb c rr,rfl,du.mono (Same.tups (sd.trans tCE)),G2,d11,nmd,okb,hcbC.same tCE,d0 hrr,?_,fun qh HF hqh t10=>?_⟩
    ·rw [B.BL,← err]
     cases c <;> rfl
    rw [B.Fb G c hrr err] at hqh
    have hcF:=(((hcA.same t7).same sd).same tCE).same t10
    refine⟨_,rfl,.ref qh,.ref qc,chT c,rfl,Dc G ok,xR hqh,xR hcF,fun HG t11=>⟨_,rfl,fY ?_⟩⟩
    have tBG:=sd.trans (tCE.trans (t10.trans t11))
    have t2G:=t2B.trans tBG
    exact⟨_,rfl,u,B.fX tb c,_,_,_,_,_,rfl,du.mono (Same.tups tBG),G2,t2G dl _ hdl4,t2G l _ hl4⟩
  ·rintro σ H4 _
   exact k H4
theorem el1{α:Type}{C:List α→Prop}(h:∀ v0,C [v0]):∀ us:List α,us.length=1→C us
 | [v0],_=>h v0
theorem el2{α:Type}{C:List α→Prop}(h:∀ v0 v1,C [v0,v1]):∀ us:List α,us.length=2→C us
 | [v0,v1],_=>h v0 v1
theorem el3{α:Type}{C:List α→Prop}(h:∀ v0 v1 v2,C [v0,v1,v2]):∀ us:List α,us.length=3→C us
 | [v0,v1,v2],_=>h v0 v1 v2
theorem el4{α:Type}{C:List α→Prop}(h:∀ v0 v1 v2 v3,C [v0,v1,v2,v3]):∀ us:List α,us.length=4→C us
 | [v0,v1,v2,v3],_=>h v0 v1 v2 v3
theorem all_mk{l:PySem.W.OpenLaw}{w:World}{K:PySem.W.Frag}{h:Heap}{mg:Str→Option Value}{fa f0 f1 f2 f3 f4 f5 f6 f7 f8 f9 f10 f11 f12 f13 f14 f15 f16 f17 f18 f19 f20 f21 f22 f23 f24 f25 f26 f27 f28 f29 f30 f31 f32 f33 f34 f35 f36 f37 f38 f39 f40 f41 f42 f43 f44 f45 f46 f47 f48:Addr}{tkLETTERS tkMOST_LETTERS tkMOST_BODY:Tok}(X:K.In h)(G:h.Ns mainGlobals mg)(hfa:mg "law" = some (.ref fa))
  {od0 an0 od1 an1 od2 an2 od3 an3 od4 an4 od5 an5 od6 an6 od7 an7 od8 an8 od9 an9 od10 an10 od11 an11 od12 an12 od13 an13 od14 an14 od15 an15 od16 an16 od17 an17 od18 an18 od19 an19 od20 an20 od21 an21 od22 an22 od23 an23 od24 an24 od25 an25 od26 an26 od27 an27 od28 an28 od29 an29 od30 an30 od31 an31 od32 an32 od33 an33 od34 an34 od35 an35 od36 an36 od37 an37 od38 an38 od39 an39 od40 an40 od41 an41 od42 an42 od43 an43 od44 an44 od45 an45 od46 an46 od47 an47 od48 an48:Option Addr} {sl0 sl1 sl2 sl3 sl4 sl5 sl6 sl7 sl8 sl9 sl10 sl11 sl12 sl13 sl14 sl15 sl16 sl17 sl18 sl19 sl20 sl21 sl22 sl23 sl24 sl25 sl26 sl27 sl28 sl29 sl30 sl31 sl32 sl33 sl34 sl35 sl36 sl37 sl38 sl39 sl40 sl41 sl42 sl43 sl44 sl45 sl46 sl47 sl48:Array (Option Value)} {oc0 kV0 dc0 pm0 cd0 ct0 oc1 kV1 dc1 pm1 cd1 ct1 oc2 kV2 dc2 pm2 cd2 ct2 oc3 kV3 dc3 pm3 cd3 ct3 oc4 kV4 dc4 pm4 cd4 ct4 oc5 kV5 dc5 pm5 cd5 ct5 oc6 kV6 dc6 pm6 cd6 ct6 oc7 kV7 dc7 pm7 cd7 ct7 oc8 kV8 dc8 pm8 cd8 ct8 oc9 kV9 dc9 pm9 cd9 ct9 oc10 kV10 dc10 pm10 cd10 ct10 oc11 kV11 dc11 pm11 cd11 ct11 oc12 kV12 dc12 pm12 cd12 ct12 oc13 kV13 dc13 pm13 cd13 ct13 oc14 kV14 dc14 pm14 cd14 ct14 oc15 kV15 dc15 pm15 cd15 ct15 oc16 kV16 dc16 pm16 cd16 ct16 oc17 kV17 dc17 pm17 cd17 ct17 oc18 kV18 dc18 pm18 cd18 ct18 oc19 kV19 dc19 pm19 cd19 ct19 oc20 kV20 dc20 pm20 cd20 ct20 oc21 kV21 dc21 pm21 cd21 ct21 oc22 kV22 dc22 pm22 cd22 ct22 oc23 kV23 dc23 pm23 cd23 ct23 oc24 kV24 dc24 pm24 cd24 ct24 oc25 kV25 dc25 pm25 cd25 ct25 oc26 kV26 dc26 pm26 cd26 ct26 oc27 kV27 dc27 pm27 cd27 ct27 oc28 kV28 dc28 pm28 cd28 ct28 oc29 kV29 dc29 pm29 cd29 ct29 oc30 kV30 dc30 pm30 cd30 ct30 oc31 kV31 dc31 pm31 cd31 ct31 oc32 kV32 dc32 pm32 cd32 ct32 oc33 kV33 dc33 pm33 cd33 ct33 oc34 kV34 dc34 pm34 cd34 ct34 oc35 kV35 dc35 pm35 cd35 ct35 oc36 kV36 dc36 pm36 cd36 ct36 oc37 kV37 dc37 pm37 cd37 ct37 oc38 kV38 dc38 pm38 cd38 ct38 oc39 kV39 dc39 pm39 cd39 ct39 oc40 kV40 dc40 pm40 cd40 ct40 oc41 kV41 dc41 pm41 cd41 ct41 oc42 kV42 dc42 pm42 cd42 ct42 oc43 kV43 dc43 pm43 cd43 ct43 oc44 kV44 dc44 pm44 cd44 ct44 oc45 kV45 dc45 pm45 cd45 ct45 oc46 kV46 dc46 pm46 cd46 ct46 oc47 kV47 dc47 pm47 cd47 ct47 oc48 kV48 dc48 pm48 cd48 ct48:Value}
  (a0:PySem.W.nsIn K mainGlobals "is_whole" = some (some (.ref f0))) (l0:K.lookup f0=some ⟨oc0,od0,.func (PySem.W.fnOf "is_whole" "is_whole" (aK (top 7)) (aJ (top 7)) (aq (top 7)) .none kV0 dc0 pm0 an0 cd0 ct0),sl0⟩) (c0:PySem.W.codeIn K cd0 "is_whole" = true) (k0:PySem.W.keepIn K (.ref f0)=true)
  (a1:PySem.W.nsIn K mainGlobals "is_tuple_of" = some (some (.ref f1))) (l1:K.lookup f1=some ⟨oc1,od1,.func (PySem.W.fnOf "is_tuple_of" "is_tuple_of" (aK (top 8)) (aJ (top 8)) (aq (top 8)) .none kV1 dc1 pm1 an1 cd1 ct1),sl1⟩) (c1:PySem.W.codeIn K cd1 "is_tuple_of" = true) (k1:PySem.W.keepIn K (.ref f1)=true)
  (a2:PySem.W.nsIn K mainGlobals "is_name" = some (some (.ref f2))) (l2:K.lookup f2=some ⟨oc2,od2,.func (PySem.W.fnOf "is_name" "is_name" (aK (top 9)) (aJ (top 9)) (aq (top 9)) .none kV2 dc2 pm2 an2 cd2 ct2),sl2⟩) (c2:PySem.W.codeIn K cd2 "is_name" = true) (k2:PySem.W.keepIn K (.ref f2)=true)
  (a3:PySem.W.nsIn K mainGlobals "is_kind" = some (some (.ref f3))) (l3:K.lookup f3=some ⟨oc3,od3,.func (PySem.W.fnOf "is_kind" "is_kind" (aK (top 10)) (aJ (top 10)) (aq (top 10)) .none kV3 dc3 pm3 an3 cd3 ct3),sl3⟩) (c3:PySem.W.codeIn K cd3 "is_kind" = true) (k3:PySem.W.keepIn K (.ref f3)=true)
  (a4:PySem.W.nsIn K mainGlobals "are_kinds" = some (some (.ref f4))) (l4:K.lookup f4=some ⟨oc4,od4,.func (PySem.W.fnOf "are_kinds" "are_kinds" (aK (top 11)) (aJ (top 11)) (aq (top 11)) .none kV4 dc4 pm4 an4 cd4 ct4),sl4⟩) (c4:PySem.W.codeIn K cd4 "are_kinds" = true) (k4:PySem.W.keepIn K (.ref f4)=true)
  (a5:PySem.W.nsIn K mainGlobals "check_kind" = some (some (.ref f5))) (l5:K.lookup f5=some ⟨oc5,od5,.func (PySem.W.fnOf "check_kind" "check_kind" (aK (top 12)) (aJ (top 12)) (aq (top 12)) .none kV5 dc5 pm5 an5 cd5 ct5),sl5⟩) (c5:PySem.W.codeIn K cd5 "check_kind" = true) (k5:PySem.W.keepIn K (.ref f5)=true)
  (a6:PySem.W.nsIn K mainGlobals "kinds_of" = some (some (.ref f6))) (l6:K.lookup f6=some ⟨oc6,od6,.func (PySem.W.fnOf "kinds_of" "kinds_of" (aK (top 13)) (aJ (top 13)) (aq (top 13)) .none kV6 dc6 pm6 an6 cd6 ct6),sl6⟩) (c6:PySem.W.codeIn K cd6 "kinds_of" = true) (k6:PySem.W.keepIn K (.ref f6)=true)
  (a7:PySem.W.nsIn K mainGlobals "elders_first" = some (some (.ref f7))) (l7:K.lookup f7=some ⟨oc7,od7,.func (PySem.W.fnOf "elders_first" "elders_first" (aK (top 14)) (aJ (top 14)) (aq (top 14)) .none kV7 dc7 pm7 an7 cd7 ct7),sl7⟩) (c7:PySem.W.codeIn K cd7 "elders_first" = true) (k7:PySem.W.keepIn K (.ref f7)=true)
  (a8:PySem.W.nsIn K mainGlobals "reached_from" = some (some (.ref f8))) (l8:K.lookup f8=some ⟨oc8,od8,.func (PySem.W.fnOf "reached_from" "reached_from" (aK (top 15)) (aJ (top 15)) (aq (top 15)) .none kV8 dc8 pm8 an8 cd8 ct8),sl8⟩) (c8:PySem.W.codeIn K cd8 "reached_from" = true) (k8:PySem.W.keepIn K (.ref f8)=true)
  (a9:PySem.W.nsIn K mainGlobals "beneath" = some (some (.ref f9))) (l9:K.lookup f9=some ⟨oc9,od9,.func (PySem.W.fnOf "beneath" "beneath" (aK (top 16)) (aJ (top 16)) (aq (top 16)) .none kV9 dc9 pm9 an9 cd9 ct9),sl9⟩) (c9:PySem.W.codeIn K cd9 "beneath" = true) (k9:PySem.W.keepIn K (.ref f9)=true)
  (a10:PySem.W.nsIn K mainGlobals "tell_orders" = some (some (.ref f10))) (l10:K.lookup f10=some ⟨oc10,od10,.func (PySem.W.fnOf "tell_orders" "tell_orders" (aK (top 18)) (aJ (top 18)) (aq (top 18)) .none kV10 dc10 pm10 an10 cd10 ct10),sl10⟩) (c10:PySem.W.codeIn K cd10 "tell_orders" = true) (k10:PySem.W.keepIn K (.ref f10)=true)
  (a11:PySem.W.nsIn K mainGlobals "has_quarrel" = some (some (.ref f11))) (l11:K.lookup f11=some ⟨oc11,od11,.func (PySem.W.fnOf "has_quarrel" "has_quarrel" (aK (top 19)) (aJ (top 19)) (aq (top 19)) .none kV11 dc11 pm11 an11 cd11 ct11),sl11⟩) (c11:PySem.W.codeIn K cd11 "has_quarrel" = true) (k11:PySem.W.keepIn K (.ref f11)=true)
  (a12:PySem.W.nsIn K mainGlobals "quarrel_among" = some (some (.ref f12))) (l12:K.lookup f12=some ⟨oc12,od12,.func (PySem.W.fnOf "quarrel_among" "quarrel_among" (aK (top 20)) (aJ (top 20)) (aq (top 20)) .none kV12 dc12 pm12 an12 cd12 ct12),sl12⟩) (c12:PySem.W.codeIn K cd12 "quarrel_among" = true) (k12:PySem.W.keepIn K (.ref f12)=true)
  (a13:PySem.W.nsIn K mainGlobals "rows_by" = some (some (.ref f13))) (l13:K.lookup f13=some ⟨oc13,od13,.func (PySem.W.fnOf "rows_by" "rows_by" (aK (top 21)) (aJ (top 21)) (aq (top 21)) .none kV13 dc13 pm13 an13 cd13 ct13),sl13⟩) (c13:PySem.W.codeIn K cd13 "rows_by" = true) (k13:PySem.W.keepIn K (.ref f13)=true)
  (a14:PySem.W.nsIn K mainGlobals "merge_rows" = some (some (.ref f14))) (l14:K.lookup f14=some ⟨oc14,od14,.func (PySem.W.fnOf "merge_rows" "merge_rows" (aK (top 22)) (aJ (top 22)) (aq (top 22)) .none kV14 dc14 pm14 an14 cd14 ct14),sl14⟩) (c14:PySem.W.codeIn K cd14 "merge_rows" = true) (k14:PySem.W.keepIn K (.ref f14)=true)
  (a15:PySem.W.nsIn K mainGlobals "first_free" = some (some (.ref f15))) (l15:K.lookup f15=some ⟨oc15,od15,.func (PySem.W.fnOf "first_free" "first_free" (aK (top 23)) (aJ (top 23)) (aq (top 23)) .none kV15 dc15 pm15 an15 cd15 ct15),sl15⟩) (c15:PySem.W.codeIn K cd15 "first_free" = true) (k15:PySem.W.keepIn K (.ref f15)=true)
  (a16:PySem.W.nsIn K mainGlobals "ring_among" = some (some (.ref f16))) (l16:K.lookup f16=some ⟨oc16,od16,.func (PySem.W.fnOf "ring_among" "ring_among" (aK (top 24)) (aJ (top 24)) (aq (top 24)) .none kV16 dc16 pm16 an16 cd16 ct16),sl16⟩) (c16:PySem.W.codeIn K cd16 "ring_among" = true) (k16:PySem.W.keepIn K (.ref f16)=true)
  (a17:PySem.W.nsIn K mainGlobals "hold_of" = some (some (.ref f17))) (l17:K.lookup f17=some ⟨oc17,od17,.func (PySem.W.fnOf "hold_of" "hold_of" (aK (top 25)) (aJ (top 25)) (aq (top 25)) .none kV17 dc17 pm17 an17 cd17 ct17),sl17⟩) (c17:PySem.W.codeIn K cd17 "hold_of" = true) (k17:PySem.W.keepIn K (.ref f17)=true)
  (a18:PySem.W.nsIn K mainGlobals "family_of" = some (some (.ref f18))) (l18:K.lookup f18=some ⟨oc18,od18,.func (PySem.W.fnOf "family_of" "family_of" (aK (top 28)) (aJ (top 28)) (aq (top 28)) .none kV18 dc18 pm18 an18 cd18 ct18),sl18⟩) (c18:PySem.W.codeIn K cd18 "family_of" = true) (k18:PySem.W.keepIn K (.ref f18)=true)
  (a19:PySem.W.nsIn K mainGlobals "is_body_number" = some (some (.ref f19))) (l19:K.lookup f19=some ⟨oc19,od19,.func (PySem.W.fnOf "is_body_number" "is_body_number" (aK (top 29)) (aJ (top 29)) (aq (top 29)) .none kV19 dc19 pm19 an19 cd19 ct19),sl19⟩) (c19:PySem.W.codeIn K cd19 "is_body_number" = true) (k19:PySem.W.keepIn K (.ref f19)=true)
  (a20:PySem.W.nsIn K mainGlobals "row_at" = some (some (.ref f20))) (l20:K.lookup f20=some ⟨oc20,od20,.func (PySem.W.fnOf "row_at" "row_at" (aK (top 30)) (aJ (top 30)) (aq (top 30)) .none kV20 dc20 pm20 an20 cd20 ct20),sl20⟩) (c20:PySem.W.codeIn K cd20 "row_at" = true) (k20:PySem.W.keepIn K (.ref f20)=true)
  (a21:PySem.W.nsIn K mainGlobals "own_body" = some (some (.ref f21))) (l21:K.lookup f21=some ⟨oc21,od21,.func (PySem.W.fnOf "own_body" "own_body" (aK (top 31)) (aJ (top 31)) (aq (top 31)) .none kV21 dc21 pm21 an21 cd21 ct21),sl21⟩) (c21:PySem.W.codeIn K cd21 "own_body" = true) (k21:PySem.W.keepIn K (.ref f21)=true)
  (a22:PySem.W.nsIn K mainGlobals "changed" = some (some (.ref f22))) (l22:K.lookup f22=some ⟨oc22,od22,.func (PySem.W.fnOf "changed" "changed" (aK (top 33)) (aJ (top 33)) (aq (top 33)) .none kV22 dc22 pm22 an22 cd22 ct22),sl22⟩) (c22:PySem.W.codeIn K cd22 "changed" = true) (k22:PySem.W.keepIn K (.ref f22)=true)
  (a23:PySem.W.nsIn K mainGlobals "back" = some (some (.ref f23))) (l23:K.lookup f23=some ⟨oc23,od23,.func (PySem.W.fnOf "back" "back" (aK (top 34)) (aJ (top 34)) (aq (top 34)) .none kV23 dc23 pm23 an23 cd23 ct23),sl23⟩) (c23:PySem.W.codeIn K cd23 "back" = true) (k23:PySem.W.keepIn K (.ref f23)=true)
  (a24:PySem.W.nsIn K mainGlobals "is_change" = some (some (.ref f24))) (l24:K.lookup f24=some ⟨oc24,od24,.func (PySem.W.fnOf "is_change" "is_change" (aK (top 35)) (aJ (top 35)) (aq (top 35)) .none kV24 dc24 pm24 an24 cd24 ct24),sl24⟩) (c24:PySem.W.codeIn K cd24 "is_change" = true) (k24:PySem.W.keepIn K (.ref f24)=true)
  (a25:PySem.W.nsIn K mainGlobals "is_word" = some (some (.ref f25))) (l25:K.lookup f25=some ⟨oc25,od25,.func (PySem.W.fnOf "is_word" "is_word" (aK (top 36)) (aJ (top 36)) (aq (top 36)) .none kV25 dc25 pm25 an25 cd25 ct25),sl25⟩) (c25:PySem.W.codeIn K cd25 "is_word" = true) (k25:PySem.W.keepIn K (.ref f25)=true)
  (a26:PySem.W.nsIn K mainGlobals "is_own" = some (some (.ref f26))) (l26:K.lookup f26=some ⟨oc26,od26,.func (PySem.W.fnOf "is_own" "is_own" (aK (top 37)) (aJ (top 37)) (aq (top 37)) .none kV26 dc26 pm26 an26 cd26 ct26),sl26⟩) (c26:PySem.W.codeIn K cd26 "is_own" = true) (k26:PySem.W.keepIn K (.ref f26)=true)
  (a27:PySem.W.nsIn K mainGlobals "raised_by" = some (some (.ref f27))) (l27:K.lookup f27=some ⟨oc27,od27,.func (PySem.W.fnOf "raised_by" "raised_by" (aK (top 38)) (aJ (top 38)) (aq (top 38)) .none kV27 dc27 pm27 an27 cd27 ct27),sl27⟩) (c27:PySem.W.codeIn K cd27 "raised_by" = true) (k27:PySem.W.keepIn K (.ref f27)=true)
  (a28:PySem.W.nsIn K mainGlobals "with_raised" = some (some (.ref f28))) (l28:K.lookup f28=some ⟨oc28,od28,.func (PySem.W.fnOf "with_raised" "with_raised" (aK (top 39)) (aJ (top 39)) (aq (top 39)) .none kV28 dc28 pm28 an28 cd28 ct28),sl28⟩) (c28:PySem.W.codeIn K cd28 "with_raised" = true) (k28:PySem.W.keepIn K (.ref f28)=true)
  (a29:PySem.W.nsIn K mainGlobals "with_own" = some (some (.ref f29))) (l29:K.lookup f29=some ⟨oc29,od29,.func (PySem.W.fnOf "with_own" "with_own" (aK (top 40)) (aJ (top 40)) (aq (top 40)) .none kV29 dc29 pm29 an29 cd29 ct29),sl29⟩) (c29:PySem.W.codeIn K cd29 "with_own" = true) (k29:PySem.W.keepIn K (.ref f29)=true)
  (a30:PySem.W.nsIn K mainGlobals "with_elders" = some (some (.ref f30))) (l30:K.lookup f30=some ⟨oc30,od30,.func (PySem.W.fnOf "with_elders" "with_elders" (aK (top 41)) (aJ (top 41)) (aq (top 41)) .none kV30 dc30 pm30 an30 cd30 ct30),sl30⟩) (c30:PySem.W.codeIn K cd30 "with_elders" = true) (k30:PySem.W.keepIn K (.ref f30)=true)
  (a31:PySem.W.nsIn K mainGlobals "_law_cell" = some (some (.ref f31))) (l31:K.lookup f31=some ⟨oc31,od31,.func (PySem.W.fnOf "_law_cell" "_law_cell" (aK (top 43)) (aJ (top 43)) (aq (top 43)) .none kV31 dc31 pm31 an31 cd31 ct31),sl31⟩) (c31:PySem.W.codeIn K cd31 "_law_cell" = true) (k31:PySem.W.keepIn K (.ref f31)=true)
  (a32:PySem.W.nsIn K mainGlobals "_law_cells" = some (some (.ref f32))) (l32:K.lookup f32=some ⟨oc32,od32,.func (PySem.W.fnOf "_law_cells" "_law_cells" (aK (top 44)) (aJ (top 44)) (aq (top 44)) .none kV32 dc32 pm32 an32 cd32 ct32),sl32⟩) (c32:PySem.W.codeIn K cd32 "_law_cells" = true) (k32:PySem.W.keepIn K (.ref f32)=true)
  (a33:PySem.W.nsIn K mainGlobals "_law_purse" = some (some (.ref f33))) (l33:K.lookup f33=some ⟨oc33,od33,.func (PySem.W.fnOf "_law_purse" "_law_purse" (aK (top 45)) (aJ (top 45)) (aq (top 45)) .none kV33 dc33 pm33 an33 cd33 ct33),sl33⟩) (c33:PySem.W.codeIn K cd33 "_law_purse" = true) (k33:PySem.W.keepIn K (.ref f33)=true)
  (a34:PySem.W.nsIn K mainGlobals "_law_take" = some (some (.ref f34))) (l34:K.lookup f34=some ⟨oc34,od34,.func (PySem.W.fnOf "_law_take" "_law_take" (aK (top 46)) (aJ (top 46)) (aq (top 46)) .none kV34 dc34 pm34 an34 cd34 ct34),sl34⟩) (c34:PySem.W.codeIn K cd34 "_law_take" = true) (k34:PySem.W.keepIn K (.ref f34)=true)
  (a35:PySem.W.nsIn K mainGlobals "_law_word" = some (some (.ref f35))) (l35:K.lookup f35=some ⟨oc35,od35,.func (PySem.W.fnOf "_law_word" "_law_word" (aK (top 47)) (aJ (top 47)) (aq (top 47)) .none kV35 dc35 pm35 an35 cd35 ct35),sl35⟩) (c35:PySem.W.codeIn K cd35 "_law_word" = true) (k35:PySem.W.keepIn K (.ref f35)=true)
  (a36:PySem.W.nsIn K mainGlobals "_law_names" = some (some (.ref f36))) (l36:K.lookup f36=some ⟨oc36,od36,.func (PySem.W.fnOf "_law_names" "_law_names" (aK (top 48)) (aJ (top 48)) (aq (top 48)) .none kV36 dc36 pm36 an36 cd36 ct36),sl36⟩) (c36:PySem.W.codeIn K cd36 "_law_names" = true) (k36:PySem.W.keepIn K (.ref f36)=true)
  (a37:PySem.W.nsIn K mainGlobals "_law_some" = some (some (.ref f37))) (l37:K.lookup f37=some ⟨oc37,od37,.func (PySem.W.fnOf "_law_some" "_law_some" (aK (top 49)) (aJ (top 49)) (aq (top 49)) .none kV37 dc37 pm37 an37 cd37 ct37),sl37⟩) (c37:PySem.W.codeIn K cd37 "_law_some" = true) (k37:PySem.W.keepIn K (.ref f37)=true)
  (a38:PySem.W.nsIn K mainGlobals "_law_merge" = some (some (.ref f38))) (l38:K.lookup f38=some ⟨oc38,od38,.func (PySem.W.fnOf "_law_merge" "_law_merge" (aK (top 50)) (aJ (top 50)) (aq (top 50)) .none kV38 dc38 pm38 an38 cd38 ct38),sl38⟩) (c38:PySem.W.codeIn K cd38 "_law_merge" = true) (k38:PySem.W.keepIn K (.ref f38)=true)
  (a39:PySem.W.nsIn K mainGlobals "_law_elders" = some (some (.ref f39))) (l39:K.lookup f39=some ⟨oc39,od39,.func (PySem.W.fnOf "_law_elders" "_law_elders" (aK (top 51)) (aJ (top 51)) (aq (top 51)) .none kV39 dc39 pm39 an39 cd39 ct39),sl39⟩) (c39:PySem.W.codeIn K cd39 "_law_elders" = true) (k39:PySem.W.keepIn K (.ref f39)=true)
  (a40:PySem.W.nsIn K mainGlobals "_law_own" = some (some (.ref f40))) (l40:K.lookup f40=some ⟨oc40,od40,.func (PySem.W.fnOf "_law_own" "_law_own" (aK (top 52)) (aJ (top 52)) (aq (top 52)) .none kV40 dc40 pm40 an40 cd40 ct40),sl40⟩) (c40:PySem.W.codeIn K cd40 "_law_own" = true) (k40:PySem.W.keepIn K (.ref f40)=true)
  (a41:PySem.W.nsIn K mainGlobals "_law_table" = some (some (.ref f41))) (l41:K.lookup f41=some ⟨oc41,od41,.func (PySem.W.fnOf "_law_table" "_law_table" (aK (top 53)) (aJ (top 53)) (aq (top 53)) .none kV41 dc41 pm41 an41 cd41 ct41),sl41⟩) (c41:PySem.W.codeIn K cd41 "_law_table" = true) (k41:PySem.W.keepIn K (.ref f41)=true)
  (a42:PySem.W.nsIn K mainGlobals "_law_orders" = some (some (.ref f42))) (l42:K.lookup f42=some ⟨oc42,od42,.func (PySem.W.fnOf "_law_orders" "_law_orders" (aK (top 54)) (aJ (top 54)) (aq (top 54)) .none kV42 dc42 pm42 an42 cd42 ct42),sl42⟩) (c42:PySem.W.codeIn K cd42 "_law_orders" = true) (k42:PySem.W.keepIn K (.ref f42)=true)
  (a43:PySem.W.nsIn K mainGlobals "_law_change" = some (some (.ref f43))) (l43:K.lookup f43=some ⟨oc43,od43,.func (PySem.W.fnOf "_law_change" "_law_change" (aK (top 55)) (aJ (top 55)) (aq (top 55)) .none kV43 dc43 pm43 an43 cd43 ct43),sl43⟩) (c43:PySem.W.codeIn K cd43 "_law_change" = true) (k43:PySem.W.keepIn K (.ref f43)=true)
  (a44:PySem.W.nsIn K mainGlobals "_law_family_then" = some (some (.ref f44))) (l44:K.lookup f44=some ⟨oc44,od44,.func (PySem.W.fnOf "_law_family_then" "_law_family_then" (aK (top 56)) (aJ (top 56)) (aq (top 56)) .none kV44 dc44 pm44 an44 cd44 ct44),sl44⟩) (c44:PySem.W.codeIn K cd44 "_law_family_then" = true) (k44:PySem.W.keepIn K (.ref f44)=true)
  (a45:PySem.W.nsIn K mainGlobals "_law_why" = some (some (.ref f45))) (l45:K.lookup f45=some ⟨oc45,od45,.func (PySem.W.fnOf "_law_why" "_law_why" (aK (top 57)) (aJ (top 57)) (aq (top 57)) .none kV45 dc45 pm45 an45 cd45 ct45),sl45⟩) (c45:PySem.W.codeIn K cd45 "_law_why" = true) (k45:PySem.W.keepIn K (.ref f45)=true)
  (a46:PySem.W.nsIn K mainGlobals "_law_same" = some (some (.ref f46))) (l46:K.lookup f46=some ⟨oc46,od46,.func (PySem.W.fnOf "_law_same" "_law_same" (aK (top 58)) (aJ (top 58)) (aq (top 58)) .none kV46 dc46 pm46 an46 cd46 ct46),sl46⟩) (c46:PySem.W.codeIn K cd46 "_law_same" = true) (k46:PySem.W.keepIn K (.ref f46)=true)
  (a47:PySem.W.nsIn K mainGlobals "_law_back" = some (some (.ref f47))) (l47:K.lookup f47=some ⟨oc47,od47,.func (PySem.W.fnOf "_law_back" "_law_back" (aK (top 59)) (aJ (top 59)) (aq (top 59)) .none kV47 dc47 pm47 an47 cd47 ct47),sl47⟩) (c47:PySem.W.codeIn K cd47 "_law_back" = true) (k47:PySem.W.keepIn K (.ref f47)=true)
  (a48:PySem.W.nsIn K mainGlobals "law" = some (some (.ref f48))) (l48:K.lookup f48=some ⟨oc48,od48,.func (PySem.W.fnOf "law" "law" (aK (top 60)) (aJ (top 60)) (aq (top 60)) .none kV48 dc48 pm48 an48 cd48 ct48),sl48⟩) (c48:PySem.W.codeIn K cd48 "law" = true) (k48:PySem.W.keepIn K (.ref f48)=true)
  (z0:PySem.W.nsIn K mainGlobals "abs" = some none) (z1:PySem.W.nsIn K mainGlobals "all" = some none) (z2:PySem.W.nsIn K mainGlobals "any" = some none) (z3:PySem.W.nsIn K mainGlobals "bool" = some none) (z4:PySem.W.nsIn K mainGlobals "dict" = some none) (z5:PySem.W.nsIn K mainGlobals "enumerate" = some none) (z6:PySem.W.nsIn K mainGlobals "int" = some none) (z7:PySem.W.nsIn K mainGlobals "isinstance" = some none) (z8:PySem.W.nsIn K mainGlobals "len" = some none) (z9:PySem.W.nsIn K mainGlobals "list" = some none) (z10:PySem.W.nsIn K mainGlobals "max" = some none) (z11:PySem.W.nsIn K mainGlobals "min" = some none) (z12:PySem.W.nsIn K mainGlobals "range" = some none) (z13:PySem.W.nsIn K mainGlobals "set" = some none) (z14:PySem.W.nsIn K mainGlobals "sorted" = some none) (z15:PySem.W.nsIn K mainGlobals "str" = some none) (z16:PySem.W.nsIn K mainGlobals "tuple" = some none) (z17:PySem.W.nsIn K mainGlobals "zip" = some none)
  (yLETTERS:PySem.W.nsIn K mainGlobals "LETTERS" = some (some (.str abc tkLETTERS))) (yMOST_LETTERS:PySem.W.nsIn K mainGlobals "MOST_LETTERS" = some (some (.int 6 tkMOST_LETTERS))) (yMOST_BODY:PySem.W.nsIn K mainGlobals "MOST_BODY" = some (some (.int 99 tkMOST_BODY)))
  : ∃ fd:FuncData,(∀(s:Shared) (v:Value),BindsTo s fd ⟨[v],[]⟩ [("_law_script",v)])∧∀ base:Heap,K.In base→base.Ns mainGlobals mg→aW l.prog w K mg base CX0 8 fa fd ["_law_script"] (DK K):=by
 have e:=hfa.symm.trans (cf X G a48)
 cases e
 have F0:=bH (st:=top 7) l0 c0 k0
 have b0:=F0.binds (ps:=["thing"]) fun _ _ _ _ _ _=>el1 fun _=>rfl
 have F1:=bH (st:=top 8) l1 c1 k1
 have b1:=F1.binds (ps:=["thing","many"]) fun _ _ _ _ _ _=>el2 fun _ _=>rfl
 have F2:=bH (st:=top 9) l2 c2 k2
 have b2:=F2.binds (ps:=["thing"]) fun _ _ _ _ _ _=>el1 fun _=>rfl
 have F3:=bH (st:=top 10) l3 c3 k3
 have b3:=F3.binds (ps:=["thing","kinds"]) fun _ _ _ _ _ _=>el2 fun _ _=>rfl
 have F4:=bH (st:=top 11) l4 c4 k4
 have b4:=F4.binds (ps:=["thing","kinds"]) fun _ _ _ _ _ _=>el2 fun _ _=>rfl
 have F5:=bH (st:=top 12) l5 c5 k5
 have b5:=F5.binds (ps:=["kind","kinds"]) fun _ _ _ _ _ _=>el2 fun _ _=>rfl
 have F6:=bH (st:=top 13) l6 c6 k6
 have b6:=F6.binds (ps:=["rows"]) fun _ _ _ _ _ _=>el1 fun _=>rfl
 have F7:=bH (st:=top 14) l7 c7 k7
 have b7:=F7.binds (ps:=["family"]) fun _ _ _ _ _ _=>el1 fun _=>rfl
 have F8:=bH (st:=top 15) l8 c8 k8
 have b8:=F8.binds (ps:=["elders_of","kind"]) fun _ _ _ _ _ _=>el2 fun _ _=>rfl
 have F9:=bH (st:=top 16) l9 c9 k9
 have b9:=F9.binds (ps:=["family","kind"]) fun _ _ _ _ _ _=>el2 fun _ _=>rfl
 have F10:=bH (st:=top 18) l10 c10 k10
 have b10:=F10.binds (ps:=["family"]) fun _ _ _ _ _ _=>el1 fun _=>rfl
 have F11:=bH (st:=top 19) l11 c11 k11
 have b11:=F11.binds (ps:=["told"]) fun _ _ _ _ _ _=>el1 fun _=>rfl
 have F12:=bH (st:=top 20) l12 c12 k12
 have b12:=F12.binds (ps:=["kinds","told"]) fun _ _ _ _ _ _=>el2 fun _ _=>rfl
 have F13:=bH (st:=top 21) l13 c13 k13
 have b13:=F13.binds (ps:=["elders","told"]) fun _ _ _ _ _ _=>el2 fun _ _=>rfl
 have F14:=bH (st:=top 22) l14 c14 k14
 have b14:=F14.binds (ps:=["kind","rows"]) fun _ _ _ _ _ _=>el2 fun _ _=>rfl
 have F15:=bH (st:=top 23) l15 c15 k15
 have b15:=F15.binds (ps:=["left"]) fun _ _ _ _ _ _=>el1 fun _=>rfl
 have F16:=bH (st:=top 24) l16 c16 k16
 have b16:=F16.binds (ps:=["left"]) fun _ _ _ _ _ _=>el1 fun _=>rfl
 have F17:=bH (st:=top 25) l17 c17 k17
 have b17:=F17.binds (ps:=["name","left"]) fun _ _ _ _ _ _=>el2 fun _ _=>rfl
 have F18:=bH (st:=top 28) l18 c18 k18
 have b18:=F18.binds (ps:=["table"]) fun _ _ _ _ _ _=>el1 fun _=>rfl
 have F19:=bH (st:=top 29) l19 c19 k19
 have b19:=F19.binds (ps:=["thing"]) fun _ _ _ _ _ _=>el1 fun _=>rfl
 have F20:=bH (st:=top 30) l20 c20 k20
 have b20:=F20.binds (ps:=["table","kind"]) fun _ _ _ _ _ _=>el2 fun _ _=>rfl
 have F21:=bH (st:=top 31) l21 c21 k21
 have b21:=F21.binds (ps:=["row","deed"]) fun _ _ _ _ _ _=>el2 fun _ _=>rfl
 have F22:=bH (st:=top 33) l22 c22 k22
 have b22:=F22.binds (ps:=["table","change"]) fun _ _ _ _ _ _=>el2 fun _ _=>rfl
 have F23:=bH (st:=top 34) l23 c23 k23
 have b23:=F23.binds (ps:=["table","change"]) fun _ _ _ _ _ _=>el2 fun _ _=>rfl
 have F24:=bH (st:=top 35) l24 c24 k24
 have b24:=F24.binds (ps:=["table","thing"]) fun _ _ _ _ _ _=>el2 fun _ _=>rfl
 have F25:=bH (st:=top 36) l25 c25 k25
 have b25:=F25.binds (ps:=["thing","word"]) fun _ _ _ _ _ _=>el2 fun _ _=>rfl
 have F26:=bH (st:=top 37) l26 c26 k26
 have b26:=F26.binds (ps:=["deed","body"]) fun _ _ _ _ _ _=>el2 fun _ _=>rfl
 have F27:=bH (st:=top 38) l27 c27 k27
 have b27:=F27.binds (ps:=["table","kind"]) fun _ _ _ _ _ _=>el2 fun _ _=>rfl
 have F28:=bH (st:=top 39) l28 c28 k28
 have b28:=F28.binds (ps:=["table","kinds"]) fun _ _ _ _ _ _=>el2 fun _ _=>rfl
 have F29:=bH (st:=top 40) l29 c29 k29
 have b29:=F29.binds (ps:=["table","kind","deed","body"]) fun _ _ _ _ _ _=>el4 fun _ _ _ _=>rfl
 have F30:=bH (st:=top 41) l30 c30 k30
 have b30:=F30.binds (ps:=["table","kind","elders"]) fun _ _ _ _ _ _=>el3 fun _ _ _=>rfl
 have F31:=bH (st:=top 43) l31 c31 k31
 have b31:=F31.binds (ps:=["_law_script","_law_k"]) fun _ _ _ _ _ _=>el2 fun _ _=>rfl
 have F32:=bH (st:=top 44) l32 c32 k32
 have b32:=F32.binds (ps:=["_law_script","_law_first","_law_least","_law_most"]) fun _ _ _ _ _ _=>el4 fun _ _ _ _=>rfl
 have F33:=bH (st:=top 45) l33 c33 k33
 have b33:=F33.binds (ps:=["_law_cell_here"]) fun _ _ _ _ _ _=>el1 fun _=>rfl
 have F34:=bH (st:=top 46) l34 c34 k34
 have b34:=F34.binds (ps:=["_law_purse_here","_law_many"]) fun _ _ _ _ _ _=>el2 fun _ _=>rfl
 have F35:=bH (st:=top 47) l35 c35 k35
 have b35:=F35.binds (ps:=["_law_purse_here","_law_used"]) fun _ _ _ _ _ _=>el2 fun _ _=>rfl
 have F36:=bH (st:=top 48) l36 c36 k36
 have b36:=F36.binds (ps:=["_law_purse_here","_law_many","_law_used"]) fun _ _ _ _ _ _=>el3 fun _ _ _=>rfl
 have F37:=bH (st:=top 49) l37 c37 k37
 have b37:=F37.binds (ps:=["_law_purse_here","_law_menu","_law_most"]) fun _ _ _ _ _ _=>el3 fun _ _ _=>rfl
 have F38:=bH (st:=top 50) l38 c38 k38
 have b38:=F38.binds (ps:=["_law_kind","_law_rows"]) fun _ _ _ _ _ _=>el2 fun _ _=>rfl
 have F39:=bH (st:=top 51) l39 c39 k39
 have b39:=F39.binds (ps:=["_law_purse_here","_law_names_here","_law_shape","_law_orders_here"]) fun _ _ _ _ _ _=>el4 fun _ _ _ _=>rfl
 have F40:=bH (st:=top 52) l40 c40 k40
 have b40:=F40.binds (ps:=["_law_purse_here","_law_deeds"]) fun _ _ _ _ _ _=>el2 fun _ _=>rfl
 have F41:=bH (st:=top 53) l41 c41 k41
 have b41:=F41.binds (ps:=["_law_purse_here","_law_many","_law_deeds","_law_fields"]) fun _ _ _ _ _ _=>el4 fun _ _ _ _=>rfl
 have F42:=bH (st:=top 54) l42 c42 k42
 have b42:=F42.binds (ps:=["_law_family"]) fun _ _ _ _ _ _=>el1 fun _=>rfl
 have F43:=bH (st:=top 55) l43 c43 k43
 have b43:=F43.binds (ps:=["_law_purse_here","_law_table_here","_law_deeds"]) fun _ _ _ _ _ _=>el3 fun _ _ _=>rfl
 have F44:=bH (st:=top 56) l44 c44 k44
 have b44:=F44.binds (ps:=["_law_table_here","_law_change_here"]) fun _ _ _ _ _ _=>el2 fun _ _=>rfl
 have F45:=bH (st:=top 57) l45 c45 k45
 have b45:=F45.binds (ps:=["_law_table_here","_law_change_here"]) fun _ _ _ _ _ _=>el2 fun _ _=>rfl
 have F46:=bH (st:=top 58) l46 c46 k46
 have b46:=F46.binds (ps:=["_law_told","_law_due"]) fun _ _ _ _ _ _=>el2 fun _ _=>rfl
 have F47:=bH (st:=top 59) l47 c47 k47
 have b47:=F47.binds (ps:=["_law_table_here","_law_change_here"]) fun _ _ _ _ _ _=>el2 fun _ _=>rfl
 have F48:=bH (st:=top 60) l48 c48 k48
 have b48:=F48.binds (ps:=["_law_script"]) fun _ _ _ _ _ _=>el1 fun _=>rfl
 have T:Defs K mg ⟨(f0,PySem.W.fnOf "is_whole" "is_whole" (aK (top 7)) (aJ (top 7)) (aq (top 7)) .none kV0 dc0 pm0 an0 cd0 ct0),(f1,PySem.W.fnOf "is_tuple_of" "is_tuple_of" (aK (top 8)) (aJ (top 8)) (aq (top 8)) .none kV1 dc1 pm1 an1 cd1 ct1),(f2,PySem.W.fnOf "is_name" "is_name" (aK (top 9)) (aJ (top 9)) (aq (top 9)) .none kV2 dc2 pm2 an2 cd2 ct2),(f3,PySem.W.fnOf "is_kind" "is_kind" (aK (top 10)) (aJ (top 10)) (aq (top 10)) .none kV3 dc3 pm3 an3 cd3 ct3),(f4,PySem.W.fnOf "are_kinds" "are_kinds" (aK (top 11)) (aJ (top 11)) (aq (top 11)) .none kV4 dc4 pm4 an4 cd4 ct4),(f5,PySem.W.fnOf "check_kind" "check_kind" (aK (top 12)) (aJ (top 12)) (aq (top 12)) .none kV5 dc5 pm5 an5 cd5 ct5),(f6,PySem.W.fnOf "kinds_of" "kinds_of" (aK (top 13)) (aJ (top 13)) (aq (top 13)) .none kV6 dc6 pm6 an6 cd6 ct6),(f7,PySem.W.fnOf "elders_first" "elders_first" (aK (top 14)) (aJ (top 14)) (aq (top 14)) .none kV7 dc7 pm7 an7 cd7 ct7),(f8,PySem.W.fnOf "reached_from" "reached_from" (aK (top 15)) (aJ (top 15)) (aq (top 15)) .none kV8 dc8 pm8 an8 cd8 ct8),(f9,PySem.W.fnOf "beneath" "beneath" (aK (top 16)) (aJ (top 16)) (aq (top 16)) .none kV9 dc9 pm9 an9 cd9 ct9),(f10,PySem.W.fnOf "tell_orders" "tell_orders" (aK (top 18)) (aJ (top 18)) (aq (top 18)) .none kV10 dc10 pm10 an10 cd10 ct10),(f11,PySem.W.fnOf "has_quarrel" "has_quarrel" (aK (top 19)) (aJ (top 19)) (aq (top 19)) .none kV11 dc11 pm11 an11 cd11 ct11),(f12,PySem.W.fnOf "quarrel_among" "quarrel_among" (aK (top 20)) (aJ (top 20)) (aq (top 20)) .none kV12 dc12 pm12 an12 cd12 ct12),(f13,PySem.W.fnOf "rows_by" "rows_by" (aK (top 21)) (aJ (top 21)) (aq (top 21)) .none kV13 dc13 pm13 an13 cd13 ct13),(f14,PySem.W.fnOf "merge_rows" "merge_rows" (aK (top 22)) (aJ (top 22)) (aq (top 22)) .none kV14 dc14 pm14 an14 cd14 ct14),(f15,PySem.W.fnOf "first_free" "first_free" (aK (top 23)) (aJ (top 23)) (aq (top 23)) .none kV15 dc15 pm15 an15 cd15 ct15),(f16,PySem.W.fnOf "ring_among" "ring_among" (aK (top 24)) (aJ (top 24)) (aq (top 24)) .none kV16 dc16 pm16 an16 cd16 ct16),(f17,PySem.W.fnOf "hold_of" "hold_of" (aK (top 25)) (aJ (top 25)) (aq (top 25)) .none kV17 dc17 pm17 an17 cd17 ct17),(f18,PySem.W.fnOf "family_of" "family_of" (aK (top 28)) (aJ (top 28)) (aq (top 28)) .none kV18 dc18 pm18 an18 cd18 ct18),(f19,PySem.W.fnOf "is_body_number" "is_body_number" (aK (top 29)) (aJ (top 29)) (aq (top 29)) .none kV19 dc19 pm19 an19 cd19 ct19),(f20,PySem.W.fnOf "row_at" "row_at" (aK (top 30)) (aJ (top 30)) (aq (top 30)) .none kV20 dc20 pm20 an20 cd20 ct20),(f21,PySem.W.fnOf "own_body" "own_body" (aK (top 31)) (aJ (top 31)) (aq (top 31)) .none kV21 dc21 pm21 an21 cd21 ct21),(f22,PySem.W.fnOf "changed" "changed" (aK (top 33)) (aJ (top 33)) (aq (top 33)) .none kV22 dc22 pm22 an22 cd22 ct22),(f23,PySem.W.fnOf "back" "back" (aK (top 34)) (aJ (top 34)) (aq (top 34)) .none kV23 dc23 pm23 an23 cd23 ct23),(f24,PySem.W.fnOf "is_change" "is_change" (aK (top 35)) (aJ (top 35)) (aq (top 35)) .none kV24 dc24 pm24 an24 cd24 ct24),(f25,PySem.W.fnOf "is_word" "is_word" (aK (top 36)) (aJ (top 36)) (aq (top 36)) .none kV25 dc25 pm25 an25 cd25 ct25),(f26,PySem.W.fnOf "is_own" "is_own" (aK (top 37)) (aJ (top 37)) (aq (top 37)) .none kV26 dc26 pm26 an26 cd26 ct26),(f27,PySem.W.fnOf "raised_by" "raised_by" (aK (top 38)) (aJ (top 38)) (aq (top 38)) .none kV27 dc27 pm27 an27 cd27 ct27),(f28,PySem.W.fnOf "with_raised" "with_raised" (aK (top 39)) (aJ (top 39)) (aq (top 39)) .none kV28 dc28 pm28 an28 cd28 ct28),(f29,PySem.W.fnOf "with_own" "with_own" (aK (top 40)) (aJ (top 40)) (aq (top 40)) .none kV29 dc29 pm29 an29 cd29 ct29),(f30,PySem.W.fnOf "with_elders" "with_elders" (aK (top 41)) (aJ (top 41)) (aq (top 41)) .none kV30 dc30 pm30 an30 cd30 ct30),(f31,PySem.W.fnOf "_law_cell" "_law_cell" (aK (top 43)) (aJ (top 43)) (aq (top 43)) .none kV31 dc31 pm31 an31 cd31 ct31),(f32,PySem.W.fnOf "_law_cells" "_law_cells" (aK (top 44)) (aJ (top 44)) (aq (top 44)) .none kV32 dc32 pm32 an32 cd32 ct32),(f33,PySem.W.fnOf "_law_purse" "_law_purse" (aK (top 45)) (aJ (top 45)) (aq (top 45)) .none kV33 dc33 pm33 an33 cd33 ct33),(f34,PySem.W.fnOf "_law_take" "_law_take" (aK (top 46)) (aJ (top 46)) (aq (top 46)) .none kV34 dc34 pm34 an34 cd34 ct34),(f35,PySem.W.fnOf "_law_word" "_law_word" (aK (top 47)) (aJ (top 47)) (aq (top 47)) .none kV35 dc35 pm35 an35 cd35 ct35),(f36,PySem.W.fnOf "_law_names" "_law_names" (aK (top 48)) (aJ (top 48)) (aq (top 48)) .none kV36 dc36 pm36 an36 cd36 ct36),(f37,PySem.W.fnOf "_law_some" "_law_some" (aK (top 49)) (aJ (top 49)) (aq (top 49)) .none kV37 dc37 pm37 an37 cd37 ct37),(f38,PySem.W.fnOf "_law_merge" "_law_merge" (aK (top 50)) (aJ (top 50)) (aq (top 50)) .none kV38 dc38 pm38 an38 cd38 ct38),(f39,PySem.W.fnOf "_law_elders" "_law_elders" (aK (top 51)) (aJ (top 51)) (aq (top 51)) .none kV39 dc39 pm39 an39 cd39 ct39),(f40,PySem.W.fnOf "_law_own" "_law_own" (aK (top 52)) (aJ (top 52)) (aq (top 52)) .none kV40 dc40 pm40 an40 cd40 ct40),(f41,PySem.W.fnOf "_law_table" "_law_table" (aK (top 53)) (aJ (top 53)) (aq (top 53)) .none kV41 dc41 pm41 an41 cd41 ct41),(f42,PySem.W.fnOf "_law_orders" "_law_orders" (aK (top 54)) (aJ (top 54)) (aq (top 54)) .none kV42 dc42 pm42 an42 cd42 ct42),(f43,PySem.W.fnOf "_law_change" "_law_change" (aK (top 55)) (aJ (top 55)) (aq (top 55)) .none kV43 dc43 pm43 an43 cd43 ct43),(f44,PySem.W.fnOf "_law_family_then" "_law_family_then" (aK (top 56)) (aJ (top 56)) (aq (top 56)) .none kV44 dc44 pm44 an44 cd44 ct44),(f45,PySem.W.fnOf "_law_why" "_law_why" (aK (top 57)) (aJ (top 57)) (aq (top 57)) .none kV45 dc45 pm45 an45 cd45 ct45),(f46,PySem.W.fnOf "_law_same" "_law_same" (aK (top 58)) (aJ (top 58)) (aq (top 58)) .none kV46 dc46 pm46 an46 cd46 ct46),(f47,PySem.W.fnOf "_law_back" "_law_back" (aK (top 59)) (aJ (top 59)) (aq (top 59)) .none kV47 dc47 pm47 an47 cd47 ct47),(fa,PySem.W.fnOf "law" "law" (aK (top 60)) (aJ (top 60)) (aq (top 60)) .none kV48 dc48 pm48 an48 cd48 ct48)⟩:=⟨⟨F0,b0,cf X G a0⟩,⟨F1,b1,cf X G a1⟩,⟨F2,b2,cf X G a2⟩,⟨F3,b3,cf X G a3⟩,⟨F4,b4,cf X G a4⟩,⟨F5,b5,cf X G a5⟩,⟨F6,b6,cf X G a6⟩,⟨F7,b7,cf X G a7⟩,⟨F8,b8,cf X G a8⟩,⟨F9,b9,cf X G a9⟩,⟨F10,b10,cf X G a10⟩,⟨F11,b11,cf X G a11⟩,⟨F12,b12,cf X G a12⟩,⟨F13,b13,cf X G a13⟩,⟨F14,b14,cf X G a14⟩,⟨F15,b15,cf X G a15⟩,⟨F16,b16,cf X G a16⟩,⟨F17,b17,cf X G a17⟩,⟨F18,b18,cf X G a18⟩,⟨F19,b19,cf X G a19⟩,⟨F20,b20,cf X G a20⟩,⟨F21,b21,cf X G a21⟩,⟨F22,b22,cf X G a22⟩,⟨F23,b23,cf X G a23⟩,⟨F24,b24,cf X G a24⟩,⟨F25,b25,cf X G a25⟩,⟨F26,b26,cf X G a26⟩,⟨F27,b27,cf X G a27⟩,⟨F28,b28,cf X G a28⟩,⟨F29,b29,cf X G a29⟩,⟨F30,b30,cf X G a30⟩,⟨F31,b31,cf X G a31⟩,⟨F32,b32,cf X G a32⟩,⟨F33,b33,cf X G a33⟩,⟨F34,b34,cf X G a34⟩,⟨F35,b35,cf X G a35⟩,⟨F36,b36,cf X G a36⟩,⟨F37,b37,cf X G a37⟩,⟨F38,b38,cf X G a38⟩,⟨F39,b39,cf X G a39⟩,⟨F40,b40,cf X G a40⟩,⟨F41,b41,cf X G a41⟩,⟨F42,b42,cf X G a42⟩,⟨F43,b43,cf X G a43⟩,⟨F44,b44,cf X G a44⟩,⟨F45,b45,cf X G a45⟩,⟨F46,b46,cf X G a46⟩,⟨F47,b47,cf X G a47⟩,⟨F48,b48,cf X G a48⟩,eK X G z0,eK X G z1,eK X G z2,eK X G z3,eK X G z4,eK X G z5,eK X G z6,eK X G z7,eK X G z8,eK X G z9,eK X G z10,eK X G z11,eK X G z12,eK X G z13,eK X G z14,eK X G z15,eK X G z16,eK X G z17⟩
 have GL:Glb mg:=⟨⟨_,cf X G yLETTERS⟩,⟨_,cf X G yMOST_LETTERS⟩,⟨_,cf X G yMOST_BODY⟩⟩
 exact⟨PySem.W.fnOf "law" "law" (aK (top 60)) (aJ (top 60)) (aq (top 60)) .none kV48 dc48 pm48 an48 cd48 ct48,fun s v=>.of_eq rfl,fun base _ _=>Oa T GL⟩
theorem walk{l:PySem.W.OpenLaw}{q:Program}{loose:List Str}{XP:(Str→Option Value)→Heap→Prop}{YP:World→Heap→Prop}{d:DefRec}{K:Params→PySem.W.Frag}(hn:l.most=some 63)(hdf:d.params.defaults=[])
  (hY:∀(w:World) (h:Heap),YP w h→(K w.params).In h)
  (F:∀(w:World) (mg:Str→Option Value) (fa:Addr) (h:Heap),(K w.params).In h→h.Ns mainGlobals mg→mg d.name=some (.ref fa)→
   ∃ fd:FuncData,(∀(s:Shared) (u:Value),BindsTo s fd ⟨[u],[]⟩ [("_law_script",u)])∧∀ base:Heap,(K w.params).In base→base.Ns mainGlobals mg→aW l.prog w (K w.params) mg base CX0 8 fa fd ["_law_script"] (DK (K w.params))) :
  PySem.W.WalkO q loose XP YP l.row.toRowW d [] (fun f vs=>PySem.call f vs):=
 L2.K3 (n:=63) (k:=8) (x:= "_law_script") (CX:=fun _=>CX0) (sp:=fun w=>DK (K w.params)) hn (by decide) hdf ⟨rfl,by decide,by decide,rfl⟩ hY F (fun _ _ a ns hl _ hS=>⟨a,ns,rfl,hS,hl,fun _=>rfl⟩) fun _ _ _ _ _ z=>z
end
end K17
theorem PySem.W.Fast.tw1003470120498456824 : True := trivial
theorem PySem.W.Fast.tw12747619208218347773 : True := trivial
theorem PySem.W.Fast.tw1911526388558313693 : True := trivial
theorem PySem.W.Fast.tw13247162213963959180 : True := trivial
theorem PySem.W.Fast.tw18391756959572668761 : True := trivial
theorem PySem.W.Fast.tw7772361695534300188 : True := trivial
theorem PySem.W.Fast.tw17570799880974921113 : True := trivial
theorem PySem.W.Fast.tw15006185283750683134 : True := trivial
theorem PySem.W.Fast.tw16302715352894214460 : True := trivial
theorem PySem.W.Fast.tw4316995426812009632 : True := trivial
theorem PySem.W.Fast.tw5103829267742254011 : True := trivial
theorem PySem.W.Fast.tw15180752519493025223 : True := trivial
theorem PySem.W.Fast.tw5291557878263337392 : True := trivial
theorem PySem.W.Fast.tw7671333544205922273 : True := trivial
theorem PySem.W.Fast.tw14349683820686337978 : True := trivial
theorem PySem.W.Fast.tw17888171954112565902 : True := trivial
theorem PySem.W.Fast.tw16212422782918775227 : True := trivial
theorem PySem.W.Fast.tw4027722214020393377 : True := trivial
theorem PySem.W.Fast.tw4316147225640053165 : True := trivial
theorem PySem.W.Fast.tw5977196007270750941 : True := trivial
theorem PySem.W.Fast.tw8668225081602264228 : True := trivial
theorem PySem.W.Fast.tw8078137259242753843 : True := trivial
theorem PySem.W.Fast.tw2893957303533418454 : True := trivial
theorem PySem.W.Fast.tw12768631166797920805 : True := trivial
theorem PySem.W.Fast.tw16422595291111186211 : True := trivial
theorem PySem.W.Fast.tw15377153478303316769 : True := trivial
theorem PySem.W.Fast.tw4531304682528939689 : True := trivial
theorem PySem.W.Fast.tw5086193053741300222 : True := trivial
theorem PySem.W.Fast.tw10757617209884190735 : True := trivial
theorem PySem.W.Fast.tw9415155901965371964 : True := trivial
theorem PySem.W.Fast.tw14904995002255794441 : True := trivial
theorem PySem.W.Fast.tw18440182206305904093 : True := trivial
theorem PySem.W.Fast.tw968585185913206611 : True := trivial
theorem PySem.W.Fast.tw16945515554471330559 : True := trivial
theorem PySem.W.Fast.tw16253178266334271334 : True := trivial
theorem PySem.W.Fast.tw15571104362076822700 : True := trivial
theorem PySem.W.Fast.tw17742928261884595729 : True := trivial
theorem PySem.W.Fast.tw1438806003428591860 : True := trivial
theorem PySem.W.Fast.tw8066374021890620169 : True := trivial
theorem PySem.W.Fast.tw3907384400980397884 : True := trivial
theorem PySem.W.Fast.tw1275987747372943011 : True := trivial
theorem PySem.W.Fast.tw8072222757727055673 : True := trivial
theorem PySem.W.Fast.tw2436215481670424246 : True := trivial
theorem PySem.W.Fast.tw380506658232040557 : True := trivial
theorem PySem.W.Fast.tw8255643425894244180 : True := trivial
theorem PySem.W.Fast.tw12944045905694510054 : True := trivial
theorem PySem.W.Fast.tw7193446720584859169 : True := trivial
theorem PySem.W.Fast.tw18114111299494608001 : True := trivial
theorem PySem.W.Fast.tw16109169198277358395 : True := trivial
theorem PySem.W.Fast.tw5811621408466916859 : True := trivial
theorem PySem.W.Fast.tw6362142663955511096 : True := trivial
theorem PySem.W.Fast.tw2789222905255148333 : True := trivial
theorem PySem.W.Fast.tw14925854432501045966 : True := trivial
theorem PySem.W.Fast.tw90755917560587771 : True := trivial
theorem PySem.W.Fast.tw15271245902286911521 : True := trivial
theorem PySem.W.Fast.tw11102216216092978239 : True := trivial
theorem PySem.W.Fast.tw13017632379155738255 : True := trivial
open PySem PySem.W PyProof.Rows
set_option maxRecDepth 100000 in
set_option maxHeartbeats 0 in
theorem PySem.Challenge.cw_warmrows_k17_changes_back_holds : PySem.Challenge.rw_warmrows_k17_changes_back.Holds := by
 w_on; o_law; k_head; (case hw=>w_witness2)
 k_fill
 refine K17.walk (l:=PySem.Challenge.rw_warmrows_k17_changes_back) rfl rfl (fun w h Y=>PySem.W.kIn_of Y) ?F
 case F=>
  intro w mg fa h KX G hmg
  refine' K17.all_mk KX G hmg ?a0 ?l0 ?c0 ?k0 ?a1 ?l1 ?c1 ?k1 ?a2 ?l2 ?c2 ?k2 ?a3 ?l3 ?c3 ?k3 ?a4 ?l4 ?c4 ?k4 ?a5 ?l5 ?c5 ?k5 ?a6 ?l6 ?c6 ?k6 ?a7 ?l7 ?c7 ?k7 ?a8 ?l8 ?c8 ?k8 ?a9 ?l9 ?c9 ?k9 ?a10 ?l10 ?c10 ?k10 ?a11 ?l11 ?c11 ?k11 ?a12 ?l12 ?c12 ?k12 ?a13 ?l13 ?c13 ?k13 ?a14 ?l14 ?c14 ?k14 ?a15 ?l15 ?c15 ?k15 ?a16 ?l16 ?c16 ?k16 ?a17 ?l17 ?c17 ?k17 ?a18 ?l18 ?c18 ?k18 ?a19 ?l19 ?c19 ?k19 ?a20 ?l20 ?c20 ?k20 ?a21 ?l21 ?c21 ?k21 ?a22 ?l22 ?c22 ?k22 ?a23 ?l23 ?c23 ?k23 ?a24 ?l24 ?c24 ?k24 ?a25 ?l25 ?c25 ?k25 ?a26 ?l26 ?c26 ?k26 ?a27 ?l27 ?c27 ?k27 ?a28 ?l28 ?c28 ?k28 ?a29 ?l29 ?c29 ?k29 ?a30 ?l30 ?c30 ?k30 ?a31 ?l31 ?c31 ?k31 ?a32 ?l32 ?c32 ?k32 ?a33 ?l33 ?c33 ?k33 ?a34 ?l34 ?c34 ?k34 ?a35 ?l35 ?c35 ?k35 ?a36 ?l36 ?c36 ?k36 ?a37 ?l37 ?c37 ?k37 ?a38 ?l38 ?c38 ?k38 ?a39 ?l39 ?c39 ?k39 ?a40 ?l40 ?c40 ?k40 ?a41 ?l41 ?c41 ?k41 ?a42 ?l42 ?c42 ?k42 ?a43 ?l43 ?c43 ?k43 ?a44 ?l44 ?c44 ?k44 ?a45 ?l45 ?c45 ?k45 ?a46 ?l46 ?c46 ?k46 ?a47 ?l47 ?c47 ?k47 ?a48 ?l48 ?c48 ?k48 ?z0 ?z1 ?z2 ?z3 ?z4 ?z5 ?z6 ?z7 ?z8 ?z9 ?z10 ?z11 ?z12 ?z13 ?z14 ?z15 ?z16 ?z17   ?yLETTERS ?yMOST_LETTERS ?yMOST_BODY
  (case a0=>k_is); (case l0=>k_is); (case c0=>k_is); (case k0=>k_is)
  (case a1=>k_is); (case l1=>k_is); (case c1=>k_is); (case k1=>k_is)
  (case a2=>k_is); (case l2=>k_is); (case c2=>k_is); (case k2=>k_is)
  (case a3=>k_is); (case l3=>k_is); (case c3=>k_is); (case k3=>k_is)
  (case a4=>k_is); (case l4=>k_is); (case c4=>k_is); (case k4=>k_is)
  (case a5=>k_is); (case l5=>k_is); (case c5=>k_is); (case k5=>k_is)
  (case a6=>k_is); (case l6=>k_is); (case c6=>k_is); (case k6=>k_is)
  (case a7=>k_is); (case l7=>k_is); (case c7=>k_is); (case k7=>k_is)
  (case a8=>k_is); (case l8=>k_is); (case c8=>k_is); (case k8=>k_is)
  (case a9=>k_is); (case l9=>k_is); (case c9=>k_is); (case k9=>k_is)
  (case a10=>k_is); (case l10=>k_is); (case c10=>k_is); (case k10=>k_is)
  (case a11=>k_is); (case l11=>k_is); (case c11=>k_is); (case k11=>k_is)
  (case a12=>k_is); (case l12=>k_is); (case c12=>k_is); (case k12=>k_is)
  (case a13=>k_is); (case l13=>k_is); (case c13=>k_is); (case k13=>k_is)
  (case a14=>k_is); (case l14=>k_is); (case c14=>k_is); (case k14=>k_is)
  (case a15=>k_is); (case l15=>k_is); (case c15=>k_is); (case k15=>k_is)
  (case a16=>k_is); (case l16=>k_is); (case c16=>k_is); (case k16=>k_is)
  (case a17=>k_is); (case l17=>k_is); (case c17=>k_is); (case k17=>k_is)
  (case a18=>k_is); (case l18=>k_is); (case c18=>k_is); (case k18=>k_is)
  (case a19=>k_is); (case l19=>k_is); (case c19=>k_is); (case k19=>k_is)
  (case a20=>k_is); (case l20=>k_is); (case c20=>k_is); (case k20=>k_is)
  (case a21=>k_is); (case l21=>k_is); (case c21=>k_is); (case k21=>k_is)
  (case a22=>k_is); (case l22=>k_is); (case c22=>k_is); (case k22=>k_is)
  (case a23=>k_is); (case l23=>k_is); (case c23=>k_is); (case k23=>k_is)
  (case a24=>k_is); (case l24=>k_is); (case c24=>k_is); (case k24=>k_is)
  (case a25=>k_is); (case l25=>k_is); (case c25=>k_is); (case k25=>k_is)
  (case a26=>k_is); (case l26=>k_is); (case c26=>k_is); (case k26=>k_is)
  (case a27=>k_is); (case l27=>k_is); (case c27=>k_is); (case k27=>k_is)
  (case a28=>k_is); (case l28=>k_is); (case c28=>k_is); (case k28=>k_is)
  (case a29=>k_is); (case l29=>k_is); (case c29=>k_is); (case k29=>k_is)
  (case a30=>k_is); (case l30=>k_is); (case c30=>k_is); (case k30=>k_is)
  (case a31=>k_is); (case l31=>k_is); (case c31=>k_is); (case k31=>k_is)
  (case a32=>k_is); (case l32=>k_is); (case c32=>k_is); (case k32=>k_is)
  (case a33=>k_is); (case l33=>k_is); (case c33=>k_is); (case k33=>k_is)
  (case a34=>k_is); (case l34=>k_is); (case c34=>k_is); (case k34=>k_is)
  (case a35=>k_is); (case l35=>k_is); (case c35=>k_is); (case k35=>k_is)
  (case a36=>k_is); (case l36=>k_is); (case c36=>k_is); (case k36=>k_is)
  (case a37=>k_is); (case l37=>k_is); (case c37=>k_is); (case k37=>k_is)
  (case a38=>k_is); (case l38=>k_is); (case c38=>k_is); (case k38=>k_is)
  (case a39=>k_is); (case l39=>k_is); (case c39=>k_is); (case k39=>k_is)
  (case a40=>k_is); (case l40=>k_is); (case c40=>k_is); (case k40=>k_is)
  (case a41=>k_is); (case l41=>k_is); (case c41=>k_is); (case k41=>k_is)
  (case a42=>k_is); (case l42=>k_is); (case c42=>k_is); (case k42=>k_is)
  (case a43=>k_is); (case l43=>k_is); (case c43=>k_is); (case k43=>k_is)
  (case a44=>k_is); (case l44=>k_is); (case c44=>k_is); (case k44=>k_is)
  (case a45=>k_is); (case l45=>k_is); (case c45=>k_is); (case k45=>k_is)
  (case a46=>k_is); (case l46=>k_is); (case c46=>k_is); (case k46=>k_is)
  (case a47=>k_is); (case l47=>k_is); (case c47=>k_is); (case k47=>k_is)
  (case a48=>k_is); (case l48=>k_is); (case c48=>k_is); (case k48=>k_is)
  (case z0=>k_is); (case z1=>k_is); (case z2=>k_is); (case z3=>k_is); (case z4=>k_is); (case z5=>k_is); (case z6=>k_is); (case z7=>k_is); (case z8=>k_is); (case z9=>k_is); (case z10=>k_is); (case z11=>k_is); (case z12=>k_is); (case z13=>k_is); (case z14=>k_is); (case z15=>k_is); (case z16=>k_is); (case z17=>k_is)
  (case yLETTERS=>k_is); (case yMOST_LETTERS=>k_is); (case yMOST_BODY=>k_is)
end
