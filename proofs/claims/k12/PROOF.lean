import PyProof.Rows.All
import Wide.All
import OpenK.AllK
import Wide.FinOn
import Lean
import PyProof.EqAt
import PyProof.EqKinds
import PyProof.TupleCall
import KE.KTryMore
import PyProof.ExcAttrAll.ValueError
import PyProof.ExcBaseAll.ValueError
import PyProof.DictWalks
import PyProof.EnumIter
import PyProof.EnumFor
import PyProof.EnumMake
import PyProof.AttrMissHeap
import KE.KDictOf
import KE.KDictList
import PyProof.StrOps2
import KE.KSortTup
import PyProof.NeKinds
import PyProof.ReprRoads
import PyProof.CallFns
import PyProof.StrLawsRepr
import PyProof.Rows.SortStr
import PyProof.TupleOfSeq
import PyProof.ZipIter
import PyProof.Rows.StrJoinMade
import PyProof.Rows.SetFrom
import PyProof.WalksMore
import PyProof.Rows.StrClose
import PyProof.Rows.CatFin
import PyProof.StrLawsIn
import PyProof.FactsAll.dict_1
import PySem.Challenge.RW_warmrows_k12_no_kinds_and_tables_of_fami
set_option Elab.async false
set_option linter.all false
set_option maxRecDepth 100000
set_option maxHeartbeats 4000000
section
namespace L2
open PySem PySem.Spec PyProof.Rows
abbrev Key:=Sum Int Str
def uy:Key→Value→Bool
 | .inl k,v=>Value.isInt k v
 | .inr x,v=>Value.isStrOf x v
def Ol(w:World):Key→Int
 | .inl k=>hashInt k
 | .inr x=>hashStr w x
theorem dJ:∀ {k:Key} {v:Value},uy k v=true→(∃ i t,k=Sum.inl i∧v=Value.int i t)∨(∃ x t,k=Sum.inr x∧v=Value.str x t)
 | .inl i,v,h=>by
  obtain ⟨t,e⟩:=Value.isInt_shape (k:=i) (v:=v) h
  exact .inl ⟨i,t,rfl,e⟩
 | .inr x,v,h=>by
  obtain ⟨t,e⟩:=Value.isStrOf_shape (x:=x) (v:=v) h
  exact .inr ⟨x,t,rfl,e⟩
theorem CN(i:Int)(t:Tok):uy (.inl i) (.int i t)=true:=by simp [uy,Value.isInt]
theorem Dr(x:Str)(t:Tok):uy (.inr x) (.str x t)=true:=by simp [uy,Value.isStrOf]
theorem Km(a b:Int):decide ((Sum.inl a:Key)=Sum.inl b)=(a == b):=by
 by_cases e:a=b
 ·subst e; simp
 ·have h:¬ (Sum.inl a:Key)=Sum.inl b:=fun q=>e (Sum.inl.inj q)
  rw [decide_eq_false h]
  exact(beq_eq_false_iff_ne.mpr e).symm
theorem Ky(a b:Str):decide ((Sum.inr a:Key)=Sum.inr b)=decide (a=b):=by
 by_cases e:a=b
 ·subst e; simp
 ·have h:¬ (Sum.inr a:Key)=Sum.inr b:=fun q=>e (Sum.inr.inj q)
  rw [decide_eq_false h,decide_eq_false e]
theorem Kv(a:Int)(b:Str):decide ((Sum.inl a:Key)=Sum.inr b)=false:=decide_eq_false (fun q=>nomatch q)
theorem KR(a:Str)(b:Int):decide ((Sum.inr a:Key)=Sum.inl b)=false:=decide_eq_false (fun q=>nomatch q)
def cP(prog:Program)(w:World):PySem.KeyKind prog w Key where
 is:=uy
 hash:=Ol w
 inj:=fun v a b ha hb=>by
  rcases dJ ha with ⟨i,t,rfl,rfl⟩ | ⟨x,t,rfl,rfl⟩
  ·rcases dJ hb with ⟨j,u,rfl,e⟩ | ⟨y,u,rfl,e⟩
   ·injection e with e1 _; rw [e1]
   ·exact nomatch e
  ·rcases dJ hb with ⟨j,u,rfl,e⟩ | ⟨y,u,rfl,e⟩
   ·exact nomatch e
   ·injection e with e1 _; rw [e1]
 byValue:=fun k v h=>by
  rcases dJ h with ⟨i,t,rfl,rfl⟩ | ⟨x,t,rfl,rfl⟩ <;> rfl
 pyHash:=fun hv h=>by
  rcases dJ hv with ⟨i,t,rfl,rfl⟩ | ⟨x,t,rfl,rfl⟩
  ·exact wpAny_pyHash_int h
  ·exact wpAny_pyHash_str h
 eqBool:=fun hu hv h=>by
  rcases dJ hu with ⟨i,t,rfl,rfl⟩ | ⟨x,t,rfl,rfl⟩
  ·rcases dJ hv with ⟨j,u,rfl,rfl⟩ | ⟨y,u,rfl,rfl⟩
   ·rw [Km] at h; exact wpAny_eqBool_int h
   ·rw [Kv] at h; exact SeqAt.EqAt.int_str i t y u _ _ _ _ h
  ·rcases dJ hv with ⟨j,u,rfl,rfl⟩ | ⟨y,u,rfl,rfl⟩
   ·rw [KR] at h; exact SeqAt.EqAt.str_int x t j u _ _ _ _ h
   ·rw [Ky] at h; exact wpAny_eqBool_str h
 «strs»:=fun k x t v h=>by
  rcases dJ h with ⟨i,u,rfl,e⟩ | ⟨y,u,rfl,e⟩
  ·exact nomatch e
  ·injection e with e1 _
   subst e1
   cases v <;> rfl
theorem Av(prog:Program)(w:World)(k:Key)(v:Value):(cP prog w).is k v=uy k v:=rfl
theorem yN(prog:Program)(w:World)(i:Int)(t:Tok):(cP prog w).is (.inl i) (.int i t)=true:=CN i t
theorem yc(prog:Program)(w:World)(x:Str)(t:Tok):(cP prog w).is (.inr x) (.str x t)=true:=Dr x t
end L2
namespace L2
open PySem PySem.Spec PyProof.Rows
inductive V where
 | non | bl (b:Bool) | int (i:Int) | str (x:Str) | byt (b:Array UInt8) | flt (b:UInt64) | ref (a:Addr) | ty (n:String)
 deriving DecidableEq
def RelV:V→Value→Prop
 | .non,u=>u=Value.none
 | .bl b,u=>u=Value.bool b
 | .int i,u=>∃ t,u=Value.int i t
 | .str x,u=>∃ t,u=Value.str x t
 | .byt b,u=>∃ t,u=Value.bytes b t
 | .flt b,u=>∃ t,u=Value.float b t
 | .ref a,u=>u=Value.ref a
 | .ty n,u=>u=Value.type n
abbrev Vals:List V→List Value→Prop:=Paired RelV
theorem Vals.length{xs:List V}{us:List Value}(r:Vals xs us):xs.length=us.length:=Paired.length r
theorem Vals.get:∀ {xs:List V} {us:List Value} {i:Nat} {x:V},Vals xs us→xs[i]?=some x→∃ u,us[i]?=some u∧RelV x u
 | _,_,_,_,.nil,e=>by simp at e
 | _,_,0,_,.cons r _,e=>by simp at e; subst e; exact⟨_,rfl,r⟩
 | _,_,i+1,x,.cons _ t,e=>by
  obtain ⟨u,h1,h2⟩:=Vals.get (i:=i) (x:=x) t (by simpa using e)
  exact⟨u,by simpa using h1,h2⟩
theorem Vals.set{x:V}{u:Value}(r:RelV x u):∀ {xs:List V} {us:List Value} (i:Nat),Vals xs us→Vals (xs.set i x) (us.set i u)
 | _,_,_,.nil=>.nil
 | _,_,0,.cons _ t=>.cons r t
 | _,_,i+1,.cons q t=>.cons q (Vals.set r i t)
theorem Vals.append:∀ {xs ys:List V} {us ws:List Value},Vals xs us→Vals ys ws→Vals (xs++ys) (us++ws)
 | _,_,_,_,.nil,s=>s
 | _,_,_,_,.cons r t,s=>.cons r (Vals.append t s)
theorem Vals.take:∀ {xs:List V} {us:List Value} (n:Nat),Vals xs us→Vals (xs.take n) (us.take n)
 | _,_,0,_=>.nil
 | _,_,_+1,.nil=>.nil
 | _,_,n+1,.cons r t=>.cons r (Vals.take n t)
theorem Vals.drop:∀ {xs:List V} {us:List Value} (n:Nat),Vals xs us→Vals (xs.drop n) (us.drop n)
 | _,_,0,r=>r
 | _,_,_+1,.nil=>.nil
 | _,_,n+1,.cons _ t=>Vals.drop n t
def tL:Option V→Option Value→Prop
 | some v,some u=>RelV v u
 | none,none=>True
 | _,_=>False
def KV{κ:Type}:List (κ × V)→List (κ × Value)→Prop:=Paired fun(p:κ × V) (q:κ × Value)=>p.1=q.1∧RelV p.2 q.2
def kV:Key→V
 | .inl i=>.int i
 | .inr x=>.str x
inductive HO where
 | lst (xs:List V)
 | tup (xs:List V)
 | dK (kvs:List (Key × V)) | dT (kvs:List (List Key × V))
 | set (S:Int→Bool) (n:Nat)
 | ins (C dx:Addr) (fs:List (Str × V))
 | own (x:Addr)
 | xd (fs:List (Str × V))
 | met (f x:Addr)
 | rng (lo hi:Int)
 | frz (o:Obj) (u:HO)
 | tbl (ps:Array Value)
 | ext (φ:Heap→Prop)
abbrev Hp:=Addr→Option HO
def upd(H:Hp)(a:Addr)(o:HO):Hp:=fun b=>if b=a then some o else H b
theorem ak{H:Hp}{a:Addr}{o:HO}:upd H a o a=some o:=by unfold upd; rw [if_pos rfl]
theorem aA{H:Hp}{a b:Addr}{o:HO}(h:b≠a):upd H a o b=H b:=by unfold upd; rw [if_neg h]
theorem bR{H:Hp}{a:Addr}{o u:HO}:upd (upd H a o) a u=upd H a u:=by
 funext b; unfold upd; split <;> rfl
theorem eU{H:Hp}{a b:Addr}{o u:HO}(h:H a=some o)(h':H b=some u)(d:o≠u):a≠b:=by
 intro e; subst e; rw [h] at h'; exact d (Option.some.inj h')
theorem aB{H:Hp}{a b:Addr}{o:HO}(h:H a=some o)(h':H b=none):a≠b:=by
 intro e; subst e; rw [h] at h'; cases h'
def NoD(h:Heap)(a:Addr):Prop:=∀ o,h.get? a=some o→o.dict=none
theorem mZ(h:Heap)(its:Array Value):NoD (h.push { cls:=.type "tuple",data:=.seq its }) h.objs.size:=fun o e=>by
 rw [Heap.get?_push_size _ rfl] at e
 cases e
 rfl
section
variable (P:Program)(w:World)
def cU(H:Hp)(h:Heap)(a:Addr):HO→Prop
 | .lst xs=>xs.length≤sizeLine∧∃(its:List Value) (n:Nat),Vals xs its∧h.get? a=some { cls:=.type "list",data:=.seq its.toArray n }
 | .tup xs=>(xs.length≤sizeLine∧NoD h a)∧∃ its:List Value,Vals xs its∧IsTup h a its.toArray
 | .dK kvs=>kvs.length≤sizeLine∧(a == sysModules)=false∧∃ vs,KV kvs vs∧h.DictOf (cP P w) a vs
 | .dT kvs=>kvs.length≤sizeLine∧(a == sysModules)=false∧∃ xs:List (List Key × Addr × Value),
   Paired (fun(p:List Key × V) (q:List Key × Addr × Value)=>p.1=q.1∧H q.2.1=some (.tup (p.1.map kV))∧RelV p.2 q.2.2) kvs xs∧
   ∃ o es ep,h.get? a=some o∧o.ExactDict∧o.data=.dict es ep∧es.toList=xs.map (entryOfKey (tupleKind (cP P w)))∧(xs.map (·.1)).Nodup
 | .set S n=>h.SetOf (intKind P w) a S n
 | .ins C dx fs=>H dx=some (.own a)∧fs.length≤1000∧dx≠a∧h.get? a=some (PySem.W.instObj C dx)∧
   ∃ mA,h.Ns1 dx mA∧(∀ f,tL (fs.lookup f) (mA f))∧PySem.Within mA (fs.map (·.1))
 | .own _=>∃ o,h.get? a=some o
 | .xd fs=>∃ mA,h.Ns1 a mA∧∀ f,tL (fs.lookup f) (mA f)
 | .rng lo hi=>∃ t u v,h.get? a=some { cls:=.type "range",data:=.fields #[.int lo t,.int hi u,.int 1 v] }
 | .frz o u=>h.get? a=some o∧cU H h a u
 | .tbl ps=>h.get? a=some { cls:=.none,data:=.fields ps }
 | .met f x=>h.get? a=some (PySem.W.methodObj (.ref f) (.ref x))
 | .ext φ=>φ h∧(∃ o,h.get? a=some o)∧∀ h1 h2:Heap,φ h1→(∀ o,h1.get? a=some o→h2.get? a=some o)→φ h2
def HOk(H:Hp)(h:Heap):Prop:=∀ a o,H a=some o→cU P w H h a o
end
section
variable {P:Program}{w:World}{H H':Hp}{h h':Heap}{a:Addr}{o:HO}
theorem cU.lt(x:cU P w H h a o):a < h.objs.size:=by
 cases o with
 | lst xs=>obtain ⟨_,_,_,_,e⟩:=x; exact Heap.lt_size e
 | tup xs=>obtain ⟨_,_,_,p⟩:=x; exact p.lt
 | dK kvs=>obtain ⟨_,_,_,_,o,_,_,e,_⟩:=x; exact Heap.lt_size e
 | dT kvs=>obtain ⟨_,_,_,_,o,_,_,e,_⟩:=x; exact Heap.lt_size e
 | set S n=>obtain ⟨o,_,_,_,e,_⟩:=x; exact Heap.lt_size e
 | ins C dx fs=>obtain ⟨_,_,_,e,_⟩:=x; exact Heap.lt_size e
 | own y=>obtain ⟨_,e⟩:=x; exact Heap.lt_size e
 | xd fs=>obtain ⟨_,⟨_,_,_,e,_⟩,_⟩:=x; exact Heap.lt_size e
 | rng lo hi=>obtain ⟨_,_,_,e⟩:=x; exact Heap.lt_size e
 | frz ob u=>obtain ⟨e,_⟩:=x; exact Heap.lt_size e
 | tbl ps=>exact Heap.lt_size (show h.get? a=some _ from x)
 | met f y=>exact Heap.lt_size (show h.get? a=some _ from x)
 | ext φ=>obtain ⟨_,⟨_,e⟩,_⟩:=x; exact Heap.lt_size e
theorem Paired.oZ{α β:Type}{F G:α→β→Prop}:∀ {l₁:List α} {l₂:List β},Paired F l₁ l₂→(∀ a b,F a b→G a b)→Paired G l₁ l₂
 | _,_,.nil,_=>.nil
 | _,_,.cons r t,f=>.cons (f _ _ r) (Paired.oZ t f)
theorem cU.stay(x:cU P w H h a o)(k:∀ b u,(b=a∨H b=some (.own a))→h.get? b=some u→h'.get? b=some u)
  (ho:∀ b,H b=some (.own a)→H' b=some (.own a)) (ht:∀ b xs,H b=some (.tup xs)→H' b=some (.tup xs)):cU P w H' h' a o:=by
 induction o with
 | lst xs=>obtain ⟨z,its,n,r,e⟩:=x; exact⟨z,its,n,r,k _ _ (.inl rfl) e⟩
 | tup xs=>
  obtain ⟨z,its,r,ob,e,c⟩:=x
  have e':=k _ _ (.inl rfl) e
  exact⟨⟨z.1,fun o q=>by rw [e'] at q; cases q; exact z.2 _ e⟩,its,r,ob,e',c⟩
 | dK kvs=>obtain ⟨z,y,vs,r,ob,es,ep,e,c⟩:=x; exact⟨z,y,vs,r,ob,es,ep,k _ _ (.inl rfl) e,c⟩
 | dT kvs=>
  obtain ⟨z,y,xs,r,ob,es,ep,e,c⟩:=x
  exact⟨z,y,xs,Paired.oZ r fun p q z=>⟨z.1,ht _ _ z.2.1,z.2.2⟩,ob,es,ep,k _ _ (.inl rfl) e,c⟩
 | set S n=>obtain ⟨ob,es,ep,t,e,c⟩:=x; exact⟨ob,es,ep,t,k _ _ (.inl rfl) e,c⟩
 | ins C dx fs=>
  obtain ⟨d,z,ne,e,mA,⟨od,es,ep,e2,c⟩,r⟩:=x
  exact⟨ho _ d,z,ne,k _ _ (.inl rfl) e,mA,⟨od,es,ep,k _ _ (.inr d) e2,c⟩,r⟩
 | own y=>obtain ⟨ob,e⟩:=x; exact⟨ob,k _ _ (.inl rfl) e⟩
 | xd fs=>obtain ⟨mA,⟨od,es,ep,e,c⟩,r⟩:=x; exact⟨mA,⟨od,es,ep,k _ _ (.inl rfl) e,c⟩,r⟩
 | rng lo hi=>obtain ⟨t,u,v,e⟩:=x; exact⟨t,u,v,k _ _ (.inl rfl) e⟩
 | frz ob u ih=>obtain ⟨e,q⟩:=x; exact⟨k _ _ (.inl rfl) e,ih q⟩
 | tbl ps=>
  have e:h.get? a=some { cls:=.none,data:=.fields ps }:=x
  show h'.get? a=some { cls:=.none,data:=.fields ps }
  exact k a _ (.inl rfl) e
 | met f y=>
  have e:h.get? a=some (PySem.W.methodObj (.ref f) (.ref y)):=x
  show h'.get? a=some (PySem.W.methodObj (.ref f) (.ref y))
  exact k a _ (.inl rfl) e
 | ext φ=>obtain ⟨p,⟨o,e⟩,st⟩:=x; exact⟨st _ _ p fun o q=>k _ _ (.inl rfl) q,⟨o,k _ _ (.inl rfl) e⟩,st⟩
theorem HOk.lt(x:HOk P w H h)(e:H a=some o):a < h.objs.size:=(x a o e).lt
theorem HOk.fresh(x:HOk P w H h)(e:h.objs.size≤a):H a=none:=by
 cases q:H a with
 | none=>rfl
 | some u=>exact absurd (Nat.lt_of_lt_of_le (x.lt q) e) (Nat.lt_irrefl _)
theorem HOk.kept(x:HOk P w H h)(k:∀ b u,h.get? b=some u→h'.get? b=some u):HOk P w H h':=fun a o e=>
 (x a o e).stay (fun b u _ q=>k b u q) (fun _ q=>q) fun _ _ q=>q
theorem HOk.laid(x:HOk P w H h)(k:∀ b u,h.get? b=some u→h'.get? b=some u)(hp:h.objs.size≤a)(new:cU P w (upd H a o) h' a o):HOk P w (upd H a o) h':=fun b u e=>by
 have hn:=x.fresh hp
 by_cases hb:b=a
 ·subst hb; rw [ak] at e; cases e; exact new
 ·rw [aA hb] at e
  exact(x b u e).stay (fun c v _ q=>k c v q) (fun c q=>by rw [aA (aB q hn)]; exact q) fun c xs q=>by rw [aA (aB q hn)]; exact q
end
def Rd(H:Hp)(a:Addr)(u:HO):Prop:=H a=some u∨∃ o,H a=some (.frz o u)
theorem Rd.ok{P:Program}{w:World}{H:Hp}{h:Heap}{a:Addr}{u:HO}(r:Rd H a u)(x:HOk P w H h):cU P w H h a u:=by
 rcases r with r | ⟨o,r⟩
 ·exact x a u r
 ·obtain ⟨_,q⟩:=x a _ r
  exact q
def Mut:Option HO→Prop
 | some (.lst _)=>True
 | some (.dK _)=>True
 | some (.dT _)=>True
 | some (.set _ _)=>True
 | some (.ins _ _ _)=>True
 | some (.ext _)=>True
 | _=>False
section
variable {P:Program}{w:World}{H:Hp}{h h':Heap}{x e:Addr}{o':HO}
theorem HOk.write(ok:HOk P w H h)(mu:Mut (H x))(he:e=x∨H e=some (.own x))(k:∀ b u,b≠e→h.get? b=some u→h'.get? b=some u)(heo:∃ u,h'.get? e=some u)
  (new:cU P w (upd H x o') h' x o'):HOk P w (upd H x o') h':=fun b u q=>by
 have nown:∀ c y,H c=some (.own y)→c≠x:=fun c y r z=>by subst z; rw [r] at mu; exact mu
 have ntup:∀ c xs,H c=some (.tup xs)→c≠x:=fun c xs r z=>by subst z; rw [r] at mu; exact mu
 by_cases hb:b=x
 ·subst hb; rw [ak] at q; cases q; exact new
 ·rw [aA hb] at q
  by_cases hbe:b=e
  ·have q':H b=some (.own x):=by
    rcases he with z | z
    ·exact absurd (hbe.trans z) hb
    ·rw [hbe]; exact z
   rw [q] at q'; cases q'
   obtain ⟨v,hv⟩:=heo
   exact⟨v,by rw [hbe]; exact hv⟩
  ·refine(ok b u q).stay (fun c v hc r=>k c v ?_ r) (fun c r=>by rw [aA (nown c b r)]; exact r) fun c xs r=>by rw [aA (ntup c xs r)]; exact r
   rcases hc with rfl | hc
   ·exact hbe
   ·rintro rfl
    rcases he with z | z
    ·exact nown c b hc z
    ·rw [hc] at z; cases z; exact hb rfl
end
structure Un (fs ex:List Addr) (H H':Hp) (h h':Heap):Prop where
 keep:∀ b o,h.get? b=some o→H b=none→b ∉ fs→b ∉ ex→h'.get? b=some o
 slot:∀ b o,h.get? b=some o→H b=none→b∈fs→b ∉ ex→∃ sl,h'.get? b=some { o with slots:=sl }
 free:∀ b o,h.get? b=some o→H b=none→b ∉ ex→H' b=none
 there:∀ b o,h.get? b=some o→b ∉ ex→∃ o',h'.get? b=some o'
 tups:∀ b xs,H b=some (.tup xs)→H' b=some (.tup xs)
 rB:∀ b o u,H b=some (.frz o u)→H' b=some (.frz o u)
 tR:∀ b ps,H b=some (.tbl ps)→∃ more,H' b=some (.tbl (ps++more))
section
variable {fs fs' ex ex':List Addr}{H H1 H2:Hp}{h h1 h2 h':Heap}{a x e:Addr}{o:HO}
theorem Un.any(u:Un fs ex H H1 h h1){b:Addr}{ob:Obj}(q:h.get? b=some ob)(n:H b=none)(hx:b ∉ ex):∃ sl,h1.get? b=some { ob with slots:=sl }:=by
 by_cases hb:b∈fs
 ·exact u.slot b ob q n hb hx
 ·exact⟨ob.slots,u.keep b ob q n hb hx⟩
theorem Un.kept(k:∀ b u,h.get? b=some u→h'.get? b=some u):Un fs ex H H h h':=
 ⟨fun b ob q _ _ _=>k b ob q,fun b ob q _ _ _=>⟨ob.slots,k b ob q⟩,fun _ _ _ n _=>n,fun b ob q _=>⟨ob,k b ob q⟩,fun _ _ q=>q,fun _ _ _ q=>q,fun _ ps q=>⟨#[],by rw [q]; simp⟩⟩
theorem Un.refl:Un fs ex H H h h:=Un.kept fun _ _ q=>q
theorem Un.laid(k:∀ b u,h.get? b=some u→h'.get? b=some u)(hp:h.objs.size≤a)(hn:H a=none):Un fs ex H (upd H a o) h h' where
 keep:=fun b u q _ _ _=>k b u q
 slot:=fun b u q _ _ _=>⟨u.slots,k b u q⟩
 free:=fun b u q n _=>by rw [aA (Nat.ne_of_lt (Nat.lt_of_lt_of_le (Heap.lt_size q) hp))]; exact n
 there:=fun b u q _=>⟨u,k b u q⟩
 tups:=fun b xs q=>by rw [aA (aB q hn)]; exact q
 rB:=fun b u xs q=>by rw [aA (aB q hn)]; exact q
 tR:=fun b ps q=>⟨#[],by rw [aA (aB q hn),q]; simp⟩
theorem Un.write(mu:Mut (H x))(he:e=x∨H e=some (.own x))(k:∀ b u,b≠e→h.get? b=some u→h'.get? b=some u)(heo:∃ u,h'.get? e=some u):Un fs ex H (upd H x o) h h':=by
 have hx:∀ b,H b=none→b≠x:=fun b n z=>by subst z; rw [n] at mu; exact mu
 have hb:∀ b,H b=none→b≠e:=fun b n z=>by
  subst z
  rcases he with r | r
  ·exact hx b n r
  ·rw [n] at r; cases r
 have hm:∀ b u,H b=some u→¬ Mut (some u)→b≠x:=fun b u q nm z=>by subst z; rw [q] at mu; exact nm mu
 refine⟨fun b u q n _ _=>k b u (hb b n) q,fun b u q n _ _=>⟨u.slots,k b u (hb b n) q⟩,fun b u q n _=>by rw [aA (hx b n)]; exact n,fun b u q _=>?_,
  fun b xs q=>by rw [aA (hm b _ q fun z=>z)]; exact q,fun b u xs q=>by rw [aA (hm b _ q fun z=>z)]; exact q,fun b ps q=>⟨#[],by rw [aA (hm b _ q fun z=>z),q]; simp⟩⟩
 by_cases hbe:b=e
 ·subst hbe; exact heo
 ·exact⟨u,k b u hbe q⟩
end
def trk(h:Heap)(H:Hp):List Addr:=(List.range h.objs.size).filter fun a=>(H a).isSome
def wW(h:Heap)(H:Hp):Heap:=PySem.W.hideAll h (trk h H)
theorem Dy(h:Heap)(H:Hp):(wW h H).objs.size=h.objs.size:=PySem.W.hideAll_size _ _
theorem Hi{h:Heap}{H:Hp}{b:Addr}{o:Obj}(e:h.get? b=some o)(n:H b=none):(wW h H).get? b=some o:=
 PySem.W.hideAll_get _ e fun hm=>by
  have q:(H b).isSome=true:=(List.mem_filter.mp hm).2
  rw [n] at q; simp at q
theorem IV{h:Heap}{H:Hp}{b:Addr}{o:Obj}(e:(wW h H).get? b=some o):h.get? b=some o∧H b=none:=by
 have e':h.get? b=some o:=PySem.W.of_hideAll (trk h H) e
 refine⟨e',?_⟩
 cases q:H b with
 | none=>rfl
 | some x=>
  have hm:b∈trk h H:=List.mem_filter.mpr ⟨List.mem_range.mpr (Heap.lt_size e'),by simp [q]⟩
  have z:(wW h H).get? b=none:=PySem.W.hideAll_none (trk h H) hm
  rw [z] at e; cases e
def Jt(g h:Heap)(L:Addr):List (Addr × Obj):=(List.range h.objs.size).filterMap fun a=>if a=L∨(g.get? a).isSome=true then none else (h.get? a).map fun o=>(a,o)
def rest(g h:Heap)(L d:Addr):List (Addr × Obj):=(Jt g h L).filter fun p=>decide (p.1≠d)
end L2
namespace L2
open PySem PySem.Spec PyProof.Rows
structure Mod (K:PySem.W.Frag) (mg:Str→Option Value) (base:Heap):Prop where
 kin:K.In base
 glob:base.Ns mainGlobals mg
 blt:∃ mb,base.Ns builtinsNs mb∧∀ x:Str,x≠ "__name__" → mb x=bootBuiltins x
 nolimit:base.NoLimit
structure Cx where
 prog:Program
 w:World
 K:PySem.W.Frag
 mg:Str→Option Value
 base:Heap
 A:Around
 N:List Str
 s₀:Shared
 H₀:Hp
 env:Env
 outer:List Env
 stack:List Env
 ex:List Addr
 fn:Str→Bool
 calm:Bool
 pn:List (Addr × Obj)
 xe:Value→Shared→Prop
def frs(l:List Env):List Addr:=l.filterMap (·.frame)
abbrev Cx.fs(X:Cx):List Addr:=frs X.outer
def Vis(sc:Scope)(x:Str):Prop:=sc.names.lookup x=some .local∨sc.names.lookup x=some .cell∨sc.names.lookup x=some .free
def Loc(sc:Scope)(x:Str):Prop:=sc.names.lookup x=some .local∨sc.names.lookup x=some .cell
def Look(env:Env)(h:Heap)(m:Str→Option Value)(x:Str)(u:Value):Prop:=
 (env.kindOf x=some .local∧m x=some u)∨((env.kindOf x=some .cell∨env.kindOf x=some .free)∧∃ c,env.cells.lookup x=some c∧h.IsCell c (some u))
structure Cx.Ok (X:Cx):Prop where
 mod:Mod X.K X.mg X.base
 kind:X.env.scope.kind=.function
 glob:X.env.globals=mainGlobals
 blt:X.env.builtins=builtinsNs
 above:X.s₀.heap.objs.size≤X.env.locals
 inj:∀ x y c,X.env.cells.lookup x=some c→X.env.cells.lookup y=some c→x=y
 has:∀ x,(X.env.kindOf x=some .cell∨X.env.kindOf x=some .free)→∃ c,X.env.cells.lookup x=some c
 cab:∀ x c,X.fn x=true→X.env.cells.lookup x=some c→X.s₀.heap.objs.size≤c
 hd:X.calm=true→X.A.handled=none
 frames:X.A.frames=some X.stack
 stk:X.stack=X.outer∨(X.stack=X.env::X.outer∧X.env.frame=some X.env.locals)
 exf:∀ b∈X.ex,b≠X.env.locals∧∀ x c,X.env.cells.lookup x=some c→c≠b
 bs:∀ b o,X.base.get? b=some o→X.s₀.heap.get? b=some o∧X.H₀ b=none
 bsz:X.base.objs.size≤X.s₀.heap.objs.size
 yS:∀ b o,X.base.get? b=some o→b ∉ X.ex
 yR:∀ b∈X.ex,b ∉ X.fs
 qO:X.s₀.heap.FunFrames X.base X.outer
 frf:∀ b∈X.fs,X.H₀ b=none
structure Inv (X:Cx) (pins:List (Addr × Obj)) (σ:List (Option V)) (H:Hp) (s:Shared):Prop where
 ok:X.Ok
 os:s.os=X.s₀.os
 bare:AllBare s.gens
 base:Un X.fs X.ex X.H₀ H X.s₀.heap s.heap
 loc:∃ m,s.heap.Ns X.env.locals m∧∀(i:Nat) (x:Str) (v:V),X.N[i]?=some x→σ[i]?=some (some v)→Vis X.env.scope x→∃ u,RelV v u∧Look X.env s.heap m x u
 cell:∀ x c,X.env.cells.lookup x=some c→∃ v,s.heap.IsCell c v
 free:H X.env.locals=none
 jZ:∀ x c,X.env.cells.lookup x=some c→H c=none
 pin:∀ p∈X.pn++pins,s.heap.get? p.1=some p.2∧H p.1=none∧p.1≠X.env.locals∧p.1 ∉ X.fs∧∀ v,p.2.data≠.cell v
 hok:HOk X.prog X.w H s.heap
 len:σ.length=X.N.length
section
variable {X:Cx}{pins:List (Addr × Obj)}{σ:List (Option V)}{H H':Hp}{s:Shared}{h':Heap}
theorem Cx.Ok.Oj(ok:X.Ok){b:Addr}{o:Obj}(e:X.base.get? b=some o):b ∉ X.fs:=fun hb=>by
 have:=(ok.qO.mem hb).1
 rw [e] at this; cases this
theorem Inv.bs(I:Inv X pins σ H s):∀ b o,X.base.get? b=some o→s.heap.get? b=some o∧H b=none:=fun b o e=>
 ⟨I.base.keep b o (I.ok.bs b o e).1 (I.ok.bs b o e).2 (I.ok.Oj e) (I.ok.yS b o e),I.base.free b o (I.ok.bs b o e).1 (I.ok.bs b o e).2 (I.ok.yS b o e)⟩
theorem Inv.bk(I:Inv X pins σ H s):∀ b o,X.base.get? b=some o→s.heap.get? b=some o:=fun b o e=>(I.bs b o e).1
theorem Inv.mod(I:Inv X pins σ H s):Mod X.K X.mg X.base:=I.ok.mod
theorem Inv.kIn(I:Inv X pins σ H s):X.K.In s.heap:=I.ok.mod.kin.keeps I.bk
theorem Inv.lt(I:Inv X pins σ H s):X.env.locals < s.heap.objs.size:=let ⟨_,hn,_⟩:=I.loc; hn.lt
theorem Inv.sz(I:Inv X pins σ H s):X.s₀.heap.objs.size≤s.heap.objs.size:=Nat.le_trans I.ok.above (Nat.le_of_lt I.lt)
theorem Inv.Oo(I:Inv X pins σ H s){a:Addr}(h:s.heap.objs.size≤a):a ∉ X.fs:=fun hb=>by
 obtain ⟨_,o,ho,_⟩:=I.ok.qO.mem hb
 exact absurd (Nat.lt_of_lt_of_le (Heap.lt_size ho) (Nat.le_trans I.sz h)) (Nat.lt_irrefl _)
theorem Inv.cne(I:Inv X pins σ H s):∀ x c,X.env.cells.lookup x=some c→c≠X.env.locals:=fun x c e z=>by
 obtain ⟨v,o,ho,hd⟩:=I.cell x c e
 obtain ⟨m,⟨o',es,ep,ho',hd',_⟩,_⟩:=I.loc
 rw [z,ho'] at ho; cases ho; rw [hd'] at hd; cases hd
theorem Inv.qO(I:Inv X pins σ H s):s.heap.FunFrames X.base X.outer:=by
 have all:∀(l:List Env),(∀ b∈frs l,b∈X.fs)→X.s₀.heap.FunFrames X.base l→s.heap.FunFrames X.base l:=by
  intro l
  induction l with
  | nil=>intro _ _; trivial
  | cons env r ih=>
   intro hs hl
   obtain ⟨hk,⟨L,o,hf,hn,ho,hd⟩,hr⟩:=hl
   have hL:L∈X.fs:=hs L (by unfold frs; rw [List.filterMap_cons,hf]; exact List.mem_cons_self)
   obtain ⟨sl,e⟩:=I.base.slot L o ho (I.ok.frf L hL) hL fun z=>I.ok.yR L z hL
   exact⟨hk,⟨L,_,hf,hn,e,hd⟩,ih (fun b hb=>hs b (by unfold frs; rw [List.filterMap_cons,hf]; exact List.mem_cons_of_mem _ hb)) hr⟩
 exact all X.outer (fun _ hb=>hb) I.ok.qO
theorem Inv.stack(I:Inv X pins σ H s):s.heap.FunFrames X.base X.stack:=by
 rcases I.ok.stk with e | ⟨e,hf⟩
 ·rw [e]; exact I.qO
 ·rw [e]
  obtain ⟨m,hn,_⟩:=I.loc
  refine .cons (by rw [I.ok.kind]; decide) hf hn ?_ I.qO
  exact Heap.get?_none_of_le (Nat.le_trans I.ok.bsz I.ok.above)
theorem Inv.vX(I:Inv X pins σ H s):∀ b∈frs X.stack,b∈X.env.locals::X.fs:=fun b hb=>by
 rcases I.ok.stk with e | ⟨e,hf⟩
 ·rw [e] at hb; exact List.mem_cons_of_mem _ hb
 ·rw [e] at hb
  unfold frs at hb
  rw [List.filterMap_cons,hf] at hb
  exact hb
theorem Inv.vQ(I:Inv X pins σ H s):∀ b∈frs X.stack,H b=none:=fun b hb=>by
 rcases List.mem_cons.mp (I.vX b hb) with e | hb
 ·rw [e]; exact I.free
 ·obtain ⟨_,o,ho,_⟩:=I.ok.qO.mem hb
  exact I.base.free b o ho (I.ok.frf b hb) fun z=>I.ok.yR b z hb
theorem Inv.step{g':Array GenState}{t':Nat}{d':Drawn}{ch:List Addr}(I:Inv X pins σ H s)
  (hch:∀ b∈ch,(b∈X.ex∨X.s₀.heap.objs.size≤b)∧b≠X.env.locals∧(∀ x c,X.env.cells.lookup x=some c→c≠b)∧∀ p∈X.pn++pins,p.1≠b)
  (keep:∀ b o,b≠X.env.locals→b ∉ X.fs→b ∉ ch→s.heap.get? b=some o→H b=none→h'.get? b=some o)
  (slot:∀ b o,b≠X.env.locals→b∈X.fs→b ∉ ch→s.heap.get? b=some o→H b=none→∃ sl,h'.get? b=some { o with slots:=sl }) (free:∀ b o,b ∉ ch→s.heap.get? b=some o→H b=none→H' b=none)
  (there:∀ b o,b ∉ ch→s.heap.get? b=some o→∃ o',h'.get? b=some o')
  (tups:∀ b xs,H b=some (.tup xs)→H' b=some (.tup xs)) (rB:∀ b o u,H b=some (.frz o u)→H' b=some (.frz o u)) (tR:∀ b ps,H b=some (.tbl ps)→∃ more,H' b=some (.tbl (ps++more)))
  (ns:∀ m,s.heap.Ns X.env.locals m→h'.Ns X.env.locals m) (hok:HOk X.prog X.w H' h') (hg:AllBare g') :
  Inv X pins σ H' { s with heap:=h',gens:=g',drawn:=d',toks:=t' }:=by
 have neL:∀ b o,X.s₀.heap.get? b=some o→b≠X.env.locals:=fun b o e=>Nat.ne_of_lt (Nat.lt_of_lt_of_le (Heap.lt_size e) I.ok.above)
 have neC:∀ b o,X.s₀.heap.get? b=some o→b ∉ X.ex→b ∉ ch:=fun b o e hx hb=>by
  rcases (hch b hb).1 with z | z
  ·exact hx z
  ·exact absurd (Nat.lt_of_lt_of_le (Heap.lt_size e) z) (Nat.lt_irrefl _)
 have cellK:∀ x c,X.env.cells.lookup x=some c→∀ v,s.heap.IsCell c v→h'.IsCell c v:=fun x c e v ⟨o,ho,hd⟩=>by
  have nch:c ∉ ch:=fun z=>(hch c z).2.2.1 x c e rfl
  by_cases hc:c∈X.fs
  ·obtain ⟨sl,q⟩:=slot c o (I.cne x c e) hc nch ho (I.jZ x c e)
   exact⟨_,q,hd⟩
  ·exact⟨o,keep c o (I.cne x c e) hc nch ho (I.jZ x c e),hd⟩
 refine⟨I.ok,I.os,hg,⟨fun b o e n hb hx=>?_,fun b o e n hb hx=>?_,fun b o e n hx=>?_,fun b o e hx=>?_,fun b xs e=>tups b xs (I.base.tups b xs e),fun b o xs e=>rB b o xs (I.base.rB b o xs e),fun b ps e=>?_⟩,?_,fun x c e=>?_,?_,fun x c e=>?_,fun p hp=>?_,hok,I.len⟩
 ·exact keep b o (neL b o e) hb (neC b o e hx) (I.base.keep b o e n hb hx) (I.base.free b o e n hx)
 ·obtain ⟨sl,e1⟩:=I.base.slot b o e n hb hx
  obtain ⟨sl',e2⟩:=slot b _ (neL b o e) hb (neC b o e hx) e1 (I.base.free b o e n hx)
  exact⟨sl',e2⟩
 ·obtain ⟨o',e1⟩:=I.base.there b o e hx
  exact free b o' (neC b o e hx) e1 (I.base.free b o e n hx)
 ·obtain ⟨o',e1⟩:=I.base.there b o e hx
  exact there b o' (neC b o e hx) e1
 ·obtain ⟨m1,e1⟩:=I.base.tR b ps e
  obtain ⟨m2,e2⟩:=tR b _ e1
  exact⟨m1++m2,by rw [e2,Array.append_assoc]⟩
 ·obtain ⟨m,hn,hl⟩:=I.loc
  refine⟨m,ns m hn,fun i x v e1 e2 e3=>?_⟩
  obtain ⟨u,r,l⟩:=hl i x v e1 e2 e3
  refine⟨u,r,?_⟩
  rcases l with l | ⟨k,c,e,z⟩
  ·exact .inl l
  ·exact .inr ⟨k,c,e,cellK x c e _ z⟩
 ·obtain ⟨v,z⟩:=I.cell x c e
  exact⟨v,cellK x c e v z⟩
 ·obtain ⟨m,⟨o,_,_,ho,_⟩,_⟩:=I.loc
  exact free _ o (fun z=>(hch _ z).2.1 rfl) ho I.free
 ·obtain ⟨v,o,ho,hd⟩:=I.cell x c e
  exact free c o (fun z=>(hch c z).2.2.1 x c e rfl) ho (I.jZ x c e)
 ·obtain ⟨e,n,ne,nf,d⟩:=I.pin p hp
  have nch:p.1 ∉ ch:=fun z=>(hch p.1 z).2.2.2 p hp rfl
  exact⟨keep p.1 p.2 ne nf nch e n,free p.1 p.2 nch e n,ne,nf,d⟩
theorem Inv.un{t':Nat}(I:Inv X pins σ H s)(u:Un X.fs [] H H' s.heap h')(hok:HOk X.prog X.w H' h'):Inv X pins σ H' { s with heap:=h',toks:=t' }:=by
 obtain ⟨m,⟨o,es,ep,ho,r⟩,_⟩:=id I.loc
 obtain ⟨sl,hL⟩:=u.any ho I.free (by simp)
 exact I.step (g':=s.gens) (d':=s.drawn) (ch:=[]) (fun _ z=>nomatch z) (fun b o _ hb _ e n=>u.keep b o e n hb (by simp)) (fun b o _ hb _ e n=>u.slot b o e n hb (by simp)) (fun b o _ e n=>u.free b o e n (by simp)) (fun b o _ e=>u.there b o e (by simp)) u.tups u.rB u.tR (fun m' hm=>by
  obtain ⟨o',es',ep',ho',r'⟩:=hm
  rw [ho] at ho'; cases ho'
  exact⟨_,es',ep',hL,r'⟩) hok I.bare
theorem Inv.call{g':Array GenState}{t':Nat}{d':Drawn}{ch:List Addr}(I:Inv X pins σ H s)(u:Un (frs X.stack) ch H H' s.heap h')(hok:HOk X.prog X.w H' h')(hg:AllBare g')
  (hch:∀ b∈ch,(b∈X.ex∨X.s₀.heap.objs.size≤b)∧b≠X.env.locals∧(∀ x c,X.env.cells.lookup x=some c→c≠b)∧∀ p∈X.pn++pins,p.1≠b) :
  Inv X pins σ H' { s with heap:=h',gens:=g',drawn:=d',toks:=t' }:=by
 obtain ⟨m,⟨o,es,ep,ho,r⟩,_⟩:=id I.loc
 obtain ⟨sl,hL⟩:=u.any ho I.free fun z=>(hch _ z).2.1 rfl
 exact I.step (ch:=ch) hch (fun b o hL hb hc e n=>u.keep b o e n (fun z=>(List.mem_cons.mp (I.vX b z)).elim hL hb) hc) (fun b o _ _ hc e n=>u.any e n hc) (fun b o hc e n=>u.free b o e n hc) (fun b o hc e=>u.there b o e hc) u.tups u.rB u.tR (fun m' hm=>by
  obtain ⟨o',es',ep',ho',r'⟩:=hm
  rw [ho] at ho'; cases ho'
  exact⟨_,es',ep',hL,r'⟩) hok hg
theorem Inv.turned{t':Nat}{it:Addr}(I:Inv X pins σ H s)(k:∀ b o,b≠it→s.heap.get? b=some o→h'.get? b=some o)(hn:H it=none)(hL:it≠X.env.locals)
  (h1:it∈X.ex∨X.s₀.heap.objs.size≤it) (h2:∀ x c,X.env.cells.lookup x=some c→c≠it) (h3:∀ p∈X.pn++pins,p.1≠it):Inv X pins σ H { s with heap:=h',toks:=t' }:=by
 have nit:∀ b u,H b=some u→b≠it:=fun b u e z=>by rw [z,hn] at e; cases e
 refine I.step (g':=s.gens) (d':=s.drawn) (ch:=[it]) (fun b hb=>?_) (fun b o _ _ hc e _=>k b o (fun z=>hc (by simp [z])) e) (fun b o _ _ hc e _=>⟨o.slots,k b o (fun z=>hc (by simp [z])) e⟩) (fun _ _ _ _ n=>n)
  (fun b o hc e=>⟨o,k b o (fun z=>hc (by simp [z])) e⟩) (fun _ _ e=>e) (fun _ _ _ e=>e) (fun b ps e=>⟨#[],by rw [e]; simp⟩) (fun m hm=>?_) (fun b u e=>?_) I.bare
 ·have e:b=it:=by simpa using hb
  subst e
  exact⟨h1,hL,h2,h3⟩
 ·obtain ⟨o,es,ep,ho,r⟩:=hm
  exact⟨o,es,ep,k _ o (Ne.symm hL) ho,r⟩
 ·refine(I.hok b u e).stay (fun c v hc q=>k c v ?_ q) (fun _ q=>q) fun _ _ q=>q
  rcases hc with z | z
  ·rw [z]; exact nit b u e
  ·exact nit c _ z
theorem Inv.tok(I:Inv X pins σ H s)(t:Nat):Inv X pins σ H { s with toks:=t }:=I.un (h':=s.heap) (t':=t) Un.refl I.hok
theorem Inv.kept{t':Nat}(I:Inv X pins σ H s)(k:∀ b u,s.heap.get? b=some u→h'.get? b=some u):Inv X pins σ H { s with heap:=h',toks:=t' }:=I.un (Un.kept k) (I.hok.kept k)
theorem Inv.laid{a:Addr}{o:HO}{t':Nat}(I:Inv X pins σ H s)(k:∀ b u,s.heap.get? b=some u→h'.get? b=some u)(hp:s.heap.objs.size≤a)(new:cU X.prog X.w (upd H a o) h' a o) :
  Inv X pins σ (upd H a o) { s with heap:=h',toks:=t' }:=I.un (Un.laid k hp (I.hok.fresh hp)) (I.hok.laid k hp new)
theorem Inv.write{x e:Addr}{o:HO}{t':Nat}(I:Inv X pins σ H s)(mu:Mut (H x))(he:e=x∨H e=some (.own x))(k:∀ b u,b≠e→s.heap.get? b=some u→h'.get? b=some u)(heo:∃ u,h'.get? e=some u)
  (new:cU X.prog X.w (upd H x o) h' x o):Inv X pins σ (upd H x o) { s with heap:=h',toks:=t' }:=I.un (Un.write mu he k heo) (I.hok.write mu he k heo new)
theorem Inv.Ck{pins':List (Addr × Obj)}(I:Inv X pins σ H s)(h:∀ p∈pins',s.heap.get? p.1=some p.2∧H p.1=none∧p.1≠X.env.locals∧p.1 ∉ X.fs∧∀ v,p.2.data≠.cell v):Inv X pins' σ H s:=
 ⟨I.ok,I.os,I.bare,I.base,I.loc,I.cell,I.free,I.jZ,fun p hp=>(List.mem_append.mp hp).elim (fun z=>I.pin p (List.mem_append_left _ z)) (h p),I.hok,I.len⟩
theorem tE{N:List Str}(hN:N.Nodup){i j:Nat}{x:Str}(a:N[i]?=some x)(b:N[j]?=some x):i=j:=by
 obtain ⟨h1,e1⟩:=List.getElem?_eq_some_iff.mp a
 obtain ⟨h2,e2⟩:=List.getElem?_eq_some_iff.mp b
 exact(List.getElem_inj hN).mp (e1.trans e2.symm)
theorem vp{M:Model}{A:Around}{E:Value→Shared→Prop}{i:Nat}{x:Str}{v:V}{u:Value}{Q:Unit→Shared→Prop}(I:Inv X pins σ H s)(hN:X.N.Nodup)(hi:X.N[i]?=some x)(hx:Loc X.env.scope x)(r:RelV v u)
  (h:∀ s',Inv X pins (σ.set i (some v)) H s'→(∃ a,Heap.SameBut a s.heap s'.heap∧(a=X.env.locals∨X.env.cells.lookup x=some a))→Q () s') (hf:X.fn x=true∨X.env.scope.names.lookup x=some .local:=by first | exact .inl rfl | exact .inr rfl | assumption):wpAny M A (storeName X.env x u) Q E s:=by
 obtain ⟨m,hn,hl⟩:=id I.loc
 have hcls:(X.env.scope.kind == .class || (X.env.scope.kind == .module && X.env.locals != X.env.globals))=false:=by rw [I.ok.kind]; rfl
 have hiσ:i < σ.length:=by rw [I.len]; exact(List.getElem?_eq_some_iff.mp hi).1
 have cne:=I.cne
 have tracked:∀ {a:Addr} {h':Heap},(∃ o,s.heap.get? a=some o∧H a=none)→Heap.SameBut a s.heap h'→HOk X.prog X.w H h':=fun {a h'} ha hs b ob e=>by
  obtain ⟨_,_,hfree⟩:=ha
  refine(I.hok b ob e).stay (fun c w' hc q=>(hs.2 c ?_).trans q) (fun _ q=>q) fun _ _ q=>q
  rintro rfl
  rcases hc with rfl | hc
  ·rw [hfree] at e; cases e
  ·rw [hfree] at hc; cases hc
 rcases hx with hk | hk
 ·refine wpAny_storeName_local hk hn (fun h' hn' hs=>?_) hcls
  obtain ⟨oL,_,_,hoL,_⟩:=id hn
  refine h _ ⟨I.ok,I.os,I.bare,⟨fun b o e n hb hx=>?_,fun b o e n hb hx=>?_,I.base.free,fun b o e hx=>?_,I.base.tups,I.base.rB,I.base.tR⟩,⟨_,hn',fun j y v' e1 e2 e3=>?_⟩,fun y c e=>?_,I.free,I.jZ,fun p hp=>?_,tracked ⟨oL,hoL,I.free⟩ hs,by simpa using I.len⟩ ⟨_,hs,.inl rfl⟩
  ·exact(hs.2 b (Nat.ne_of_lt (Nat.lt_of_lt_of_le (Heap.lt_size e) I.ok.above))).trans (I.base.keep b o e n hb hx)
  ·obtain ⟨sl,e1⟩:=I.base.slot b o e n hb hx
   exact⟨sl,(hs.2 b (Nat.ne_of_lt (Nat.lt_of_lt_of_le (Heap.lt_size e) I.ok.above))).trans e1⟩
  ·obtain ⟨o',e1⟩:=I.base.there b o e hx
   exact⟨o',(hs.2 b (Nat.ne_of_lt (Nat.lt_of_lt_of_le (Heap.lt_size e) I.ok.above))).trans e1⟩
  ·by_cases hj:j=i
   ·subst hj
    rw [hi] at e1; cases e1
    rw [List.getElem?_set_self hiσ] at e2
    cases e2
    exact⟨u,r,.inl ⟨hk,by simp⟩⟩
   ·rw [List.getElem?_set_ne (Ne.symm hj)] at e2
    obtain ⟨u',r',q⟩:=hl j y v' e1 e2 e3
    refine⟨u',r',?_⟩
    rcases q with ⟨k,e⟩ | ⟨k,c,e,z⟩
    ·refine .inl ⟨k,?_⟩
     have:y≠x:=fun e=>hj (tE hN e1 (e ▸ hi))
     simp [this,e]
    ·exact .inr ⟨k,c,e,z.sameBut hs (cne y c e)⟩
  ·obtain ⟨w',z⟩:=I.cell y c e
   exact⟨w',z.sameBut hs (cne y c e)⟩
  ·obtain ⟨e,n,ne,nf,d⟩:=I.pin p hp
   exact⟨(hs.2 p.1 ne).trans e,n,ne,nf,d⟩
 ·have hfn:X.fn x=true:=by
   rcases hf with z | z
   ·exact z
   ·rw [z] at hk; cases hk
  obtain ⟨c,hc⟩:=I.ok.has x (.inl hk)
  obtain ⟨w',z⟩:=I.cell x c hc
  refine wpAny_storeName_cell I.ok.kind hk hc z (fun h' hc' hs=>?_)
  obtain ⟨oc,hoc,hocd⟩:=id z
  refine h { s with heap:=h' } ⟨I.ok,I.os,I.bare,⟨fun b o e n hb hx=>?_,fun b o e n hb hx=>?_,I.base.free,fun b o e hx=>?_,I.base.tups,I.base.rB,I.base.tR⟩,⟨m,hn.sameBut hs (Ne.symm (cne x c hc)),fun j y v' e1 e2 e3=>?_⟩,fun y c' e=>?_,I.free,I.jZ,fun p hp=>?_,tracked ⟨oc,hoc,I.jZ x c hc⟩ hs,by simpa using I.len⟩ ⟨c,hs,.inr hc⟩
  ·exact(hs.2 b (Nat.ne_of_lt (Nat.lt_of_lt_of_le (Heap.lt_size e) (I.ok.cab x c hfn hc)))).trans (I.base.keep b o e n hb hx)
  ·obtain ⟨sl,e1⟩:=I.base.slot b o e n hb hx
   exact⟨sl,(hs.2 b (Nat.ne_of_lt (Nat.lt_of_lt_of_le (Heap.lt_size e) (I.ok.cab x c hfn hc)))).trans e1⟩
  ·obtain ⟨o',e1⟩:=I.base.there b o e hx
   exact⟨o',(hs.2 b (Nat.ne_of_lt (Nat.lt_of_lt_of_le (Heap.lt_size e) (I.ok.cab x c hfn hc)))).trans e1⟩
  ·by_cases hj:j=i
   ·subst hj
    rw [hi] at e1; cases e1
    rw [List.getElem?_set_self hiσ] at e2
    cases e2
    exact⟨u,r,.inr ⟨.inl hk,c,hc,hc'⟩⟩
   ·rw [List.getElem?_set_ne (Ne.symm hj)] at e2
    obtain ⟨u',r',q⟩:=hl j y v' e1 e2 e3
    refine⟨u',r',?_⟩
    rcases q with q | ⟨k,c',e,z'⟩
    ·exact .inl q
    ·refine .inr ⟨k,c',e,z'.sameBut hs ?_⟩
     rintro rfl
     exact hj (tE hN e1 (I.ok.inj _ _ _ e hc ▸ hi))
  ·by_cases hcc:c'=c
   ·subst hcc; exact⟨_,hc'⟩
   ·obtain ⟨w2,z2⟩:=I.cell y c' e
    exact⟨w2,z2.sameBut hs hcc⟩
  ·obtain ⟨e,n,ne,nf,d⟩:=I.pin p hp
   refine⟨(hs.2 p.1 ?_).trans e,n,ne,nf,d⟩
   intro q
   rw [q,hoc] at e
   have q':oc=p.2:=Option.some.inj e
   exact d w' (by rw [← q']; exact hocd)
theorem tV{M:Model}{A:Around}{E:Value→Shared→Prop}{i:Nat}{x:Str}{v:V}{u:Value}{Q:Unit→Shared→Prop}(I:Inv X pins σ H s)(hN:X.N.Nodup)(hi:X.N[i]?=some x)(hx:Loc X.env.scope x)(r:RelV v u)
  (h:∀ s',Inv X pins (σ.set i (some v)) H s'→Q () s') (hf:X.fn x=true∨X.env.scope.names.lookup x=some .local:=by first | exact .inl rfl | exact .inr rfl | assumption):wpAny M A (storeName X.env x u) Q E s:=
 vp I hN hi hx r (fun s' I' _=>h s' I') hf
theorem Inv.call'{s':Shared}{ch:List Addr}(I:Inv X pins σ H s)(ho:s'.os=s.os)(u:Un (frs X.stack) ch H H' s.heap s'.heap)(hok:HOk X.prog X.w H' s'.heap)(hg:AllBare s'.gens)
  (hch:∀ b∈ch,(b∈X.ex∨X.s₀.heap.objs.size≤b)∧b≠X.env.locals∧(∀ x c,X.env.cells.lookup x=some c→c≠b)∧∀ p∈X.pn++pins,p.1≠b):Inv X pins σ H' s':=by
 obtain ⟨h',g',d',t',o'⟩:=s'
 have e:o'=s.os:=ho
 subst e
 exact I.call (g':=g') (t':=t') (d':=d') u hok hg hch
end
abbrev XK:=Value→Option Addr→Hp→Prop
abbrev St:=List (Option V)
abbrev VK:=V→Hp→Prop
abbrev TE:=St→Hp→VK→Prop
abbrev TT:=St→Hp→(Bool→Hp→Prop)→Prop
abbrev TA:=St→Hp→(List V→Hp→Prop)→Prop
structure Ends where
 nx:St→Hp→Prop
 rt:VK
 bk:St→Hp→Prop:=fun _ _=>False
 ct:St→Hp→Prop:=fun _ _=>False
abbrev TS:=Ends→St→Hp→Prop
def EP(X:Cx)(pins:List (Addr × Obj))(σ:St)(Q:VK)(u:Value)(s':Shared):Prop:=∃ v H',Inv X pins σ H' s'∧RelV v u∧Q v H'
def TP(X:Cx)(pins:List (Addr × Obj))(σ:St)(Q:Bool→Hp→Prop)(b:Bool)(s':Shared):Prop:=∃ H',Inv X pins σ H' s'∧Q b H'
def AP(X:Cx)(pins:List (Addr × Obj))(σ:St)(Q:List V→Hp→Prop)(us:List Value)(s':Shared):Prop:=∃ vs H',Inv X pins σ H' s'∧Vals vs us∧Q vs H'
def SP(X:Cx)(pins:List (Addr × Obj))(D:Ends)(f:Flow)(s':Shared):Prop:=
 match f with
 | .next=>∃ σ' H',Inv X pins σ' H' s'∧D.nx σ' H'
 | .brk=>∃ σ' H',Inv X pins σ' H' s'∧D.bk σ' H'
 | .cont=>∃ σ' H',Inv X pins σ' H' s'∧D.ct σ' H'
 | .ret u=>∃ v σ' H',Inv X pins σ' H' s'∧RelV v u∧D.rt v H'
def PE(X:Cx)(e:Expr)(t:TE):Prop:=
 ∀(pins:List (Addr × Obj)) (s:Shared) (σ:St) (H:Hp) (Q:VK),Inv X pins σ H s→t σ H Q→wpAny (model X.prog X.w) X.A (eval e X.env) (EP X pins σ Q) X.xe s
def PT(X:Cx)(e:Expr)(t:TT):Prop:=
 ∀(pins:List (Addr × Obj)) (s:Shared) (σ:St) (H:Hp) (Q:Bool→Hp→Prop),Inv X pins σ H s→t σ H Q→wpAny (model X.prog X.w) X.A (isTrue e X.env (eval e X.env)) (TP X pins σ Q) X.xe s
def PW(X:Cx)(e:Expr)(t:TT):Prop:=
 ∀(whole:Sem Value) (pins:List (Addr × Obj)) (s:Shared) (σ:St) (H:Hp) (Q:Bool→Hp→Prop),Inv X pins σ H s→t σ H Q→wpAny (model X.prog X.w) X.A (isTrue e X.env whole) (TP X pins σ Q) X.xe s
theorem PW.pt{X:Cx}{e:Expr}{t:TT}(h:PW X e t):PT X e t:=h _
def PA(X:Cx)(es:List Expr)(t:TA):Prop:=
 ∀(pos:Pos) (pins:List (Addr × Obj)) (s:Shared) (σ:St) (H:Hp) (Q:List V→Hp→Prop),Inv X pins σ H s→t σ H Q→wpAny (model X.prog X.w) X.A (spliced (backTo pos (starEach es X.env))) (AP X pins σ Q) X.xe s
def PS(X:Cx)(st:Stmt)(t:TS):Prop:=
 ∀(pins:List (Addr × Obj)) (s:Shared) (σ:St) (H:Hp) (D:Ends),Inv X pins σ H s→t D σ H→wpAny (model X.prog X.w) X.A (exec st X.env) (SP X pins D) X.xe s
def PSs(X:Cx)(st:List Stmt)(t:TS):Prop:=
 ∀(pins:List (Addr × Obj)) (s:Shared) (σ:St) (H:Hp) (D:Ends),Inv X pins σ H s→t D σ H→wpAny (model X.prog X.w) X.A (execs st X.env) (SP X pins D) X.xe s
theorem thn{α:Type}{t:Sem α}{Q Q':α→Shared→Prop}{M:Model}{A:Around}{E:Value→Shared→Prop}{s:Shared}(h:wpAny M A t Q E s)(hQ:∀ a s,Q a s→Q' a s):wpAny M A t Q' E s:=wpAny_mono h hQ fun _ _ x=>x
end L2
namespace L2
open PySem PySem.Spec PyProof.Rows
section
variable {X:Cx}
def M4(i:Nat):TE:=fun σ H Q=>∃ v,σ[i]?=some (some v)∧Q v H
def tC(v:V):TE:=fun _ H Q=>Q v H
theorem Kz{i:Nat}{x:Str}{pos:Pos}(hN:X.N[i]?=some x)(hv:Vis X.env.scope x)(hd:(x == ("__debug__" : Str))=false:=by decide)(hcd:(x == ("__classdict__" : Str))=false:=by decide):PE X (.Name x pos) (M4 i):=by
 intro pins s σ H Q I h
 obtain ⟨v,e,h⟩:=h
 obtain ⟨m,hn,hl⟩:=I.loc
 obtain ⟨u,r,l⟩:=hl i x v hN e hv
 have fin:EP X pins σ Q u s:=⟨v,H,I,r,h⟩
 rcases l with ⟨hk,hm⟩ | ⟨hk,c,hc,hcell⟩
 ·exact wpAny_Name (wpAny_loadName_local I.ok.kind hk hn hm fin) hd
 ·rcases hk with hk | hk
  ·exact wpAny_Name (wpAny_loadName_cell I.ok.kind hk hc hcell fin) hd
  ·exact wpAny_Name (wpAny_loadName_free I.ok.kind hk hc hcell fin hcd) hd
theorem aG{i j pos}:PE X (.Constant (.int i) j pos) (tC (.int i)):=fun _ _ _ H _ I h=>wpAny_Constant_int ⟨.int i,H,I.tok _,⟨_,rfl⟩,h⟩
theorem gk{b j pos}:PE X (.Constant (.bool b) j pos) (tC (.bl b)):=fun _ _ _ H _ I h=>Constant_bool ⟨.bl b,H,I,rfl,h⟩
theorem mW{j pos}:PE X (.Constant .none j pos) (tC .non):=fun _ _ _ H _ I h=>Constant_none ⟨.non,H,I,rfl,h⟩
theorem dg{x j pos}:PE X (.Constant (.str x) j pos) (tC (.str x)):=fun _ _ _ H _ I h=>Calls.Constant_str ⟨.str x,H,I.tok _,⟨_,rfl⟩,h⟩
def Gl(X:Cx)(x:Str):Prop:=X.env.kindOf x=some .globalImplicit
theorem pI{E:Value→Shared→Prop}{pins:List (Addr × Obj)}{s:Shared}{σ:St}{H:Hp}{x:Str}{u:Value}{pos:Pos}{Q:Value→Shared→Prop}(I:Inv X pins σ H s)(hg:Gl X x)(hm:X.mg x=some u)(h:Q u s)
  (hd:(x == ("__debug__" : Str))=false:=by decide):wpAny (model X.prog X.w) X.A (eval (.Name x pos) X.env) Q E s:=
 Calls.Name_function_global I.ok.kind hg (Calls.loadGlobal_global (by rw [I.ok.glob]; exact I.mod.glob.keeps I.bk) hm h) hd
theorem oR{E:Value→Shared→Prop}{pins:List (Addr × Obj)}{s:Shared}{σ:St}{H:Hp}{x:Str}{u:Value}{pos:Pos}{Q:Value→Shared→Prop}(I:Inv X pins σ H s)(hg:Gl X x)(hm:X.mg x=none)(hv:bootBuiltins x=some u)(h:Q u s)
  (hn:x≠ "__name__" := by decide) (hd:(x == ("__debug__" : Str))=false:=by decide):wpAny (model X.prog X.w) X.A (eval (.Name x pos) X.env) Q E s:=by
 obtain ⟨mb,h1,h2⟩:=I.mod.blt
 exact Calls.Name_function_global I.ok.kind hg (Calls.loadGlobal_builtin (by rw [I.ok.glob]; exact I.mod.glob.keeps I.bk) hm (by rw [I.ok.blt]; exact h1.keeps I.bk) ((h2 x hn).trans hv) h) hd
theorem iC{x:Str}{v:V}{u:Value}{pos:Pos}(hg:Gl X x)(hm:X.mg x=some u)(r:RelV v u)(hd:(x == ("__debug__" : Str))=false:=by decide):PE X (.Name x pos) (tC v):=
 fun _ _ _ H _ I h=>pI I hg hm ⟨v,H,I,r,h⟩ hd
theorem dY{x:Str}{v:V}{u:Value}{pos:Pos}(hg:Gl X x)(hm:X.mg x=none)(hv:bootBuiltins x=some u)(r:RelV v u)(hn:x≠ "__name__" := by decide)(hd:(x == ("__debug__" : Str))=false:=by decide):PE X (.Name x pos) (tC v):=
 fun _ _ _ H _ I h=>oR I hg hm hv ⟨v,H,I,r,h⟩ hn hd
variable {a b:Expr}{ta tb:TE}{pos:Pos}
def PC(X:Cx)(op:CmpOp)(a b:Expr)(t:TE):Prop:=
 ∀(pins:List (Addr × Obj)) (s:Shared) (σ:St) (H:Hp) (Q:VK),Inv X pins σ H s→t σ H Q→
  wpAny (model X.prog X.w) X.A (eval a X.env) (fun v s₁=>wpAny (model X.prog X.w) X.A (eval b X.env) (fun u s₂=>wpAny (model X.prog X.w) X.A (compareOp op v u) (EP X pins σ Q) X.xe s₂) X.xe s₁) X.xe s
def tB(t:TE):TT:=fun σ H Q=>t σ H fun x H1=>∃ c,x=.bl c∧Q c H1
theorem Ar{op:CmpOp}{t:TE}(h:PC X op a b t)(h1:behindInMarks op b=false:=by first | exact nobehind _ (by decide) (by decide) | rfl):PE X (.Compare a [op] [b] pos) t:=fun pins s σ H Q I hw=>wpAny_Compare1 (h pins s σ H Q I hw) h1
theorem wg{op:CmpOp}{t:TE}(h:PC X op a b t)(h1:behindInMarks op b=false:=by first | exact nobehind _ (by decide) (by decide) | rfl):PT X (.Compare a [op] [b] pos) (tB t):=by
 intro pins s σ H Q I hw
 refine wpAny_isTrue_Compare1 (thn (h pins s σ H _ I hw) fun v s1 h1=>thn h1 fun u s2 h2=>thn h2 fun c s3 ⟨x,H1,I1,r1,q1⟩=>?_) h1
 obtain ⟨d,rfl,q⟩:=q1
 cases r1
 exact wpAny_truthy_bool ⟨H1,I1,q⟩
theorem cT{e:Expr}{t:TE}(h:PE X e t)(he:∀ whole,isTrue e X.env whole=(do let v ← whole; standAt e.pos; holding [v] (truthy v)):=by intro _; rfl):PT X e (tB t):=by
 intro pins s σ H Q I hw
 refine isTrue_plain (thn (h pins s σ H _ I hw) fun v s1 ⟨x,H1,I1,r1,q1⟩=>?_) (he _)
 obtain ⟨d,rfl,q⟩:=q1
 cases r1
 exact wpAny_truthy_bool ⟨H1,I1,q⟩
variable {tA tB':TT}{rest:List Expr}
def N5(t u:TT):TT:=fun σ H Q=>t σ H fun c H1=>if c=true then u σ H1 Q else Q false H1
def tOr(t u:TT):TT:=fun σ H Q=>t σ H fun c H1=>if c=true then Q true H1 else u σ H1 Q
def Nj(t:TT):TT:=fun σ H Q=>t σ H fun c H1=>Q (!c) H1
theorem Bx(ha:PT X a tA):PW X (.BoolOp .And [a] pos) tA:=by
 intro wh pins s σ H Q I h
 refine isTrue_and (thn (ha pins s σ H Q I h) fun c s1 e=>?_)
 cases c with
 | true=>exact isTrue_and_nil e
 | false=>exact e
theorem jT(ha:PT X a tA):PW X (.BoolOp .Or [a] pos) tA:=by
 intro wh pins s σ H Q I h
 refine isTrue_or (thn (ha pins s σ H Q I h) fun c s1 e=>?_)
 cases c with
 | false=>exact isTrue_or_nil e
 | true=>exact e
theorem Gm(ha:PT X a tA)(hb:PW X (.BoolOp .And (b::rest) pos) tB'):PW X (.BoolOp .And (a::b::rest) pos) (N5 tA tB'):=by
 intro wh pins s σ H Q I h
 refine isTrue_and (thn (ha pins s σ H _ I h) fun c s1 ⟨H1,I1,q1⟩=>?_)
 cases c with
 | true=>exact hb wh pins s1 σ H1 Q I1 q1
 | false=>exact⟨H1,I1,q1⟩
theorem mK(ha:PT X a tA)(hb:PW X (.BoolOp .Or (b::rest) pos) tB'):PW X (.BoolOp .Or (a::b::rest) pos) (tOr tA tB'):=by
 intro wh pins s σ H Q I h
 refine isTrue_or (thn (ha pins s σ H _ I h) fun c s1 ⟨H1,I1,q1⟩=>?_)
 cases c with
 | true=>exact⟨H1,I1,q1⟩
 | false=>exact hb wh pins s1 σ H1 Q I1 q1
theorem cW(ha:PT X a tA):PT X (.UnaryOp .Not a pos) (Nj tA):=by
 intro pins s σ H Q I h
 exact isTrue_not (ha pins s σ H (fun c H1=>Q (!c) H1) I h)
def MN(ta tb:TE):TE:=fun σ H Q=>ta σ H fun x H1=>∃ c,x=.bl c∧if c=true then tb σ H1 Q else Q (.bl false) H1
def M8(ta:TE):TE:=fun σ H Q=>ta σ H fun x H1=>∃ c,x=.bl c∧Q (.bl (!c)) H1
theorem jx{op}{t:TE}(h:PE X a t):PE X (.BoolOp op [a] pos) t:=fun pins s σ H Q I hw=>BoolOp_one (h pins s σ H Q I hw)
theorem iW(ha:PE X a ta)(hb:PE X (.BoolOp .And (b::rest) pos) tb):PE X (.BoolOp .And (a::b::rest) pos) (MN ta tb):=by
 intro pins s σ H Q I h
 refine BoolOp_and (thn (ha pins s σ H _ I h) fun v s1 ⟨x,H1,I1,r1,q1⟩=>?_)
 obtain ⟨c,rfl,q1⟩:=q1
 cases r1
 refine wpAny_truthy_bool ?_
 cases c with
 | true=>exact hb pins s1 σ H1 Q I1 q1
 | false=>exact⟨.bl false,H1,I1,rfl,q1⟩
theorem Fd(ha:PE X a ta):PE X (.UnaryOp .Not a pos) (M8 ta):=by
 intro pins s σ H Q I h
 refine UnaryOp_ (thn (ha pins s σ H _ I h) fun v s1 ⟨x,H1,I1,r1,q1⟩=>?_)
 obtain ⟨c,rfl,q1⟩:=q1
 cases r1
 exact not_of (wpAny_truthy_bool ⟨.bl (!c),H1,I1,rfl,q1⟩)
end
end L2
namespace L2
open PySem PySem.Spec PyProof.Rows
def SqL(K:PySem.W.Frag)(H:Hp)(a:Addr)(xs:List V):Prop:=
 Rd H a (.lst xs)∨
  ∃(o:Obj) (its:Array Value) (n:Nat),K.lookup a=some o∧o.cls=.type "list" ∧ o.dict=none∧o.data=.seq its n∧its.size≤sizeLine∧Vals xs its.toList
def SqT(K:PySem.W.Frag)(H:Hp)(a:Addr)(xs:List V):Prop:=
 Rd H a (.tup xs)∨
  ∃(o:Obj) (its:Array Value) (n:Nat),K.lookup a=some o∧o.cls=.type "tuple" ∧ o.data=.seq its n∧its.size≤sizeLine∧Vals xs its.toList
def Nb:Value→Option V
 | .none=>some .non
 | .bool b=>some (.bl b)
 | .int i _=>some (.int i)
 | .str x _=>some (.str x)
 | .bytes b _=>some (.byt b)
 | .float b _=>some (.flt b)
 | .ref a=>some (.ref a)
 | .type n=>some (.ty n)
 | _=>none
theorem RelV.abs{x:V}{u:Value}(r:RelV x u):Nb u=some x:=by
 cases x with
 | non=>cases r; rfl
 | bl _=>cases r; rfl
 | int _=>obtain ⟨t,rfl⟩:=r; rfl
 | str _=>obtain ⟨t,rfl⟩:=r; rfl
 | byt _=>obtain ⟨t,rfl⟩:=r; rfl
 | flt _=>obtain ⟨t,rfl⟩:=r; rfl
 | ref _=>cases r; rfl
 | ty _=>cases r; rfl
theorem RelV.inj{x y:V}{u:Value}(r:RelV x u)(q:RelV y u):x=y:=Option.some.inj (r.abs.symm.trans q.abs)
theorem Vals.inj:∀ {xs ys:List V} {us:List Value},Vals xs us→Vals ys us→xs=ys
 | _,_,_,.nil,.nil=>rfl
 | _,_,_,.cons r t,.cons r' t'=>by rw [r.inj r',Vals.inj t t']
section
variable {X:Cx}{pins:List (Addr × Obj)}{σ:St}{H:Hp}{s:Shared}{a:Addr}{xs ys:List V}
theorem SqL.of{K:PySem.W.Frag}(h:H a=some (.lst xs)):SqL K H a xs:=.inl (.inl h)
theorem SqT.of{K:PySem.W.Frag}(h:H a=some (.tup xs)):SqT K H a xs:=.inl (.inl h)
theorem Inv.list(I:Inv X pins σ H s)(h:SqL X.K H a xs):∃ its:List Value,Vals xs its∧PlainL s.heap a its.toArray∧xs.length≤sizeLine:=by
 rcases h with h | ⟨o,its,n,hk,hc,hd,hs,hz,r⟩
 ·obtain ⟨z,its,n,r,e⟩:=h.ok I.hok
  exact⟨its,r,⟨_,n,e,rfl,rfl,rfl⟩,z⟩
 ·refine⟨its.toList,r,⟨o,n,I.kIn a o hk,hc,hd,by simpa using hs⟩,?_⟩
  have e:=r.length
  simp only [Array.length_toList] at e
  omega
theorem Inv.tuple(I:Inv X pins σ H s)(h:SqT X.K H a xs):∃ its:List Value,Vals xs its∧IsTup s.heap a its.toArray∧xs.length≤sizeLine:=by
 rcases h with h | ⟨o,its,n,hk,hc,hs,hz,r⟩
 ·obtain ⟨z,its,r,p⟩:=h.ok I.hok
  exact⟨its,r,p,z.1⟩
 ·refine⟨its.toList,r,⟨o,I.kIn a o hk,hc,n,by simpa using hs⟩,?_⟩
  have e:=r.length
  simp only [Array.length_toList] at e
  omega
theorem Inv.yD(I:Inv X pins σ H s)(h:SqL X.K H a xs)(h':SqL X.K H a ys):xs=ys:=by
 obtain ⟨its,r,⟨o,n,e,_,_,d⟩,_⟩:=I.list h
 obtain ⟨its',r',⟨o',n',e',_,_,d'⟩,_⟩:=I.list h'
 rw [e] at e'; cases e'
 rw [d] at d'
 injection d' with d1 _
 have:its=its':=by simpa using congrArg Array.toList d1
 subst this
 exact r.inj r'
theorem Inv.nO(I:Inv X pins σ H s)(h:SqT X.K H a xs)(h':SqT X.K H a ys):xs=ys:=by
 obtain ⟨its,r,⟨o,e,_,n,d⟩,_⟩:=I.tuple h
 obtain ⟨its',r',⟨o',e',_,n',d'⟩,_⟩:=I.tuple h'
 rw [e] at e'; cases e'
 rw [d] at d'
 injection d' with d1 _
 have:its=its':=by simpa using congrArg Array.toList d1
 subst this
 exact r.inj r'
end
abbrev Cx.wish(X:Cx)(E:Value→Shared→Prop):Cx:={ X with xe:=E }
abbrev Cx.nox(X:Cx):Cx:=X.wish fun _ _=>False
theorem Cx.Ok.wish{X:Cx}(ok:X.Ok)(E:Value→Shared→Prop):(X.wish E).Ok:=
 ⟨ok.mod,ok.kind,ok.glob,ok.blt,ok.above,ok.inj,ok.has,ok.cab,ok.hd,ok.frames,ok.stk,ok.exf,ok.bs,ok.bsz,ok.yS,ok.yR,ok.qO,ok.frf⟩
theorem Cx.Ok.kI{X:Cx}{E:Value→Shared→Prop}(ok:(X.wish E).Ok):X.Ok:=
 ⟨ok.mod,ok.kind,ok.glob,ok.blt,ok.above,ok.inj,ok.has,ok.cab,ok.hd,ok.frames,ok.stk,ok.exf,ok.bs,ok.bsz,ok.yS,ok.yR,ok.qO,ok.frf⟩
section
variable {X:Cx}{pins:List (Addr × Obj)}{σ:St}{H:Hp}{s:Shared}{E:Value→Shared→Prop}
theorem Inv.wish(I:Inv X pins σ H s)(E:Value→Shared→Prop):Inv (X.wish E) pins σ H s:=⟨I.ok.wish E,I.os,I.bare,I.base,I.loc,I.cell,I.free,I.jZ,I.pin,I.hok,I.len⟩
theorem Inv.kI(I:Inv (X.wish E) pins σ H s):Inv X pins σ H s:=⟨I.ok.kI,I.os,I.bare,I.base,I.loc,I.cell,I.free,I.jZ,I.pin,I.hok,I.len⟩
theorem SP.kI{D:Ends}{f:Flow}{s':Shared}(h:SP (X.wish E) pins D f s'):SP X pins D f s':=by
 cases f with
 | next=>obtain ⟨σ',H',I,q⟩:=h; exact⟨σ',H',I.kI,q⟩
 | brk=>obtain ⟨σ',H',I,q⟩:=h; exact⟨σ',H',I.kI,q⟩
 | cont=>obtain ⟨σ',H',I,q⟩:=h; exact⟨σ',H',I.kI,q⟩
 | ret u=>obtain ⟨v,σ',H',I,r,q⟩:=h; exact⟨v,σ',H',I.kI,r,q⟩
theorem PSs.nox{st:List Stmt}{t:TS}(h:PSs X.nox st t):PSs X st t:=fun pins s σ H D I hw=>
 wpAny_mono (h pins s σ H D (I.wish _) hw) (fun _ _ q=>q.kI) fun _ _ z=>False.elim z
end
section
variable {X:Cx}{st:Stmt}{rest:List Stmt}{t u:TS}{e:Expr}{te:TE}{pos:Pos}
def Mf:TS:=fun D σ H=>D.nx σ H
def Oc(t u:TS):TS:=fun D σ H=>t { D with nx:=u D } σ H
theorem bx:PSs X [] Mf:=fun _ _ σ H _ I h=>wpAny_execs_nil ⟨σ,H,I,h⟩
theorem aC(h1:PS X st t)(h2:PSs X rest u):PSs X (st::rest) (Oc t u):=by
 intro pins s σ H D I h
 refine wpAny_execs_cons (thn (h1 pins s σ H { D with nx:=u D } I h) fun f s1 q=>?_)
 cases f with
 | next=>
  obtain ⟨σ',H',I',q⟩:=q
  exact h2 pins s1 σ' H' D I' q
 | ret v=>exact q
 | brk=>exact q
 | cont=>exact q
theorem aH(h1:PS X st t):PSs X [st] t:=by
 intro pins s σ H D I h
 refine wpAny_execs_cons (thn (h1 pins s σ H D I h) fun f s1 q=>?_)
 cases f with
 | next=>exact wpAny_execs_nil q
 | ret v=>exact q
 | brk=>exact q
 | cont=>exact q
theorem Inv.quiet{pins:List (Addr × Obj)}{σ:St}{H:Hp}{s:Shared}(I:Inv X pins σ H s):interactive X.env=false:=by simp [interactive,I.ok.kind]
def Ls(te:TE):TS:=fun D σ H=>te σ H fun _ H1=>D.nx σ H1
theorem jo(he:PE X e te)(hs:swapsWith e none pos.line X.env=pure false:=by rfl):PS X (.Expr e pos) (Ls te):=by
 intro pins s σ H D I h
 exact wpAny_Expr_any (thn (he pins s σ H _ I h) fun v s1 ⟨x,H1,I1,r1,q1⟩=>⟨σ,H1,I1,q1⟩) I.quiet hs
def Og(te:TE):TS:=fun D σ H=>te σ H D.rt
theorem aR(he:PE X e te):PS X (.Return (some e) pos) (Og te):=by
 intro pins s σ H D I h
 exact wpAny_Return_some (thn (he pins s σ H _ I h) fun v s1 ⟨x,H1,I1,r1,q1⟩=>⟨x,σ,H1,I1,r1,q1⟩)
def Oe(c:TT)(t u:TS):TS:=fun D σ H=>c σ H fun b H1=>if b=true then t D σ H1 else u D σ H1
theorem cC{c:Expr}{a b:List Stmt}{tc:TT}(hc:PT X c tc)(ha:PSs X a t)(hb:PSs X b u):PS X (.If c a b pos) (Oe tc t u):=by
 intro pins s σ H D I h
 refine wpAny_If (thn (hc pins s σ H _ I h) fun d s1 ⟨H1,I1,q1⟩=>?_)
 cases d with
 | true=>exact ha pins s1 σ H1 D I1 q1
 | false=>exact hb pins s1 σ H1 D I1 q1
def K1:TS:=fun _ _ _=>False
theorem GJ:PS X st K1:=fun _ _ _ _ _ _ h=>h.elim
end
abbrev TG:=V→St→Hp→(St→Hp→Prop)→Prop
abbrev TGs:=List V→St→Hp→(St→Hp→Prop)→Prop
def PG(X:Cx)(target:Expr)(t:TG):Prop:=
 ∀(pins:List (Addr × Obj)) (s:Shared) (σ:St) (H:Hp) (v:V) (u:Value) (Q:St→Hp→Prop),Inv X pins σ H s→RelV v u→t v σ H Q→
  wpAny (model X.prog X.w) X.A (assign target X.env u) (fun _ s'=>∃ σ' H',Inv X pins σ' H' s'∧Q σ' H') X.xe s
def PGs(X:Cx)(ts:List Expr)(t:TGs):Prop:=
 ∀(pins:List (Addr × Obj)) (s:Shared) (σ:St) (H:Hp) (vs:List V) (us:List Value) (Q:St→Hp→Prop),Inv X pins σ H s→Vals vs us→t vs σ H Q→
  wpAny (model X.prog X.w) X.A (assignInOrder ((assignEach ts X.env).map (·.2)) us) (fun _ s'=>∃ σ' H',Inv X pins σ' H' s'∧Q σ' H') X.xe s
abbrev Kg:=V→V→V→Hp→(Hp→Prop)→Prop
def Lp(X:Cx)(t:Kg):Prop:=
 ∀(pins:List (Addr × Obj)) (s:Shared) (σ:St) (H:Hp) (o i v:V) (ov iv u:Value) (Q:Hp→Prop),Inv X pins σ H s→RelV o ov→RelV i iv→RelV v u→t o i v H Q→
  wpAny (model X.prog X.w) X.A (setItem ov iv u) (fun _ s'=>∃ H',Inv X pins σ H' s'∧Q H') X.xe s
section
variable {X:Cx}{pos:Pos}
def Cu(i:Nat):TG:=fun v σ H Q=>Q (σ.set i (some v)) H
theorem aQ{i:Nat}{x:Str}(hN:X.N.Nodup)(hi:X.N[i]?=some x)(hx:Loc X.env.scope x)(hf:X.fn x=true∨X.env.scope.names.lookup x=some .local:=by first | exact .inl rfl | exact .inr rfl | assumption):PG X (.Name x pos) (Cu i):=by
 intro pins s σ H v u Q I r h
 exact wpAny_assign_Name (tV I hN hi hx r (fun s' I'=>⟨_,H,I',h⟩) hf)
def Oh:TGs:=fun vs σ H Q=>vs=[]∧Q σ H
def Lx(t:TG)(u:TGs):TGs:=fun vs σ H Q=>∃ v r,vs=v::r∧t v σ H fun σ' H'=>u r σ' H' Q
theorem jr:PGs X [] Oh:=by
 intro pins s σ H vs us Q I r h
 obtain ⟨e,h⟩:=h
 subst e
 cases r
 exact assignInOrder_nil ⟨σ,H,I,h⟩
theorem cB{e:Expr}{es:List Expr}{t:TG}{u:TGs}(h1:PG X e t)(h2:PGs X es u)
  (hs:(assignEach (e::es) X.env).map (·.2)=assign e X.env::(assignEach es X.env).map (·.2):=by rfl):PGs X (e::es) (Lx t u):=by
 intro pins s σ H vs us Q I r h
 obtain ⟨v,vr,e1,h⟩:=h
 subst e1
 cases r with
 | cons r rr=>
  rw [hs]
  refine assignInOrder_cons (thn (h1 pins s σ H _ _ _ I r h) fun _ s1 ⟨σ1,H1,I1,q1⟩=>?_)
  exact h2 pins s1 σ1 H1 _ _ Q I1 rr q1
def Ly(K:PySem.W.Frag)(n:Nat)(t:TGs):TG:=fun v σ H Q=>∃ a xs,v=.ref a∧SqT K H a xs∧xs.length=n∧t xs σ H Q
theorem sX{es:List Expr}{k:Nat}{t:TGs}{n:Nat}(hc:X.calm=true)(h:PGs X es t)
  (hn:(assignEach es X.env).length=n:=by rfl) (hst:(assignEach es X.env).findIdx? (·.1)=none:=by rfl):PG X (.Tuple es k pos) (Ly X.K n t):=by
 intro pins s σ H v u Q I r hw
 obtain ⟨a,xs,e1,hq,hl,hw⟩:=hw
 subst e1
 cases r
 obtain ⟨its,rv,ht,hz⟩:=I.tuple hq
 refine assign_Tuple_tuple (I.ok.hd hc) ht (by simp [hn,← hl,rv.length]) hst fun h' hx=>?_
 have I1:Inv X pins σ H { s with heap:=h' }:=I.kept (t':=s.toks) fun b o e=>hx b o (Nat.ne_of_lt (Heap.lt_size e)) e
 exact h pins _ σ H xs _ Q I1 (by simpa using rv) hw
def N8(to ti:TE)(t:Kg):TG:=fun v σ H Q=>to σ H fun o H1=>ti σ H1 fun i H2=>t o i v H2 fun H3=>Q σ H3
theorem zN{o i:Expr}{to ti:TE}{t:Kg}(ho:PE X o to)(hi:PE X i ti)(hs:Lp X t)
  (ha:∀ v,assign (.Subscript o i pos) X.env v=(do
   let ov ← holding [v] (eval o X.env)
   let iv ← holding [v,ov] (eval i X.env)
   standAt pos
   holding [v,ov,iv] (setItem ov iv v)
   release [v,ov,iv] []):=by intro _; rfl):PG X (.Subscript o i pos) (N8 to ti t):=by
 intro pins s σ H v u Q I r h
 rw [ha]
 refine wpAny_bind (wpAny_holding (thn (ho pins s σ H _ I h) fun ov s1 ⟨x,H1,I1,r1,q1⟩=>?_))
 refine wpAny_bind (wpAny_holding (thn (hi pins s1 σ H1 _ I1 q1) fun iv s2 ⟨y,H2,I2,r2,q2⟩=>?_))
 refine wpAny_bind (wpAny_standAt (wpAny_bind (wpAny_holding (thn (hs pins s2 σ H2 x y v ov iv u _ I2 r1 r2 r q2) fun _ s3 ⟨H3,I3,q3⟩=>?_))))
 exact wpAny_release ⟨σ,H3,I3,q3⟩
def K9(te:TE)(g:TG):TS:=fun D σ H=>te σ H fun x H1=>g x σ H1 D.nx
theorem wK{tg e:Expr}{te:TE}{g:TG}(he:PE X e te)(hg:PG X tg g)(hs:swapsWithSole [tg] e pos.line X.env=pure false:=by rfl)(hw:swappedStores [tg] e X.env=pure none:=by rfl)
  (h1:(assignEach [tg] X.env).map (·.2)=[assign tg X.env]:=by rfl):PS X (.Assign [tg] e pos) (K9 te g):=by
 intro pins s σ H D I h
 refine wpAny_Assign_stores (thn (he pins s σ H _ I h) fun v s1 ⟨x,H1,I1,r1,q1⟩=>?_) hs hw
 rw [h1]
 exact thn (hg pins s1 σ H1 x v _ I1 r1 q1) fun _ s2 q=>q
theorem aP{i:Nat}{x:Str}{e:Expr}{te:TE}{pos':Pos}(hN:X.N.Nodup)(hi:X.N[i]?=some x)(hx:Loc X.env.scope x)(he:PE X e te)(hs:swapsWith e (some (.Name x pos')) pos.line X.env=pure false:=by rfl)(hf:X.fn x=true∨X.env.scope.names.lookup x=some .local:=by first | exact .inl rfl | exact .inr rfl | assumption) :
  PS X (.Assign [.Name x pos'] e pos) (K9 te (Cu i)):=by
 intro pins s σ H D I h
 refine wpAny_Assign_Name (thn (he pins s σ H _ I h) fun v s1 ⟨y,H1,I1,r1,q1⟩=>?_) hs
 exact tV I1 hN hi hx r1 (fun s2 I2=>⟨_,H1,I2,q1⟩) hf
end
section
variable {X:Cx}{pos:Pos}
def KY(c:TT)(tb:TS):TS:=fun D σ H=>∃ W:Nat→St→Hp→Prop,(∃ m,W m σ H)∧∀ m σ H,W m σ H→
 c σ H fun b H1=>if b=true then ∃ N:St→Hp→Prop,(∀ σ' H',N σ' H'→∃ m',m' < m∧W m' σ' H')∧tb { D with nx:=N,ct:=N,bk:=D.nx } σ H1 else D.nx σ H1
theorem lg{c:Expr}{body:List Stmt}{tc:TT}{tb:TS}(hp:PassesOwn (model X.prog X.w) X.A X.env X.xe)(hc:PT X c tc)(hb:PSs X body tb):PS X (.While c body [] pos) (KY tc tb):=by
 intro pins s σ H D I h
 obtain ⟨W,⟨m0,w0⟩,turn⟩:=h
 refine wpAny_While (codeAny_whileLoop (fun n s'=>∃ σ' H',Inv X pins σ' H' s'∧W n σ' H') ?_ m0 ⟨σ,H,I,w0⟩)
 rintro n s1 ⟨σ1,H1,I1,w1⟩
 refine wpAny_passesOwn hp (thn (hc pins s1 σ1 H1 _ I1 (turn n σ1 H1 w1)) fun b s2 ⟨H2,I2,q2⟩=>?_)
 cases b with
 | true=>
  obtain ⟨N,hN,q2⟩:=q2
  rw [if_pos rfl]
  refine wpAny_passesOwn hp (thn (hb pins s2 σ1 H2 _ I2 q2) fun f s3 q3=>?_)
  cases f with
  | next=>
   obtain ⟨σ3,H3,I3,n3⟩:=q3
   obtain ⟨m',hm,w3⟩:=hN σ3 H3 n3
   exact⟨m',hm,σ3,H3,I3,w3⟩
  | cont=>
   obtain ⟨σ3,H3,I3,n3⟩:=q3
   obtain ⟨m',hm,w3⟩:=hN σ3 H3 n3
   exact⟨m',hm,σ3,H3,I3,w3⟩
  | brk=>exact q3
  | ret v=>exact q3
 | false=>
  rw [if_neg Bool.false_ne_true]
  exact wpAny_execs_nil ⟨σ1,H2,I2,q2⟩
end
structure It where
 go:Nat→Hp→Prop
 yld:Nat→Hp→V→Hp→Prop
 stop:Nat→Hp→Prop
def nW(X:Cx)(pins:List (Addr × Obj))(H:Hp)(b:Addr):Prop:=
 H b=none∧b≠X.env.locals∧b ∉ X.fs∧(b∈X.ex∨X.s₀.heap.objs.size≤b)∧(∀ x c,X.env.cells.lookup x=some c→c≠b)∧∀ p∈X.pn++pins,p.1≠b
theorem Inv.mY{X:Cx}{pins:List (Addr × Obj)}{σ:St}{H H':Hp}{s:Shared}{b:Addr}(I:Inv X pins σ H s)(hb:s.heap.objs.size≤b)(hn:H' b=none):nW X pins H' b:=by
 refine⟨hn,Nat.ne_of_gt (Nat.lt_of_lt_of_le I.lt hb),I.Oo hb,.inr (Nat.le_trans I.sz hb),fun x c e z=>?_,fun p hp z=>?_⟩
 ·obtain ⟨v,q⟩:=I.cell x c e
  exact absurd (Nat.lt_of_lt_of_le q.lt (by rw [z]; exact hb)) (Nat.lt_irrefl _)
 ·exact absurd (Nat.lt_of_lt_of_le (Heap.lt_size (I.pin p hp).1) (by rw [z]; exact hb)) (Nat.lt_irrefl _)
structure Turn (P:Program) (w:World) (K:PySem.W.Frag) (tg:Expr) (J:It) (fp:List Addr) (it:Addr) (tn:Nat→Heap→Prop):Prop where
 mem:it∈fp
 obj:∀ i h,tn i h→∀ b∈fp,∃ o,h.get? b=some o∧∀ v,o.data≠.cell v
 keep:∀ i h h',tn i h→(∀ b∈fp,∀ o,h.get? b=some o→h'.get? b=some o)→tn i h'
 item:∀(X:Cx),X.prog=P→X.w=w→X.K=K→X.calm=true→∀(i:Nat) (pins:List (Addr × Obj)) (s:Shared) (σ:St) (H:Hp) (E:Value→Shared→Prop),Inv X pins σ H s→(∀ b∈fp,nW X pins H b)→tn i s.heap→J.go i H→
  wpAny (model P w) X.A (pyNext (.ref it)) (fun r s1=>∃ u,r=some u∧
   wpAny (model P w) X.A (letOwnedTupleGo tg (.ref it) u) (fun _ s2=>∃ x H',Inv X pins σ H' s2∧RelV x u∧J.yld i H x H'∧tn (i+1) s2.heap∧∀ b∈fp,H' b=none) E s1) E s
 done:∀(X:Cx),X.prog=P→X.w=w→X.K=K→X.calm=true→∀(i:Nat) (pins:List (Addr × Obj)) (s:Shared) (σ:St) (H:Hp) (E:Value→Shared→Prop),Inv X pins σ H s→(∀ b∈fp,nW X pins H b)→tn i s.heap→J.stop i H→
  wpAny (model P w) X.A (pyNext (.ref it)) (fun r s1=>r=none∧Inv X pins σ H s1) E s
 self:∀(A:Around) (i:Nat) (s:Shared) (Q:Value→Shared→Prop) (E:Value→Shared→Prop),tn i s.heap→Q (.ref it) s→wpAny (model P w) A (pyIter (.ref it)) Q E s
abbrev TI:=St→Hp→(It→Hp→Prop)→Prop
def PIE(X:Cx)(pins:List (Addr × Obj))(σ:St)(tg:Expr)(R:It→Hp→Prop)(itv:Value)(s2:Shared):Prop:=
 ∃(it:Addr) (fp:List Addr) (tn:Nat→Heap→Prop) (J:It) (H':Hp),itv=.ref it∧Inv X pins σ H' s2∧Turn X.prog X.w X.K tg J fp it tn∧tn 0 s2.heap∧(∀ b∈fp,nW X pins H' b)∧R J H'
def PI(X:Cx)(tg iter:Expr)(wi:TI):Prop:=
 ∀(pins:List (Addr × Obj)) (s:Shared) (σ:St) (H:Hp) (R:It→Hp→Prop),Inv X pins σ H s→wi σ H R→
  wpAny (model X.prog X.w) X.A (eval iter X.env) (fun v s1=>wpAny (model X.prog X.w) X.A (pyIter v) (PIE X pins σ tg R) X.xe s1) X.xe s
theorem Bj{M:Model}{A:Around}{E:Value→Shared→Prop}{s:Shared}{tg:Expr}{it:Addr}{u:Value}{o:Obj}{n:String}{vs:Array Value}{Q:Unit→Shared→Prop}(ho:s.heap.get? it=some o)(hc:o.cls=.type n)(hd:o.data=.fields vs)
    (hn:["enumerate","zip","dict_itemiterator","dict_reverseitemiterator","odict_iterator","itertools.zip_longest","itertools.pairwise"].contains n=false) (hQ:Q () s):wpAny M A (letOwnedTupleGo tg (.ref it) u) Q E s:=by
  unfold letOwnedTupleGo
  cases tg <;> first
    | exact wpAny_pure hQ
    | (cases u <;> first
        | exact wpAny_pure hQ
        | (refine wpAny_bind (wpAny_load ho ?_)
           rw [hc,hd]
           show wpAny M A (if (["enumerate","zip","dict_itemiterator","dict_reverseitemiterator","odict_iterator","itertools.zip_longest","itertools.pairwise"].contains n && vs[0]? == some (rawInt _))=true then _ else _) Q E s
           rw [if_neg (by intro h; rw [hn,Bool.false_and] at h; cases h)]
           exact wpAny_pure hQ))
def Itl(K:PySem.W.Frag)(a:Addr):It:=
 ⟨fun i H=>∃ xs x,SqL K H a xs∧xs[i]?=some x,fun i H x H'=>H'=H∧∀ xs,SqL K H a xs→xs[i]?=some x,fun i H=>∃ xs,SqL K H a xs∧xs.length≤i⟩
def Itt(K:PySem.W.Frag)(a:Addr):It:=
 ⟨fun i H=>∃ xs x,SqT K H a xs∧xs[i]?=some x,fun i H x H'=>H'=H∧∀ xs,SqT K H a xs→xs[i]?=some x,fun i H=>∃ xs,SqT K H a xs∧xs.length≤i⟩
def Itr(lo:Int)(n:Nat):It:=⟨fun i _=>i < n,fun i H x H'=>H'=H∧x=.int (lo+i),fun i _=>n≤i⟩
theorem uW{P:Program}{w:World}{K:PySem.W.Frag}{tg:Expr}(a it:Addr):Turn P w K tg (Itl K a) [it] it (fun i h=>h.IsListIter it a i) where
 mem:=by simp
 obj:=fun i h st b hb=>by
  have e:b=it:=by simpa using hb
  subst e
  obtain ⟨o,e,c,d⟩:=st
  exact⟨o,e,fun v z=>by rw [d] at z; cases z⟩
 keep:=fun i h h' st k=>st.at fun o e=>k it (by simp) o e
 item:=by
  intro X hP hw hK hc i pins s σ H E I hf st hg
  subst hP hw hK
  obtain ⟨xs,x,hq,hx⟩:=hg
  obtain ⟨its,rv,p,hz⟩:=I.list hq
  obtain ⟨u,hu,ru⟩:=rv.get hx
  obtain ⟨f0,f1,f2,f3,f4,f5⟩:=hf it (by simp)
  refine wpAny_pyNext_list_item st p.isList (x:=u) (by simpa using hu) fun h' st' sb=>?_
  have I1:Inv X pins σ H { s with heap:=h' }:=I.turned (t':=s.toks) (fun b o hb e=>(sb.2 b hb).trans e) f0 f1 f3 f4 f5
  obtain ⟨o,e,c,d⟩:=id st'
  exact⟨u,rfl,Bj (s:={ s with heap:=h' }) e c d (by decide) ⟨x,H,I1,ru,⟨rfl,fun ys hy=>by rw [I.yD hy hq]; exact hx⟩,st',fun b hb=>(hf b hb).1⟩⟩
 done:=by
  intro X hP hw hK hc i pins s σ H E I hf st hg
  subst hP hw hK
  obtain ⟨xs,hq,hx⟩:=hg
  obtain ⟨its,rv,p,hz⟩:=I.list hq
  obtain ⟨f0,f1,f2,f3,f4,f5⟩:=hf it (by simp)
  have hl:=rv.length
  exact wpAny_pyNext_list_end (I.ok.hd hc) st p.isList (by simp; omega) fun h' eb=>⟨rfl,I.turned (t':=s.toks) (fun b o hb e=>eb b o hb e) f0 f1 f3 f4 f5⟩
 self:=fun _ _ _ _ _ st h=>wpAny_pyIter_listiter st h
theorem tM{P:Program}{w:World}{K:PySem.W.Frag}{tg:Expr}(a it:Addr):Turn P w K tg (Itt K a) [it] it (fun i h=>h.IsTupleIter it a i) where
 mem:=by simp
 obj:=fun i h st b hb=>by
  have e:b=it:=by simpa using hb
  subst e
  obtain ⟨o,e,c,d⟩:=st
  exact⟨o,e,fun v z=>by rw [d] at z; cases z⟩
 keep:=fun i h h' st k=>st.at fun o e=>k it (by simp) o e
 item:=by
  intro X hP hw hK hc i pins s σ H E I hf st hg
  subst hP hw hK
  obtain ⟨xs,x,hq,hx⟩:=hg
  obtain ⟨its,rv,p,hz⟩:=I.tuple hq
  obtain ⟨u,hu,ru⟩:=rv.get hx
  obtain ⟨f0,f1,f2,f3,f4,f5⟩:=hf it (by simp)
  refine wpAny_pyNext_tuple_item st (show s.heap.IsTuple a its.toArray from p) (x:=u) (by simpa using hu) fun h' st' sb=>?_
  have I1:Inv X pins σ H { s with heap:=h' }:=I.turned (t':=s.toks) (fun b o hb e=>(sb.2 b hb).trans e) f0 f1 f3 f4 f5
  obtain ⟨o,e,c,d⟩:=id st'
  exact⟨u,rfl,Bj (s:={ s with heap:=h' }) e c d (by decide) ⟨x,H,I1,ru,⟨rfl,fun ys hy=>by rw [I.nO hy hq]; exact hx⟩,st',fun b hb=>(hf b hb).1⟩⟩
 done:=by
  intro X hP hw hK hc i pins s σ H E I hf st hg
  subst hP hw hK
  obtain ⟨xs,hq,hx⟩:=hg
  obtain ⟨its,rv,p,hz⟩:=I.tuple hq
  obtain ⟨f0,f1,f2,f3,f4,f5⟩:=hf it (by simp)
  have hl:=rv.length
  exact wpAny_pyNext_tuple_end (I.ok.hd hc) st (show s.heap.IsTuple a its.toArray from p) (by simp; omega) fun h' eb=>⟨rfl,I.turned (t':=s.toks) (fun b o hb e=>eb b o hb e) f0 f1 f3 f4 f5⟩
 self:=fun _ _ _ _ _ st h=>wpAny_pyIter_tupleiter st h
theorem za{P:Program}{w:World}{K:PySem.W.Frag}{tg:Expr}(it:Addr)(lo:Int)(n:Nat):Turn P w K tg (Itr lo n) [it] it (fun i h=>IsRangeIter h it (lo+(i:Nat) * 1) ((n:Int) - (i:Nat)) 1) where
 mem:=by simp
 obj:=fun i h st b hb=>by
  have e:b=it:=by simpa using hb
  subst e
  exact⟨_,st,fun v z=>by
   have z':Data.fields _=Data.cell v:=z
   cases z'⟩
 keep:=fun i h h' st k=>k it (by simp) _ st
 item:=by
  intro X hP hw hK hc i pins s σ H E I hf st hg
  subst hP hw hK
  obtain ⟨f0,f1,f2,f3,f4,f5⟩:=hf it (by simp)
  have W:=Walks.range (prog:=X.prog) (w:=X.w) (I.ok.hd hc) it lo 1 n
  refine W.item i s _ _ hg st fun v h' tk hv st' kk=>?_
  obtain ⟨t,rfl⟩:=hv
  have I1:Inv X pins σ H { s with heap:=h',toks:=tk }:=I.turned (fun b o hb e=>kk b o (by simpa using hb) e) f0 f1 f3 f4 f5
  refine⟨_,rfl,Bj (s:={ s with heap:=h',toks:=tk }) (n:= "range_iterator") st' rfl rfl (by decide) ⟨.int (lo+i),H,I1,⟨t,?_⟩,⟨rfl,rfl⟩,st',fun b hb=>(hf b hb).1⟩⟩
  rw [Int.mul_one]
 done:=by
  intro X hP hw hK hc i pins s σ H E I hf st hg
  subst hP hw hK
  obtain ⟨f0,f1,f2,f3,f4,f5⟩:=hf it (by simp)
  exact wpAny_pyNext_range_end (I.ok.hd hc) st (by have:n≤i:=hg; omega) fun h' eb=>⟨rfl,I.turned (t':=s.toks) (fun b o hb e=>eb b o hb e) f0 f1 f3 f4 f5⟩
 self:=fun _ _ _ _ _ st h=>wpAny_pyIter_rangeiter st h
end L2
namespace L2
open PySem PySem.Spec PyProof.Rows
section
variable {X:Cx}{tg:Expr}
def JC(K:PySem.W.Frag)(tl:TE):TI:=fun σ H R=>tl σ H fun x H1=>∃ a,x=.ref a∧(∃ xs,SqL K H1 a xs)∧R (Itl K a) H1
def Mj(K:PySem.W.Frag)(tl:TE):TI:=fun σ H R=>tl σ H fun x H1=>∃ a,x=.ref a∧(∃ xs,SqT K H1 a xs)∧R (Itt K a) H1
theorem eZ{l:Expr}{tl:TE}(hl:PE X l tl):PI X tg l (JC X.K tl):=by
 intro pins s σ H R I h
 refine thn (hl pins s σ H _ I h) fun v s1 ⟨x,H1,I1,r1,q1⟩=>?_
 obtain ⟨a,e,⟨xs,hq⟩,q⟩:=q1
 subst e
 cases r1
 obtain ⟨its,rv,p,hz⟩:=I1.list hq
 refine wpAny_pyIter_list p.isList ?_
 refine⟨s1.heap.objs.size,[s1.heap.objs.size],_,_,H1,rfl,I1.kept (t':=s1.toks) fun b o e=>Heap.get?_push_of_some _ e,uW a _,⟨_,Heap.get?_push_size _ rfl,rfl,rfl⟩,fun b hb=>?_,q⟩
 have e:b=s1.heap.objs.size:=by simpa using hb
 subst e
 exact I1.mY (Nat.le_refl _) (I1.hok.fresh (Nat.le_refl _))
theorem eY{l:Expr}{tl:TE}(hl:PE X l tl):PI X tg l (Mj X.K tl):=by
 intro pins s σ H R I h
 refine thn (hl pins s σ H _ I h) fun v s1 ⟨x,H1,I1,r1,q1⟩=>?_
 obtain ⟨a,e,⟨xs,hq⟩,q⟩:=q1
 subst e
 cases r1
 obtain ⟨its,rv,p,hz⟩:=I1.tuple hq
 refine wpAny_pyIter_tuple (show s1.heap.IsTuple a its.toArray from p) ?_
 refine⟨s1.heap.objs.size,[s1.heap.objs.size],_,_,H1,rfl,I1.kept (t':=s1.toks) fun b o e=>Heap.get?_push_of_some _ e,tM a _,⟨_,Heap.get?_push_size _ rfl,rfl,rfl⟩,fun b hb=>?_,q⟩
 have e:b=s1.heap.objs.size:=by simpa using hb
 subst e
 exact I1.mY (Nat.le_refl _) (I1.hok.fresh (Nat.le_refl _))
theorem Ge{pins:List (Addr × Obj)}{σ:St}{H:Hp}{s:Shared}{R:It→Hp→Prop}{E:Value→Shared→Prop}{lo hi:Int}{t u v:Tok}{tk:Nat}(I:Inv X pins σ H s)(h1:-(2 ^ 62)≤lo)(h2:lo < 2 ^ 62)(h3:-(2 ^ 62)≤hi)(h4:hi < 2 ^ 62)
  (q:R (Itr lo (hi - lo).toNat) H):wpAny (model X.prog X.w) X.A (pyIter (.ref s.heap.objs.size)) (PIE X pins σ tg R) E { s with heap:=s.heap.push { cls:=.type "range",data:=.fields #[.int lo t,.int hi u,.int 1 v] },toks:=tk }:=by
 refine wpAny_pyIter_range (IsRange.new ..) (small_one h1 h2 h3 h4) ?_
 have I1:Inv X pins σ H { s with heap:=s.heap.push { cls:=.type "range",data:=.fields #[.int lo t,.int hi u,.int 1 v] },toks:=tk }:=I.kept fun b o e=>Heap.get?_push_of_some _ e
 refine⟨(s.heap.push { cls:=.type "range",data:=.fields #[.int lo t,.int hi u,.int 1 v] }).objs.size,[(s.heap.push { cls:=.type "range",data:=.fields #[.int lo t,.int hi u,.int 1 v] }).objs.size],_,_,H,rfl,
  I1.kept (t':=tk) fun b o e=>Heap.get?_push_of_some _ e,za _ lo (hi - lo).toNat,?_,fun b hb=>?_,q⟩
 ·have e1:lo+((0:Nat):Int) * 1=lo:=by simp
  have e2:(((hi - lo).toNat:Nat):Int) - ((0:Nat):Int)=Builtin.Range.rangeSize lo hi 1:=by rw [rangeSize_one]; split <;> omega
  show IsRangeIter _ _ (lo+((0:Nat):Int) * 1) ((((hi - lo).toNat:Nat):Int) - ((0:Nat):Int)) 1
  rw [e1,e2]
  exact Heap.get?_push_size _ rfl
 ·have e:b=(s.heap.push { cls:=.type "range",data:=.fields #[.int lo t,.int hi u,.int 1 v] }).objs.size:=by simpa using hb
  subst e
  exact I1.mY (Nat.le_refl _) (I1.hok.fresh (Nat.le_refl _))
def Lg(ta:TA):TI:=fun σ H R=>ta σ H fun vs H1=>∃ j:Int,vs=[.int j]∧-(2 ^ 62)≤j∧j < 2 ^ 62∧R (Itr 0 j.toNat) H1
theorem jm{a:Expr}{ta:TA}{p pos:Pos}(hg:Gl X "range")(hm:X.mg "range" = none)(ha:PA X [a] ta)(hs:starEach [a] X.env=[(false,eval a X.env)]:=by rfl):PI X tg (.Call (.Name "range" p) [a] [] pos) (Lg ta):=by
 intro pins s σ H R I h
 refine Call_ (oR I hg hm boot_range (PyProof.Rows.callWith_type1 (thn (ha pos pins s σ H _ I h) fun us s1 ⟨vs,H1,I1,r1,q1⟩=>?_) hs rfl))
 obtain ⟨j,e,q1,q2,q⟩:=q1
 subst e
 cases r1 with
 | cons r rr=>
  cases rr
  obtain ⟨t,rfl⟩:=r
  exact call_range_1 (Ge I1 (by omega) (by omega) q1 q2 (by simpa using q))
def Om(wi:TI)(g:TG)(tb:TS):TS:=fun D σ H=>wi σ H fun J H1=>∃ W:Nat→Nat→St→Hp→Prop,(∃ m,W 0 m σ H1)∧∀ i m σ H,W i m σ H→
 (J.stop i H∧D.nx σ H)∨(J.go i H∧∃ N:St→Hp→Prop,(∀ σ' H',N σ' H'→∃ m',m' < m∧W (i+1) m' σ' H')∧∀ x H',J.yld i H x H'→g x σ H' fun σ2 H2=>tb { D with nx:=N,ct:=N,bk:=D.nx } σ2 H2)
def tY(fp:List Addr)(h:Heap):List (Addr × Obj):=fp.filterMap fun b=>(h.get? b).map fun o=>(b,o)
theorem lV{fp:List Addr}{h:Heap}{b:Addr}{o:Obj}(hb:b∈fp)(e:h.get? b=some o):(b,o)∈tY fp h:=List.mem_filterMap.mpr ⟨b,hb,by rw [e]; rfl⟩
theorem CZ{fp:List Addr}{h:Heap}{p:Addr × Obj}(hp:p∈tY fp h):p.1∈fp∧h.get? p.1=some p.2:=by
 obtain ⟨b,hb,e⟩:=List.mem_filterMap.mp hp
 cases q:h.get? b with
 | none=>rw [q] at e; cases e
 | some o=>
  rw [q] at e
  have e':(b,o)=p:=Option.some.inj e
  subst e'
  exact⟨hb,q⟩
theorem Inv.pinned{pins:List (Addr × Obj)}{σ:St}{H:Hp}{s:Shared}{fp:List Addr}(I:Inv X pins σ H s)(hf:∀ b∈fp,nW X pins H b)(ho:∀ b∈fp,∃ o,s.heap.get? b=some o∧∀ v,o.data≠.cell v):Inv X (pins++tY fp s.heap) σ H s:=
 I.Ck fun p hp=>(List.mem_append.mp hp).elim (fun z=>I.pin p (List.mem_append_right _ z)) fun z=>by
  obtain ⟨hb,e⟩:=CZ z
  obtain ⟨f0,f1,f2,_⟩:=hf p.1 hb
  obtain ⟨o,e',d⟩:=ho p.1 hb
  rw [e] at e'; cases e'
  exact⟨e,f0,f1,f2,d⟩
theorem Inv.pX{pins pl:List (Addr × Obj)}{σ:St}{H:Hp}{s:Shared}(I:Inv X (pins++pl) σ H s):Inv X pins σ H s:=I.Ck fun p hp=>I.pin p (List.mem_append_right _ (List.mem_append_left _ hp))
theorem gZ{iter:Expr}{body:List Stmt}{wi:TI}{g:TG}{tb:TS}{pos:Pos}(hp:PassesOwn (model X.prog X.w) X.A X.env X.xe)(hc:X.calm=true)(hi:PI X tg iter wi)(hg:PG X tg g)(hb:PSs X body tb)
  (hs:∀ x,foldedSetIterable iter X.env x=pure x:=by intro _; rfl):PS X (.For tg iter body [] pos) (Om wi g tb):=by
 intro pins s σ H D I h
 refine wpAny_For (thn (hi pins s σ H _ I h) fun v s1 h1=>thn h1 fun itv s2 h2=>?_) hs
 obtain ⟨it,fp,tn,J,H2,e,I2,T,st2,f2,W,⟨m0,w0⟩,turn⟩:=h2
 subst e
 have stat:∀ {H':Hp},(∀ b∈fp,H' b=none)→∀ b∈fp,nW X pins H' b:=fun hn b hb=>⟨hn b hb,(f2 b hb).2⟩
 refine codeAny_forLoop_any (fun n s'=>∃ i σ' H',Inv X pins σ' H' s'∧tn i s'.heap∧(∀ b∈fp,H' b=none)∧W i n σ' H') ?_ m0 ⟨0,σ,H2,I2,st2,fun b hb=>(f2 b hb).1,w0⟩
 rintro n s3 ⟨i,σ3,H3,I3,st3,fr3,w3⟩
 rcases turn i n σ3 H3 w3 with ⟨stop,qn⟩ | ⟨go,N,hN,step⟩
 ·refine wpAny_passesOwn hp (thn (T.done X rfl rfl rfl hc i pins s3 σ3 H3 X.xe I3 (stat fr3) st3 stop) fun r s4 ⟨hr,I4⟩=>?_)
  subst hr
  exact wpAny_execs_nil ⟨σ3,H3,I4,qn⟩
 ·refine wpAny_passesOwn hp (thn (T.item X rfl rfl rfl hc i pins s3 σ3 H3 X.xe I3 (stat fr3) st3 go) fun r s4 ⟨u,hr,h4⟩=>?_)
  subst hr
  refine wpAny_passesOwn hp (thn h4 fun _ s5 ⟨x,H5,I5,r5,y5,st5,fr5⟩=>?_)
  have I5':=I5.pinned (stat fr5) (T.obj _ _ st5)
  refine wpAny_passesOwn hp (thn (hg _ s5 σ3 H5 x u _ I5' r5 (step x H5 y5)) fun _ s6 ⟨σ6,H6,I6,q6⟩=>?_)
  refine wpAny_passesOwn hp (thn (hb _ s6 σ6 H6 _ I6 q6) fun f s7 q7=>?_)
  have again:∀ {σ7:St} {H7:Hp},Inv X (pins++tY fp s5.heap) σ7 H7 s7→N σ7 H7→∃ m,m < n∧∃ i σ' H',Inv X pins σ' H' s7∧tn i s7.heap∧(∀ b∈fp,H' b=none)∧W i m σ' H':=fun {σ7 H7} I7 n7=>by
   obtain ⟨m',hm,w7⟩:=hN σ7 H7 n7
   refine⟨m',hm,i+1,σ7,H7,I7.pX,T.keep _ _ _ st5 fun b hb o e=>(I7.pin (b,o) (List.mem_append_right _ (List.mem_append_right _ (lV hb e)))).1,fun b hb=>?_,w7⟩
   obtain ⟨o,e,d⟩:=T.obj _ _ st5 b hb
   exact(I7.pin (b,o) (List.mem_append_right _ (List.mem_append_right _ (lV hb e)))).2.1
  cases f with
  | next=>obtain ⟨σ7,H7,I7,n7⟩:=q7; exact again I7 n7
  | cont=>obtain ⟨σ7,H7,I7,n7⟩:=q7; exact again I7 n7
  | brk=>obtain ⟨σ7,H7,I7,q7⟩:=q7; exact⟨σ7,H7,I7.pX,q7⟩
  | ret v=>obtain ⟨x7,σ7,H7,I7,r7,q7⟩:=q7; exact⟨x7,σ7,H7,I7.pX,r7,q7⟩
end
theorem mO{K:PySem.W.Frag}{a:Addr}{xs:List V}{g:TG}{tb:TS}{D:Ends}{σ:St}{H:Hp}(Pv:Nat→St→Hp→Prop)(h0:Pv 0 σ H)(hl:∀ i σ H,i≤xs.length→Pv i σ H→SqL K H a xs)
  (hs:∀ i x σ H,xs[i]?=some x→Pv i σ H→g x σ H fun σ2 H2=>tb { D with nx:=Pv (i+1),ct:=Pv (i+1),bk:=D.nx } σ2 H2) (hd:∀ σ H,Pv xs.length σ H→D.nx σ H) :
  ∃ W:Nat→Nat→St→Hp→Prop,(∃ m,W 0 m σ H)∧∀ i m σ H,W i m σ H→
   ((Itl K a).stop i H∧D.nx σ H)∨((Itl K a).go i H∧∃ N:St→Hp→Prop,(∀ σ' H',N σ' H'→∃ m',m' < m∧W (i+1) m' σ' H')∧∀ x H',(Itl K a).yld i H x H'→g x σ H' fun σ2 H2=>tb { D with nx:=N,ct:=N,bk:=D.nx } σ2 H2):=by
 refine⟨fun i m σ H=>m=xs.length - i∧i≤xs.length∧Pv i σ H,⟨xs.length,by simp,Nat.zero_le _,h0⟩,?_⟩
 rintro i m σ H ⟨rfl,hi,p⟩
 have q:=hl i σ H hi p
 by_cases hlt:i < xs.length
 ·refine .inr ⟨⟨xs,xs[i],q,by simp [hlt]⟩,Pv (i+1),fun σ' H' p'=>⟨xs.length - (i+1),by omega,rfl,hlt,p'⟩,fun x H' y=>?_⟩
  obtain ⟨e,y⟩:=y
  subst e
  exact hs i x σ _ (y xs q) p
 ·have e:i=xs.length:=by omega
  subst e
  exact .inl ⟨⟨xs,q,Nat.le_refl _⟩,hd σ H p⟩
theorem rH{K:PySem.W.Frag}{a:Addr}{xs:List V}{g:TG}{tb:TS}{D:Ends}{σ:St}{H:Hp}(Pv:Nat→St→Hp→Prop)(h0:Pv 0 σ H)(hl:∀ i σ H,i≤xs.length→Pv i σ H→SqT K H a xs)
  (hs:∀ i x σ H,xs[i]?=some x→Pv i σ H→g x σ H fun σ2 H2=>tb { D with nx:=Pv (i+1),ct:=Pv (i+1),bk:=D.nx } σ2 H2) (hd:∀ σ H,Pv xs.length σ H→D.nx σ H) :
  ∃ W:Nat→Nat→St→Hp→Prop,(∃ m,W 0 m σ H)∧∀ i m σ H,W i m σ H→
   ((Itt K a).stop i H∧D.nx σ H)∨((Itt K a).go i H∧∃ N:St→Hp→Prop,(∀ σ' H',N σ' H'→∃ m',m' < m∧W (i+1) m' σ' H')∧∀ x H',(Itt K a).yld i H x H'→g x σ H' fun σ2 H2=>tb { D with nx:=N,ct:=N,bk:=D.nx } σ2 H2):=by
 refine⟨fun i m σ H=>m=xs.length - i∧i≤xs.length∧Pv i σ H,⟨xs.length,by simp,Nat.zero_le _,h0⟩,?_⟩
 rintro i m σ H ⟨rfl,hi,p⟩
 have q:=hl i σ H hi p
 by_cases hlt:i < xs.length
 ·refine .inr ⟨⟨xs,xs[i],q,by simp [hlt]⟩,Pv (i+1),fun σ' H' p'=>⟨xs.length - (i+1),by omega,rfl,hlt,p'⟩,fun x H' y=>?_⟩
  obtain ⟨e,y⟩:=y
  subst e
  exact hs i x σ _ (y xs q) p
 ·have e:i=xs.length:=by omega
  subst e
  exact .inl ⟨⟨xs,q,Nat.le_refl _⟩,hd σ H p⟩
theorem nG{lo:Int}{n:Nat}{g:TG}{tb:TS}{D:Ends}{σ:St}{H:Hp}(Pv:Nat→St→Hp→Prop)(h0:Pv 0 σ H)
  (hs:∀ i σ H,i < n→Pv i σ H→g (.int (lo+i)) σ H fun σ2 H2=>tb { D with nx:=Pv (i+1),ct:=Pv (i+1),bk:=D.nx } σ2 H2) (hd:∀ σ H,Pv n σ H→D.nx σ H) :
  ∃ W:Nat→Nat→St→Hp→Prop,(∃ m,W 0 m σ H)∧∀ i m σ H,W i m σ H→
   ((Itr lo n).stop i H∧D.nx σ H)∨((Itr lo n).go i H∧∃ N:St→Hp→Prop,(∀ σ' H',N σ' H'→∃ m',m' < m∧W (i+1) m' σ' H')∧∀ x H',(Itr lo n).yld i H x H'→g x σ H' fun σ2 H2=>tb { D with nx:=N,ct:=N,bk:=D.nx } σ2 H2):=by
 refine⟨fun i m σ H=>m=n - i∧i≤n∧Pv i σ H,⟨n,by simp,Nat.zero_le _,h0⟩,?_⟩
 rintro i m σ H ⟨rfl,hi,p⟩
 by_cases hlt:i < n
 ·refine .inr ⟨hlt,Pv (i+1),fun σ' H' p'=>⟨n - (i+1),by omega,rfl,hlt,p'⟩,fun x H' y=>?_⟩
  obtain ⟨e,y⟩:=y
  subst e y
  exact hs i σ _ hlt p
 ·have e:i=n:=by omega
  subst e
  exact .inl ⟨Nat.le_refl _,hd σ H p⟩
end L2
namespace L2
open PySem PySem.Spec PyProof.Rows
abbrev R2:=V→V→Hp→VK→Prop
def OpR(X:Cx)(f:Value→Value→Sem Value)(r:R2):Prop:=
 ∀(pins:List (Addr × Obj)) (s:Shared) (σ:St) (H:Hp) (x y:V) (v u:Value) (Q:VK),Inv X pins σ H s→RelV x v→RelV y u→r x y H Q→
  wpAny (model X.prog X.w) X.A (f v u) (EP X pins σ Q) X.xe s
def UnR(X:Cx)(f:Value→Sem Value)(r:V→Hp→VK→Prop):Prop:=
 ∀(pins:List (Addr × Obj)) (s:Shared) (σ:St) (H:Hp) (x:V) (v:Value) (Q:VK),Inv X pins σ H s→RelV x v→r x H Q→
  wpAny (model X.prog X.w) X.A (f v) (EP X pins σ Q) X.xe s
def dU(X:Cx)(f:Value)(r:List V→Hp→VK→Prop):Prop:=
 ∀(pins:List (Addr × Obj)) (s:Shared) (σ:St) (H:Hp) (xs:List V) (us:List Value) (Q:VK),Inv X pins σ H s→Vals xs us→r xs H Q→
  wpAny (model X.prog X.w) X.A (call f us) (EP X pins σ Q) X.xe s
def N7(X:Cx)(r:V→Hp→(Bool→Hp→Prop)→Prop):Prop:=
 ∀(pins:List (Addr × Obj)) (s:Shared) (σ:St) (H:Hp) (x:V) (v:Value) (Q:Bool→Hp→Prop),Inv X pins σ H s→RelV x v→r x H Q→
  wpAny (model X.prog X.w) X.A (truthy v) (TP X pins σ Q) X.xe s
def tOp(r:R2)(ta tb:TE):TE:=fun σ H Q=>ta σ H fun x H1=>tb σ H1 fun y H2=>r x y H2 Q
def tUn(r:V→Hp→VK→Prop)(ta:TE):TE:=fun σ H Q=>ta σ H fun x H1=>r x H1 Q
def rI(C:Int→Int→Prop)(g:Int→Int→V):R2:=fun x y H Q=>∃ i j,x=.int i∧y=.int j∧C i j∧Q (g i j) H
def rI0(g:Int→Int→V):R2:=fun x y H Q=>∃ i j,x=.int i∧y=.int j∧Q (g i j) H
def rU(g:Int→V):V→Hp→VK→Prop:=fun x H Q=>∃ i,x=.int i∧Q (g i) H
section
variable {X:Cx}{a b c:Expr}{ta tb tc:TE}{pos:Pos}
theorem JZ(ha:PE X a ta)(hb:PE X b tb){pins:List (Addr × Obj)}{s:Shared}{σ:St}{H:Hp}{R:V→V→Hp→Prop}(I:Inv X pins σ H s)
  (h:ta σ H fun x H1=>tb σ H1 fun y H2=>R x y H2) {Q:Value→Shared→Prop} {f:Value→Value→Sem Value}
  (hf:∀ v u s2 x y H2,Inv X pins σ H2 s2→RelV x v→RelV y u→R x y H2→wpAny (model X.prog X.w) X.A (f v u) Q X.xe s2) :
  wpAny (model X.prog X.w) X.A (eval a X.env) (fun v s₁=>wpAny (model X.prog X.w) X.A (eval b X.env) (fun u s₂=>wpAny (model X.prog X.w) X.A (f v u) Q X.xe s₂) X.xe s₁) X.xe s:=by
 refine thn (ha pins s σ H _ I h) fun v s1 ⟨x,H1,I1,r1,q1⟩=>?_
 refine thn (hb pins s1 σ H1 _ I1 q1) fun u s2 ⟨y,H2,I2,r2,q2⟩=>?_
 exact hf v u s2 x y H2 I2 r1 r2 q2
theorem bD{op:Operator}{r:R2}(ho:OpR X (binaryOp op) r)(ha:PE X a ta)(hb:PE X b tb):PE X (.BinOp a op b pos) (tOp r ta tb):=by
 intro pins s σ H Q I h
 exact wpAny_BinOp (JZ ha hb I h fun v u s2 x y H2 I2 rx ry q=>ho pins s2 σ H2 x y v u Q I2 rx ry q)
theorem Bm{op:UnaryOp}{r:V→Hp→VK→Prop}(ho:UnR X (unaryOp op) r)(ha:PE X a ta):PE X (.UnaryOp op a pos) (tUn r ta):=by
 intro pins s σ H Q I h
 exact UnaryOp_ (thn (ha pins s σ H _ I h) fun v s1 ⟨x,H1,I1,r1,q1⟩=>ho pins s1 σ H1 x v Q I1 r1 q1)
theorem opI{f:Value→Value→Sem Value}{C:Int→Int→Prop}{g:Int→Int→Int}
  (rule:∀(i j:Int) (t u:Tok) (s:Shared) (Q:Value→Shared→Prop) (E:Value→Shared→Prop),C i j→Q (.int (g i j) s.toks) { s with toks:=s.toks+1 }→wpAny (model X.prog X.w) X.A (f (.int i t) (.int j u)) Q E s) :
  OpR X f (rI C fun i j=>.int (g i j)):=by
 intro pins s σ H x y v u Q I rx ry h
 obtain ⟨i,j,rfl,rfl,hc,q⟩:=h
 obtain ⟨t,rfl⟩:=rx
 obtain ⟨t',rfl⟩:=ry
 exact rule i j t t' s _ _ hc ⟨.int (g i j),H,I.tok _,⟨_,rfl⟩,q⟩
theorem Mx{f:Value→Value→Sem Value}{g:Int→Int→Int}
  (rule:∀(i j:Int) (t u:Tok) (s:Shared) (Q:Value→Shared→Prop) (E:Value→Shared→Prop),Q (.int (g i j) s.toks) { s with toks:=s.toks+1 }→wpAny (model X.prog X.w) X.A (f (.int i t) (.int j u)) Q E s) :
  OpR X f (rI0 fun i j=>.int (g i j)):=by
 intro pins s σ H x y v u Q I rx ry h
 obtain ⟨i,j,rfl,rfl,q⟩:=h
 obtain ⟨t,rfl⟩:=rx
 obtain ⟨t',rfl⟩:=ry
 exact rule i j t t' s _ _ ⟨.int (g i j),H,I.tok _,⟨_,rfl⟩,q⟩
theorem Il{f:Value→Value→Sem Value}{g:Int→Int→Bool}
  (rule:∀(i j:Int) (t u:Tok) (s:Shared) (Q:Value→Shared→Prop) (E:Value→Shared→Prop),Q (.bool (g i j)) s→wpAny (model X.prog X.w) X.A (f (.int i t) (.int j u)) Q E s) :
  OpR X f (rI0 fun i j=>.bl (g i j)):=by
 intro pins s σ H x y v u Q I rx ry h
 obtain ⟨i,j,rfl,rfl,q⟩:=h
 obtain ⟨t,rfl⟩:=rx
 obtain ⟨t',rfl⟩:=ry
 exact rule i j t t' s _ _ ⟨.bl (g i j),H,I,rfl,q⟩
def Oq(i j:Int):Prop:=0 < j∧j < 1073741824
def Ob(i j:Int):Prop:=0≤j∧j≤1000000∧i.natAbs < 2 ^ 64
def J2(i j:Int):Prop:=(-(2 ^ 64) < i∧i < 2 ^ 64)∨(-(2 ^ 64) < j∧j < 2 ^ 64)
theorem J2.ok{i j:Int}(h:J2 i j):IntMulOk i j:=by
 rcases h with ⟨h1,h2⟩ | ⟨h1,h2⟩
 ·exact .of_left (intBits_le_64 h1 h2)
 ·exact .of_right (intBits_le_64 h1 h2)
theorem fu:OpR X (binaryOp .Add) (rI0 fun i j=>.int (i+j)):=Mx fun _ _ _ _ _ _ _ q=>add_int q
theorem lY:OpR X (binaryOp .Sub) (rI0 fun i j=>.int (i - j)):=Mx fun _ _ _ _ _ _ _ q=>sub_int q
theorem lU:OpR X (binaryOp .Mult) (rI J2 fun i j=>.int (i * j)):=opI fun _ _ _ _ _ _ _ hc q=>mul_int q hc.ok
theorem Ib:OpR X (binaryOp .FloorDiv) (rI Oq fun i j=>.int (i / j)):=opI fun i j _ _ _ _ _ hc q=>by
 have h1:(0:Int) < j:=hc.1
 have h2:j < 1073741824:=hc.2
 exact floordiv_int (by omega) (by rw [Int.fdiv_eq_ediv_of_nonneg i (by omega)]; exact q) (.inl (PyProof.noPylong_small (by omega)))
theorem oW:OpR X (binaryOp .Mod) (rI (fun _ j=>0 < j) fun i j=>.int (i % j)):=opI fun i j _ _ _ _ _ hc q=>by
 have h1:(0:Int) < j:=hc
 exact mod_int' (by omega) (by rw [Int.fmod_eq_emod_of_nonneg i (by omega)]; exact q)
theorem Gw:OpR X (binaryOp .Pow) (rI Ob fun i j=>.int (i ^ j.toNat)):=opI fun _ _ _ _ _ _ _ hc q=>pow_int_small hc.1 hc.2.1 hc.2.2 q
theorem unI{f:Value→Sem Value}{g:Int→Int}
  (rule:∀(i:Int) (t:Tok) (s:Shared) (Q:Value→Shared→Prop) (E:Value→Shared→Prop),Q (.int (g i) s.toks) { s with toks:=s.toks+1 }→wpAny (model X.prog X.w) X.A (f (.int i t)) Q E s) :
  UnR X f (rU fun i=>.int (g i)):=by
 intro pins s σ H x v Q I rx h
 obtain ⟨i,rfl,q⟩:=h
 obtain ⟨t,rfl⟩:=rx
 exact rule i t s _ _ ⟨.int (g i),H,I.tok _,⟨_,rfl⟩,q⟩
theorem wB:UnR X (unaryOp .USub) (rU fun i=>.int (-i)):=unI fun _ _ _ _ _ q=>neg_int q
end
def MK:V→V→Bool
 | .non,.non=>true | .non,.int _=>true | .int _,.non=>true | .non,.bl _=>true | .bl _,.non=>true | .non,.str _=>true | .str _,.non=>true
 | .int _,.int _=>true | .bl _,.bl _=>true | .str _,.str _=>true | .byt _,.byt _=>true
 | .int _,.str _=>true | .str _,.int _=>true | .bl _,.str _=>true | .str _,.bl _=>true
 | _,_=>false
def rEq:R2:=fun x y H Q=>MK x y=true∧Q (.bl (decide (x=y))) H
def rNe:R2:=fun x y H Q=>MK x y=true∧Q (.bl (!decide (x=y))) H
theorem Bq{i j:Int}:decide (V.int i=V.int j)=(i == j):=by
 rw [Bool.eq_iff_iff]
 simp
theorem Hu{i j:Bool}:decide (V.bl i=V.bl j)=(i == j):=by
 rw [Bool.eq_iff_iff]
 simp
theorem Ba{i j:Str}:decide (V.str i=V.str j)=(i == j):=by
 rw [Bool.eq_iff_iff]
 simp
theorem BL{i j:Array UInt8}:decide (V.byt i=V.byt j)=(i.toList == j.toList):=by
 rw [Bool.eq_iff_iff]
 cases i
 cases j
 simp
section
variable {X:Cx}{a b c:Expr}{ta tb tc:TE}{pos:Pos}
theorem bY{pins:List (Addr × Obj)}{σ:St}{H:Hp}{s:Shared}{Q:VK}{k k':Bool}(I:Inv X pins σ H s)(q:Q (.bl k) H)(e:k=k'):EP X pins σ Q (.bool k') s:=by
 subst e
 exact⟨.bl k,H,I,rfl,q⟩
theorem j9:OpR X (compareOp .Eq) rEq:=by
 intro pins s σ H x y v u Q I rx ry h
 obtain ⟨hs,q⟩:=h
 cases x with
 | non=>
  cases rx
  cases y with
  | non=>cases ry; exact PySem.EqNone.eq_none_none (bY I q (by simp))
  | bl j=>cases ry; exact PySem.EqNone.eq_none_bool (bY I q (by simp))
  | int j=>obtain ⟨t',rfl⟩:=ry; exact PySem.EqNone.eq_none_int (bY I q (by simp))
  | str j=>obtain ⟨t',rfl⟩:=ry; exact PySem.EqNone.eq_none_str (bY I q (by simp))
  | _=>exact absurd (show false=true from hs) Bool.false_ne_true
 | bl i=>
  cases rx
  cases y with
  | non=>cases ry; exact PySem.EqNone.eq_bool_none (bY I q (by simp))
  | bl j=>cases ry; exact eq_bool (bY I q Hu)
  | str j=>obtain ⟨t',rfl⟩:=ry; exact PySem.EqMixed.eq_bool_str (bY I q (by simp))
  | _=>exact absurd (show false=true from hs) Bool.false_ne_true
 | int i=>
  obtain ⟨t,rfl⟩:=rx
  cases y with
  | non=>cases ry; exact PySem.EqNone.eq_int_none (bY I q (by simp))
  | int j=>obtain ⟨t',rfl⟩:=ry; exact eq_int (bY I q Bq)
  | str j=>obtain ⟨t',rfl⟩:=ry; exact PySem.EqMixed.eq_int_str (bY I q (by simp))
  | _=>exact absurd (show false=true from hs) Bool.false_ne_true
 | str i=>
  obtain ⟨t,rfl⟩:=rx
  cases y with
  | non=>cases ry; exact PySem.EqNone.eq_str_none (bY I q (by simp))
  | bl j=>cases ry; exact PySem.EqMixed.eq_str_bool (bY I q (by simp))
  | int j=>obtain ⟨t',rfl⟩:=ry; exact PySem.EqMixed.eq_str_int (bY I q (by simp))
  | str j=>obtain ⟨t',rfl⟩:=ry; exact eq_str (bY I q Ba)
  | _=>exact absurd (show false=true from hs) Bool.false_ne_true
 | byt i=>
  obtain ⟨t,rfl⟩:=rx
  cases y with
  | byt j=>obtain ⟨t',rfl⟩:=ry; exact PySem.W.eq_bytes (bY I q BL)
  | _=>exact absurd (show false=true from hs) Bool.false_ne_true
 | _=>cases y <;> exact absurd (show false=true from hs) Bool.false_ne_true
theorem Hr:OpR X (compareOp .NotEq) rNe:=by
 intro pins s σ H x y v u Q I rx ry h
 obtain ⟨hs,q⟩:=h
 cases x with
 | non=>
  cases rx
  cases y with
  | non=>cases ry; exact PySem.EqNone.ne_none_none (bY I q (by simp))
  | bl j=>cases ry; exact PySem.EqNone.ne_none_bool (bY I q (by simp))
  | int j=>obtain ⟨t',rfl⟩:=ry; exact PySem.EqNone.ne_none_int (bY I q (by simp))
  | str j=>obtain ⟨t',rfl⟩:=ry; exact PySem.EqNone.ne_none_str (bY I q (by simp))
  | _=>exact absurd (show false=true from hs) Bool.false_ne_true
 | bl i=>
  cases rx
  cases y with
  | non=>cases ry; exact PySem.EqNone.ne_bool_none (bY I q (by simp))
  | bl j=>cases ry; exact ne_bool (bY I q (congrArg not Hu))
  | str j=>obtain ⟨t',rfl⟩:=ry; exact PySem.EqMixed.ne_bool_str (bY I q (by simp))
  | _=>exact absurd (show false=true from hs) Bool.false_ne_true
 | int i=>
  obtain ⟨t,rfl⟩:=rx
  cases y with
  | non=>cases ry; exact PySem.EqNone.ne_int_none (bY I q (by simp))
  | int j=>obtain ⟨t',rfl⟩:=ry; exact ne_int (bY I q (congrArg not Bq))
  | str j=>obtain ⟨t',rfl⟩:=ry; exact PySem.EqMixed.ne_int_str (bY I q (by simp))
  | _=>exact absurd (show false=true from hs) Bool.false_ne_true
 | str i=>
  obtain ⟨t,rfl⟩:=rx
  cases y with
  | non=>cases ry; exact PySem.EqNone.ne_str_none (bY I q (by simp))
  | bl j=>cases ry; exact PySem.EqMixed.ne_str_bool (bY I q (by simp))
  | int j=>obtain ⟨t',rfl⟩:=ry; exact PySem.EqMixed.ne_str_int (bY I q (by simp))
  | str j=>obtain ⟨t',rfl⟩:=ry; exact ne_str (bY I q (congrArg not Ba))
  | _=>exact absurd (show false=true from hs) Bool.false_ne_true
 | byt i=>
  obtain ⟨t,rfl⟩:=rx
  cases y with
  | byt j=>obtain ⟨t',rfl⟩:=ry; exact PySem.W.ne_bytes (bY I q (congrArg not BL))
  | _=>exact absurd (show false=true from hs) Bool.false_ne_true
 | _=>cases y <;> exact absurd (show false=true from hs) Bool.false_ne_true
theorem qX:OpR X (compareOp .Lt) (rI0 fun i j=>.bl (decide (i < j))):=Il fun _ _ _ _ _ _ _ q=>lt_int q
theorem Bh:OpR X (compareOp .LtE) (rI0 fun i j=>.bl (decide (i≤j))):=Il fun _ _ _ _ _ _ _ q=>le_int q
theorem yP:OpR X (compareOp .Gt) (rI0 fun i j=>.bl (decide (j < i))):=Il fun _ _ _ _ _ _ _ q=>gt_int q
theorem Jy:OpR X (compareOp .GtE) (rI0 fun i j=>.bl (decide (j≤i))):=Il fun _ _ _ _ _ _ _ q=>ge_int q
theorem Dm:OpR X (compareOp .Lt) (fun x y H Q=>∃ i j,x=.str i∧y=.str j∧Q (.bl (decide (i.cps.toList < j.cps.toList))) H):=by
 intro pins s σ H x y v u Q I rx ry h
 obtain ⟨i,j,rfl,rfl,q⟩:=h
 obtain ⟨t,rfl⟩:=rx
 obtain ⟨t',rfl⟩:=ry
 exact lt_str (bY I q rfl)
theorem zE:OpR X (compareOp .Is) (fun x y H Q=>y=.non∧Q (.bl (decide (x=.non))) H):=by
 intro pins s σ H x y v u Q I rx ry h
 obtain ⟨rfl,q⟩:=h
 cases ry
 refine is_none_gen (bY I q ?_)
 cases x <;> first
  | (cases rx; rfl)
  | (obtain ⟨t,rfl⟩:=rx; rfl)
theorem OpR.or{f:Value→Value→Sem Value}{r r':R2}(h:OpR X f r)(h':OpR X f r'):OpR X f (fun x y H Q=>r x y H Q∨r' x y H Q):=by
 intro pins s σ H x y v u Q I rx ry q
 rcases q with q | q
 ·exact h pins s σ H x y v u Q I rx ry q
 ·exact h' pins s σ H x y v u Q I rx ry q
theorem bK(b:Expr){op:CmpOp}(h:op≠.In:=by decide)(h2:op≠.NotIn:=by decide):behindInMarks op b=false:=by
 have e1:(op == CmpOp.In)=false:=by cases op <;> first | rfl | exact absurd rfl h
 have e2:(op == CmpOp.NotIn)=false:=by cases op <;> first | rfl | exact absurd rfl h2
 cases b <;> simp [behindInMarks,e1,e2]
theorem gY{op:CmpOp}{r:R2}(ho:OpR X (compareOp op) r)(ha:PE X a ta)(hb:PE X b tb)(hm:behindInMarks op b=false):PE X (.Compare a [op] [b] pos) (tOp r ta tb):=by
 intro pins s σ H Q I h
 exact wpAny_Compare1 (JZ ha hb I h fun v u s2 x y H2 I2 rx ry q=>ho pins s2 σ H2 x y v u Q I2 rx ry q) hm
def JL(t:TE):TT:=fun σ H Q=>t σ H fun x H'=>∃ k,x=.bl k∧Q k H'
theorem bF{op:CmpOp}{r:R2}(ho:OpR X (compareOp op) r)(ha:PE X a ta)(hb:PE X b tb)(hm:behindInMarks op b=false):PT X (.Compare a [op] [b] pos) (JL (tOp r ta tb)):=by
 intro pins s σ H Q I h
 refine wpAny_isTrue_Compare1 (thn (ha pins s σ H _ I h) fun v s1 ⟨x,H1,I1,r1,q1⟩=>thn (hb pins s1 σ H1 _ I1 q1) fun u s2 ⟨y,H2,I2,r2,q2⟩=>
  thn (ho pins s2 σ H2 x y v u _ I2 r1 r2 q2) fun c s3 ⟨z,H3,I3,r3,k,e,q3⟩=>?_) hm
 subst e
 cases r3
 exact wpAny_truthy_bool ⟨H3,I3,q3⟩
def Kd(r r':R2)(ta tb tc:TE):TE:=fun σ H Q=>ta σ H fun x H1=>tb σ H1 fun y H2=>r x y H2 fun z H3=>∃ k,z=.bl k∧
 (if k=true then tc σ H3 fun w' H4=>r' y w' H4 Q else Q (.bl false) H3)
theorem xU{op op':CmpOp}{r r':R2}(ho:OpR X (compareOp op) r)(ho':OpR X (compareOp op') r')(ha:PE X a ta)(hb:PE X b tb)(hc:PE X c tc)
  (hm:lastMarks [op,op'] [b,c]=false:=by with_unfolding_all rfl):PT X (.Compare a [op,op'] [b,c] pos) (JL (Kd r r' ta tb tc)):=by
 intro pins s σ H Q I h
 refine isTrue_chain (thn (ha pins s σ H _ I h) fun v s1 ⟨x,H1,I1,r1,q1⟩=>test_link (thn (hb pins s1 σ H1 _ I1 q1) fun u s2 ⟨y,H2,I2,r2,q2⟩=>
  thn (ho pins s2 σ H2 x y v u _ I2 r1 r2 q2) fun d s3 ⟨z,H3,I3,r3,k,e,q3⟩=>?_)) hm
 subst e
 cases r3
 refine wpAny_truthy_bool ?_
 cases k with
 | false=>
  obtain ⟨k',e',q'⟩:=q3
  cases e'
  exact ite_ff ⟨H3,I3,q'⟩
 | true=>
  refine ite_tt (test_last (thn (hc pins s3 σ H3 _ I3 q3) fun w' s4 ⟨z',H4,I4,r4,q4⟩=>thn (ho' pins s4 σ H4 y z' u w' _ I4 r2 r4 q4) fun d' s5 ⟨z2,H5,I5,r5,k2,e2,q5⟩=>?_))
  subst e2
  cases r5
  exact wpAny_truthy_bool ⟨H5,I5,q5⟩
def Ju(K:PySem.W.Frag)(x:V)(H:Hp)(k:Bool):Prop:=
 match x with
 | .non=>k=false
 | .bl b=>k=b
 | .int i=>k=(i != 0)
 | .str y=>y.length≤sizeLine∧k=((y.length:Int) != 0)
 | .byt y=>y.size≤sizeLine∧k=((y.size:Int) != 0)
 | .ref p=>(∃ xs,SqL K H p xs∧k=!xs.isEmpty)∨(∃ xs,SqT K H p xs∧k=!xs.isEmpty)∨∃ kvs,H p=some (.dK kvs)∧k=!kvs.isEmpty
 | _=>False
theorem zG{κ:Type}{kvs:List (κ × V)}{vs:List (κ × Value)}(r:KV kvs vs):(!vs.isEmpty)=!kvs.isEmpty:=by
 cases r <;> rfl
theorem lZ{xs:List V}{its:List Value}(r:Vals xs its):(!its.toArray.isEmpty)=!xs.isEmpty:=by
 cases r <;> simp
theorem mR:(sizeLine:Nat) < 2 ^ 63:=by rw [sizeLine_eq]; decide
theorem KJ:N7 X (fun x H Q=>∃ k,Ju X.K x H k∧Q k H):=by
 intro pins s σ H x v Q I rx h
 obtain ⟨k,e,q⟩:=h
 have hl:=mR
 have hs:sizeLine=16777216:=sizeLine_eq
 cases x with
 | non=>
  cases rx
  have e':k=false:=e
  subst e'
  exact truthy_none ⟨H,I,q⟩
 | bl b=>
  cases rx
  have e':k=b:=e
  subst e'
  exact wpAny_truthy_bool ⟨H,I,q⟩
 | int i=>
  obtain ⟨t,rfl⟩:=rx
  have e':k=(i != 0):=e
  subst e'
  exact PySem.P.truthy_int ⟨H,I,q⟩
 | str y=>
  obtain ⟨t,rfl⟩:=rx
  obtain ⟨hy,e'⟩:y.length≤sizeLine∧k=((y.length:Int) != 0):=e
  subst e'
  exact PySem.P.truthy_str (by omega) ⟨H,I.tok _,q⟩
 | byt y=>
  obtain ⟨t,rfl⟩:=rx
  obtain ⟨hy,e'⟩:y.size≤sizeLine∧k=((y.size:Int) != 0):=e
  subst e'
  exact PySem.W.truthy_bytes (by omega) ⟨H,I.tok _,q⟩
 | ref p=>
  cases rx
  have e':(∃ xs,SqL X.K H p xs∧k=!xs.isEmpty)∨(∃ xs,SqT X.K H p xs∧k=!xs.isEmpty)∨∃ kvs,H p=some (.dK kvs)∧k=!kvs.isEmpty:=e
  rcases e' with ⟨xs,hx,e'⟩ | ⟨xs,hx,e'⟩ | ⟨kvs,hx,e'⟩
  ·subst e'
   obtain ⟨its,r,pl,hz⟩:=I.list hx
   have hlen:=r.length
   exact wpAny_truthy_list pl.isList (by simp only [List.size_toArray]; omega) ⟨H,I.tok _,by rw [lZ r]; exact q⟩
  ·subst e'
   obtain ⟨its,r,pl,hz⟩:=I.tuple hx
   have hlen:=r.length
   exact truthy_tuple pl (by simp only [List.size_toArray]; omega) ⟨H,I.tok _,by rw [lZ r]; exact q⟩
  ·subst e'
   obtain ⟨hz,hS,vs,r,m⟩:kvs.length≤sizeLine∧(p == sysModules)=false∧∃ vs,KV kvs vs∧s.heap.DictOf (cP X.prog X.w) p vs:=I.hok p _ hx
   have hlen:kvs.length=vs.length:=Paired.length r
   exact wpAny_truthy_dict hS m (by omega) ⟨H,I.tok _,by rw [zG r]; exact q⟩
 | _=>exact(show False from e).elim
theorem qb(ha:PE X a ta)(he:∀ whole,isTrue a X.env whole=(do let v ← whole; standAt a.pos; holding [v] (truthy v))) :
  PT X a (fun σ H Q=>ta σ H fun x H'=>∃ k,Ju X.K x H' k∧Q k H'):=by
 intro pins s σ H Q I h
 exact isTrue_plain (thn (ha pins s σ H _ I h) fun v s1 ⟨x,H1,I1,r1,q1⟩=>KJ pins s1 σ H1 x v Q I1 r1 q1) (he _)
theorem fK:OpR X (binaryOp .Add) (fun x y H Q=>∃ i j,x=.str i∧y=.str j∧i.length+j.length≤sizeLine∧Q (.str (i++j)) H):=by
 intro pins s σ H x y v u Q I rx ry h
 obtain ⟨i,j,rfl,rfl,hz,q⟩:=h
 obtain ⟨t,rfl⟩:=rx
 obtain ⟨t',rfl⟩:=ry
 exact add_str (fun t' tk=>⟨.str (i++j),H,I.tok _,⟨_,rfl⟩,q⟩) hz
theorem vals1{x:V}{us:List Value}(r:Vals [x] us):∃ u,us=[u]∧RelV x u:=by
 cases r with
 | cons r1 r2=>cases r2; exact⟨_,rfl,r1⟩
theorem vals2{x y:V}{us:List Value}(r:Vals [x,y] us):∃ u w',us=[u,w']∧RelV x u∧RelV y w':=by
 cases r with
 | cons r1 r2=>
  cases r2 with
  | cons r3 r4=>cases r4; exact⟨_,_,rfl,r1,r3⟩
theorem Gu:dU X (.builtin "abs") (fun xs H Q=>∃ i,xs=[.int i]∧Q (.int (if i < 0 then -i else i)) H):=by
 intro pins s σ H xs us Q I r h
 obtain ⟨i,rfl,q⟩:=h
 obtain ⟨u,rfl,t,rfl⟩:=vals1 r
 exact call_abs_int fun u tk=>⟨.int (if i < 0 then -i else i),H,I.tok _,⟨_,rfl⟩,q⟩
theorem nJ(hc:X.calm=true):dU X (.builtin "max") (fun xs H Q=>∃ i j,xs=[.int i,.int j]∧Q (.int (if j > i then j else i)) H):=by
 intro pins s σ H xs us Q I r h
 obtain ⟨i,j,rfl,q⟩:=h
 obtain ⟨u,w',rfl,⟨t,rfl⟩,⟨t',rfl⟩⟩:=vals2 r
 refine max_two_ints (I.ok.hd hc) fun h' tk k=>⟨_,H,I.kept k,?_,q⟩
 by_cases hj:j > i
 ·rw [if_pos hj,if_pos hj]; exact⟨_,rfl⟩
 ·rw [if_neg hj,if_neg hj]; exact⟨_,rfl⟩
theorem vq(hc:X.calm=true):dU X (.builtin "min") (fun xs H Q=>∃ i j,xs=[.int i,.int j]∧Q (.int (if j < i then j else i)) H):=by
 intro pins s σ H xs us Q I r h
 obtain ⟨i,j,rfl,q⟩:=h
 obtain ⟨u,w',rfl,⟨t,rfl⟩,⟨t',rfl⟩⟩:=vals2 r
 refine min_two_ints (I.ok.hd hc) fun h' tk k=>⟨_,H,I.kept k,?_,q⟩
 by_cases hj:j < i
 ·rw [if_pos hj,if_pos hj]; exact⟨_,rfl⟩
 ·rw [if_neg hj,if_neg hj]; exact⟨_,rfl⟩
end
end L2
namespace L2
open PySem PySem.Spec PyProof.Rows
structure Kr (h:Heap) (x dx C:Addr) (mA:Str→Option Value):Prop where
 obj:h.get? x=some (PySem.W.instObj C dx)
 ns:h.Ns1 dx mA
 ne:dx≠x
theorem Ei{h:Heap}{dx:Addr}{mA:Str→Option Value}(n:h.Ns1 dx mA):∃ od,h.get? dx=some od∧∀ name,PySem.W.lookIn name od=some (mA name):=by
 obtain ⟨o,es,ep,ho,hd,hk,_,hm⟩:=n
 refine⟨o,ho,fun name=>?_⟩
 have e:=hm name
 unfold nsFind findBy at e
 rw [← Array.find?_toList] at e
 unfold PySem.W.lookIn
 rw [hd]
 dsimp only
 split
 ·rename_i y q
  rw [q] at e
  exact congrArg some e
 ·rename_i q
  rw [q] at e
  have a:es.toList.any (·.refKey)=false:=by
   rw [List.any_eq_false]
   intro y hy
   obtain ⟨z,t,hkey⟩:=hk y (Array.mem_toList_iff.mp hy)
   simp [DictEntry.refKey,hkey]
  have a':¬ es.toList.any (·.refKey)=true:=by rw [a]; exact Bool.false_ne_true
  rw [if_neg a']
  exact congrArg some e
theorem Kr.look{h:Heap}{x dx C:Addr}{mA:Str→Option Value}(I:Kr h x dx C mA):∃ od,PySem.W.InstAt h x (PySem.W.instObj C dx) C (some od)∧∀ name,PySem.W.lookIn name od=some (mA name):=
 let ⟨od,ho,hl⟩:=Ei I.ns
 ⟨od,⟨I.obj,rfl,rfl,ho⟩,hl⟩
section
variable {prog:Program}{w:World}{A:Around}{E:Value→Shared→Prop}{s:Shared}{K:PySem.W.Frag}{x dx C f:Addr}{mA:Str→Option Value}{name:Str}{v:Value}
end
theorem tL.some_of{v:V}{o:Option Value}(r:tL (some v) o):∃ u,o=some u∧RelV v u:=by
 cases o with
 | none=>exact(show False from r).elim
 | some u=>exact⟨u,rfl,r⟩
section
variable {P:Program}{w:World}{H H':Hp}{h h':Heap}{a C dx:Addr}{fs fs':List (Str × V)}
theorem Iu(hok:HOk P w H h)(e:H a=some (.ins C dx fs)):∃ mA,Kr h a dx C mA∧(∀ f,tL (fs.lookup f) (mA f))∧PySem.Within mA (fs.map (·.1))∧fs.length≤1000∧H dx=some (.own a):=by
 obtain ⟨d,z,ne,ob,mA,n,r,q⟩:=(show cU P w H h a (.ins C dx fs) from hok a _ e)
 exact⟨mA,⟨ob,n,ne⟩,r,q,z,d⟩
end
structure Cls (K:PySem.W.Frag) (C:Addr):Prop where
 pg:PySem.W.plainGet K C Str.empty=true
 hd:PySem.W.hasDictIn K C=true
 po:PySem.W.plainOver K C=true
 sa:PySem.W.findIn K (.ref C) "__setattr__" = some (some (.builtin "object.__setattr__"))
theorem Cls.get{K:PySem.W.Frag}{C:Addr}(c:Cls K C)(f:Str):PySem.W.plainGet K C f=true:=c.pg
structure Con (K:PySem.W.Frag) (C:Addr) (f:Str) (v:V) (u:Value):Prop where
 at_:PySem.W.findIn K (.ref C) f=some (some u)
 rel:RelV v u
 get:PySem.W.specialIn K u "__get__" = some none
 cp:PySem.W.copiedNames.contains f=false
structure Meth (K:PySem.W.Frag) (C:Addr) (m:Str) (f:Addr):Prop where
 at_:PySem.W.findIn K (.ref C) m=some (some (.ref f))
 fn:PySem.W.isFn K (.ref f)=true
 kp:PySem.W.keepIn K (.ref f)=true
section
variable {X:Cx}{pins:List (Addr × Obj)}{σ:St}{H:Hp}{s:Shared}{a C dx:Addr}{fs:List (Str × V)}{f:Str}{v:V}{A:Around}{E:Value→Shared→Prop}
end
section
variable {X:Cx}{o e value:Expr}{f:Str}{pos pos' tpos:Pos}{ta tv:TE}
end
section
variable {X:Cx}{pins:List (Addr × Obj)}{σ:St}{H:Hp}{s:Shared}{A:Around}{E:Value→Shared→Prop}{Q:Value→Shared→Prop}{c:Value}{b:Bool}
inductive nU (K:PySem.W.Frag) (H:Hp):V→Value→Prop where
 | non:nU K H .non (.type "NoneType")
 | bl (x:Bool):nU K H (.bl x) (.type "bool")
 | int (i:Int):nU K H (.int i) (.type "int")
 | str (x:Str):nU K H (.str x) (.type "str")
 | flt (x:UInt64):nU K H (.flt x) (.type "float")
 | lst {a:Addr} {xs:List V} (e:H a=some (.lst xs)):nU K H (.ref a) (.type "list")
 | frz {a:Addr} {o:Obj} {xs:List V} (e:H a=some (.frz o (.lst xs))):nU K H (.ref a) (.type "list")
 | tup {a:Addr} {xs:List V} (e:H a=some (.tup xs)):nU K H (.ref a) (.type "tuple")
 | dK {a:Addr} {kvs:List (Key × V)} (e:H a=some (.dK kvs)):nU K H (.ref a) (.type "dict")
 | dT {a:Addr} {kvs:List (List Key × V)} (e:H a=some (.dT kvs)):nU K H (.ref a) (.type "dict")
 | ins {a C dx:Addr} {fs:List (Str × V)} (e:H a=some (.ins C dx fs)) (cl:Cls K C) (ha:PySem.W.findIn K (.ref C) "__class__" = some (some (.builtin "object.__class__")))
   (hn:PySem.W.specialIn K (.builtin "object.__class__") "__get__" = some (some (.builtin "getset_descriptor.__get__"))) (htk:PySem.W.takesIn K (.builtin "object.__class__")=some true)
   (hm:PySem.W.mroIn K C (.type "object")=some true):nU K H (.ref a) (.ref C)
theorem Dz{x:V}{u t:Value}(I:Inv X pins σ H s)(rx:RelV x u)(ty:nU X.K H x t)(e:PySem.W.kitOne X.K t c=some b)(h:∀ tk,Q (.bool b) { s with toks:=tk }) :
  wpAny (model X.prog X.w) A (call (.builtin "isinstance") [u,c]) Q E s:=by
 cases ty with
 | non=>cases (show u=Value.none from rx); exact PySem.W.kia_one PySem.W.kitx_none I.kIn True.intro e (fun z=>nomatch z) h
 | bl y=>cases (show u=Value.bool y from rx); exact PySem.W.kia_one PySem.W.kitx_bool I.kIn True.intro e (fun z=>nomatch z) h
 | int i=>obtain ⟨t,q⟩:=(show ∃ t,u=Value.int i t from rx); cases q; exact PySem.W.kia_one PySem.W.kitx_int I.kIn True.intro e (fun z=>nomatch z) h
 | str y=>obtain ⟨t,q⟩:=(show ∃ t,u=Value.str y t from rx); cases q; exact PySem.W.kia_one PySem.W.kitx_str I.kIn True.intro e (fun z=>nomatch z) h
 | flt y=>obtain ⟨t,q⟩:=(show ∃ t,u=Value.float y t from rx); cases q; exact PySem.W.kia_one PySem.W.kitx_float I.kIn True.intro e (fun z=>nomatch z) h
 | @lst a xs ea=>
  cases (show u=Value.ref a from rx)
  obtain ⟨_,_,n,_,h1⟩:=(show cU X.prog X.w H s.heap a (.lst xs) from I.hok a _ ea)
  exact PySem.W.kia_one PySem.W.kitx_list I.kIn ⟨_,h1,rfl⟩ e (fun z=>nomatch z) h
 | @frz a ob xs ea=>
  cases (show u=Value.ref a from rx)
  obtain ⟨_,_,_,n,_,h1⟩:=(show cU X.prog X.w H s.heap a (.frz ob (.lst xs)) from I.hok a _ ea)
  exact PySem.W.kia_one PySem.W.kitx_list I.kIn ⟨_,h1,rfl⟩ e (fun z=>nomatch z) h
 | @tup a xs ea=>
  cases (show u=Value.ref a from rx)
  obtain ⟨_,_,_,p⟩:=(show cU X.prog X.w H s.heap a (.tup xs) from I.hok a _ ea)
  obtain ⟨o,h1,h2,_⟩:=p
  exact PySem.W.kia_one PySem.W.kitx_tuple I.kIn ⟨o,h1,h2⟩ e (fun z=>nomatch z) h
 | @dK a kvs ea=>
  cases (show u=Value.ref a from rx)
  obtain ⟨_,_,vs,_,p⟩:=(show cU X.prog X.w H s.heap a (.dK kvs) from I.hok a _ ea)
  obtain ⟨o,es,ep,h1,h2,_⟩:=p
  exact PySem.W.kia_one PySem.W.kitx_dict I.kIn ⟨o,h1,h2.1⟩ e (fun z=>nomatch z) h
 | @dT a kvs ea=>
  cases (show u=Value.ref a from rx)
  obtain ⟨_,_,xs,_,o,es,ep,h1,h2,_⟩:=(show cU X.prog X.w H s.heap a (.dT kvs) from I.hok a _ ea)
  exact PySem.W.kia_one PySem.W.kitx_dict I.kIn ⟨o,h1,h2.1⟩ e (fun z=>nomatch z) h
 | @ins a C dx fs ea cl ha hn htk hm=>
  cases (show u=Value.ref a from rx)
  obtain ⟨mA,O,_⟩:=Iu I.hok ea
  obtain ⟨od,J,_⟩:=O.look
  exact PySem.W.kia_one (PySem.W.kitx_own (cl.get _) cl.hd ha hn htk hm) I.kIn J e (fun z=>nomatch z) h
end
end L2
namespace L2
open PySem PySem.Spec PyProof.Rows
structure jw (k:Nat) (A:Around):Prop where
 hd:A.handled=none
 dp:A.depth+3 * k+5 < recursionLimit
 un:A.units+16 * k+200 < cLine
 gd:A.guards=some []
theorem jw.mono{j k:Nat}{A:Around}(r:jw k A)(h:j≤k):jw j A:=⟨r.hd,by have:=r.dp; omega,by have:=r.un; omega,r.gd⟩
theorem jw.deeper{k:Nat}{A:Around}(r:jw (k+1) A)(env:Env):jw k (A.deeper env):=
 ⟨r.hd,by have:=r.dp; show A.depth+1+3 * k+5 < _; omega,by have:=r.un; show A.units+3+16 * k+200 < _; omega,by have:=r.gd; first | exact this | simp [Around.deeper,this,pushGuards]⟩
theorem jw.depth{k:Nat}{A:Around}(r:jw k A):A.depth < recursionLimit:=by have:=r.dp; omega
theorem jw.units{k:Nat}{A:Around}(r:jw k A):A.units+64 < cLine:=by have:=r.un; omega
theorem jw.yW{k:Nat}{A:Around}(r:jw k A):A.units < cLine:=by have:=r.un; omega
def Ni:TA:=fun _ H Q=>Q [] H
def Lr(ta:TE)(tr:TA):TA:=fun σ H Q=>ta σ H fun x H1=>tr σ H1 fun xs H2=>Q (x::xs) H2
section
variable {X:Cx}{e:Expr}{es:List Expr}{te:TE}{t:TA}{pos:Pos}
theorem au:PA X [] Ni:=fun _ _ _ _ H Q I h=>Calls.spliced_nil ⟨[],H,I,.nil,h⟩
theorem aj(ha:PE X e te)(hr:PA X es t)(hs:starEach (e::es) X.env=(false,eval e X.env)::starEach es X.env:=by rfl):PA X (e::es) (Lr te t):=by
 intro pos pins s σ H Q I h
 rw [hs]
 show wpAny _ _ (spliced ((false,eval e X.env)::backTo pos (starEach es X.env))) _ _ s
 refine Calls.spliced_cons (thn (ha pins s σ H _ I h) fun u s1 ⟨x,H1,I1,r1,q1⟩=>?_)
 exact thn (hr pos pins s1 σ H1 _ I1 q1) fun us s2 ⟨xs,H2,I2,r2,q2⟩=>⟨x::xs,H2,I2,.cons r1 r2,q2⟩
def NT(t:TA):TE:=fun σ H Q=>t σ H fun xs H1=>xs.length≤sizeLine∧∀ p,H1 p=none→Q (.ref p) (upd H1 p (.tup xs))
def Ot(t:TA):TE:=fun σ H Q=>t σ H fun xs H1=>xs.length≤sizeLine∧∀ p,H1 p=none→Q (.ref p) (upd H1 p (.lst xs))
theorem cY{x1}(h:PA X es t):PE X (.Tuple es x1 pos) (NT t):=by
 intro pins s σ H Q I hq
 refine wpAny_Tuple_spliced (thn (h pos pins s σ H _ I hq) fun us s1 ⟨xs,H1,I1,r,z,q⟩=>⟨by rw [← r.length]; exact z,?_⟩)
 have hf:H1 s1.heap.objs.size=none:=I1.hok.fresh (Nat.le_refl _)
 refine⟨.ref s1.heap.objs.size,upd H1 s1.heap.objs.size (.tup xs),I1.laid (t':=s1.toks) (fun b u e=>Heap.get?_push_of_some _ e) (Nat.le_refl _) ?_,rfl,q _ hf⟩
 exact⟨⟨z,mZ _ _⟩,us,r,⟨_,Heap.get?_push_size _ rfl,rfl,_,rfl⟩⟩
theorem cD(h:PA X es t):PE X (.List es pos) (Ot t):=by
 intro pins s σ H Q I hq
 refine wpAny_List_spliced (thn (h pos pins s σ H _ I hq) fun us s1 ⟨xs,H1,I1,r,z,q⟩=>⟨by rw [← r.length]; exact z,?_⟩)
 have hf:H1 s1.heap.objs.size=none:=I1.hok.fresh (Nat.le_refl _)
 refine⟨.ref s1.heap.objs.size,upd H1 s1.heap.objs.size (.lst xs),I1.laid (t':=s1.toks) (fun b u e=>Heap.get?_push_of_some _ e) (Nat.le_refl _) ?_,rfl,q _ hf⟩
 exact⟨z,us,0,r,Heap.get?_push_size _ rfl⟩
end
abbrev Sp:=List V→Hp→VK→XK→Prop
abbrev CXT:=List Env→Hp→Shared→XK→Value→Shared→Prop
structure GF (P:Program) (w:World) (K:PySem.W.Frag) (mg:Str→Option Value) (base:Heap) (A:Around) (outer:List Env) (s:Shared) (H:Hp):Prop where
 frames:A.frames=some outer
 mod:Mod K mg base
 bs:∀ b o,base.get? b=some o→s.heap.get? b=some o∧H b=none
 bsz:base.objs.size≤s.heap.objs.size
 qO:s.heap.FunFrames base outer
 frf:∀ b∈frs outer,H b=none
 hok:HOk P w H s.heap
 bare:AllBare s.gens
def CE(outer:List Env)(P:Program)(w:World)(H:Hp)(s:Shared)(Q:VK)(u:Value)(s':Shared):Prop:=
 ∃ v H',s'.os=s.os∧AllBare s'.gens∧Un (frs outer) [] H H' s.heap s'.heap∧HOk P w H' s'.heap∧RelV v u∧Q v H'
def CR(CX:CXT)(outer:List Env)(P:Program)(w:World)(H:Hp)(s:Shared)(Q:VK)(E:XK)(r:Result)(s':Shared):Prop:=
 match r with
 | .ok (.ret u)=>CE outer P w H s Q u s'
 | .ok _=>False
 | .error e=>CX outer H s E e s'
structure aU (P:Program) (w:World) (K:PySem.W.Frag) (mg:Str→Option Value) (base:Heap) (CX:CXT) (k:Nat) (f:Addr) (fd:FuncData) (ps:List Str) (sp:Sp):Prop where
 len:∀ vs H Q E,sp vs H Q E→vs.length=ps.length
 run:∀(A:Around) (outer:List Env) (s:Shared) (H:Hp) (args:Args) (us:List Value) (vs:List V) (Q:VK) (E:XK),jw k A→GF P w K mg base A outer s H→BindsTo s fd args (ps.zip us)→Vals vs us→sp vs H Q E→
  codeAny (model P w) A (.call (.ref f) args) (CR CX outer P w H s Q E) s
section
variable {X:Cx}{pins:List (Addr × Obj)}{σ:St}{H:Hp}{s s':Shared}
theorem Inv.env0(I:Inv X pins σ H s):GF X.prog X.w X.K X.mg X.base X.A X.stack s H:=
 ⟨I.ok.frames,I.ok.mod,I.bs,Nat.le_trans I.ok.bsz I.sz,I.stack,I.vQ,I.hok,I.bare⟩
theorem Inv.after{Q:VK}{u:Value}(I:Inv X pins σ H s)(h:CE X.stack X.prog X.w H s Q u s'):EP X pins σ Q u s':=by
 obtain ⟨v,H',os,bare,un,hok,r,q⟩:=h
 obtain ⟨hh,g,d,t,os'⟩:=s'
 obtain rfl:os'=s.os:=os
 exact⟨v,H',I.call (h':=hh) (g':=g) (d':=d) (t':=t) (ch:=[]) un hok bare (fun b z=>absurd z (by simp)),r,q⟩
end
def Bs(sp:Sp)(dvs:List V)(E:XK)(t:TA):TE:=fun σ H Q=>t σ H fun vs H1=>sp (vs++dvs) H1 Q E
def Binds(K:PySem.W.Frag)(fd:FuncData)(ps:List Str)(ds:List Value):Prop:=
 ∀(s:Shared) (us:List Value),K.In s.heap→(us++ds).length=ps.length→BindsTo s fd ⟨us,[]⟩ (ps.zip (us++ds))
theorem Binds.all{K:PySem.W.Frag}{fd:FuncData}{ps:List Str}(h:∀ us:List Value,us.length=ps.length→bindArgs fd ⟨us,[]⟩=pure (ps.zip us)):Binds K fd ps []:=fun s us _ hl=>by
 rw [List.append_nil] at hl ⊢
 exact .of_eq (h us hl)
def Passes(CX:CXT)(X:Cx)(E:XK):Prop:=∀(pins:List (Addr × Obj)) (σ:St) (H:Hp) (s:Shared) (e:Value) (s':Shared),Inv X pins σ H s→CX X.stack H s E e s'→X.xe e s'
section
variable {X:Cx}{CX:CXT}{k:Nat}{f C:Addr}{fd:FuncData}{ps:List Str}{sp:Sp}{dvs:List V}{ds:List Value}{E:XK}{x m:Str}{p pos apos:Pos}{e o:Expr}{es:List Expr}{ta:TE}{t:TA}
theorem JR{pins:List (Addr × Obj)}{σ:St}{H:Hp}{s:Shared}{Q:VK}{us:List Value}{vs:List V}(F:aU X.prog X.w X.K X.mg X.base CX k f fd ps sp)(hr:jw k X.A)(hb:Binds X.K fd ps ds)(hd:Vals dvs ds)(hx:Passes CX X E)
  (I:Inv X pins σ H s) (r:Vals vs us) (h:sp (vs++dvs) H Q E):wpAny (model X.prog X.w) X.A (call (.ref f) us) (EP X pins σ Q) X.xe s:=by
 have r2:Vals (vs++dvs) (us++ds):=r.append hd
 have hl:(us++ds).length=ps.length:=by rw [← r2.length]; exact F.len _ _ _ _ h
 refine wpAny_call (codeAny_mono (F.run X.A X.stack s H ⟨us,[]⟩ (us++ds) (vs++dvs) Q E hr I.env0 (hb s us I.kIn hl) r2 h) fun r s' hq=>?_)
 cases r with
 | error e=>exact hx pins σ H s e s' I hq
 | ok fl=>
  cases fl with
  | ret u=>exact I.after hq
  | next=>exact False.elim hq
  | brk=>exact False.elim hq
  | cont=>exact False.elim hq
theorem Bw(F:aU X.prog X.w X.K X.mg X.base CX k f fd ps sp)(hr:jw k X.A)(hg:Gl X x)(hm:X.mg x=some (.ref f))(hk:PySem.W.keepIn X.K (.ref f)=true)(hb:Binds X.K fd ps ds)(hd:Vals dvs ds)(hx:Passes CX X E)
  (ha:PA X (e::es) t) (hdb:(x == ("__debug__" : Str))=false:=by decide) (he:starEach (e::es) X.env=(false,eval e X.env)::starEach es X.env:=by rfl) (hpl:(backTo pos (starEach es X.env)).any (·.1)=false:=by rfl) :
  PE X (.Call (.Name x p) (e::es) [] pos) (Bs sp dvs E t):=by
 intro pins s σ H Q I h
 refine wpAny_Call_Name_kw (pI I hg hm ?_ hdb)
 refine PySem.W.callWith_K (h₀:=X.base) I.ok.mod.kin hk (thn (ha pos pins s σ H _ I h) fun us s1 ⟨vs,H1,I1,r,q⟩=>⟨I1.kIn,?_⟩) he hpl
 exact JR F hr hb hd hx I1 r q
structure Mk (K:PySem.W.Frag) (C f:Addr):Prop where
 makes:PySem.W.makesIn K C=true
 init:PySem.W.findIn K (.ref C) "__init__" = some (some (.ref f))
 fn:PySem.W.isFn K (.ref f)=true
 kp:PySem.W.keepIn K (.ref C)=true
end
section
variable {X:Cx}{CX:CXT}{k:Nat}{f C:Addr}{fd:FuncData}{ps ks:List Str}{sp:Sp}{E:XK}{x m:Str}{p pos apos kpos:Pos}{e o:Expr}{es:List Expr}{kws:List Keyword}{te ta:TE}{t tk:TA}{nm:Option Str}
structure Nx (K:PySem.W.Frag) (fd:FuncData) (ps ks:List Str) (g:List Value→List Value→List Value) (gV:List V→List V→List V):Prop where
 to:∀(s:Shared) (us ws:List Value),K.In s.heap→(g us ws).length=ps.length→BindsTo s fd ⟨us,ks.zip ws⟩ (ps.zip (g us ws))
 rel:∀ {vs:List V} {us:List Value} {zs:List V} {ws:List Value},Vals vs us→Vals zs ws→Vals (gV vs zs) (g us ws)
variable {g:List Value→List Value→List Value}{gV:List V→List V→List V}
end
structure aW (N P:List Str) (sc:Scope):Prop where
 kind:sc.kind=.function
 co:sc.isCoroutine=false
 gen:sc.isGenerator=false
 nd:N.Nodup
 pre:N.take P.length=P
 par:∀ x∈P,sc.names.lookup x=some .local∨sc.names.lookup x=some .cell
 KH:∀ y∈sc.names,y.2≠.free
theorem vJ{kindOf:Str→Option NameKind}{x:Str}:∀ {binds:List (Str × Value)} {m:Str→Option Value},(∀ v,(x,v) ∉ binds)→bindL kindOf binds m x=m x
 | [],_,_=>rfl
 | (n,v)::r,m,h=>by
  unfold bindL
  rw [vJ fun w hw=>h w (List.mem_cons_of_mem _ hw)]
  split
  ·have:x≠n:=by rintro rfl; exact h v List.mem_cons_self
   simp [this]
  ·rfl
theorem vL{kindOf:Str→Option NameKind}{x:Str}:∀ {binds:List (Str × Value)} {m:Str→Option Value},(∀ v,(x,v) ∉ binds)→bindC kindOf binds m x=m x
 | [],_,_=>rfl
 | (n,v)::r,m,h=>by
  unfold bindC
  rw [vL fun w hw=>h w (List.mem_cons_of_mem _ hw)]
  split
  ·rfl
  ·have:x≠n:=by rintro rfl; exact h v List.mem_cons_self
   simp [this]
theorem vm{kindOf:Str→Option NameKind}{x:Str}{v:Value}:∀ {P:List Str} {vs:List Value} {i:Nat} {m:Str→Option Value},P.Nodup→P[i]?=some x→vs[i]?=some v→kindOf x=some .local→
  bindL kindOf (P.zip vs) m x=some v
 | [],_,_,_,_,h,_,_=>by simp at h
 | _::_,[],_,_,_,_,h,_=>by simp at h
 | p::P,w::vs,0,m,nd,h1,h2,hk=>by
  simp at h1 h2; subst h1; subst h2
  show bindL kindOf ((p,w)::P.zip vs) m p=_
  unfold bindL
  rw [vJ fun v hv=>(List.nodup_cons.mp nd).1 (List.of_mem_zip hv).1,if_pos hk]
  simp
 | p::P,w::vs,i+1,m,nd,h1,h2,hk=>by
  show bindL kindOf ((p,w)::P.zip vs) m x=_
  unfold bindL
  exact vm (i:=i) (List.nodup_cons.mp nd).2 (by simpa using h1) (by simpa using h2) hk
theorem u0{kindOf:Str→Option NameKind}{x:Str}{v:Value}:∀ {P:List Str} {vs:List Value} {i:Nat} {m:Str→Option Value},P.Nodup→P[i]?=some x→vs[i]?=some v→kindOf x≠some .local→
  bindC kindOf (P.zip vs) m x=some v
 | [],_,_,_,_,h,_,_=>by simp at h
 | _::_,[],_,_,_,_,h,_=>by simp at h
 | p::P,w::vs,0,m,nd,h1,h2,hk=>by
  simp at h1 h2; subst h1; subst h2
  show bindC kindOf ((p,w)::P.zip vs) m p=_
  unfold bindC
  rw [vL fun v hv=>(List.nodup_cons.mp nd).1 (List.of_mem_zip hv).1,if_neg hk]
  simp
 | p::P,w::vs,i+1,m,nd,h1,h2,hk=>by
  show bindC kindOf ((p,w)::P.zip vs) m x=_
  unfold bindC
  exact u0 (i:=i) (List.nodup_cons.mp nd).2 (by simpa using h1) (by simpa using h2) hk
def start(N:List Str)(vs:List V):St:=vs.map some++List.replicate (N.length - vs.length) none
def pP(CX:CXT)(P:Program)(w:World)(K:PySem.W.Frag)(mg:Str→Option Value)(base:Heap)(N:List Str)(qual:Str)(scope:Scope)(f:Addr)(cd:Value)(A:Around)(outer:List Env)(s:Shared)(H:Hp)(E:XK):Cx where
 prog:=P
 w:=w
 K:=K
 mg:=mg
 base:=base
 A:=A.deeper (envOfC qual scope s.heap.objs.size f cd)
 N:=N
 s₀:=s
 H₀:=H
 env:=envOfC qual scope s.heap.objs.size f cd
 outer:=outer
 stack:=envOfC qual scope s.heap.objs.size f cd::outer
 ex:=[]
 calm:=true
 fn:=fun _=>true
 pn:=[]
 xe:=fun e s'=>wpAny (model P w) (A.deeper (envOfC qual scope s.heap.objs.size f cd)) (leaving (envOfC qual scope s.heap.objs.size f cd) e) (fun _ s''=>CX outer H s E e s'') (fun e' s''=>CX outer H s E e' s'') s'
theorem xP{sc:Scope}{n:Nat}{x:Str}(h:sc.names.lookup x=some .cell):∃ c,(cellsFrom n sc.names []).lookup x=some c:=by
 have q:=PySem.W.cellsFrom_some sc.names n [] (.inl h)
 exact Option.isSome_iff_exists.mp q
theorem Dq{CX:CXT}{P:Program}{w:World}{K:PySem.W.Frag}{mg:Str→Option Value}{base:Heap}{N ps:List Str}{qual:Str}{scope:Scope}{f:Addr}{cd:Value}{A:Around}{outer:List Env}{s s1:Shared}{H:Hp}{E:XK}{us:List Value}{vs:List V}
  (S:aW N ps scope) (hd:A.handled=none) (e0:GF P w K mg base A outer s H) (hl:vs.length=ps.length) (r:Vals vs us)
  (x:InCallC s s.heap.objs.size (bindL (envOfC qual scope s.heap.objs.size f cd).kindOf (ps.zip us) fun _=>none) (cellsFrom (s.heap.objs.size+1) scope.names []) (bindC (envOfC qual scope s.heap.objs.size f cd).kindOf (ps.zip us) fun _=>none) s1) :
  Inv (pP CX P w K mg base N qual scope f cd A outer s H E) [] (start N vs) H s1:=by
 have hpl:ps.length≤N.length:=by have:=congrArg List.length S.pre; rw [List.length_take] at this; omega
 obtain ⟨h1,tk,rfl,hk⟩:=x.done
 have noA:∀ b:Addr,b ∉ (pP CX P w K mg base N qual scope f cd A outer s H E).ex:=fun b z=>absurd (show b∈([]:List Addr) from z) (by simp)
 refine⟨⟨e0.mod,S.kind,rfl,rfl,Nat.le_refl _,fun y z c h1 h2=>?_,fun y hy=>?_,fun y c _ h=>?_,fun _=>hd,Around.frames_deeper e0.frames,.inr ⟨rfl,rfl⟩,fun b z=>absurd z (noA b),e0.bs,e0.bsz,fun b _ _=>noA b,fun b z=>absurd z (noA b),e0.qO,e0.frf⟩,
  rfl,e0.bare,Un.kept hk,⟨_,x.toInCall.ns,fun i y v h1 h2 h3=>?_⟩,fun y c h=>⟨_,x.cell y c h⟩,e0.hok.fresh (Nat.le_refl _),fun y c h=>?_,fun p hp=>absurd (show p∈([]:List (Addr × Obj)) from hp) (by simp),e0.hok.kept hk,?_⟩
 ·exact name_of_addr x.apart (PySem.mem_of_lookup h1) (PySem.mem_of_lookup h2)
 ·have hy:scope.names.lookup y=some .cell∨scope.names.lookup y=some .free:=hy
  rcases hy with hy | hy
  ·exact xP hy
  ·exact absurd rfl (S.KH _ (PySem.mem_of_lookup hy))
 ·exact Nat.le_of_lt (x.above y c (PySem.mem_of_lookup h))
 ·have hi:i < vs.length:=by
   unfold start at h2
   by_cases hi:i < vs.length
   ·exact hi
   ·rw [List.getElem?_append_right (by simpa using hi)] at h2
    rw [List.getElem?_replicate] at h2
    split at h2 <;> cases h2
  have ha:vs[i]?=some v:=by
   unfold start at h2
   rw [List.getElem?_append_left (by simpa using hi),List.getElem?_map] at h2
   cases e:vs[i]? with
   | none=>rw [e] at h2; cases h2
   | some a=>rw [e] at h2; cases h2; rfl
  obtain ⟨u,hu,rv⟩:=r.get ha
  have hp:ps[i]?=some y:=by
   rw [← S.pre,List.getElem?_take_of_lt (by omega)]; exact h1
  have ndP:ps.Nodup:=by rw [← S.pre]; exact S.nd.sublist (List.take_sublist _ _)
  refine⟨u,rv,?_⟩
  rcases S.par y (List.mem_of_getElem? hp) with k | k
  ·exact .inl ⟨k,vm ndP hp hu k⟩
  ·obtain ⟨c,e⟩:=xP (n:=s.heap.objs.size+1) k
   refine .inr ⟨.inl k,c,e,?_⟩
   have q:=x.cell y c e
   rw [u0 ndP hp hu (by show scope.names.lookup y≠_; rw [k]; decide)] at q
   exact q
 ·exact e0.hok.fresh (Nat.le_of_lt (x.above y c (PySem.mem_of_lookup h)))
 ·unfold start
  show _=N.length
  rw [List.length_append,List.length_map,List.length_replicate]
  omega
theorem JK{CX:CXT}{P:Program}{w:World}{K:PySem.W.Frag}{mg:Str→Option Value}{base:Heap}{k:Nat}{f:Addr}{name qual:Str}{params:Arguments}{body:List Stmt}{scope:Scope}{dV kV doc pm cdv ct oc:Value}{an od:Option Addr}
  {osl:Array (Option Value)} {N ps:List Str} {sp:Sp} (lk:K.lookup f=some ⟨oc,od,.func (PySem.W.fnOf name qual params body scope dV kV doc pm an cdv ct),osl⟩) (hcd:PySem.W.codeIn K cdv qual=true) (S:aW N ps scope)
  (len:∀ vs H Q E,sp vs H Q E→vs.length=ps.length)
  (hbody:∀(A:Around) (outer:List Env) (s:Shared) (H:Hp) (vs:List V) (Q:VK) (E:XK),jw k (A.deeper (envOfC qual scope s.heap.objs.size f cdv))→sp vs H Q E→
   ∃ t,PSs (pP CX P w K mg base N qual scope f cdv A outer s H E) body t∧t { nx:=fun _ H'=>Q .non H',rt:=Q } (start N vs) H) :
  aU P w K mg base CX (k+1) f (PySem.W.fnOf name qual params body scope dV kV doc pm an cdv ct) ps sp:=by
 refine⟨len,fun A outer s H args us vs Q E hr e0 hb r hsp=>?_⟩
 have hl:=len _ _ _ _ hsp
 have KX:K.In s.heap:=e0.mod.kin.keeps fun b o e=>(e0.bs b o e).1
 have lim:s.heap.NoLimit:=e0.mod.nolimit.keeps fun b o e=>(e0.bs b o e).1
 have hkind:∀ y∈ps.zip us,scope.names.lookup y.1=some .local∨(scope.names.lookup y.1=some .cell∧((cellsFrom (s.heap.objs.size+1) scope.names []).lookup y.1).isSome=true):=fun⟨n,v⟩ hy=>by
  rcases S.par n (List.of_mem_zip hy).1 with q | q
  ·exact .inl q
  ·exact .inr ⟨q,PySem.W.cellsFrom_some _ _ _ (.inl q)⟩
 refine codeAny_call_function hr.depth (KX _ _ lk) rfl S.co S.gen rfl (PySem.W.codeRec_of KX hcd) (hb _ _ _ _ ?_)
 refine wpAny_newFunctionEnv_cells S.kind hkind fun env he s1 x=>?_
 subst he
 refine⟨lim.keeps x.toInCall.keep,codeAny_func ?_⟩
 obtain ⟨t,ht,hq⟩:=hbody A outer s H vs Q E (hr.deeper _) hsp
 have I:Inv (pP CX P w K mg base N qual scope f cdv A outer s H E) [] (start N vs) H s1:=Dq S hr.hd e0 hl r x
 refine wpAny_mono (ht [] s1 (start N vs) H _ I hq) (fun fl s' hs=>?_) fun e s' hs=>hs
 have fin:∀ {σ':St} {H':Hp} {v:V} {u:Value},Inv (pP CX P w K mg base N qual scope f cdv A outer s H E) [] σ' H' s'→RelV v u→Q v H'→CE outer P w H s Q u s':=
  fun {σ' H' v u} J rv q=>⟨v,H',J.os,J.bare,J.base,J.hok,rv,q⟩
 cases fl with
 | ret u=>
  obtain ⟨v,σ',H',J,rv,q⟩:=hs
  exact fin J rv q
 | next=>
  obtain ⟨σ',H',J,q⟩:=hs
  exact fin (v:=V.non) (u:=Value.none) J rfl q
 | brk=>
  obtain ⟨_,_,_,q⟩:=hs
  exact False.elim q
 | cont=>
  obtain ⟨_,_,_,q⟩:=hs
  exact False.elim q
end L2
namespace L2
open PySem PySem.Spec PyProof.Rows
section
variable {X:Cx}{x:Str}{p pos:Pos}{e:Expr}{es:List Expr}{t:TA}{id T:String}{r:List V→Hp→VK→Prop}
def tCB(r:List V→Hp→VK→Prop)(t:TA):TE:=fun σ H Q=>t σ H fun vs H1=>r vs H1 Q
theorem aK(hc:dU X (.builtin id) r)(hg:Gl X x)(hm:X.mg x=none)(hv:bootBuiltins x=some (.builtin id))(ha:PA X (e::es) t)(hn:x≠ "__name__" := by decide)(hdb:(x == ("__debug__" : Str))=false:=by decide)
  (he:starEach (e::es) X.env=(false,eval e X.env)::starEach es X.env:=by rfl) (hpl:(backTo pos (starEach es X.env)).any (·.1)=false:=by rfl):PE X (.Call (.Name x p) (e::es) [] pos) (tCB r t):=by
 intro pins s σ H Q I h
 refine wpAny_Call_Name_kw (oR I hg hm hv ?_ hn hdb)
 exact PyProof.Rows.callWith_builtin1 (thn (ha pos pins s σ H _ I h) fun us s1 ⟨vs,H1,I1,r1,q1⟩=>hc pins s1 σ H1 vs us Q I1 r1 q1) he hpl
theorem bB(hc:dU X (.type T) r)(hg:Gl X x)(hm:X.mg x=none)(hv:bootBuiltins x=some (.type T))(ha:PA X (e::es) t)(hn:x≠ "__name__" := by decide)(hdb:(x == ("__debug__" : Str))=false:=by decide)
  (he:starEach (e::es) X.env=(false,eval e X.env)::starEach es X.env:=by rfl) (hpl:(backTo pos (starEach es X.env)).any (·.1)=false:=by rfl):PE X (.Call (.Name x p) (e::es) [] pos) (tCB r t):=by
 intro pins s σ H Q I h
 refine wpAny_Call_Name_kw (oR I hg hm hv ?_ hn hdb)
 exact PyProof.Rows.callWith_type1 (thn (ha pos pins s σ H _ I h) fun us s1 ⟨vs,H1,I1,r1,q1⟩=>hc pins s1 σ H1 vs us Q I1 r1 q1) he hpl
end
end L2
end
section
namespace HT
open PySem PyProof.Rows
section
open PySem.SeqAt
open PySem.AutoSeq1 (wpAny_loadPart')
open PySem.MeetsSeq PySem.MeetsSeq2 PySem.MeetsSeq3
end
section
variable {prog:Program}{w:World}{A:Around}{E:Value→Shared→Prop}{s:Shared}
theorem Jl{t b:Addr}{vs ws:List Value}{Q:Value→Shared→Prop}(ht:IsTup s.heap t vs.toArray)(hb:IsTup s.heap b ws.toArray)(hv:vs≠[])
  (h1:ws=[]→Q (.ref t) s) (h2:ws≠[]→Q (.ref s.heap.objs.size) { s with heap:=s.heap.push { cls:=.type "tuple",data:=.seq (vs++ws).toArray } })
  (hsz:vs.length+ws.length≤sizeLine):wpAny (model prog w) A (binaryOp .Add (.ref t) (.ref b)) Q E s:=by
 obtain ⟨⟨cls,dd,data,sl⟩,ho,hc,n,hd⟩:=id ht
 obtain ⟨⟨cls2,dd2,data2,sl2⟩,ho2,hc2,n2,hd2⟩:=id hb
 simp only at hc hd hc2 hd2
 subst hc hd hc2 hd2
 have e:vs.toArray++ws.toArray=(vs++ws).toArray:=by simp
 by_cases hw:ws=[]
 ·exact concat_meets ⟨_,ho,rfl⟩ ⟨_,ho2,rfl⟩ noFill_tuple_add seq_tuple_add PySem.F.slot_tuple_add PySem.F.entry_tuple_add (PySem.F.args_tuple_add_2 _ _)
   (tuple_addW1 t b vs.toArray ws.toArray n n2 dd dd2 sl sl2 (by simpa using hv) (by simp [hw])) ⟨ho,ho2,h1 hw⟩
 ·refine concat_meets ⟨_,ho,rfl⟩ ⟨_,ho2,rfl⟩ noFill_tuple_add seq_tuple_add PySem.F.slot_tuple_add PySem.F.entry_tuple_add (PySem.F.args_tuple_add_2 _ _)
   (tuple_addW2 t b vs.toArray ws.toArray n n2 dd dd2 sl sl2 (by simpa using hv) (by simpa using hw) (by rw [List.size_toArray,List.size_toArray]; exact hsz)) ⟨ho,ho2,?_⟩
  rw [e]
  exact h2 hw
def sIx(n d:Nat):Option Int→Nat
 | none=>d
 | some v=>if v < 0 then (v+(n:Int)).toNat else min v.toNat n
theorem rP(n d k:Nat):sIx n d (some (k:Int))=min k n:=by
 show (if (k:Int) < 0 then ((k:Int)+(n:Int)).toNat else min (k:Int).toNat n)=min k n
 rw [if_neg (by omega),Int.toNat_natCast]
theorem K5(n d:Nat)(hd:d≤n)(o:Option Int):sIx n d o≤n:=by
 cases o with
 | none=>exact hd
 | some v=>
  show (if v < 0 then (v+(n:Int)).toNat else min v.toNat n)≤n
  by_cases hv:v < 0
  ·rw [if_pos hv]; omega
  ·rw [if_neg hv]; exact Nat.min_le_right _ _
theorem Cv(v:Int)(n d:Nat):(if v < 0 then max (v+(n:Int)) 0 else min v (n:Int))=((sIx n d (some v):Nat):Int):=by
 show (if v < 0 then max (v+(n:Int)) 0 else min v (n:Int))=(((if v < 0 then (v+(n:Int)).toNat else min v.toNat n):Nat):Int)
 by_cases hv:v < 0
 ·simp only [if_pos hv]; omega
 ·simp only [if_neg hv]; omega
theorem zc(lo hi:Option Int)(n:Nat):Builtin.Slice.sliceAdjust lo hi 1 (n:Int)=(((sIx n 0 lo:Nat):Int),((sIx n n hi:Nat):Int)):=by
 have h1:¬ ((1:Int) < 0):=by omega
 unfold Builtin.Slice.sliceAdjust
 simp only [h1,if_false]
 refine Prod.ext ?_ ?_
 ·cases lo with
  | none=>rfl
  | some v=>exact Cv v n 0
 ·cases hi with
  | none=>rfl
  | some v=>exact Cv v n n
theorem zf(i j:Nat):Builtin.Slice.slicePlaces (i:Int) (j:Int) 1=j - i:=by
 unfold Builtin.Slice.slicePlaces
 have h1:(1:Int) > 0:=by omega
 simp only [h1,if_true,Int.ediv_one]
 split <;> omega
theorem uh{v:Value}{o:Option Int}{Q:Option Int→Shared→Prop}(p:IsPart v o)(h:Q o s):wpAny (model prog w) A (Builtin.Slice.slicePartIndex v) Q E s:=by
 cases p with
 | none=>exact slicePart_none h
 | int i t=>exact slicePart_int h
theorem lC{sl:Addr}{vl vu:Value}{lo hi:Option Int}{n:Nat}{Q:Int × Int × Nat→Shared→Prop}(hs:s.heap.IsSliceOf sl vl vu .none)(pl:IsPart vl lo)(pu:IsPart vu hi)
  (h:Q (((sIx n 0 lo:Nat):Int),1,sIx n n hi - sIx n 0 lo) s):wpAny (model prog w) A (Builtin.Slice.sliceApplied (.ref sl) (pure (n:Int))) Q E s:=by
 obtain ⟨os,hos,hcs,hds⟩:=id hs
 unfold Builtin.Slice.sliceApplied Builtin.Slice.sliceFields
 refine wpAny_bind (wpAny_bind (wpAny_field hos hds (x:=vl) rfl (wpAny_bind (wpAny_field hos hds (x:=vu) rfl (wpAny_bind (wpAny_field hos hds (x:=.none) rfl (wpAny_pure ?_)))))))
 refine wpAny_bind (slicePart_none ?_)
 show wpAny _ _ (if ((1:Int) == 0)=true then _ else _) _ _ s
 rw [if_neg (by decide)]
 refine wpAny_bind (uh pl (wpAny_bind (uh pu (wpAny_bind (wpAny_pure ?_)))))
 show wpAny _ _ (match Builtin.Slice.sliceAdjust lo hi 1 (n:Int) with | (lo,hi)=>pure (lo,(1:Int),Builtin.Slice.slicePlaces lo hi 1)) _ _ s
 rw [zc lo hi n]
 show wpAny _ _ (pure (((sIx n 0 lo:Nat):Int),(1:Int),Builtin.Slice.slicePlaces ((sIx n 0 lo:Nat):Int) ((sIx n n hi:Nat):Int) 1)) _ _ s
 rw [zf]
 exact wpAny_pure h
theorem G4(xs:Array Value)(i k:Nat):((List.range k).filterMap fun(m:Nat)=>xs[((i:Int)+(m:Int) * 1).toNat]?).toArray=((xs.toList.drop i).take k).toArray:=by
 have e:(fun(m:Nat)=>xs[((i:Int)+(m:Int) * 1).toNat]?)=fun m=>xs[i+m]?:=by
  funext m
  have:((i:Int)+(m:Int) * 1).toNat=i+m:=by omega
  rw [this]
 rw [e]
 have:=pick_run xs i k
 rw [List.filterMap_map] at this
 have e2:((fun x=>xs[x]?) ∘ fun x=>i+x)=fun m=>xs[i+m]?:=rfl
 rw [e2] at this
 rw [this]
theorem qg{t sl:Addr}{items:Array Value}{vl vu:Value}{lo hi:Option Int}{Q:Value→Shared→Prop}(ht:IsTup s.heap t items)(hs:s.heap.IsSliceOf sl vl vu .none)(pl:IsPart vl lo)(pu:IsPart vu hi)
  (hw:¬ (sIx items.size 0 lo=0∧sIx items.size items.size hi=items.size))
  (h:Q (.ref s.heap.objs.size) { s with heap:=s.heap.push { cls:=.type "tuple",data:=.seq ((items.toList.drop (sIx items.size 0 lo)).take (sIx items.size items.size hi - sIx items.size 0 lo)).toArray } })
  (hsz:items.size≤sizeLine):wpAny (model prog w) A (getItem (.ref t) (.ref sl)) Q E s:=by
 have htake:sizeOk (.seq ((items.toList.drop (sIx items.size 0 lo)).take (sIx items.size items.size hi - sIx items.size 0 lo)).toArray):=by
  show ((items.toList.drop (sIx items.size 0 lo)).take (sIx items.size items.size hi - sIx items.size 0 lo)).toArray.size≤sizeLine
  rw [List.size_toArray,List.length_take,List.length_drop,Array.length_toList]
  omega
 have hj:sIx items.size items.size hi≤items.size:=K5 _ _ (Nat.le_refl _) hi
 obtain ⟨os,hos,hcs,hds⟩:=id hs
 have hTs:s.TypeIs (.ref sl) "slice" := ⟨os,hos,hcs⟩
 unfold getItem
 try with_reducible refine wpAny_holding ?_
 first | refine wpAny_bind (wpAny_pure ?_) | skip
 refine wpAny_bind (wpAny_sequenceKey ht.typeIs (by decide) ?_)
 refine wpAny_bind (wpAny_callSpecial?_slot (name:=Str.ofString "__getitem__") ht.typeIs PyProof.Rows.slot_tuple_getitem
  (wpAny_call_entry PyProof.Rows.slot_tuple_getitem ht.typeIs entry_tuple_getitem ?_ (args_tuple_getitem _ _)))
 show wpAny _ _ (Builtin.Tuple.tupleItemsOf (.ref t) >>= _) _ _ s
 refine wpAny_bind (tupleItemsOf_ ht ?_)
 refine wpAny_bind (wpAny_typeOf hTs ?_)
 rw [if_pos (by decide)]
 refine wpAny_bind (lC hs pl pu ?_)
 have hno:¬ ((((sIx items.size 0 lo:Nat):Int) == 0 && (1:Int) == 1 && (sIx items.size items.size hi - sIx items.size 0 lo) == items.size)=true):=by
  intro q
  rw [Bool.and_eq_true,Bool.and_eq_true] at q
  have q1:((sIx items.size 0 lo:Nat):Int)=0:=eq_of_beq q.1.1
  have q2:sIx items.size items.size hi - sIx items.size 0 lo=items.size:=eq_of_beq q.2
  exact hw ⟨by omega,by omega⟩
 show wpAny _ _ (if (((sIx items.size 0 lo:Nat):Int) == 0 && (1:Int) == 1 && (sIx items.size items.size hi - sIx items.size 0 lo) == items.size)=true then _ else _) _ _ s
 rw [if_neg hno,G4]
 first
  | exact wpAny_bind (m:=Builtin.Tuple.tupleExact _) (wpAny_newObj_type (wpAny_pure ⟨_,rfl,wpAny_pure h⟩) htake)
  | exact wpAny_bind (m:=Builtin.Tuple.tupleExact _) (wpAny_newObj_type (wpAny_bind (wpAny_pure (wpAny_pure ⟨_,rfl,wpAny_pure h⟩))) htake)
  | exact wpAny_bind (wpAny_bind (m:=Builtin.Tuple.tupleExact _) (wpAny_newObj_type (wpAny_pure (wpAny_pure ⟨_,rfl,wpAny_pure h⟩)) htake))
  | exact wpAny_bind (wpAny_bind (m:=Builtin.Tuple.tupleExact _) (wpAny_newObj_type (wpAny_pure ⟨_,rfl,wpAny_pure h⟩) htake))
end
end HT
namespace L2
open PySem PySem.Spec PyProof.Rows
abbrev TO:=St→Hp→(Option Int→Hp→Prop)→Prop
def PO(X:Cx)(e:Option Expr)(t:TO):Prop:=
 ∀(pins:List (Addr × Obj)) (s:Shared) (σ:St) (H:Hp) (Q:Option Int→Hp→Prop),Inv X pins σ H s→t σ H Q→
  wpAny (model X.prog X.w) X.A (evalPart e X.env) (fun u s'=>∃ o H',Inv X pins σ H' s'∧IsPart u o∧Q o H') X.xe s
def Ik:TO:=fun _ H Q=>Q none H
def Li(t:TE):TO:=fun σ H Q=>t σ H fun x H1=>∃ i,x=.int i∧Q (some i) H1
section
variable {X:Cx}{e:Expr}{te:TE}{lo hi:Option Expr}{tl th:TO}{pos p2:Pos}
theorem dh:PO X none Ik:=by
 intro pins s σ H Q I h
 rw [evalPart_none]
 exact wpAny_pure ⟨none,H,I,.none,h⟩
theorem cI(h:PE X e te):PO X (some e) (Li te):=by
 intro pins s σ H Q I hw
 rw [evalPart_some]
 refine thn (h pins s σ H _ I hw) fun u s1 ⟨x,H1,I1,r1,q1⟩=>?_
 obtain ⟨i,rfl,q⟩:=q1
 obtain ⟨t,rfl⟩:=r1
 exact⟨some i,H1,I1,.int i t,q⟩
def SlR(X:Cx)(r:V→Option Int→Option Int→Hp→VK→Prop):Prop:=
 ∀(pins:List (Addr × Obj)) (s:Shared) (σ:St) (H:Hp) (x:V) (v vl vu:Value) (lo hi:Option Int) (sl:Addr) (Q:VK),Inv X pins σ H s→RelV x v→s.heap.IsSliceOf sl vl vu .none→IsPart vl lo→IsPart vu hi→r x lo hi H Q→
  ∃ T id,typeLookup (.type T) "__getitem__" = pure (some (.builtin id))∧s.TypeIs v T∧wpAny (model X.prog X.w) X.A (getItem v (.ref sl)) (EP X pins σ Q) X.xe s
theorem SlR.or{r r':V→Option Int→Option Int→Hp→VK→Prop}(h:SlR X r)(h':SlR X r'):SlR X (fun x lo hi H Q=>r x lo hi H Q∨r' x lo hi H Q):=by
 intro pins s σ H x v vl vu lo hi sl Q I rx hs pl pu q
 rcases q with q | q
 ·exact h pins s σ H x v vl vu lo hi sl Q I rx hs pl pu q
 ·exact h' pins s σ H x v vl vu lo hi sl Q I rx hs pl pu q
def tSl(r:V→Option Int→Option Int→Hp→VK→Prop)(te:TE)(tl th:TO):TE:=fun σ H Q=>te σ H fun x H1=>tl σ H1 fun l H2=>th σ H2 fun u H3=>r x l u H3 Q
theorem bZ{r:V→Option Int→Option Int→Hp→VK→Prop}(hr:SlR X r)(he:PE X e te)(hl:PO X lo tl)(hu:PO X hi th):PE X (.Subscript e (.Slice lo hi none p2) pos) (tSl r te tl th):=by
 intro pins s σ H Q I h
 refine Subscript_ (thn (he pins s σ H _ I h) fun v s1 ⟨x,H1,I1,r1,q1⟩=>?_)
 refine wpAny_Slice (thn (hl pins s1 σ H1 _ I1 q1) fun vl s2 ⟨l,H2,I2,pl,q2⟩=>thn (hu pins s2 σ H2 _ I2 q2) fun vu s3 ⟨u,H3,I3,pu,q3⟩=>?_)
 rw [evalPart_none]
 refine wpAny_pure ?_
 have I4:Inv X pins σ H3 { s3 with heap:=s3.heap.push { cls:=.type "slice",data:=.fields #[vl,vu,.none] } }:=I3.kept (t':=s3.toks) fun b ob q=>Heap.get?_push_of_some _ q
 obtain ⟨T,id,hT,ht,hg⟩:=hr pins { s3 with heap:=s3.heap.push { cls:=.type "slice",data:=.fields #[vl,vu,.none] } } σ H3 x v vl vu l u s3.heap.objs.size Q I4 r1 (Heap.IsSliceOf.new ..) pl pu q3
 show wpAny (model X.prog X.w) X.A (subscriptTail e (.Slice lo hi none p2) v (.ref s3.heap.objs.size)) (EP X pins σ Q) X.xe { s3 with heap:=s3.heap.push { cls:=.type "slice",data:=.fields #[vl,vu,.none] } }
 exact tail_any (ops:=[.ref s3.heap.objs.size,v]) ht hT hg (by with_unfolding_all rfl)
def gb(xs:List V)(lo hi:Option Int):List V:=(xs.drop (HT.sIx xs.length 0 lo)).take (HT.sIx xs.length xs.length hi - HT.sIx xs.length 0 lo)
theorem rm(xs:List V)(lo hi:Option Int):(gb xs lo hi).length≤xs.length:=by
 unfold gb
 rw [List.length_take,List.length_drop]
 omega
def Ko(K:PySem.W.Frag):V→Option Int→Option Int→Hp→VK→Prop:=fun x lo hi H Q=>∃ a xs,x=.ref a∧SqT K H a xs∧
 ¬ (HT.sIx xs.length 0 lo=0∧HT.sIx xs.length xs.length hi=xs.length)∧∀ p,H p=none→Q (.ref p) (upd H p (.tup (gb xs lo hi)))
theorem Fv:SlR X (Ko X.K):=by
 intro pins s σ H x v vl vu lo hi sl Q I rx hs pl pu h
 obtain ⟨a,xs,rfl,hx,hw,q⟩:=h
 cases rx
 obtain ⟨its,r,ht,hz⟩:=I.tuple hx
 have hlen:its.toArray.size=xs.length:=by rw [List.size_toArray]; exact r.length.symm
 refine⟨"tuple",_,PyProof.Rows.slot_tuple_getitem.lookup,ht.typeIs,?_⟩
 refine HT.qg ht hs pl pu (by rw [hlen]; exact hw) ?_ (by rw [hlen]; exact hz)
 rw [hlen]
 refine⟨.ref s.heap.objs.size,_,I.laid (t':=s.toks) (o:=.tup (gb xs lo hi)) (fun b ob q=>Heap.get?_push_of_some _ q) (Nat.le_refl _) ?_,rfl,q _ (I.hok.fresh (Nat.le_refl _))⟩
 exact⟨⟨Nat.le_trans (rm xs lo hi) hz,mZ _ _⟩,_,(r.drop (HT.sIx xs.length 0 lo)).take (HT.sIx xs.length xs.length hi - HT.sIx xs.length 0 lo),IsTup.new _ _⟩
def JH(K:PySem.W.Frag):R2:=fun x y H Q=>∃ a b xs ys,x=.ref a∧y=.ref b∧SqT K H a xs∧SqT K H b ys∧xs≠[]∧xs.length+ys.length≤sizeLine∧
 (ys=[]→Q (.ref a) H)∧(ys≠[]→∀ p,H p=none→Q (.ref p) (upd H p (.tup (xs++ys))))
theorem Vals.j7{xs:List V}{us:List Value}(r:Vals xs us):us=[]↔xs=[]:=by
 cases r with
 | nil=>simp
 | cons _ _=>simp
theorem Io:OpR X (binaryOp .Add) (JH X.K):=by
 intro pins s σ H x y v u Q I rx ry h
 obtain ⟨a,b,xs,ys,rfl,rfl,ha,hb,hx,hz,q1,q2⟩:=h
 cases rx
 cases ry
 obtain ⟨its,r1,p1,_⟩:=I.tuple ha
 obtain ⟨its2,r2,p2,_⟩:=I.tuple hb
 refine HT.Jl p1 p2 (fun z=>hx (r1.j7.mp z)) (fun z=>⟨.ref a,H,I,rfl,q1 (r2.j7.mp z)⟩) (fun z=>?_) (by rw [← r1.length,← r2.length]; exact hz)
 refine⟨.ref s.heap.objs.size,_,I.laid (t':=s.toks) (o:=.tup (xs++ys)) (fun b ob q=>Heap.get?_push_of_some _ q) (Nat.le_refl _) ?_,rfl,q2 (fun w=>z (r2.j7.mpr w)) _ (I.hok.fresh (Nat.le_refl _))⟩
 exact⟨⟨by rw [List.length_append]; exact hz,mZ _ _⟩,_,r1.append r2,IsTup.new _ _⟩
end
end L2
namespace L2
open PySem PySem.Spec PyProof.Rows
def ixN(n:Nat)(i:Int):Option Nat:=if 0≤i then (if i < n then some i.toNat else none) else if -(n:Int)≤i then some (i+n).toNat else none
def atI{α:Type}(xs:List α)(i:Int):Option α:=(ixN xs.length i).bind fun j=>xs[j]?
theorem BK{n:Nat}{i:Int}{j:Nat}(h:ixN n i=some j):seqIndex? i n=some j∧j < n∧-(n:Int)≤i∧i < n:=by
 unfold ixN at h
 by_cases h0:0≤i
 ·rw [if_pos h0] at h
  by_cases h1:i < n
  ·rw [if_pos h1] at h
   have e:i.toNat=j:=Option.some.inj h
   exact⟨by rw [seqIndex_of h0 h1,e],by omega,by omega,h1⟩
  ·rw [if_neg h1] at h; cases h
 ·rw [if_neg h0] at h
  by_cases h1:-(n:Int)≤i
  ·rw [if_pos h1] at h
   have e:(i+n).toNat=j:=Option.some.inj h
   exact⟨by rw [seqIndex_neg (by omega) h1,e],by omega,h1,by omega⟩
  ·rw [if_neg h1] at h; cases h
theorem vW{α:Type}{xs:List α}{i:Int}{v:α}(h:atI xs i=some v):∃ j,seqIndex? i xs.length=some j∧xs[j]?=some v∧j < xs.length∧-(xs.length:Int)≤i∧i < xs.length:=by
 unfold atI at h
 cases e:ixN xs.length i with
 | none=>rw [e] at h; cases h
 | some j=>
  rw [e] at h
  obtain ⟨h1,h2,h3,h4⟩:=BK e
  exact⟨j,h1,h,h2,h3,h4⟩
theorem aV{α:Type}{xs:List α}{j:Nat}{v:α}(h:xs[j]?=some v):atI xs (j:Int)=some v:=by
 have hj:j < xs.length:=(List.getElem?_eq_some_iff.mp h).1
 have e:ixN xs.length (j:Int)=some j:=by
  unfold ixN
  rw [if_pos (by omega),if_pos (by omega)]; simp
 unfold atI; rw [e]; exact h
theorem EY{α:Type}(xs:List α)(v:α):atI (xs++[v]) (-1)=some v:=by
 have hl:(xs++[v]).length=xs.length+1:=by simp
 have e:ixN (xs++[v]).length (-1)=some xs.length:=by
  unfold ixN
  rw [hl,if_neg (by decide),if_pos (by omega)]
  congr 1
  omega
 unfold atI
 rw [e]
 show (xs++[v])[xs.length]?=some v
 simp
def Jb(b:Expr):Prop:=∀ o i,subscripted b false o i=operate [o,i] (getItem o i)
def IxR(X:Cx)(r:R2):Prop:=
 ∀(value slice:Expr) (pins:List (Addr × Obj)) (s:Shared) (σ:St) (H:Hp) (x y:V) (v u:Value) (Q:VK),Inv X pins σ H s→RelV x v→RelV y u→r x y H Q→
  subscripted slice false v u=operate [v,u] (getItem v u)→wpAny (model X.prog X.w) X.A (subscriptTail value slice v u) (EP X pins σ Q) X.xe s
def MtR(X:Cx)(id:String)(r:V→List V→Hp→VK→Prop):Prop:=
 ∀(pins:List (Addr × Obj)) (s:Shared) (σ:St) (H:Hp) (x:V) (xs:List V) (v:Value) (us:List Value) (Q:VK),Inv X pins σ H s→RelV x v→Vals xs us→r x xs H Q→
  wpAny (model X.prog X.w) X.A (call (.builtin id) (v::us)) (EP X pins σ Q) X.xe s
section
variable {X:Cx}{a b:Expr}{ta tb:TE}{pos:Pos}
theorem IxR.or{r r':R2}(h:IxR X r)(h':IxR X r'):IxR X (fun x y H Q=>r x y H Q∨r' x y H Q):=by
 intro value slice pins s σ H x y v u Q I rx ry q hs
 rcases q with q | q
 ·exact h value slice pins s σ H x y v u Q I rx ry q hs
 ·exact h' value slice pins s σ H x y v u Q I rx ry q hs
theorem aZ{r:R2}(hr:IxR X r)(ha:PE X a ta)(hb:PE X b tb)(hs:Jb b):PE X (.Subscript a b pos) (tOp r ta tb):=by
 intro pins s σ H Q I h
 exact Subscript_ (JZ ha hb I h fun v u s2 x y H2 I2 rx ry q=>hr a b pins s2 σ H2 x y v u Q I2 rx ry q (hs _ _))
def IW(K:PySem.W.Frag):R2:=fun x y H Q=>∃ p xs i v,x=.ref p∧y=.int i∧SqL K H p xs∧atI xs i=some v∧Q v H
def Jg(K:PySem.W.Frag):R2:=fun x y H Q=>∃ p xs i v,x=.ref p∧y=.int i∧SqT K H p xs∧atI xs i=some v∧Q v H
def Np:R2:=fun x y H Q=>∃ z i c,x=.str z∧y=.int i∧z.length≤sizeLine∧atI z.cps.toList i=some c∧Q (.str ⟨#[c]⟩) H
theorem bT:IxR X (IW X.K):=by
 intro value slice pins s σ H x y v u Q I rx ry h hs
 obtain ⟨p,xs,i,z,rfl,rfl,hq,he,q⟩:=h
 cases rx
 obtain ⟨t,rfl⟩:=ry
 obtain ⟨its,r,pl,hz⟩:=I.list hq
 obtain ⟨j,h1,h2,h3,h4,h5⟩:=vW he
 obtain ⟨w,ew,rw'⟩:=r.get h2
 have hl:=r.length
 have hn:=mR
 have fin:EP X pins σ Q w s:=⟨z,H,I,rw',q⟩
 by_cases h0:0≤i
 ·have hj:i.toNat=j:=by
   rw [seqIndex_of h0 h5] at h1
   exact Option.some.inj h1
  exact item_listR pl.isList h0 (by omega) (by rw [hj]; simpa using ew) fin hs
 ·have hj:(i+(its.toArray.size:Int)).toNat=j:=by
   rw [seqIndex_neg (by omega) h4] at h1
   rw [List.size_toArray,← hl]
   exact Option.some.inj h1
  exact subscriptTail_builtinR (x:=w) pl.isList.typeIs slot_list_getitem.lookup
   (wpAny_getItem_list_neg (Q:=fun r s'=>r=w∧EP X pins σ Q r s') pl.isList (by omega) (by rw [List.size_toArray] <;> omega) (by omega) (by rw [hj]; simpa using ew) ⟨rfl,fin⟩) hs
theorem dG:IxR X (Jg X.K):=by
 intro value slice pins s σ H x y v u Q I rx ry h hs
 obtain ⟨p,xs,i,z,rfl,rfl,hq,he,q⟩:=h
 cases rx
 obtain ⟨t,rfl⟩:=ry
 obtain ⟨its,r,pl,hz⟩:=I.tuple hq
 obtain ⟨j,h1,h2,h3,h4,h5⟩:=vW he
 obtain ⟨w,ew,rw'⟩:=r.get h2
 have hl:=r.length
 have hn:=mR
 have fin:EP X pins σ Q w s:=⟨z,H,I,rw',q⟩
 exact subscriptTail_builtinR (x:=w) pl.typeIs slot_tuple_getitem.lookup
  (getItem_tuple (j:=j) (Q:=fun r s'=>r=w∧EP X pins σ Q r s') pl (by omega) (by omega) (by rw [List.size_toArray,← hl]; exact h1) (by simpa using ew) ⟨rfl,fin⟩) hs
theorem zR:IxR X Np:=by
 intro value slice pins s σ H x y v u Q I rx ry h hs
 obtain ⟨z,i,c,rfl,rfl,hz,he,q⟩:=h
 obtain ⟨t,rfl⟩:=rx
 obtain ⟨t',rfl⟩:=ry
 obtain ⟨j,h1,h2,h3,h4,h5⟩:=vW he
 have hl:z.cps.toList.length=z.length:=by simp [Str.length]
 rw [hl] at h1 h4 h5
 have hn:=mR
 exact tail_any (typeIs_str s z t) slot_str_getitem.lookup (getItem_str (c:=c) (by
  have e1:decide (i < -(2 ^ 63:Int))=false:=decide_eq_false (by omega)
  have e2:decide (i ≥ 2 ^ 63)=false:=decide_eq_false (by omega)
  rw [e1,e2,Bool.or_false]) (by rw [h1]; simpa using h2) ⟨.str ⟨#[c]⟩,H,I.tok _,⟨_,rfl⟩,q⟩) hs
theorem Ao(its:List Value)(n j:Nat)(u:Value):Obj.mapSeq (·.setIfInBounds j u) { cls:=.type "list",data:=.seq its.toArray n }={ cls:=.type "list",data:=.seq (its.set j u).toArray n }:=by
 simp [Obj.mapSeq]
theorem Inv.lst{pins:List (Addr × Obj)}{σ:St}{H:Hp}{s:Shared}{p:Addr}{xs:List V}(I:Inv X pins σ H s)(h:H p=some (.lst xs)) :
  ∃(its:List Value) (n:Nat),Vals xs its∧s.heap.get? p=some { cls:=.type "list",data:=.seq its.toArray n }∧xs.length≤sizeLine:=by
 obtain ⟨z,its,n,r,e⟩:=I.hok p _ h
 exact⟨its,n,r,e,z⟩
theorem Inv.J3{pins:List (Addr × Obj)}{σ:St}{H:Hp}{s:Shared}{p:Addr}{xs ys:List V}{its its':List Value}{n n':Nat}{f:Obj→Obj}(I:Inv X pins σ H s)(h:H p=some (.lst xs))
  (ho:s.heap.get? p=some { cls:=.type "list",data:=.seq its.toArray n }) (hf:f { cls:=.type "list",data:=.seq its.toArray n }={ cls:=.type "list",data:=.seq its'.toArray n' }) (r:Vals ys its') (hz:ys.length≤sizeLine) (t:Nat) :
  Inv X pins σ (upd H p (.lst ys)) { s with heap:=s.heap.update p f,toks:=t }:=by
 have e:(s.heap.update p f).get? p=some { cls:=.type "list",data:=.seq its'.toArray n' }:=by
  rw [Heap.get?_update_self f ho (by rw [hf] <;> rfl),hf]
 refine I.write (x:=p) (e:=p) (by rw [h]; trivial) (.inl rfl) (fun b u hb q=>(Heap.get?_update_other _ _ (Ne.symm hb)).trans q) ⟨_,e⟩ ?_
 exact⟨hz,its',n',r,e⟩
def MP:V→V→V→Hp→(Hp→Prop)→Prop:=fun o i v H Q=>∃ p xs k j,o=.ref p∧i=.int k∧H p=some (.lst xs)∧ixN xs.length k=some j∧Q (upd H p (.lst (xs.set j v)))
theorem set_list:Lp X MP:=by
 intro pins s σ H o i v ov iv u Q I ro ri rv h
 obtain ⟨p,xs,k,j,rfl,rfl,hp,hj,q⟩:=h
 cases ro
 obtain ⟨t,rfl⟩:=ri
 obtain ⟨its,n,r,ho,hz⟩:=I.lst hp
 obtain ⟨h1,h2,h3,h4⟩:=BK hj
 have hl:=r.length
 have hn:=mR
 have I':Inv X pins σ (upd H p (.lst (xs.set j v))) { s with heap:=s.heap.update p (Obj.mapSeq (·.setIfInBounds j u)) }:=
  I.J3 hp ho (Ao its n j u) (r.set rv j) (by rw [List.length_set]; exact hz) s.toks
 by_cases h0:0≤k
 ·have hk:k.toNat=j:=by
   rw [seqIndex_of h0 h4] at h1
   exact Option.some.inj h1
  exact PySem.W.ki_setAt ho h0 (by omega) (by rw [List.size_toArray,← hl]; exact h4) (by rw [hk]; exact⟨_,I',q⟩)
 ·have hk:(k+(its.toArray.size:Int)).toNat=j:=by
   rw [seqIndex_neg (by omega) h3] at h1
   rw [List.size_toArray,← hl]
   exact Option.some.inj h1
  exact PySem.W.ki_setBack ho (by omega) (by rw [List.size_toArray,← hl]; exact h3) (by omega) (by rw [hk]; exact⟨_,I',q⟩)
theorem wN(lo hi:Option Int)(n:Nat):(sliceBounds lo hi none n).1=((HT.sIx n 0 lo:Nat):Int)∧(sliceBounds lo hi none n).2.1=((HT.sIx n n hi:Nat):Int)∧(sliceBounds lo hi none n).2.2=1:=by
 refine⟨?_,?_,rfl⟩
 ·cases lo with
  | none=>simp [sliceBounds,HT.sIx]
  | some i=>
   simp only [sliceBounds,HT.sIx,Option.getD_none,show (1:Int) > 0 by decide,if_true]
   by_cases h:i < 0
   ·simp only [h,if_true] <;> omega
   ·simp only [h,if_false] <;> omega
 ·cases hi with
  | none=>simp [sliceBounds,HT.sIx]
  | some i=>
   simp only [sliceBounds,HT.sIx,Option.getD_none,show (1:Int) > 0 by decide,if_true]
   by_cases h:i < 0
   ·simp only [h,if_true] <;> omega
   ·simp only [h,if_false] <;> omega
theorem oM(its:List Value)(lo hi:Option Int):slicePick its.toArray lo hi none=((its.drop (HT.sIx its.length 0 lo)).take (HT.sIx its.length its.length hi - HT.sIx its.length 0 lo)).toArray:=by
 obtain ⟨h1,h2,h3⟩:=wN lo hi its.toArray.size
 unfold slicePick
 rw [h1,h2,h3]
 simp only [sliceRange_one,pick_run,List.size_toArray] <;> rfl
def Ie(K:PySem.W.Frag):V→Option Int→Option Int→Hp→VK→Prop:=fun x lo hi H Q=>∃ a xs,x=.ref a∧SqL K H a xs∧∀ p,H p=none→Q (.ref p) (upd H p (.lst (gb xs lo hi)))
theorem j8:SlR X (Ie X.K):=by
 intro pins s σ H x v vl vu lo hi sl Q I rx hs pl pu h
 obtain ⟨a,xs,rfl,hx,q⟩:=h
 cases rx
 obtain ⟨its,r,ht,hz⟩:=I.list hx
 have hlen:=r.length
 refine⟨"list",_,slot_list_getitem.lookup,ht.isList.typeIs,?_⟩
 refine wpAny_getItem_list_slice ht.isList hs pl pu .none (by simp) ?_ (by rw [List.size_toArray] <;> omega)
 rw [oM,← hlen]
 refine⟨.ref s.heap.objs.size,_,I.laid (t':=s.toks) (o:=.lst (gb xs lo hi)) (fun b ob q=>Heap.get?_push_of_some _ q) (Nat.le_refl _) ?_,rfl,q _ (I.hok.fresh (Nat.le_refl _))⟩
 exact⟨Nat.le_trans (rm xs lo hi) hz,_,0,(r.drop (HT.sIx xs.length 0 lo)).take (HT.sIx xs.length xs.length hi - HT.sIx xs.length 0 lo),Heap.get?_push_size _ rfl⟩
def mH:V→Bool
 | .non=>true
 | .bl _=>true
 | .int _=>true
 | .str _=>true
 | _=>false
def eqV:V→V→Bool
 | .non,.non=>true
 | .bl a,.bl b=>a == b
 | .bl a,.int b=>(if a then 1 else 0) == b
 | .int a,.bl b=>a == (if b then 1 else 0)
 | .int a,.int b=>a == b
 | .str a,.str b=>a == b
 | _,_=>false
theorem Gk{A:Around}{s:Shared}{y x:V}{u v:Value}(ry:RelV y u)(rx:RelV x v)(fy:mH y=true)(fx:mH x=true):SeqAt.EqAt A s u v (eqV y x):=by
 cases y with
 | non=>
  cases ry
  cases x with
  | non=>cases rx; exact SeqAt.EqAt.same _
  | bl b=>cases rx; exact SeqAt.EqAt.none_bool b
  | int b=>obtain ⟨t,rfl⟩:=rx; exact SeqAt.EqAt.none_int b t
  | str b=>obtain ⟨t,rfl⟩:=rx; exact SeqAt.EqAt.none_str b t
  | _=>exact absurd (show false=true from fx) Bool.false_ne_true
 | bl a=>
  cases ry
  cases x with
  | non=>cases rx; exact SeqAt.EqAt.bool_none a
  | bl b=>cases rx; exact SeqAt.EqAt.bool_bool a b
  | int b=>obtain ⟨t,rfl⟩:=rx; exact SeqAt.EqAt.bool_int a b t
  | str b=>obtain ⟨t,rfl⟩:=rx; exact SeqAt.EqAt.bool_str a b t
  | _=>exact absurd (show false=true from fx) Bool.false_ne_true
 | int a=>
  obtain ⟨t',rfl⟩:=ry
  cases x with
  | non=>cases rx; exact SeqAt.EqAt.int_none a t'
  | bl b=>cases rx; exact SeqAt.EqAt.int_bool a t' b
  | int b=>obtain ⟨t,rfl⟩:=rx; exact SeqAt.EqAt.int_int a t' b t
  | str b=>obtain ⟨t,rfl⟩:=rx; exact SeqAt.EqAt.int_str a t' b t
  | _=>exact absurd (show false=true from fx) Bool.false_ne_true
 | str a=>
  obtain ⟨t',rfl⟩:=ry
  cases x with
  | non=>cases rx; exact SeqAt.EqAt.str_none a t'
  | bl b=>cases rx; exact SeqAt.EqAt.str_bool a t' b
  | int b=>obtain ⟨t,rfl⟩:=rx; exact SeqAt.EqAt.str_int a t' b t
  | str b=>obtain ⟨t,rfl⟩:=rx; exact SeqAt.EqAt.str_str a t' b t
  | _=>exact absurd (show false=true from fx) Bool.false_ne_true
 | _=>exact absurd (show false=true from fy) Bool.false_ne_true
def eqU(x:V)(u:Value):Bool:=match u with
 | .none=>eqV .non x
 | .bool b=>eqV (.bl b) x
 | .int i _=>eqV (.int i) x
 | .str z _=>eqV (.str z) x
 | _=>false
theorem Hf{x y:V}{u:Value}(r:RelV y u)(f:mH y=true):eqU x u=eqV y x:=by
 cases y with
 | non=>cases r; rfl
 | bl b=>cases r; rfl
 | int i=>obtain ⟨t,rfl⟩:=r; rfl
 | str z=>obtain ⟨t,rfl⟩:=r; rfl
 | _=>exact absurd (show false=true from f) Bool.false_ne_true
theorem pO{x:V}:∀ {xs:List V} {us:List Value},Vals xs us→xs.all mH=true→us.any (eqU x)=xs.any fun y=>eqV y x
 | _,_,.nil,_=>rfl
 | y::xs,u::us,.cons r t,f=>by
  rw [List.all_cons,Bool.and_eq_true] at f
  rw [List.any_cons,List.any_cons,Hf r f.1,pO t f.2]
theorem mV{A:Around}{s:Shared}{x:V}{v:Value}(rx:RelV x v)(fx:mH x=true):∀ {xs:List V} {us:List Value},Vals xs us→xs.all mH=true→∀ u∈us,SeqAt.EqAt A s u v (eqU x u)
 | _,_,.nil,_=>fun u hu=>by cases hu
 | y::xs,u::us,.cons r t,f=>fun u' hu=>by
  rw [List.all_cons,Bool.and_eq_true] at f
  rcases List.mem_cons.mp hu with rfl | hu
  ·rw [Hf r f.1]; exact Gk r rx f.1 fx
  ·exact mV rx fx t f.2 u' hu
def inV(x:V)(xs:List V):Bool:=xs.any fun y=>eqV y x
def rIn(K:PySem.W.Frag)(neg:Bool):R2:=fun x y H Q=>∃ p xs,y=.ref p∧(SqL K H p xs∨SqT K H p xs)∧mH x=true∧xs.all mH=true∧Q (.bl (if neg then !inV x xs else inV x xs)) H
theorem ql:OpR X (compareOp .In) (rIn X.K false):=by
 intro pins s σ H x y v u Q I rx ry h
 obtain ⟨p,xs,rfl,hq,fx,fs,q⟩:=h
 cases ry
 rcases hq with hq | hq
 ·obtain ⟨its,r,pl,hz⟩:=I.list hq
  refine SeqAt.in_listAt (eqU x) pl.isList (fun w hw=>mV rx fx r fs w (by simpa using hw)) ⟨.bl _,H,I,rfl,?_⟩
  rw [show its.toArray.any (eqU x)=its.any (eqU x) by simp,pO r fs]
  exact q
 ·obtain ⟨its,r,pl,hz⟩:=I.tuple hq
  refine SeqAt.in_tupleAt (eqU x) pl (fun w hw=>mV rx fx r fs w (by simpa using hw)) ⟨.bl _,H,I,rfl,?_⟩
  rw [show its.toArray.any (eqU x)=its.any (eqU x) by simp,pO r fs]
  exact q
theorem jH:OpR X (compareOp .NotIn) (rIn X.K true):=by
 intro pins s σ H x y v u Q I rx ry h
 obtain ⟨p,xs,rfl,hq,fx,fs,q⟩:=h
 cases ry
 rcases hq with hq | hq
 ·obtain ⟨its,r,pl,hz⟩:=I.list hq
  refine SeqAt.notIn_listAt (eqU x) pl.isList (fun w hw=>mV rx fx r fs w (by simpa using hw)) ⟨.bl _,H,I,rfl,?_⟩
  rw [show its.toArray.any (eqU x)=its.any (eqU x) by simp,pO r fs]
  exact q
 ·obtain ⟨its,r,pl,hz⟩:=I.tuple hq
  refine SeqAt.notIn_tupleAt (eqU x) pl (fun w hw=>mV rx fx r fs w (by simpa using hw)) ⟨.bl _,H,I,rfl,?_⟩
  rw [show its.toArray.any (eqU x)=its.any (eqU x) by simp,pO r fs]
  exact q
theorem aY:dU X (.builtin "len") (fun xs H Q=>∃ p ys,xs=[.ref p]∧(SqL X.K H p ys∨SqT X.K H p ys)∧Q (.int ys.length) H):=by
 intro pins s σ H xs us Q I r h
 obtain ⟨p,ys,rfl,hq,q⟩:=h
 obtain ⟨u,rfl,rx⟩:=vals1 r
 cases rx
 have hn:=mR
 rcases hq with hq | hq
 ·obtain ⟨its,r',pl,hz⟩:=I.list hq
  have hlen:=r'.length
  exact Calls.call_len_list pl.isList (by simp only [List.size_toArray] <;> omega) ⟨.int ys.length,H,I.tok _,⟨s.toks+1,by rw [List.size_toArray,hlen]⟩,q⟩
 ·obtain ⟨its,r',pl,hz⟩:=I.tuple hq
  have hlen:=r'.length
  exact len_tuple pl (by simp only [List.size_toArray] <;> omega) ⟨.int ys.length,H,I.tok _,⟨s.toks+1,by rw [List.size_toArray,hlen]⟩,q⟩
theorem lX:dU X (.builtin "len") (fun xs H Q=>∃ z,xs=[.str z]∧z.length≤sizeLine∧Q (.int z.length) H):=by
 intro pins s σ H xs us Q I r h
 obtain ⟨z,rfl,hz,q⟩:=h
 obtain ⟨u,rfl,t,rfl⟩:=vals1 r
 have hn:=mR
 exact len_str (by omega) ⟨.int z.length,H,I.tok _,⟨_,rfl⟩,q⟩
theorem lR:dU X (.type "list") (fun xs H Q=>∃ p ys,xs=[.ref p]∧(SqL X.K H p ys∨SqT X.K H p ys)∧∀ l,H l=none→Q (.ref l) (upd H l (.lst ys))):=by
 intro pins s σ H xs us Q I r h
 obtain ⟨p,ys,rfl,hq,q⟩:=h
 obtain ⟨u,rfl,rx⟩:=vals1 r
 cases rx
 have fin:∀(its:List Value),Vals ys its→ys.length≤sizeLine→∀ (h':Heap) (c':Nat),(∀ b o',s.heap.get? b=some o'→h'.get? b=some o')→
   h'.get? s.heap.objs.size=some { cls:=.type "list",dict:=none,data:=.seq its.toArray c',slots:=#[] }→EP X pins σ Q (.ref s.heap.objs.size) { s with heap:=h' }:=fun its r' hz h' c' kp e=>
  ⟨.ref s.heap.objs.size,_,I.laid (t':=s.toks) kp (Nat.le_refl _) (show cU X.prog X.w _ h' _ (.lst ys) from ⟨hz,its,c',r',e⟩),rfl,q _ (I.hok.fresh (Nat.le_refl _))⟩
 rcases hq with hq | hq
 ·obtain ⟨its,r',pl,hz⟩:=I.list hq
  have hlen:=r'.length
  obtain ⟨o,ho,hc,n,hd⟩:=pl.isList
  exact call_list_seq p (.inl rfl) ho hc hd (fun h' c' kp e=>fin its r' hz h' c' kp e) (by simp only [List.size_toArray] <;> omega)
 ·obtain ⟨its,r',pl,hz⟩:=I.tuple hq
  have hlen:=r'.length
  obtain ⟨o,ho,hc,n,hd⟩:=pl
  exact call_list_seq p (.inr rfl) ho hc hd (fun h' c' kp e=>fin its r' hz h' c' kp e) (by simp only [List.size_toArray] <;> omega)
theorem bI:dU X (.type "tuple") (fun xs H Q=>∃ p ys,xs=[.ref p]∧((SqL X.K H p ys∧∀ l,H l=none→Q (.ref l) (upd H l (.tup ys)))∨(SqT X.K H p ys∧Q (.ref p) H))):=by
 intro pins s σ H xs us Q I r h
 obtain ⟨p,ys,rfl,h⟩:=h
 obtain ⟨u,rfl,rx⟩:=vals1 r
 cases rx
 rcases h with ⟨hq,q⟩ | ⟨hq,q⟩
 ·obtain ⟨its,r',pl,hz⟩:=I.list hq
  have hlen:=r'.length
  refine call_tuple_list pl.isList (fun h' kp=>?_) (by simp only [List.size_toArray] <;> omega)
  have I1:Inv X pins σ H { s with heap:=h' }:=I.kept (t':=s.toks) kp
  have I2:Inv X pins σ (upd H h'.objs.size (.tup ys)) { s with heap:=h'.push { cls:=.type "tuple",data:=.seq its.toArray } }:=
   I1.laid (t':=s.toks) (fun b o e=>Heap.get?_push_of_some _ e) (Nat.le_refl _) (show cU X.prog X.w _ _ _ (.tup ys) from ⟨⟨hz,mZ _ _⟩,its,r',IsTup.new _ _⟩)
  exact⟨.ref h'.objs.size,_,I2,rfl,q _ (I1.hok.fresh (Nat.le_refl _))⟩
 ·obtain ⟨its,r',pl,hz⟩:=I.tuple hq
  exact call_tuple_same pl ⟨.ref p,H,I,rfl,q⟩
def tyV(K:PySem.W.Frag)(T:String)(x:V)(H:Hp):Prop:=match x with
 | .str _=>T = "str"
 | .int _=>T = "int"
 | .ref p=>(T = "list" ∧ ∃ xs,SqL K H p xs)∨(T = "tuple" ∧ ∃ o,K.lookup p=some o∧o.cls=.type "tuple" ∧ o.dict=none)∨
   (T = "dict" ∧ ((∃ kvs,H p=some (.dK kvs))∨∃ kvs,H p=some (.dT kvs)))∨(T = "set" ∧ ∃ S n,H p=some (.set S n))
 | _=>False
theorem K7{pins:List (Addr × Obj)}{σ:St}{H:Hp}{s:Shared}{T:String}{x:V}{v:Value}(I:Inv X pins σ H s)(r:RelV x v)(ty:tyV X.K T x H) :
  s.TypeIs v T∧∀ a,v=.ref a→∃ ob,s.heap.get? a=some ob∧ob.dict=none:=by
 cases x with
 | str z=>
  obtain ⟨t,rfl⟩:=r
  cases (show T = "str" from ty)
  exact⟨typeIs_str s z t,fun _ e=>nomatch e⟩
 | int i=>
  obtain ⟨t,rfl⟩:=r
  cases (show T = "int" from ty)
  exact⟨typeIs_int s i t,fun _ e=>nomatch e⟩
 | ref p=>
  cases r
  rcases ty with ⟨rfl,xs,hq⟩ | ⟨rfl,o,hk,hc,hd⟩ | ⟨rfl,hk⟩ | ⟨rfl,S,n,hk⟩
  ·obtain ⟨its,_,pl,_⟩:=I.list hq
   refine⟨pl.isList.typeIs,fun a e=>?_⟩
   cases e
   obtain ⟨o,n,e,c,hd,_⟩:=pl
   exact⟨o,e,hd⟩
  ·refine⟨⟨o,I.kIn p o hk,hc⟩,fun a e=>?_⟩
   cases e
   exact⟨o,I.kIn _ o hk,hd⟩
  ·have z:∃ o,s.heap.get? p=some o∧o.ExactDict:=by
    rcases hk with ⟨kvs,hk⟩ | ⟨kvs,hk⟩
    ·obtain ⟨_,_,_,_,o,_,_,e,ex,_⟩:=I.hok p _ hk
     exact⟨o,e,ex⟩
    ·obtain ⟨_,_,_,_,o,_,_,e,ex,_⟩:=I.hok p _ hk
     exact⟨o,e,ex⟩
   obtain ⟨o,e,ex⟩:=z
   refine⟨⟨o,e,ex.1⟩,fun a e2=>?_⟩
   cases e2
   exact⟨o,e,ex.2.1⟩
  ·obtain ⟨o,_,_,_,e,ex,_⟩:=I.hok p _ hk
   refine⟨⟨o,e,ex.1⟩,fun a e2=>?_⟩
   cases e2
   exact⟨o,e,ex.2.1⟩
 | _=>exact False.elim ty
def tBM(K:PySem.W.Frag)(T:String)(r:V→List V→Hp→VK→Prop)(to:TE)(t:TA):TE:=fun σ H Q=>to σ H fun x H1=>tyV K T x H1∧t σ H1 fun xs H2=>r x xs H2 Q
variable {o e:Expr}{es:List Expr}{to:TE}{t:TA}{name:Str}{apos cpos:Pos}{T id:String}{r:V→List V→Hp→VK→Prop}
theorem qR(pa:PlainAttrs T)(slot:Slot T name id)(hty:typeOf (.builtin id)=pure (.type "method_descriptor"))(hm:MtR X id r)(ho:PE X o to)(ha:PA X (e::es) t)
  (hbase:attributeBase o name X.env (eval o X.env)=eval o X.env:=by rfl)
  (hfew:((backTo cpos (starEach (e::es) X.env)).all (fun x=>!x.1) && (backToKw cpos (keywordEach [] X.env)).all (fun x=>x.1.isSome)
   && decide ((e::es).length+([]:List Keyword).length+(if ([]:List Keyword).isEmpty then 0 else 1) < 30))=true:=by rfl)
  (hline:(apos.endLine == cpos.line)=true:=by rfl) (hs:starEach (e::es) X.env=(false,eval e X.env)::starEach es X.env:=by rfl) (hplain:(backTo cpos (starEach es X.env)).any (·.1)=false:=by rfl) :
  PE X (.Call (.Attribute o name apos) (e::es) [] cpos) (tBM X.K T r to t):=by
 intro pins s σ H Q I h
 refine wpAny_Call_method_late hbase hfew hline rfl (thn (ho pins s σ H _ I h) fun v s1 ⟨x,H1,I1,r1,ty,q1⟩=>?_)
 obtain ⟨h1,h2⟩:=K7 I1 r1 ty
 refine⟨T,id,pa,slot,hty,h1,h2,?_⟩
 have hA:=ha cpos pins s1 σ H1 _ I1 q1
 rw [hs] at hA ⊢
 refine Calls.callWith_builtin (by show (false || (backTo cpos (starEach es X.env)).any (·.1))=false; rw [hplain] <;> rfl) (Calls.evalArgs_plain ?_)
 exact thn hA fun us s2 ⟨vs,H2,I2,r2,q2⟩=>hm pins s2 σ H2 x vs v us Q I2 r1 r2 q2
end
end L2
namespace L2
open PySem PySem.Spec PyProof.Rows
def MtM(X:Cx)(id:String)(r:V→List V→Hp→VK→Prop):Prop:=
 ∀(pins:List (Addr × Obj)) (s:Shared) (σ:St) (H:Hp) (x:V) (xs:List V) (v:Value) (us:List Value) (Q:VK),Inv X pins σ H s→RelV x v→Vals xs us→r x xs H Q→
  wpAny (model X.prog X.w) X.A (call (.builtin id) (v::us)) (EP X pins σ Q) X.xe s
theorem Vals.one:∀ {x:V} {us:List Value},Vals [x] us→∃ u,us=[u]∧RelV x u
 | _,_,.cons r .nil=>⟨_,rfl,r⟩
theorem Vals.two:∀ {x y:V} {us:List Value},Vals [x,y] us→∃ u v,us=[u,v]∧RelV x u∧RelV y v
 | _,_,_,.cons r (.cons q .nil)=>⟨_,_,rfl,r,q⟩
theorem Vals.reverse{xs:List V}{us:List Value}(h:Vals xs us):Vals xs.reverse us.reverse:=by
 induction h with
 | nil=>exact .nil
 | cons r t ih=>rw [List.reverse_cons,List.reverse_cons]; exact Vals.append ih (.cons r .nil)
section
variable {X:Cx}{pins:List (Addr × Obj)}{σ:St}{H:Hp}{s:Shared}{l b:Addr}{xs ys zs:List V}
theorem Inv.Nz{its its':List Value}{n:Nat}{f:Array Value→Array Value}{t':Nat}(I:Inv X pins σ H s)(hH:H l=some (.lst xs))
  (e:s.heap.get? l=some { cls:=.type "list",data:=.seq its.toArray n }) (hf:f its.toArray=its'.toArray) (hv:Vals ys its') (hz:ys.length≤sizeLine) :
  Inv X pins σ (upd H l (.lst ys)) { s with heap:=s.heap.update l (Obj.mapSeq f),toks:=t' }:=by
 have q:=PySem.IsL.update e f
 rw [hf] at q
 refine I.write (x:=l) (e:=l) (by rw [hH]; exact trivial) (.inl rfl) (fun b' u hb hu=>(Heap.get?_update_other s.heap (Obj.mapSeq f) (Ne.symm hb)).trans hu) ⟨_,q⟩ ?_
 exact⟨hz,its',_,hv,q⟩
theorem Inv.Ks{its:List Value}{t':Nat}(I:Inv X pins σ H s)(hv:Vals ys its)(hz:ys.length≤sizeLine) :
  Inv X pins σ (upd H s.heap.objs.size (.lst ys)) { s with heap:=s.heap.push { cls:=.type "list",data:=.seq its.toArray },toks:=t' }:=
 I.laid (fun _ _ q=>Heap.get?_push_of_some _ q) (Nat.le_refl _) ⟨hz,its,0,hv,Heap.get?_push_size _ rfl⟩
theorem Inv.fresh(I:Inv X pins σ H s):H s.heap.objs.size=none:=I.hok.fresh (Nat.le_refl _)
theorem Inv.KZ(I:Inv X pins σ H s)(hH:H l=some (.lst xs)):xs.length≤sizeLine∧∃(its:List Value) (n:Nat),Vals xs its∧xs.length=its.length∧s.heap.get? l=some { cls:=.type "list",data:=.seq its.toArray n }:=by
 obtain ⟨z,its,n,r,e⟩:=I.hok l _ hH
 exact⟨z,its,n,r,r.length,e⟩
end
section
variable {X:Cx}
def Jh:V→List V→Hp→VK→Prop:=fun x vs H Q=>∃ l xs y,x=.ref l∧vs=[y]∧H l=some (.lst xs)∧xs.length < sizeLine∧Q .non (upd H l (.lst (xs++[y])))
theorem gF:MtM X "list.append" Jh:=by
 intro pins s σ H x vs v us Q I rx rv h
 obtain ⟨l,xs,y,rfl,rfl,hH,hz,q⟩:=h
 cases rx
 obtain ⟨u,rfl,ru⟩:=rv.one
 obtain ⟨z,its,n,r,hl,e⟩:=I.KZ hH
 refine call_meets F.slot_list_append ⟨_,e,rfl⟩ F.entry_list_append (F.args_list_append_2 _ _) (PySem.list_append l its.toArray n u (by rw [List.size_toArray]; omega)) ⟨e,?_⟩
 refine⟨.non,_,I.Nz (its':=its++[u]) hH e (by simp) (r.append (.cons ru .nil)) ?_,rfl,q⟩
 rw [List.length_append,List.length_singleton]
 omega
def Nf:R2:=fun x y H Q=>∃ l b xs zs,x=.ref l∧y=.ref b∧H l=some (.lst xs)∧H b=some (.lst zs)∧xs.length+zs.length≤sizeLine∧∀ p,H p=none→Q (.ref p) (upd H p (.lst (xs++zs)))
theorem wj:OpR X (binaryOp .Add) Nf:=by
 intro pins s σ H x y v u Q I rx ry h
 obtain ⟨l,b,xs,zs,rfl,rfl,hH,hB,hz,q⟩:=h
 cases rx
 cases ry
 obtain ⟨z,its,n,r,hl,e⟩:=I.KZ hH
 obtain ⟨z2,its2,n2,r2,hl2,e2⟩:=I.KZ hB
 refine PySem.P.add_list e e2 ?_ (by rw [List.size_toArray,List.size_toArray]; omega)
 have ea:its.toArray++its2.toArray=(its++its2).toArray:=by simp
 rw [ea]
 exact⟨.ref _,_,I.Ks (t':=s.toks) (r.append r2) (by rw [List.length_append]; omega),rfl,q _ I.fresh⟩
end
section
variable {prog:Program}{w:World}{A:Around}{E:Value→Shared→Prop}{s:Shared}
set_option maxRecDepth 100000 in
end
section
variable {X:Cx}
end
end L2
end
section
namespace L2
open PySem PySem.Spec PyProof.Rows
section
variable {κ:Type}[DecidableEq κ]
def dM(kvs:List (κ × V))(k:κ):Option V:=(kvs.find? fun kv=>decide (kv.1=k)).map (·.2)
def putK(kvs:List (κ × V))(k:κ)(v:V):List (κ × V):=
 if (kvs.any fun kv=>decide (kv.1=k))=true then kvs.map (fun kv=>if kv.1=k then (kv.1,v) else kv) else kvs++[(k,v)]
def Ox(kvs:List (κ × V))(k:κ):List (κ × V):=kvs.filter fun kv=>decide (kv.1≠k)
theorem eG{p:κ × V}{r:List (κ × V)}{k:κ}(e:p.1=k):dM (p::r) k=some p.2:=by simp [dM,List.find?_cons,e]
theorem eO{p:κ × V}{r:List (κ × V)}{k:κ}(e:¬ p.1=k):dM (p::r) k=dM r k:=by simp [dM,List.find?_cons,e]
theorem lF(k:κ):∀ kvs:List (κ × V),(kvs.any fun kv=>decide (kv.1=k))=(dM kvs k).isSome
 | []=>rfl
 | p::r=>by
  rw [List.any_cons]
  by_cases e:p.1=k
  ·simp only [eG e,decide_eq_true e,Bool.true_or,Option.isSome_some]
  ·rw [eO e,decide_eq_false e,Bool.false_or]; exact lF k r
theorem yG(k j:κ)(y:V):∀ kvs:List (κ × V),dM (kvs.map fun kv=>if kv.1=k then (kv.1,y) else kv) j=(dM kvs j).map fun x=>if j=k then y else x
 | []=>rfl
 | p::r=>by
  have ih:=yG k j y r
  rw [List.map_cons]
  by_cases h:p.1=k
  ·rw [if_pos h]
   by_cases e:p.1=j
   ·rw [eG (p:=(p.1,y)) e,eG e,Option.map_some,if_pos (e.symm.trans h)]
   ·rw [eO (p:=(p.1,y)) e,eO e,ih]
  ·rw [if_neg h]
   by_cases e:p.1=j
   ·rw [eG (p:=p) e,eG e,Option.map_some,if_neg (fun z=>h (e.trans z))]
   ·rw [eO (p:=p) e,eO e,ih]
theorem vD(k j:κ)(y:V):∀ kvs:List (κ × V),dM kvs k=none→dM (kvs++[(k,y)]) j=if j=k then some y else dM kvs j
 | [],_=>by
  by_cases e:k=j
  ·rw [if_pos e.symm]; exact eG (p:=(k,y)) e
  ·rw [if_neg (fun z=>e z.symm)]; exact eO (p:=(k,y)) e
 | p::r,hn=>by
  rw [List.cons_append]
  have hk:¬ p.1=k:=fun z=>by rw [eG z] at hn; cases hn
  rw [eO hk] at hn
  have ih:=vD k j y r hn
  by_cases e:p.1=j
  ·rw [eG e,eG e,if_neg (fun z=>hk (e.trans z))]
  ·rw [eO e,eO e,ih]
theorem tD(kvs:List (κ × V))(k j:κ)(y:V):dM (putK kvs k y) j=if j=k then some y else dM kvs j:=by
 unfold putK
 by_cases a:(kvs.any fun kv=>decide (kv.1=k))=true
 ·rw [if_pos a,yG]
  rw [lF] at a
  by_cases e:j=k
  ·obtain ⟨x,hx⟩:=Option.isSome_iff_exists.mp a
   rw [if_pos e,e,hx,Option.map_some,if_pos rfl]
  ·rw [if_neg e]
   cases dM kvs j with
   | none=>rfl
   | some x=>rw [Option.map_some,if_neg e]
 ·rw [if_neg a]
  refine vD k j y kvs ?_
  rw [lF] at a
  cases q:dM kvs k with
  | none=>rfl
  | some x=>rw [q] at a; exact(a rfl).elim
theorem iH(kvs:List (κ × V))(k:κ)(v:V):(putK kvs k v).length≤kvs.length+1:=by
 unfold putK
 split
 ·rw [List.length_map]; omega
 ·rw [List.length_append,List.length_cons,List.length_nil]; omega
theorem tU{kvs:List (κ × V)}{k:κ}(v:V)(h:dM kvs k=none):putK kvs k v=kvs++[(k,v)]:=by
 unfold putK
 rw [lF,h]
 exact if_neg (by decide)
theorem tL.kY{o:Option V}{u:Option Value}(r:tL o u):o.isSome=u.isSome:=by
 cases o with
 | none=>cases u with
  | none=>rfl
  | some _=>exact(show False from r).elim
 | some _=>cases u with
  | none=>exact(show False from r).elim
  | some _=>rfl
theorem KV.val{kvs:List (κ × V)}{vs:List (κ × Value)}(r:KV kvs vs)(k:κ):tL (dM kvs k) (valueAt vs k):=by
 unfold KV at r
 induction r with
 | nil=>exact True.intro
 | @cons p q ps qs h t ih=>
  obtain ⟨h1,h2⟩:=h
  by_cases e:p.1=k
  ·have e':q.1=k:=h1.symm.trans e
   have b:valueAt (q::qs) k=some q.2:=by simp [valueAt,List.find?_cons,e']
   rw [eG e,b]; exact h2
  ·have e':¬ q.1=k:=fun z=>e (h1.trans z)
   have b:valueAt (q::qs) k=valueAt qs k:=by simp [valueAt,List.find?_cons,e']
   rw [eO e,b]; exact ih
theorem KV.any{kvs:List (κ × V)}{vs:List (κ × Value)}(r:KV kvs vs)(k:κ):(kvs.any fun kv=>decide (kv.1=k))=vs.any fun kv=>decide (kv.1=k):=by
 unfold KV at r
 induction r with
 | nil=>rfl
 | cons h t ih=>rw [List.any_cons,List.any_cons,ih,h.1]
theorem KV.repl{kvs:List (κ × V)}{vs:List (κ × Value)}(r:KV kvs vs)(k:κ){y:V}{u:Value}(ry:RelV y u) :
  KV (kvs.map fun kv=>if kv.1=k then (kv.1,y) else kv) (vs.map fun kv=>if kv.1=k then (kv.1,u) else kv):=by
 unfold KV at r ⊢
 induction r with
 | nil=>exact .nil
 | @cons p q ps qs h t ih=>
  rw [List.map_cons,List.map_cons]
  refine .cons ?_ ih
  obtain ⟨h1,h2⟩:=h
  by_cases e:p.1=k
  ·rw [if_pos e,if_pos (h1.symm.trans e)]; exact⟨h1,ry⟩
  ·rw [if_neg e,if_neg (fun z=>e (h1.trans z))]; exact⟨h1,h2⟩
theorem KV.put{kvs:List (κ × V)}{vs:List (κ × Value)}(r:KV kvs vs)(k:κ){y:V}{u:Value}(ry:RelV y u):KV (putK kvs k y) (stored vs k u):=by
 unfold putK stored
 rw [r.any k]
 by_cases e:(vs.any fun kv=>decide (kv.1=k))=true
 ·rw [if_pos e,if_pos e]; exact r.repl k ry
 ·rw [if_neg e,if_neg e]; exact Paired.snoc r ⟨rfl,ry⟩
theorem KV.length{kvs:List (κ × V)}{vs:List (κ × Value)}(r:KV kvs vs):kvs.length=vs.length:=Paired.length r
end
theorem uE{P:Program}{w:World}{k:Key}{u:Value}(r:RelV (kV k) u):(cP P w).is k u=true:=by
 cases k with
 | inl i=>obtain ⟨t,e⟩:=(show ∃ t,u=Value.int i t from r); subst e; exact yN P w i t
 | inr x=>obtain ⟨t,e⟩:=(show ∃ t,u=Value.str x t from r); subst e; exact yc P w x t
theorem vC{P:Program}{w:World}:∀ {ks:List Key} {us:List Value},Vals (ks.map kV) us→ItemsAre (cP P w) ks us
 | [],_,r=>by rw [List.map_nil] at r; cases r; exact .nil
 | k::ks,_,r=>by
  rw [List.map_cons] at r
  cases r with
  | cons h t=>exact .cons (uE h) (vC t)
abbrev KT(H:Hp):List (List Key × V)→List (List Key × Addr × Value)→Prop:=Paired fun p q=>p.1=q.1∧H q.2.1=some (.tup (p.1.map kV))∧RelV p.2 q.2.2
theorem KT.val{H:Hp}{kvs:List (List Key × V)}{xs:List (List Key × Addr × Value)}(r:KT H kvs xs)(k:List Key):tL (dM kvs k) ((atKey xs k).map (·.2)):=by
 induction r with
 | nil=>exact True.intro
 | @cons p q ps qs h t ih=>
  obtain ⟨h1,_,h2⟩:=h
  by_cases e:p.1=k
  ·have e':q.1=k:=h1.symm.trans e
   have b:atKey (q::qs) k=some q.2:=by simp [atKey,List.find?_cons,e']
   rw [eG e,b]; exact h2
  ·have e':¬ q.1=k:=fun z=>e (h1.trans z)
   have b:atKey (q::qs) k=atKey qs k:=by simp [atKey,List.find?_cons,e']
   rw [eO e,b]; exact ih
theorem KT.repl{H:Hp}{kvs:List (List Key × V)}{xs:List (List Key × Addr × Value)}(r:KT H kvs xs)(k:List Key){y:V}{u:Value}(ry:RelV y u) :
  KT H (kvs.map fun kv=>if kv.1=k then (kv.1,y) else kv) (xs.map (putAt k u)):=by
 induction r with
 | nil=>exact .nil
 | @cons p q ps qs h t ih=>
  rw [List.map_cons,List.map_cons]
  refine .cons ?_ ih
  obtain ⟨h1,h2,h3⟩:=h
  unfold putAt
  by_cases e:p.1=k
  ·rw [if_pos e,if_pos (h1.symm.trans e)]; exact⟨h1,h2,ry⟩
  ·rw [if_neg e,if_neg (fun z=>e (h1.trans z))]; exact⟨h1,h2,h3⟩
theorem KT.put{H:Hp}{kvs:List (List Key × V)}{xs:List (List Key × Addr × Value)}(r:KT H kvs xs)(k:List Key){b:Addr}{y:V}{u:Value}(hb:H b=some (.tup (k.map kV)))(ry:RelV y u) :
  KT H (putK kvs k y) (storedH xs k b u):=by
 have e:(kvs.any fun kv=>decide (kv.1=k))=(atKey xs k).isSome:=by
  rw [lF,(r.val k).kY,Option.isSome_map]
 unfold putK storedH
 rw [e]
 by_cases q:(atKey xs k).isSome=true
 ·rw [if_pos q,if_pos q]; exact r.repl k ry
 ·rw [if_neg q,if_neg q]; exact Paired.snoc r ⟨rfl,hb,ry⟩
theorem KT.keeps{H H':Hp}{kvs:List (List Key × V)}{xs:List (List Key × Addr × Value)}(r:KT H kvs xs)(ht:∀ b ys,H b=some (.tup ys)→H' b=some (.tup ys)):KT H' kvs xs:=
 Paired.oZ r fun _ _ z=>⟨z.1,ht _ _ z.2.1,z.2.2⟩
section
variable {P:Program}{w:World}{H:Hp}{h:Heap}{a:Addr}
theorem Jv{u:HO}(ok:HOk P w H h)(e:Rd H a u):cU P w H h a u:=e.ok ok
theorem yE{kvs:List (Key × V)}(ok:HOk P w H h)(e:Rd H a (.dK kvs)):kvs.length≤sizeLine∧(a == sysModules)=false∧∃ vs,KV kvs vs∧h.DictOf (cP P w) a vs:=
 show cU P w H h a (.dK kvs) from Jv ok e
theorem Gy{kvs:List (Key × V)}(ok:HOk P w H h)(e:H a=some (.dK kvs)):kvs.length≤sizeLine∧(a == sysModules)=false∧∃ vs,KV kvs vs∧h.DictOf (cP P w) a vs:=yE ok (.inl e)
theorem rT{ks:List Key}(ok:HOk P w H h)(e:H a=some (.tup (ks.map kV))):(tupleKind (cP P w)).is h ks a:=by
 obtain ⟨_,its,r,o,h1,h2,n,h3⟩:=(show cU P w H h a (.tup (ks.map kV)) from ok a _ e)
 exact⟨o,its.toArray,n,h1,h2,h3,by simpa using vC r⟩
theorem yO{kvs:List (List Key × V)}(ok:HOk P w H h)(e:Rd H a (.dT kvs)):kvs.length≤sizeLine∧(a == sysModules)=false∧
  ∃ xs,KT H kvs xs∧h.DictOfH (tupleKind (cP P w)) a xs:=by
 obtain ⟨z,y,xs,r,o,es,ep,h1,h2,h3,h4,h5⟩:=(show cU P w H h a (.dT kvs) from Jv ok e)
 refine⟨z,y,xs,r,o,es,ep,h1,h2,h3,h4,fun x hx=>?_,h5⟩
 have all:∀ {l:List (List Key × V)} {m:List (List Key × Addr × Value)},KT H l m→∀ x∈m,(tupleKind (cP P w)).is h x.1 x.2.1:=by
  intro l m q
  induction q with
  | nil=>intro x hx; exact nomatch hx
  | @cons p q ps qs hq t ih=>
   intro x hx
   rcases List.mem_cons.mp hx with e | hx
   ·subst e
    exact rT ok (by rw [← hq.1]; exact hq.2.1)
   ·exact ih x hx
 exact all r x hx
theorem M7{kvs:List (List Key × V)}(ok:HOk P w H h)(e:H a=some (.dT kvs)):kvs.length≤sizeLine∧(a == sysModules)=false∧
  ∃ xs,KT H kvs xs∧h.DictOfH (tupleKind (cP P w)) a xs:=yO ok (.inl e)
end
def lO(H:Hp)(a:Addr)(y:V)(r:Option V):Prop:=
 (∃ kvs k,Rd H a (.dK kvs)∧y=kV k∧r=dM kvs k)∨∃ kvs k b,Rd H a (.dT kvs)∧y=.ref b∧H b=some (.tup (k.map kV))∧r=dM kvs k
def sV(H:Hp)(a:Addr)(y v:V)(H':Hp):Prop:=
 (∃ kvs k,H a=some (.dK kvs)∧y=kV k∧kvs.length < sizeLine∧H'=upd H a (.dK (putK kvs k v)))∨
 ∃ kvs k b,H a=some (.dT kvs)∧y=.ref b∧H b=some (.tup (k.map kV))∧kvs.length < sizeLine∧H'=upd H a (.dT (putK kvs k v))
theorem lO.k{H:Hp}{a:Addr}{kvs:List (Key × V)}{k:Key}(e:H a=some (.dK kvs)):lO H a (kV k) (dM kvs k):=.inl ⟨kvs,k,.inl e,rfl,rfl⟩
theorem sV.k{H:Hp}{a:Addr}{kvs:List (Key × V)}{k:Key}{v:V}(e:H a=some (.dK kvs))(hl:kvs.length < sizeLine):sV H a (kV k) v (upd H a (.dK (putK kvs k v))):=.inl ⟨kvs,k,e,rfl,hl,rfl⟩
section
variable {X:Cx}{pins:List (Addr × Obj)}{σ:St}{H:Hp}{s:Shared}{a:Addr}{y v:V}{u r:Value}{o:Option V}{A:Around}{E:Value→Shared→Prop}
theorem Inv.big(I:Inv X pins σ H s):sysModules < s.heap.objs.size:=by
 have h:mainGlobals < s.heap.objs.size:=(I.mod.glob.keeps I.bk).lt
 exact Nat.lt_trans (by decide) h
theorem CG{Q:Value→Shared→Prop}(hu:A.units+1 < cLine)(I:Inv X pins σ H s)(g:lO H a y (some v))(ry:RelV y u)(h:∀ w' s',Inv X pins σ H s'→RelV v w'→Q w' s') :
  wpAny (model X.prog X.w) A (getItem (.ref a) u) Q E s:=by
 rcases g with ⟨kvs,k,e,ey,l⟩ | ⟨kvs,k,b,e,ey,eb,l⟩
 ·subst ey
  obtain ⟨z,hd,vs,rel,dd⟩:=yE I.hok e
  obtain ⟨w',hw,rw'⟩:=tL.some_of (v:=v) (o:=valueAt vs k) (by rw [l]; exact rel.val k)
  exact wpAny_getItem_of (uE ry) dd.mapOf hw (h w' _ (I.tok _) rw')
 ·subst ey
  cases (show u=Value.ref b from ry)
  obtain ⟨z,hd,xs,rel,dd⟩:=yO I.hok e
  obtain ⟨w',hw,rw'⟩:=tL.some_of (v:=v) (o:=(atKey xs k).map (·.2)) (by rw [l]; exact rel.val k)
  obtain ⟨p,hp,hp2⟩:=Option.map_eq_some_iff.mp hw
  refine wpAny_getItem_heap (tupleKind_room_in1 hu) (rT I.hok eb) dd hp ?_
  rw [hp2]
  exact h w' _ (I.tok _) rw'
theorem NP{Q:Value→Shared→Prop}(hu:A.units+1 < cLine)(I:Inv X pins σ H s)(g:lO H a y o)(ry:RelV y u)(h:∀ s',Inv X pins σ H s'→Q (.bool o.isSome) s') :
  wpAny (model X.prog X.w) A (compareOp .In u (.ref a)) Q E s:=by
 rcases g with ⟨kvs,k,e,ey,l⟩ | ⟨kvs,k,b,e,ey,eb,l⟩
 ·subst ey
  obtain ⟨z,hd,vs,rel,dd⟩:=yE I.hok e
  refine wpAny_in_of (uE ry) hd dd.mapOf ?_
  rw [← (rel.val k).kY,← l]
  exact h _ (I.tok _)
 ·subst ey
  cases (show u=Value.ref b from ry)
  obtain ⟨z,hd,xs,rel,dd⟩:=yO I.hok e
  refine wpAny_in_heap (tupleKind_room_in1 hu) (rT I.hok eb) hd dd ?_
  have q:=(rel.val k).kY
  rw [Option.isSome_map] at q
  rw [← q,← l]
  exact h _ (I.tok _)
theorem Hz{Q:Value→Shared→Prop}(hu:A.units+1 < cLine)(I:Inv X pins σ H s)(g:lO H a y o)(ry:RelV y u)(h:∀ s',Inv X pins σ H s'→Q (.bool (!o.isSome)) s') :
  wpAny (model X.prog X.w) A (compareOp .NotIn u (.ref a)) Q E s:=by
 rcases g with ⟨kvs,k,e,ey,l⟩ | ⟨kvs,k,b,e,ey,eb,l⟩
 ·subst ey
  obtain ⟨z,hd,vs,rel,dd⟩:=yE I.hok e
  refine wpAny_notIn_of (uE ry) hd dd.mapOf ?_
  rw [← (rel.val k).kY,← l]
  exact h _ (I.tok _)
 ·subst ey
  cases (show u=Value.ref b from ry)
  obtain ⟨z,hd,xs,rel,dd⟩:=yO I.hok e
  refine wpAny_notIn_heap (tupleKind_room_in1 hu) (rT I.hok eb) hd dd ?_
  have q:=(rel.val k).kY
  rw [Option.isSome_map] at q
  rw [← q,← l]
  exact h _ (I.tok _)
theorem rJ{h':Heap}{t':Nat}{ob:HO}(I:Inv X pins σ H s)(mu:Mut (H a))(hs:Heap.SameBut a s.heap h')(he:∃ q,h'.get? a=some q)(new:cU X.prog X.w (upd H a ob) h' a ob) :
  Inv X pins σ (upd H a ob) { s with heap:=h',toks:=t' }:=
 I.write (x:=a) (e:=a) mu (.inl rfl) (fun b q hb z=>(hs.2 b hb).trans z) he new
theorem Ak{P:Program}{w:World}{H':Hp}{h':Heap}{kvs:List (Key × V)}{vs:List (Key × Value)}(z:kvs.length≤sizeLine)(hd:(a == sysModules)=false)(rel:KV kvs vs)(dd:h'.DictOf (cP P w) a vs) :
  cU P w H' h' a (.dK kvs):=⟨z,hd,vs,rel,dd⟩
theorem Dg{H':Hp}{Q:Unit→Shared→Prop}(hu:A.units+1 < cLine)(I:Inv X pins σ H s)(g:sV H a y v H')(ry:RelV y u)(rv:RelV v r)(h:∀ s',Inv X pins σ H' s'→Q () s') :
  wpAny (model X.prog X.w) A (setItem (.ref a) u r) Q E s:=by
 rcases g with ⟨kvs,k,e,ey,l,eH⟩ | ⟨kvs,k,b,e,ey,eb,l,eH⟩
 ·subst ey eH
  obtain ⟨z,hd,vs,rel,dd⟩:=Gy I.hok e
  have hz:vs.length≤sizeLine:=by rw [← rel.length]; exact z
  have hl:(putK kvs k v).length≤sizeLine:=by have:=iH kvs k v; omega
  refine wpAny_setItem_pairs (hsz:=hz) (uE ry) dd fun h' dd' hs=>h _ ?_
  have he:∃ q,h'.get? a=some q:=let ⟨q,_,_,hq,_⟩:=dd'; ⟨q,hq⟩
  exact rJ I (by rw [e]; exact True.intro) hs he (Ak hl hd (rel.put k rv) dd')
 ·subst ey eH
  cases (show u=Value.ref b from ry)
  obtain ⟨z,hd,xs,rel,dd⟩:=M7 I.hok e
  have hz:xs.length≤sizeLine:=by rw [← Paired.length rel]; exact z
  have hl:(putK kvs k v).length≤sizeLine:=by have:=iH kvs k v; omega
  refine wpAny_setItem_heap (hsz:=hz) (tupleKind_room_in1 hu) (rT I.hok eb) dd fun h' dd' hs=>h _ ?_
  obtain ⟨q,es,ep,hq,h2,h3,h4,_,h5⟩:=dd'
  refine rJ I (by rw [e]; exact True.intro) hs ⟨q,hq⟩ ⟨hl,hd,_,(rel.put k eb rv).keeps fun c ys ec=>?_,q,es,ep,hq,h2,h3,h4,h5⟩
  rw [aA (eU ec e (fun z=>nomatch z))]
  exact ec
end
section
variable {X:Cx}{pins:List (Addr × Obj)}{σ:St}{H:Hp}{s:Shared}{a:Addr}{kvs:List (Key × V)}{k:Key}{u:Value}{A:Around}{E:Value→Shared→Prop}
end
def Mr(i:Expr):Prop:=∀ ov iv,subscripted i false ov iv=operate [ov,iv] (getItem ov iv)
theorem Ij{prog:Program}{w:World}{A:Around}{E:Value→Shared→Prop}{s:Shared}{env:Env}{value slice:Expr}{pos:Pos}{T id:String}{Q:Value→Shared→Prop}
  (hl:typeLookup (.type T) "__getitem__" = pure (some (.builtin id))) (hs:Mr slice)
  (h:wpAny (model prog w) A (eval value env) (fun o s₁=>wpAny (model prog w) A (eval slice env) (fun i s₂=>s₂.TypeIs o T∧wpAny (model prog w) A (getItem o i) Q E s₂) E s₁) E s) :
  wpAny (model prog w) A (eval (.Subscript value slice pos) env) Q E s:=by
 refine Subscript_ (wpAny_mono h (fun o s₁ h₁=>wpAny_mono h₁ (fun i s₂ h₂=>?_) fun _ _ x=>x) fun _ _ x=>x)
 obtain ⟨hT,h₂⟩:=h₂
 unfold subscriptTail
 refine wpAny_bind ?_
 rw [getitemInPython_of_ne hT.not_modules]
 refine wpAny_bind (wpAny_specialOf hT hl ?_)
 have fin:wpAny (model prog w) A (subscripted slice false o i) (fun r s₃=>wpAny (model prog w) A (letTemporaryGo value o r >>= fun _=>pure r) Q E s₃) E s₂:=by
  rw [hs o i]
  exact wpAny_operating (wpAny_mono h₂ (fun r s₃ h₃=>wpAny_bind (wpAny_letTemporaryGo (wpAny_pure h₃))) fun _ _ x=>x)
 first
  | exact wpAny_pure (wpAny_bind fin)
  | exact wpAny_bind (wpAny_pure (wpAny_bind fin))
  | exact wpAny_bind fin
theorem xQ{X:Cx}{pins:List (Addr × Obj)}{σ:St}{H:Hp}{s:Shared}{a:Addr}{y:V}{o:Option V}(I:Inv X pins σ H s)(g:lO H a y o):s.TypeIs (.ref a) "dict" := by
 rcases g with ⟨kvs,k,e,_,_⟩ | ⟨kvs,k,b,e,_,_,_⟩
 ·obtain ⟨_,_,vs,_,dd⟩:=yE I.hok e
  exact dd.typeIs
 ·obtain ⟨_,_,xs,_,dd⟩:=yO I.hok e
  exact dd.typeIs
def Ms(td ty:TE):TE:=fun σ H Q=>td σ H fun x H1=>ty σ H1 fun y H2=>∃ a v,x=.ref a∧lO H2 a y (some v)∧Q v H2
def Ng(ty td:TE):TE:=fun σ H Q=>ty σ H fun y H1=>td σ H1 fun x H2=>∃ a o,x=.ref a∧lO H2 a y o∧Q (.bl o.isSome) H2
def Jo(ty td:TE):TE:=fun σ H Q=>ty σ H fun y H1=>td σ H1 fun x H2=>∃ a o,x=.ref a∧lO H2 a y o∧Q (.bl (!o.isSome)) H2
def LR(td ty tv:TE):TS:=fun D σ H=>tv σ H fun v H1=>td σ H1 fun x H2=>ty σ H2 fun y H3=>∃ a H4,x=.ref a∧sV H3 a y v H4∧D.nx σ H4
section
variable {X:Cx}{o i e value:Expr}{pos pos' tpos:Pos}{td ty tv:TE}
theorem gU(hu:X.A.units+1 < cLine)(ho:PE X o td)(hi:PE X i ty)(hs:Mr i):PE X (.Subscript o i pos) (Ms td ty):=by
 intro pins s σ H Q I h
 refine Ij PySem.F.slot_dict_getitem.lookup hs (thn (ho pins s σ H _ I h) fun u s1 ⟨x,H1,I1,rx,q1⟩=>thn (hi pins s1 σ H1 _ I1 q1) fun iv s2 ⟨y,H2,I2,ry,a,v,ex,g,q2⟩=>?_)
 subst ex
 obtain rfl:u=Value.ref a:=rx
 exact⟨xQ I2 g,CG hu I2 g ry fun w' s3 I3 rw'=>⟨v,H2,I3,rw',q2⟩⟩
theorem Ah(hu:X.A.units+1 < cLine)(hi:PE X i ty)(ho:PE X o td):PC X .In i o (Ng ty td):=by
 intro pins s σ H Q I h
 refine thn (hi pins s σ H _ I h) fun iv s1 ⟨y,H1,I1,ry,q1⟩=>thn (ho pins s1 σ H1 _ I1 q1) fun u s2 ⟨x,H2,I2,rx,a,ov,ex,g,q2⟩=>?_
 subst ex
 obtain rfl:u=Value.ref a:=rx
 exact NP hu I2 g ry fun s3 I3=>⟨.bl ov.isSome,H2,I3,rfl,q2⟩
theorem nF(hu:X.A.units+1 < cLine)(hi:PE X i ty)(ho:PE X o td):PC X .NotIn i o (Jo ty td):=by
 intro pins s σ H Q I h
 refine thn (hi pins s σ H _ I h) fun iv s1 ⟨y,H1,I1,ry,q1⟩=>thn (ho pins s1 σ H1 _ I1 q1) fun u s2 ⟨x,H2,I2,rx,a,ov,ex,g,q2⟩=>?_
 subst ex
 obtain rfl:u=Value.ref a:=rx
 exact Hz hu I2 g ry fun s3 I3=>⟨.bl (!ov.isSome),H2,I3,rfl,q2⟩
theorem lM(hu:X.A.units+1 < cLine)(ho:PE X o td)(hi:PE X i ty)(hv:PE X value tv)(hs:swapsWith value (some (.Subscript o i pos')) pos.line X.env=pure false) :
  PS X (.Assign [.Subscript o i pos'] value pos) (LR td ty tv):=by
 intro pins s σ H D I h
 refine wpAny_Assign_Subscript (thn (hv pins s σ H _ I h) fun r s1 ⟨v,H1,I1,rv,q1⟩=>thn (ho pins s1 σ H1 _ I1 q1) fun u s2 ⟨x,H2,I2,rx,q2⟩=>thn (hi pins s2 σ H2 _ I2 q2) fun iv s3 ⟨y,H3,I3,ry,a,H4,ex,g,q3⟩=>?_) hs
 subst ex
 obtain rfl:u=Value.ref a:=rx
 exact Dg hu I3 g ry rv fun s4 I4=>⟨σ,H4,I4,q3⟩
end
theorem rQ{P:Program}{w:World}{H:Hp}(h:Heap)(hb:sysModules < h.objs.size):cU P w H (h.push { cls:=.type "dict",data:=.dict #[] }) h.objs.size (.dK []):=
 ⟨Nat.zero_le _,beq_eq_false_iff_ne.mpr (Ne.symm (Nat.ne_of_lt hb)),[],.nil,Heap.DictOf.new h⟩
def K4:TE:=fun _ H Q=>∀ p,H p=none→Q (.ref p) (upd H p (.dK []))
section
variable {X:Cx}{pos:Pos}
theorem jt:PE X (.Dict [] [] pos) K4:=fun pins s σ H Q I h=>
 wpAny_Dict_empty ⟨.ref s.heap.objs.size,_,I.laid (a:=s.heap.objs.size) (o:=.dK []) (t':=s.toks) (fun _ _ q=>Heap.get?_push_of_some _ q) (Nat.le_refl _) (rQ s.heap I.big),rfl,h _ (I.hok.fresh (Nat.le_refl _))⟩
end
def zO:List (TE × TE)→St→Hp→(List (V × V)→Hp→Prop)→Prop
 | [],_,H,Q=>Q [] H
 | (tk,tv)::r,σ,H,Q=>tk σ H fun x H1=>tv σ H1 fun y H2=>zO r σ H2 fun ps H3=>Q ((x,y)::ps) H3
abbrev VV:List (V × V)→List (Value × Value)→Prop:=Paired fun p q=>RelV p.1 q.1∧RelV p.2 q.2
def PPs(X:Cx)(pos:Pos)(keys:List (Option Expr))(values:List Expr)(trs:List (TE × TE)):Prop:=
 ∀(pins:List (Addr × Obj)) (s:Shared) (σ:St) (H:Hp) (Q:List (V × V)→Hp→Prop),Inv X pins σ H s→zO trs σ H Q→
  wpAny (model X.prog X.w) X.A (evalPairs (pairTrees keys values X.env pos)) (fun vs s'=>∃ ps H',Inv X pins σ H' s'∧VV ps vs∧Q ps H') X.xe s
theorem Iv{X:Cx}{pos:Pos}:PPs X pos [] [] []:=fun pins s σ H Q I h=>pairTrees_nil_walk ⟨[],H,I,.nil,h⟩
theorem Hw{X:Cx}{pos:Pos}{k v:Expr}{ks:List (Option Expr)}{vs:List Expr}{tk tv:TE}{trs:List (TE × TE)}(hk:PE X k tk)(hv:PE X v tv)(hr:PPs X pos ks vs trs) :
  PPs X pos (some k::ks) (v::vs) ((tk,tv)::trs):=fun pins s σ H Q I h=>
 pairTrees_cons_walk (thn (hk pins s σ H _ I h) fun u s1 ⟨x,H1,I1,rx,q1⟩=>thn (hv pins s1 σ H1 _ I1 q1) fun w2 s2 ⟨y,H2,I2,ry,q2⟩=>
  thn (hr pins s2 σ H2 _ I2 q2) fun ws s3 ⟨ps,H3,I3,rel,q3⟩=>⟨(x,y)::ps,H3,I3,.cons ⟨rx,ry⟩ rel,q3⟩)
def dH(kvs more:List (Key × V)):List (Key × V):=more.foldl (fun acc kv=>putK acc kv.1 kv.2) kvs
theorem KV.merge:∀ {more:List (Key × V)} {rs:List (Key × Value)} {kvs:List (Key × V)} {vs:List (Key × Value)},KV more rs→KV kvs vs→KV (dH kvs more) (merged vs rs):=by
 intro more rs kvs vs r
 unfold KV at r
 induction r generalizing kvs vs with
 | nil=>intro q; exact q
 | @cons p q ps qs h t ih=>
  intro r0
  have e:KV (putK kvs p.1 p.2) (stored vs q.1 q.2):=by
   have:=r0.put p.1 h.2
   rw [← h.1]; exact this
  exact ih e
theorem kJ:∀(more kvs:List (Key × V)),(dH kvs more).length≤kvs.length+more.length
 | [],kvs=>by show kvs.length≤kvs.length+0; omega
 | p::r,kvs=>by
  have h1:=kJ r (putK kvs p.1 p.2)
  have h2:=iH kvs p.1 p.2
  show (dH (putK kvs p.1 p.2) r).length≤_
  rw [List.length_cons]; omega
theorem tH{P:Program}{w:World}:∀ {kvs:List (Key × V)} {ws:List (Value × Value)},VV (kvs.map fun kv=>(kV kv.1,kv.2)) ws→∃ rs,Carries (cP P w) ws rs∧KV kvs rs
 | [],_,r=>by rw [List.map_nil] at r; cases r; exact⟨[],True.intro,.nil⟩
 | p::kvs,_,r=>by
  rw [List.map_cons] at r
  cases r with
  | @cons a b as bs h t=>
   obtain ⟨rs,c,q⟩:=tH (P:=P) (w:=w) t
   obtain ⟨b1,b2⟩:=b
   exact⟨(p.1,b2)::rs,⟨uE h.1,rfl,c⟩,.cons ⟨rfl,h.2⟩ q⟩
def LQ(trs:List (TE × TE)):TE:=fun σ H Q=>∀ p,H p=none→zO trs σ (upd H p (.dK [])) fun ps H2=>H2 p=some (.dK [])∧∃ kvs:List (Key × V),ps=kvs.map (fun kv=>(kV kv.1,kv.2))∧kvs.length≤15∧Q (.ref p) (upd H2 p (.dK (dH [] kvs)))
theorem Im{X:Cx}{pos:Pos}{keys:List (Option Expr)}{values:List Expr}{trs:List (TE × TE)}(h:PPs X pos keys values trs)(hall:keys.all (·.isSome)=true)(hl:keys.length=values.length)(h0:keys≠[])
  (h15:keys.length≤15):PE X (.Dict keys values pos) (LQ trs):=by
 intro pins s σ H Q I q
 have hn:=I.hok.fresh (Nat.le_refl s.heap.objs.size)
 have I1:=I.laid (a:=s.heap.objs.size) (o:=.dK []) (h':=s.heap.push { cls:=.type "dict",data:=.dict #[] }) (t':=s.toks) (fun _ _ q=>Heap.get?_push_of_some _ q) (Nat.le_refl _) (rQ s.heap I.big)
 refine wpAny_Dict_walk (knd:=cP X.prog X.w) hall hl h0 h15 (thn (h pins _ σ _ _ I1 (q _ hn)) fun ws s2 ⟨ps,H2,I2,rel,e,kvs,ep,lk,q2⟩=>?_)
 subst ep
 obtain ⟨rs,c,rk⟩:=tH (P:=X.prog) (w:=X.w) rel
 obtain ⟨z,hd,vs0,r0,dd⟩:=Gy I2.hok e
 cases r0
 refine⟨rs,c,dd,fun h' dd' hs=>⟨.ref s.heap.objs.size,_,?_,rfl,q2⟩⟩
 have hz:(dH [] kvs).length≤sizeLine:=by
  have h1:=kJ kvs []
  rw [List.length_nil] at h1
  rw [sizeLine_eq]; omega
 have he:∃ q,h'.get? s.heap.objs.size=some q:=let ⟨q,_,_,hq,_⟩:=dd'; ⟨q,hq⟩
 exact rJ I2 (by rw [e]; exact True.intro) hs he (Ak hz hd (rk.merge .nil) dd')
structure M1 (X:Cx) (o:Expr) (m:Str) (apos:Pos) (e:Expr) (cpos:Pos):Prop where
 base:attributeBase o m X.env (eval o X.env)=eval o X.env
 few:((backTo cpos (starEach [e] X.env)).all (fun x=>!x.1) && (backToKw cpos (keywordEach [] X.env)).all (fun x=>x.1.isSome)
  && decide (([e]:List Expr).length+([]:List Keyword).length+(if ([]:List Keyword).isEmpty then 0 else 1) < 30))=true
 line:(apos.endLine == cpos.line)=true
 trees:backTo cpos (starEach [e] X.env)=[(false,eval e X.env)]
structure M2 (X:Cx) (o:Expr) (m:Str) (apos:Pos) (e f:Expr) (cpos:Pos):Prop where
 base:attributeBase o m X.env (eval o X.env)=eval o X.env
 few:((backTo cpos (starEach [e,f] X.env)).all (fun x=>!x.1) && (backToKw cpos (keywordEach [] X.env)).all (fun x=>x.1.isSome)
  && decide (([e,f]:List Expr).length+([]:List Keyword).length+(if ([]:List Keyword).isEmpty then 0 else 1) < 30))=true
 line:(apos.endLine == cpos.line)=true
 trees:backTo cpos (starEach [e,f] X.env)=[(false,eval e X.env),(false,eval f X.env)]
section
variable {X:Cx}{pins:List (Addr × Obj)}{σ:St}{H:Hp}{s:Shared}{a:Addr}{y d:V}{u r:Value}{o:Option V}{A:Around}{E:Value→Shared→Prop}
end
section
variable {X:Cx}{o e f:Expr}{apos cpos:Pos}{td ty tx:TE}
end
section
variable {X:Cx}{pins:List (Addr × Obj)}{σ:St}{H:Hp}{s:Shared}{a:Addr}{kvs:List (Key × V)}{A:Around}{E:Value→Shared→Prop}
end
section
variable {X:Cx}{pins:List (Addr × Obj)}{σ:St}{H:Hp}{s:Shared}{a:Addr}{y:V}{u:Value}{A:Around}{E:Value→Shared→Prop}
end
end L2
end
section
namespace Att
open PySem PySem.W PySem.Calls PyProof.Rows
theorem rC{P:Params}{h:Heap}:∀(ns:List Int) (vs:List Value),WellAll P h vs (ns.map WData.int)→IntsAre vs ns:=by
 intro ns
 induction ns with
 | nil=>
  intro vs w
  rw [List.map_nil] at w
  cases w
  exact .nil
 | cons n ns ih=>
  intro vs w
  rw [List.map_cons] at w
  cases w with
  | cons a b=>
   cases a
   exact .cons _ _ (ih _ b)
theorem DX{l:OpenLaw}{n:Nat}(hn:l.most=some n){P:Params}{h:Heap}{args:List WData}{vals:List Value}
  (hpre:l.row.toRowW.claim.pre args=true) (hwl:WellAll P h vals args) :
  ∃ a vs ns,vals=[Value.ref a]∧args=[WData.list (ns.map WData.int)]∧h.get? a=some { cls:=.type "list",data:=.seq vs.toArray }∧IntsAre vs ns∧ns.length≤n:=by
 have hsh:WShape.hasAll [] args [.list .int]=true:=(pre_splitW hpre).1
 have hc:l.pre.holds [] { args:=args }=true:=(pre_splitW hpre).2
 obtain ⟨d,r,rfl,h1,h2⟩:=hasAllW_cons hsh
 obtain rfl:=hasAllW_nil h2
 obtain ⟨xs,rfl,h3⟩:=hasW_list h1
 obtain ⟨ns,rfl⟩:=items_int h3
 have hlen:ns.length≤n:=by
  unfold OpenLaw.pre at hc
  have h4:(WTm.not (.lt (.lit (.int (n:Int))) (.len (.arg 0)))).holds [] { args:=[.list (ns.map .int)] }=true:=by
   have h4:=(holds_andW hc).1
   rw [hn] at h4
   exact h4
  have h5:=condW_of h4 (w_not (w_lt w_lit (w_len_list (w_arg rfl))))
  rw [List.length_map] at h5
  refine Nat.le_of_not_lt fun q=>?_
  have q':(n:Int) < ((ns.length:Nat):Int):=by omega
  first
   | (rw [decide_eq_true q'] at h5; exact absurd h5 (by decide))
   | (simp at h5; omega)
 cases hwl with
 | cons w1 w2=>
  cases w2
  cases w1 with
  | list ho hall=>exact⟨_,_,ns,rfl,rfl,ho,rC ns _ hall,hlen⟩
theorem CQ(l:OpenLaw)(args:List WData):l.row.toRowW.claim.post args (.bool true) args=true:=
 postW_of (r:=l.row.toRowW) (X:=(true == true))
  (show WShape.has [] (.bool true) .bool=true by first | rfl | decide | simp [WShape.has,WShape.arms,WShape.armsAll])
  (show (WTm.eq .res (.lit (.bool true))).value [] { args:=args,res:=some (.bool true),after:=args }=some (.bool (true == true)) from w_eq_bool (w_res rfl) w_lit) rfl
theorem xK{l:OpenLaw}{n:Nat}{q:Program}{loose:List Str}{XP:(Str→Option Value)→Heap→Prop}{YP:World→Heap→Prop}{d:DefRec}
  (hn:l.most=some n) (hdf:d.params.defaults=[])
  (call:∀(w:World) (s₀ s₁:Shared) (mg mb:Str→Option Value) (fa:Addr) (o:Obj) (pm cd doc:Value) (a:Addr) (vs:List Value) (ns:List Int),
   Ground q loose [] XP w s₀ mg mb s₁.heap→YP w s₁.heap→
   s₁.heap.get? fa=some o→o.data=.func (docDef d.name d.params d.body d.scope pm cd doc)→s₁.heap.CodeRec cd d.name→mg d.name=some (.ref fa)→
   s₁.heap.get? a=some { cls:=.type "list",data:=.seq vs.toArray }→IntsAre vs ns→ns.length≤n→s₁.gens=#[]→
   codeAny (model l.prog w) callerA (.call (.ref fa) ⟨[.ref a],[]⟩) (fun r s'=>r=.ok (.ret (.bool true))∧OldK s₁.heap s'.heap∧s'.os=s₁.os∧AllBare s'.gens) s₁) :
  WalkO q loose XP YP l.row.toRowW d [] (fun f vs=>PySem.call f vs):=by
 intro w s₀ s₁ mg mb G Y fa o pm cd doc dV kV ho hd hcd hD hmg hg args vals as hpre hlay hrd hwl hlo
 obtain rfl:dV=.none:=Dflts.none hD hdf
 obtain rfl:kV=.none:=Dflts.noKw hD
 obtain ⟨a,vs,ns,rfl,rfl,hobj,hints,hlen⟩:=DX hn hpre hwl
 refine enter_call (codeAny_mono (call w s₀ s₁ mg mb fa o pm cd doc a vs ns G Y ho (fd_plain hd) hcd hmg hobj hints hlen hg) fun r s' hq=>?_)
 obtain ⟨rfl,h2,h3,h4⟩:=hq
 exact⟨.inl ⟨.bool true,.bool true,[],rfl,fun _=>rfl,.bool true,CQ l _,fun _=>⟨List.Pairwise.nil,fun _ hm=>(nomatch hm)⟩⟩,h2,h3,h4⟩
section
variable {prog:Program}{w:World}{A:Around}{E:Value→Shared→Prop}{s:Shared}{K:Frag}
def ledger(h:Heap)(L d:Addr):List (Addr × Obj):=(List.range h.objs.size).filterMap fun a=>if a=L∨a=d then none else (h.get? a).map fun o=>(a,o)
end
end Att
namespace L2
open PySem PySem.Spec PyProof.Rows
theorem uY:∀ {vs:List Value} {ns:List Int},IntsAre vs ns→Vals (ns.map V.int) vs
 | _,_,.nil=>.nil
 | _,_,.cons n t h=>.cons ⟨t,rfl⟩ (uY h)
def Only(H:Hp):Prop:=∀ b,H b=none∨∃ o xs,H b=some (.frz o (.lst xs))
theorem Fp{P:Program}{w:World}{K:PySem.W.Frag}{mg mb:Str→Option Value}{CX:CXT}{k:Nat}{fa a:Addr}{fd:FuncData}{x:Str}{sp:Sp}{s₁:Shared}{vs:List Value}{ns:List Int}
  (KX:K.In s₁.heap) (hns:s₁.heap.Ns mainGlobals mg) (hb:s₁.heap.Ns builtinsNs mb) (hbb:∀ x:Str,x≠ "__name__" → mb x=bootBuiltins x) (hlim:s₁.heap.NoLimit) (hg:s₁.gens=#[])
  (ha:s₁.heap.get? a=some { cls:=.type "list",data:=.seq vs.toArray }) (hi:IntsAre vs ns) (hl:ns.length≤sizeLine) (hr:jw k callerA)
  (F:∀ base:Heap,K.In base→base.Ns mainGlobals mg→aU P w K mg base CX k fa fd [x] sp) (hbind:∀(s:Shared) (u:Value),BindsTo s fd ⟨[u],[]⟩ [(x,u)])
  (hsp:∀ H:Hp,Only H→SqL K H a (ns.map V.int)→sp [.ref a] H (fun v _=>v=.bl true) fun _ _ _=>False)
  (hCX:∀ H e s',CX [] H s₁ (fun _ _ _=>False) e s'→False) :
  codeAny (model P w) callerA (.call (.ref fa) ⟨[.ref a],[]⟩) (fun r s'=>r=.ok (.ret (.bool true))∧OldK s₁.heap s'.heap∧s'.os=s₁.os∧AllBare s'.gens) s₁:=by
 have rv:=uY hi
 have lenV:=hi.length
 have core:∀ H:Hp,Only H→SqL K H a (ns.map V.int)→HOk P w H s₁.heap→(∀ b,H b≠none→b=a)→(H a≠none→K.lookup a=none)→
   codeAny (model P w) callerA (.call (.ref fa) ⟨[.ref a],[]⟩) (fun r s'=>r=.ok (.ret (.bool true))∧OldK s₁.heap s'.heap∧s'.os=s₁.os∧AllBare s'.gens) s₁:=by
  intro H hO hS hok hA hK
  have base_of:∀ {b:Addr} {o:Obj},s₁.heap.get? b=some o→H b=none→(wW s₁.heap H).get? b=some o:=fun e n=>Hi e n
  have noA:∀ {b:Addr} {o:Obj} {es:Array DictEntry} {ep:Nat},s₁.heap.get? b=some o→o.data=.dict es ep→H b=none:=fun {b o es ep} e d=>by
   cases q:H b with
   | none=>rfl
   | some u=>
    have e':b=a:=hA b (by rw [q]; simp)
    subst e'
    rw [ha] at e; cases e
    have d':Data.seq vs.toArray _=Data.dict es ep:=d
    cases d'
  have nsK:∀ {b:Addr} {m:Str→Option Value},s₁.heap.Ns b m→(wW s₁.heap H).Ns b m:=fun {b m} ⟨o,es,ep,e,d,r⟩=>⟨o,es,ep,base_of e (noA e d),d,r⟩
  have hKb:K.In (wW s₁.heap H):=fun b o e=>base_of (KX b o e) (by
   cases q:H b with
   | none=>rfl
   | some u=>
    have e':b=a:=hA b (by rw [q]; simp)
    subst e'
    rw [hK (by rw [q]; simp)] at e; cases e)
  have hM:Mod K mg (wW s₁.heap H):=⟨hKb,nsK hns,⟨mb,nsK hb,hbb⟩,let ⟨mc,h1,h2⟩:=hlim; ⟨mc,nsK h1,h2⟩⟩
  have e0:GF P w K mg (wW s₁.heap H) callerA [] s₁ H:=⟨rfl,hM,fun b o e=>IV e,Nat.le_of_eq (Dy _ _),trivial,fun b hb=>absurd (show b∈([]:List Addr) from hb) (by simp),hok,.of_eq hg⟩
  refine codeAny_mono ((F _ hKb (nsK hns)).run callerA [] s₁ H ⟨[.ref a],[]⟩ [.ref a] [.ref a] _ _ hr e0 (hbind s₁ (.ref a)) (.cons rfl .nil) (hsp H hO hS)) fun r s' h=>?_
  cases r with
  | error e=>exact(hCX H e s' h).elim
  | ok fl=>
   cases fl with
   | next=>exact False.elim h
   | brk=>exact False.elim h
   | cont=>exact False.elim h
   | ret u=>
    obtain ⟨v,H',os,bare,un,hok',r',q⟩:=h
    have q':v=.bl true:=q
    subst q'
    obtain rfl:u=Value.bool true:=r'
    refine⟨rfl,OldK.of_keep fun b o e=>?_,os,bare⟩
    cases q:H b with
    | none=>exact un.keep b o e q (by intro z; exact absurd (show b∈([]:List Addr) from z) (by simp)) (by simp)
    | some u=>
     rcases hO b with z | ⟨ob,xs,z⟩
     ·rw [q] at z; cases z
     ·have z2:=un.rB b ob _ z
      obtain ⟨e1,_⟩:=hok b _ z
      obtain ⟨e2,_⟩:=hok' b _ z2
      rw [e] at e1; cases e1
      exact e2
 cases hk:K.lookup a with
 | some o=>
  have e:=KX a o hk
  rw [ha] at e
  cases e
  refine core (fun _=>none) (fun _=>.inl rfl) (.inr ⟨_,vs.toArray,_,hk,rfl,rfl,rfl,by rw [List.size_toArray,lenV]; exact hl,by simpa using rv⟩) (fun b u z=>by have z':(none:Option HO)=some u:=z; cases z') (fun b z=>absurd rfl z) fun z=>absurd rfl z
 | none=>
  refine core (fun b=>if b=a then some (.frz { cls:=.type "list",data:=.seq vs.toArray } (.lst (ns.map V.int))) else none) (fun b=>?_) (.inl (.inr ⟨{ cls:=.type "list",data:=.seq vs.toArray },if_pos rfl⟩)) (fun b u z=>?_) (fun b z=>?_) fun _=>hk
  ·by_cases hb:b=a
   ·exact .inr ⟨_,_,if_pos hb⟩
   ·exact .inl (if_neg hb)
  ·by_cases hb:b=a
   ·have z':=(if_pos hb).symm.trans z
    cases z'
    subst hb
    exact⟨ha,by rw [List.length_map]; exact hl,vs,_,rv,ha⟩
   ·have z':=(if_neg hb).symm.trans z
    cases z'
  ·by_cases hb:b=a
   ·exact hb
   ·exact absurd (if_neg hb) z
end L2
namespace L2
open PySem PySem.Spec PyProof.Rows
theorem HN{l:PySem.W.OpenLaw}{n k:Nat}{q:Program}{loose:List Str}{XP:(Str→Option Value)→Heap→Prop}{YP:World→Heap→Prop}{d:DefRec}{K:Params→PySem.W.Frag}{CX:World→CXT}{sp:World→Sp}{x:Str}
  (hn:l.most=some n) (hn2:n≤sizeLine) (hdf:d.params.defaults=[]) (hr:jw k callerA)
  (hY:∀(w:World) (h:Heap),YP w h→(K w.params).In h)
  (F:∀(w:World) (mg:Str→Option Value) (fa:Addr) (h:Heap),(K w.params).In h→h.Ns mainGlobals mg→mg d.name=some (.ref fa)→
   ∃ fd:FuncData,(∀(s:Shared) (u:Value),BindsTo s fd ⟨[u],[]⟩ [(x,u)])∧
    ∀ base:Heap,(K w.params).In base→base.Ns mainGlobals mg→aU l.prog w (K w.params) mg base (CX w) k fa fd [x] (sp w))
  (hsp:∀(w:World) (H:Hp) (a:Addr) (ns:List Int),ns.length≤n→Only H→SqL (K w.params) H a (ns.map V.int)→sp w [.ref a] H (fun v _=>v=.bl true) fun _ _ _=>False)
  (hCX:∀(w:World) (H:Hp) (s:Shared) (e:Value) (s':Shared),CX w [] H s (fun _ _ _=>False) e s'→False) :
  PySem.W.WalkO q loose XP YP l.row.toRowW d [] (fun f vs=>PySem.call f vs):=by
 refine Att.xK hn hdf fun w s₀ s₁ mg mb fa o pm cd doc a vs ns G Y ho hd hcd hmg hobj hints hlen hg=>?_
 have KX:=hY w _ Y
 obtain ⟨fd,hb,hF⟩:=F w mg fa _ KX G.T.g hmg
 exact Fp KX G.T.g G.T.b G.T.builtins G.T.nolimit hg hobj hints (Nat.le_trans hlen hn2) hr hF hb (fun H hO hS=>hsp w H a ns hlen hO hS) fun H e s'=>hCX w H s₁ e s'
end L2
namespace L2
open PySem PySem.Spec PyProof.Rows
def aF(s:Stmt):Arguments:=match s with
 | .FunctionDef _ a _ _ _ _ _ _ _ _=>a
 | _=>{ posonlyargs:=[],args:=[],vararg:=none,kwonlyargs:=[],kw_defaults:=[],kwarg:=none,defaults:=[] }
def aD(s:Stmt):List Stmt:=match s with
 | .FunctionDef _ _ b _ _ _ _ _ _ _=>b
 | _=>[]
def aq(s:Stmt):Scope:=match s with
 | .FunctionDef _ _ _ _ _ _ sc _ _ _=>sc
 | _=>{ kind:=.function,names:=[],isGenerator:=false,isCoroutine:=false }
abbrev CX0:CXT:=fun _ _ _ _ _ _=>False
abbrev E0:XK:=fun _ _ _=>False
theorem Ma{X:Cx}:Passes CX0 X E0:=fun _ _ _ _ _ _ _ h=>h.elim
structure Fun (K:PySem.W.Frag) (x qual:Str) (st:Stmt) (f:Addr) (fd:FuncData):Prop where
 ex:∃(oc:Value) (od:Option Addr) (kV doc pm:Value) (an:Option Addr) (cdv ct:Value) (osl:Array (Option Value)),
  fd=PySem.W.fnOf x qual (aF st) (aD st) (aq st) .none kV doc pm an cdv ct∧K.lookup f=some ⟨oc,od,.func fd,osl⟩∧PySem.W.codeIn K cdv qual=true
 kp:PySem.W.keepIn K (.ref f)=true
section
variable {P:Program}{w:World}{K:PySem.W.Frag}{mg:Str→Option Value}{base:Heap}
theorem Fun.ok{x qual:Str}{st:Stmt}{f:Addr}{fd:FuncData}{N ps:List Str}{k:Nat}{sp:Sp}(F:Fun K x qual st f fd)(S:aW N ps (aq st))(len:∀ vs H Q E,sp vs H Q E→vs.length=ps.length)
  (hbody:∀(cdv:Value) (A:Around) (outer:List Env) (s:Shared) (H:Hp) (vs:List V) (Q:VK) (E:XK),jw k (A.deeper (envOfC qual (aq st) s.heap.objs.size f cdv))→sp vs H Q E→
   ∃ t,PSs (pP CX0 P w K mg base N qual (aq st) f cdv A outer s H E).nox (aD st) t∧t { nx:=fun _ H'=>Q .non H',rt:=Q } (start N vs) H):aU P w K mg base CX0 (k+1) f fd ps sp:=by
 obtain ⟨oc,od,kV,doc,pm,an,cdv,ct,osl,rfl,lk,hcd⟩:=F.ex
 refine JK lk hcd S len fun A outer s H vs Q E hr hsp=>?_
 obtain ⟨t,h,q⟩:=hbody cdv A outer s H vs Q E hr hsp
 exact⟨t,h.nox,q⟩
theorem Fun.binds{x qual:Str}{st:Stmt}{f:Addr}{fd:FuncData}{ps:List Str}(F:Fun K x qual st f fd)
  (h:∀(kV doc pm:Value) (an:Option Addr) (cdv ct:Value) (us:List Value),us.length=ps.length→bindArgs (PySem.W.fnOf x qual (aF st) (aD st) (aq st) .none kV doc pm an cdv ct) ⟨us,[]⟩=pure (ps.zip us)):Binds K fd ps []:=by
 obtain ⟨oc,od,kV,doc,pm,an,cdv,ct,osl,rfl,lk,hcd⟩:=F.ex
 exact .all (h kV doc pm an cdv ct)
theorem bA{x qual:Str}{st:Stmt}{f:Addr}{oc:Value}{od an:Option Addr}{osl:Array (Option Value)}{kV doc pm cdv ct:Value}(l:K.lookup f=some ⟨oc,od,.func (PySem.W.fnOf x qual (aF st) (aD st) (aq st) .none kV doc pm an cdv ct),osl⟩)
  (c:PySem.W.codeIn K cdv qual=true) (k:PySem.W.keepIn K (.ref f)=true):Fun K x qual st f (PySem.W.fnOf x qual (aF st) (aD st) (aq st) .none kV doc pm an cdv ct):=⟨⟨oc,od,kV,doc,pm,an,cdv,ct,osl,rfl,l,c⟩,k⟩
end
theorem fB{A:Around}{k:Nat}(hr:jw k A):A.units+1 < cLine:=Nat.lt_of_le_of_lt (Nat.add_le_add_left (by decide:1≤64) _) hr.units
section
variable {X:Cx}
theorem pv(i:Nat){x:Str}{pos:Pos}(hN:X.N[i]?=some x:=by rfl)(hv:Vis X.env.scope x:=by first | exact Or.inl rfl | exact Or.inr (Or.inl rfl) | exact Or.inr (Or.inr rfl))(hd:(x == ("__debug__" : Str))=false:=by decide)
  (hcd:(x == ("__classdict__" : Str))=false:=by decide):PE X (.Name x pos) (M4 i):=Kz hN hv hd hcd
end
theorem fj{A B:Prop}(h:B):if false=true then A else B:=by
 rw [if_neg Bool.false_ne_true]
 exact h
theorem dZ{A B:Prop}(h:A):if true=true then A else B:=by
 rw [if_pos rfl]
 exact h
theorem jJ{c A B:Prop}[Decidable c](h1:c→A)(h2:¬ c→B):if c then A else B:=by
 by_cases h:c
 ·rw [if_pos h]
  exact h1 h
 ·rw [if_neg h]
  exact h2 h
def Same(H H':Hp):Prop:=∀ b o,H b=some o→H' b=some o
theorem Same.refl(H:Hp):Same H H:=fun _ _ h=>h
theorem Same.trans{H H1 H2:Hp}(a:Same H H1)(b:Same H1 H2):Same H H2:=fun c o h=>b c o (a c o h)
section
variable {κ:Type}[DecidableEq κ]
end
end L2
end
section
set_option autoImplicit false
namespace L2
open PySem PySem.Spec PyProof.Rows
def clo(cells:List (Str × Addr)):List (Str × NameKind)→List (Str × Addr)→List (Str × Addr)
 | [],acc=>acc
 | (n,k)::r,acc=>if k == .free then clo cells r ((n,(cells.lookup n).getD 0)::acc) else clo cells r acc
theorem zq{cells:List (Str × Addr)}:∀ {names:List (Str × NameKind)} {acc:List (Str × Addr)} {x:Str} {c:Addr},(∀ y∈names,y.2=.free→∃ c,cells.lookup y.1=some c)→
  (clo cells names acc).lookup x=some c→cells.lookup x=some c∨acc.lookup x=some c
 | [],acc,x,c,_,h=>.inr h
 | (n,k)::r,acc,x,c,ha,h=>by
  have har:∀ y∈r,y.2=.free→∃ c,cells.lookup y.1=some c:=fun y hy=>ha y (List.mem_cons_of_mem _ hy)
  unfold clo at h
  by_cases hk:k=.free
  ·subst hk
   rw [if_pos (by rfl)] at h
   rcases zq har h with q | q
   ·exact .inl q
   ·obtain ⟨c',e⟩:=ha (n,.free) List.mem_cons_self rfl
    rw [List.lookup_cons] at q
    cases hx:x == n with
    | true=>
     rw [hx] at q
     have hx':x=n:=by simpa using hx
     have e':cells.lookup n=some c':=e
     rw [e'] at q
     rw [hx',e']
     exact .inl q
    | false=>
     rw [hx] at q
     exact .inr q
  ·rw [if_neg (by simpa using hk)] at h
   exact zq har h
theorem wM{cells:List (Str × Addr)}:∀ {names:List (Str × NameKind)} {acc:List (Str × Addr)} {x:Str},(∃ c,acc.lookup x=some c)→∃ c,(clo cells names acc).lookup x=some c
 | [],_,_,h=>h
 | (n,k)::r,acc,x,h=>by
  unfold clo
  split
  ·refine wM ?_
   rw [List.lookup_cons]
   cases hx:x == n with
   | true=>exact⟨_,rfl⟩
   | false=>exact h
  ·exact wM h
theorem rK{cells:List (Str × Addr)}:∀ {names:List (Str × NameKind)} {acc:List (Str × Addr)} {x:Str},(x,NameKind.free)∈names→∃ c,(clo cells names acc).lookup x=some c
 | [],_,_,h=>by simp at h
 | (n,k)::r,acc,x,h=>by
  unfold clo
  rcases List.mem_cons.mp h with e | e
  ·cases e
   rw [if_pos (by rfl)]
   exact wM ⟨(cells.lookup n).getD 0,by simp [List.lookup_cons]⟩
  ·split
   ·exact rK e
   ·exact rK e
theorem sY{env:Env}{scope:Scope}
  (ha:∀ y∈scope.names,y.2=.free→∃ c,env.cells.lookup y.1=some c):closureFor scope env=pure (clo env.cells scope.names []):=by
 have go:∀(names:List (Str × NameKind)) (acc:List (Str × Addr)),(∀ y∈names,y.2=.free→∃ c,env.cells.lookup y.1=some c)→
   (forIn names acc fun(x:Str × NameKind) (cs:List (Str × Addr))=>(do
    if x.2 == .free then
     let c ← cellOf env x.1
     pure (ForInStep.yield ((x.1,c)::cs))
    else pure (ForInStep.yield cs):Sem (ForInStep (List (Str × Addr)))))=pure (clo env.cells names acc):=by
  intro names
  induction names with
  | nil=>intro acc _; rfl
  | cons y r ih=>
   intro acc h
   obtain ⟨n,k⟩:=y
   have hr:∀ y∈r,y.2=.free→∃ c,env.cells.lookup y.1=some c:=fun y hy=>h y (List.mem_cons_of_mem _ hy)
   rw [List.forIn_cons]
   unfold clo
   by_cases hk:k=.free
   ·subst hk
    obtain ⟨c,e⟩:=h (n,.free) List.mem_cons_self rfl
    have e':env.cells.lookup n=some c:=e
    have hc:cellOf env n=pure c:=by
     unfold cellOf
     rw [e']
    simp only [beq_self_eq_true,if_true,hc,pure_bind,e',Option.getD_some]
    exact ih _ hr
   ·have hb:(k == NameKind.free)=false:=by simpa using hk
    simp only [hb,Bool.false_eq_true,if_false,pure_bind]
    exact ih _ hr
 have q:=go scope.names [] ha
 unfold closureFor
 simp only [bind_pure]
 exact q
theorem gq{scope:Scope}{env:Env}{x:Str}:∀ {names:List (Str × NameKind)},
  (names.map fun(n,k)=>if (k == NameKind.free && env.scope.kind == .function && env.kindOf n == some .cell) then (n,NameKind.cell) else (n,k)).lookup x =
   (names.lookup x).map fun k=>if (k == NameKind.free && env.scope.kind == .function && env.kindOf x == some .cell) then NameKind.cell else k
 | []=>rfl
 | (n,k)::r=>by
  have ih:=@gq scope env x r
  show List.lookup x ((if (k == NameKind.free && env.scope.kind == .function && env.kindOf n == some .cell)=true then (n,NameKind.cell) else (n,k))::_)=_
  cases hx:x == n with
  | true=>
   have hx':x=n:=by simpa using hx
   subst hx'
   by_cases hc:(k == NameKind.free && env.scope.kind == .function && env.kindOf x == some .cell)=true
   ·rw [if_pos hc]
    simp only [List.lookup_cons,hx,Option.map_some,hc,if_true]
   ·rw [if_neg hc]
    simp only [List.lookup_cons,hx,Option.map_some,if_neg hc]
  | false=>
   by_cases hc:(k == NameKind.free && env.scope.kind == .function && env.kindOf n == some .cell)=true
   ·rw [if_pos hc]
    simp only [List.lookup_cons,hx]
    exact ih
   ·rw [if_neg hc]
    simp only [List.lookup_cons,hx]
    exact ih
theorem jh:∀(names:List (Str × NameKind)) (n:Nat) (acc:List (Str × Addr)),cellsFrom n names acc=cellsFrom n names []++acc
 | [],_,_=>rfl
 | (x,k)::r,n,acc=>by
  unfold cellsFrom
  split
  ·rw [jh r (n+1) ((x,n)::acc),jh r (n+1) [(x,n)],List.append_assoc]
   rfl
  ·exact jh r n acc
theorem lG:∀ {names:List (Str × NameKind)} {n:Nat} {x:Str} {c:Addr},(x,c)∈cellsFrom n names []→(x,NameKind.cell)∈names∧n≤c
 | [],_,_,_,h=>by cases h
 | (y,k)::r,n,x,c,h=>by
  unfold cellsFrom at h
  split at h
  ·rename_i hk
   rw [jh] at h
   rcases List.mem_append.mp h with q | q
   ·obtain ⟨h1,h2⟩:=lG q
    exact⟨List.mem_cons_of_mem _ h1,by omega⟩
   ·cases List.mem_singleton.mp q
    have e:k=.cell:=by simpa using hk
    rw [e]
    exact⟨List.mem_cons_self,Nat.le_refl _⟩
  ·obtain ⟨h1,h2⟩:=lG h
   exact⟨List.mem_cons_of_mem _ h1,h2⟩
theorem pN{α:Type}{x:Str}:∀(l m:List (Str × α)),(l++m).lookup x=(l.lookup x).or (m.lookup x)
 | [],m=>by simp
 | (k,v)::r,m=>by
  rw [List.cons_append,List.lookup_cons,List.lookup_cons]
  cases x == k with
  | true=>rfl
  | false=>exact pN r m
theorem Cw:∀ {names:List (Str × NameKind)} {x:Str} {k k':NameKind},(names.map (·.1)).Nodup→names.lookup x=some k→(x,k')∈names→k'=k
 | [],_,_,_,_,h,_=>by cases h
 | (y,j)::r,x,k,k',hn,h,hm=>by
  rw [List.map_cons] at hn
  obtain ⟨n1,n2⟩:=List.nodup_cons.mp hn
  rw [List.lookup_cons] at h
  rcases List.mem_cons.mp hm with e | e
  ·cases e
   rw [show (y == y)=true by simp] at h
   exact Option.some.inj h
  ·cases hx:x == y with
   | true=>
    have hx':x=y:=by simpa using hx
    subst hx'
    exact absurd (List.mem_map.mpr ⟨_,e,rfl⟩) n1
   | false=>
    rw [hx] at h
    exact Cw n2 h e
abbrev nY(C:Addr)(cells:List (Str × Addr))(names:List (Str × NameKind)):List (Str × Addr):=cellsFrom (C+1) names (clo cells names [])
theorem jj{C:Addr}{cells:List (Str × Addr)}{names:List (Str × NameKind)}{x:Str}{c:Addr}(h:(nY C cells names).lookup x=some c) :
  ((x,c)∈cellsFrom (C+1) names []∧(x,NameKind.cell)∈names∧C+1≤c)∨(clo cells names []).lookup x=some c:=by
 unfold nY at h
 rw [jh,pN] at h
 cases q:(cellsFrom (C+1) names []).lookup x with
 | none=>
  rw [q] at h
  exact .inr h
 | some d=>
  rw [q] at h
  cases h
  have m:=PySem.mem_of_lookup q
  exact .inl ⟨m,lG m⟩
theorem vo{C:Addr}{cells:List (Str × Addr)}{names:List (Str × NameKind)}{x:Str}(hn:(names.map (·.1)).Nodup)(h:names.lookup x=some .free):(nY C cells names).lookup x=(clo cells names []).lookup x:=by
 unfold nY
 rw [jh,pN]
 cases q:(cellsFrom (C+1) names []).lookup x with
 | none=>rfl
 | some d=>
  have m:=(lG (PySem.mem_of_lookup q)).1
  cases Cw hn h m
theorem yJ{M:Model}{A:Around}{E:Value→Shared→Prop}{s:Shared}{scope:Scope}{cl:List (Str × Addr)}{env:Env}{Q:Env→Shared→Prop}
  (hQ:∀ h',h'.Ns s.heap.objs.size (fun _=>none)→(∀ b o,s.heap.get? b=some o→h'.get? b=some o)→CellsOk h' (s.heap.objs.size+1) (cellsFrom (s.heap.objs.size+1) scope.names [])→
   Q { scope:=scope,locals:=s.heap.objs.size,globals:=env.globals,cells:=cellsFrom (s.heap.objs.size+1) scope.names cl,qual:=env.qual,func:=none,code:=env.code,frame:=env.frame,builtins:=env.builtins } { s with heap:=h' }) :
  wpAny M A (newFunctionEnv scope env.globals cl [] env.qual none .none (some env)) Q E s:=by
 simp only [newFunctionEnv,Option.isSome_some,if_true]
 refine wpAny_bind (wpAny_alloc ?_)
 refine wpAny_bind (wpAny_layCells _ (fun name kind cells=>by cases hkc:kind == NameKind.cell <;> simp [hkc]) _ _ _ _ ?_)
 have ok:=cellsFrom_ok scope.names (s.heap.push { cls:=.type "dict",data:=.dict #[] }) (s.heap.objs.size+1) [] ⟨fun _ _ hm=>(nomatch hm),List.Pairwise.nil⟩ (by rw [Heap.size_push]; exact Nat.le_refl _)
 rw [Heap.size_push] at ok
 rw [show ({ s with heap:=s.heap.push { cls:=.type "dict",data:=.dict #[] } }:Shared).heap.objs.size=s.heap.objs.size+1 from Heap.size_push ..]
 refine wpAny_bind ?_
 rw [List.forIn_nil]
 exact wpAny_pure (wpAny_pure (hQ _ ((Heap.Ns.new s.heap (.type "dict")).keeps (pushCells_keeps _ _)) (fun b o e=>pushCells_keeps _ _ b o (Heap.get?_push_of_some _ e)) ok))
def jO(X:Cx)(scope:Scope)(cl:List (Str × Addr))(N:List Str)(C:Addr)(s₃:Shared)(H₃:Hp)(fp:List Addr):Cx where
 prog:=X.prog
 w:=X.w
 K:=X.K
 mg:=X.mg
 base:=X.base
 A:=X.A
 N:=N
 s₀:=s₃
 H₀:=H₃
 env:=compEnvC scope cl C X.env
 outer:=X.stack
 stack:=X.stack
 ex:=fp
 calm:=X.calm
 fn:=fun x=>scope.names.lookup x == some .cell
 pn:=[]
 xe:=fun _ _=>False
structure aM (X:Cx) (scope:Scope) (own:List Str) (fr:List Nat) (N:List Str):Prop where
 kind:scope.kind=.function
 nodup:(scope.names.map (·.1)).Nodup
 names:∀ y∈scope.names,y.2=.local→scope.names.lookup y.1=some .local
 free:∀ y∈scope.names,y.2=.free→X.env.kindOf y.1=some .cell∨X.env.kindOf y.1=some .free
 len:N.length=own.length+fr.length
 Ke:∀(j i:Nat),fr[j]?=some i→∃ x,N[own.length+j]?=some x∧X.N[i]?=some x∧scope.names.lookup x=some .free
 frs:∀(j:Nat) (x:Str),N[j]?=some x→j < own.length→own[j]?=some x
def frv(σ:St)(fr:List Nat):St:=fr.map fun i=>(σ[i]?).join
def PTs(X:Cx)(ifs:List Expr)(t:TT):Prop:=
 ∀(pins:List (Addr × Obj)) (s:Shared) (σ:St) (H:Hp) (Q:Bool→Hp→Prop),Inv X pins σ H s→t σ H Q→
  wpAny (model X.prog X.w) X.A (forIn ifs true fun c r=>if r=true then do let ok ← isTrue c X.env (eval c X.env); pure (ForInStep.yield ok) else pure (ForInStep.yield r)) (TP X pins σ Q) X.xe s
def LK:TT:=fun _ H Q=>Q true H
theorem bN{X:Cx}:PTs X [] LK:=fun _ _ _ H _ I h=>wpAny_tests_nil ⟨H,I,h⟩
theorem gJ{X:Cx}{c:Expr}{t:TT}(h:PT X c t):PTs X [c] t:=fun pins s σ H Q I hq=>wpAny_tests_one (h pins s σ H Q I hq)
theorem wA{prog:Program}{w:World}{A:Around}{R:Result→Shared→Prop}{s:Shared}{elt target iter:Expr}{ifs:List Expr}{scope:Scope}{pos:Pos}{it acc:Value}{env:Env}(I:Nat→Shared→Prop)
  (turn:∀ n s,I n s→wpAny (model prog w) A (pyNext it) (fun r s₁=>match r with
   | none=>R (.ok .next) s₁
   | some v=>wpAny (model prog w) A (letOwnedTupleGo target it v) (fun _ s₁'=>wpAny (model prog w) A (assign target env v) (fun _ s₂=>
     wpAny (model prog w) A (forIn ifs true fun c r=>if r=true then do let ok ← isTrue c env (eval c env); pure (ForInStep.yield ok) else pure (ForInStep.yield r)) (fun ok s₃=>
      if ok=true then wpAny (model prog w) A (eval elt env) (fun x s₄=>
       wpAny (model prog w) A (call (.builtin "list.append") [acc,x]) (fun _ s₅=>∃ m,m < n∧I m s₅) (fun _ _=>False) s₄) (fun _ _=>False) s₃
      else ∃ m,m < n∧I m s₃) (fun _ _=>False) s₂) (fun _ _=>False) s₁') (fun _ _=>False) s₁) (fun _ _=>False) s)
  (n:Nat) (h:I n s) :
  codeAny (model prog w) A (.compLoop (.ListComp elt [⟨target,iter,ifs,0⟩] scope pos) 0 it acc env) R s:=by
 refine codeAny_loop rfl I (fun n s hI=>?_) n h
 show wpAny _ A ((compTurn (.ListComp elt [⟨target,iter,ifs,0⟩] scope pos) 0 it acc env).onRaise (fun x=>do noteFrame x env; theTreesLotGoes x)) _ _ s
 refine wpAny_noted ?_
 rw [compTurn_list]
 refine wpAny_bind (wpAny_standAt (wpAny_bind (wpAny_mono (turn n s hI) (fun r s₁ h₁=>?_) fun _ _ h'=>h'.elim)))
 cases r with
 | none=>exact wpAny_pure h₁
 | some v=>
  refine wpAny_bind (wpAny_mono h₁ (fun _ s₁' h₁'=>?_) fun _ _ h'=>h'.elim)
  refine wpAny_bind (wpAny_mono h₁' (fun _ s₂ h₂=>wpAny_bind (wpAny_mono h₂ (fun ok s₃ h₃=>?_) fun _ _ h'=>h'.elim)) fun _ _ h'=>h'.elim)
  cases ok with
  | false=>exact wpAny_pure ⟨rfl,h₃⟩
  | true=>
   exact wpAny_bind (wpAny_bind (wpAny_mono h₃ (fun x s₄ h₄=>wpAny_bind (wpAny_mono h₄ (fun _ s₅ h₅=>wpAny_pure (wpAny_pure ⟨rfl,h₅⟩)) fun _ _ h'=>h'.elim)) fun _ _ h'=>h'.elim))
section
variable {X:Cx}{scope:Scope}{own N:List Str}{fr:List Nat}{pins:List (Addr × Obj)}{σ:St}{H2 H3:Hp}{s2 s3:Shared}
theorem aM.clo(S:aM X scope own fr N)(ok:X.Ok):∀ y∈scope.names,y.2=.free→∃ c,X.env.cells.lookup y.1=some c:=fun y hy e=>ok.has y.1 (S.free y hy e)
theorem aM.sub(S:aM X scope own fr N)(ok:X.Ok){x:Str}{c:Addr}(h:(L2.clo X.env.cells scope.names []).lookup x=some c):X.env.cells.lookup x=some c:=by
 rcases zq (S.clo ok) h with q | q
 ·exact q
 ·simp at q
theorem aM.look(S:aM X scope own fr N)(ok:X.Ok){x:Str}(h:scope.names.lookup x=some .free){cl:List (Str × Addr)}{C:Addr} :
  (compEnvC scope cl C X.env).kindOf x=some .cell∨(compEnvC scope cl C X.env).kindOf x=some .free:=by
 show ((relabel scope X.env).names.lookup x)=_∨((relabel scope X.env).names.lookup x)=_
 unfold relabel
 show List.lookup x (List.map _ _)=_∨List.lookup x (List.map _ _)=_
 rw [gq (scope:=scope),h]
 simp only [Option.map_some]
 split
 ·exact .inl rfl
 ·exact .inr rfl
theorem Cj(S:aM X scope own fr N)(I:Inv X pins σ H3 s3){fp:List Addr}(hf:∀ b∈fp,nW X pins H3 b)(hlt:∀ b∈fp,b < s3.heap.objs.size) :
  (jO X scope (nY s3.heap.objs.size X.env.cells scope.names) N s3.heap.objs.size s3 H3 fp).Ok where
 mod:=I.ok.mod
 kind:=S.kind
 glob:=I.ok.glob
 blt:=I.ok.blt
 above:=Nat.le_refl _
 inj:=fun x y c h1 h2=>by
  have old:∀ {z:Str},(L2.clo X.env.cells scope.names []).lookup z=some c→c < s3.heap.objs.size:=fun {z} h=>by
   obtain ⟨v,q⟩:=I.cell z c (S.sub I.ok h)
   exact q.lt
  have ap:=(cellsFrom_ok scope.names (s3.heap.push { cls:=.type "dict",data:=.dict #[] }) (s3.heap.objs.size+1) [] ⟨fun _ _ hm=>(nomatch hm),List.Pairwise.nil⟩ (by rw [Heap.size_push]; exact Nat.le_refl _)).apart
  rw [Heap.size_push] at ap
  rcases jj h1 with ⟨m1,_,l1⟩ | q1
  ·rcases jj h2 with ⟨m2,_,_⟩ | q2
   ·exact name_of_addr ap m1 m2
   ·exact absurd (Nat.lt_trans l1 (old q2)) (Nat.lt_irrefl _)
  ·rcases jj h2 with ⟨m2,_,l2⟩ | q2
   ·exact absurd (Nat.lt_trans l2 (old q1)) (Nat.lt_irrefl _)
   ·exact I.ok.inj x y c (S.sub I.ok q1) (S.sub I.ok q2)
 has:=fun x hx=>by
  have hx:(relabel scope X.env).names.lookup x=some .cell∨(relabel scope X.env).names.lookup x=some .free:=hx
  unfold relabel at hx
  have hx:List.lookup x (scope.names.map _)=some NameKind.cell∨List.lookup x (scope.names.map _)=some NameKind.free:=hx
  rw [gq (scope:=scope)] at hx
  cases e:scope.names.lookup x with
  | none=>rw [e] at hx; simp at hx
  | some k=>
   have hm:=PySem.mem_of_lookup e
   rw [e] at hx
   simp only [Option.map_some] at hx
   have hk:k=.free∨k=.cell:=by
    by_cases hk:k=.free
    ·exact .inl hk
    ·have hb:(k == NameKind.free)=false:=by simpa using hk
     simp only [hb,Bool.false_and,Bool.false_eq_true,if_false] at hx
     rcases hx with z | z
     ·exact .inr (Option.some.inj z)
     ·exact .inl (Option.some.inj z)
   rcases hk with hk | hk
   ·subst hk
    obtain ⟨c,q⟩:=rK (cells:=X.env.cells) (acc:=[]) hm
    exact⟨c,(vo S.nodup e).trans q⟩
   ·subst hk
    exact Option.isSome_iff_exists.mp (PySem.W.cellsFrom_some scope.names _ _ (.inl e))
 cab:=fun x c h q=>by
  have e:scope.names.lookup x=some .cell:=beq_iff_eq.mp h
  show s3.heap.objs.size≤c
  have q':(nY s3.heap.objs.size X.env.cells scope.names).lookup x=some c:=q
  unfold nY at q'
  rw [jh,pN] at q'
  obtain ⟨d,z⟩:=Option.isSome_iff_exists.mp (PySem.W.cellsFrom_some scope.names (s3.heap.objs.size+1) [] (.inl e))
  rw [z] at q'
  cases q'
  have:=(lG (PySem.mem_of_lookup z)).2
  omega
 hd:=I.ok.hd
 frames:=I.ok.frames
 stk:=.inl rfl
 exf:=fun b hb=>⟨Nat.ne_of_lt (hlt b hb),fun x c e=>by
  rcases jj e with ⟨_,_,l⟩ | q
  ·exact Nat.ne_of_gt (Nat.lt_trans (hlt b hb) l)
  ·exact(hf b hb).2.2.2.2.1 x c (S.sub I.ok q)⟩
 bs:=I.bs
 bsz:=Nat.le_trans I.ok.bsz I.sz
 yS:=fun b o e hb=>by
  rcases (hf b hb).2.2.2.1 with z | z
  ·exact I.ok.yS b o e z
  ·exact absurd (Nat.lt_of_lt_of_le (Nat.lt_of_lt_of_le (Heap.lt_size e) I.ok.bsz) z) (Nat.lt_irrefl _)
 yR:=fun b hb hm=>by
  rcases List.mem_cons.mp (I.vX b hm) with z | z
  ·exact(hf b hb).2.1 z
  ·exact(hf b hb).2.2.1 z
 qO:=I.stack
 frf:=I.vQ
theorem GD(S:aM X scope own fr N)(I:Inv X pins σ H3 s3){fp:List Addr}(hf:∀ b∈fp,nW X pins H3 b)(hlt:∀ b∈fp,b < s3.heap.objs.size){h1:Heap}{t:Nat}{m:Str→Option Value}
  (hn:h1.Ns s3.heap.objs.size m) (hk:∀ b o,s3.heap.get? b=some o→h1.get? b=some o) (hco:CellsOk h1 (s3.heap.objs.size+1) (cellsFrom (s3.heap.objs.size+1) scope.names [])) :
  Inv (jO X scope (nY s3.heap.objs.size X.env.cells scope.names) N s3.heap.objs.size s3 H3 fp) [] (List.replicate own.length none++frv σ fr) H3 { s3 with heap:=h1,toks:=t } where
 ok:=Cj S I hf hlt
 os:=rfl
 bare:=I.bare
 base:=Un.kept hk
 loc:=by
  refine⟨m,hn,fun j x v e1 e2 e3=>?_⟩
  have e1:N[j]?=some x:=e1
  by_cases hj:j < own.length
  ·rw [List.getElem?_append_left (by simpa using hj),List.getElem?_replicate] at e2
   split at e2 <;> cases e2
  ·rw [List.getElem?_append_right (by simpa using hj),List.length_replicate] at e2
   unfold frv at e2
   rw [List.getElem?_map] at e2
   cases ef:fr[j - own.length]? with
   | none=>rw [ef] at e2; cases e2
   | some i=>
    rw [ef] at e2
    obtain ⟨x',n1,n2,n3⟩:=S.Ke _ _ ef
    rw [show own.length+(j - own.length)=j by omega,e1] at n1
    cases n1
    have e4:(σ[i]?).join=some v:=by simpa using e2
    have e5:σ[i]?=some (some v):=by
     cases q:σ[i]? with
     | none=>rw [q] at e4; cases e4
     | some z=>rw [q] at e4; have e4:z=some v:=e4; rw [e4]
    have hfree:=S.free _ (PySem.mem_of_lookup n3) rfl
    obtain ⟨mX,hnX,hl⟩:=I.loc
    have hv:Vis X.env.scope x:=by
     rcases hfree with z | z
     ·exact .inr (.inl z)
     ·exact .inr (.inr z)
    obtain ⟨u,r,l⟩:=hl i x v n2 e5 hv
    refine⟨u,r,.inr ⟨S.look I.ok n3,?_⟩⟩
    rcases l with ⟨z,_⟩ | ⟨_,c,ec,hc⟩
    ·rcases hfree with y | y
     ·rw [z] at y; cases y
     ·rw [z] at y; cases y
    ·obtain ⟨c',e'⟩:=rK (cells:=X.env.cells) (acc:=[]) (PySem.mem_of_lookup n3)
     have:=S.sub I.ok e'
     rw [ec] at this
     cases this
     exact⟨c,(vo S.nodup n3).trans e',hc.keeps hk⟩
 cell:=fun x c e=>by
  rcases jj e with ⟨mm,_,_⟩ | q
  ·exact⟨none,(hco.empty x c mm).1⟩
  ·obtain ⟨v,z⟩:=I.cell x c (S.sub I.ok q)
   exact⟨v,z.keeps hk⟩
 free:=I.hok.fresh (Nat.le_refl _)
 jZ:=fun x c e=>by
  rcases jj e with ⟨_,_,l⟩ | q
  ·exact I.hok.fresh (Nat.le_of_lt l)
  ·exact I.jZ x c (S.sub I.ok q)
 pin:=fun p hp=>by
  have hp:p∈([]:List (Addr × Obj)):=hp
  simp at hp
 hok:=I.hok.kept hk
 len:=by
  show _=N.length
  rw [S.len,List.length_append,List.length_replicate]
  unfold frv
  rw [List.length_map]
end
def sZ(own:Nat)(fr:List Nat)(g:TG)(tc:TT)(te:TE)(σ:St)(Q:VK)(J:It)(D:Addr)(H0:Hp):Prop:=∃ W:Nat→Nat→List V→Hp→Prop,(∃ m,W 0 m [] H0)∧
 ∀ i m ys H,W i m ys H→(J.stop i H∧Q (.ref D) H)∨(J.go i H∧∀ x H',J.yld i H x H'→∀ σo:St,σo.length=own→g x (σo++frv σ fr) H' fun σ2 H2=>(∃ σo':St,σo'.length=own∧σ2=σo'++frv σ fr)∧
  tc σ2 H2 fun b H3=>if b=true then te σ2 H3 fun y H4=>ys.length < sizeLine∧H4 D=some (.lst ys)∧∃ m',m' < m∧W (i+1) m' (ys++[y]) (upd H4 D (.lst (ys++[y]))) else ∃ m',m' < m∧W (i+1) m' ys H3)
def JG(own:Nat)(fr:List Nat)(wi:TI)(g:TG)(tc:TT)(te:TE):TE:=fun σ H Q=>wi σ H fun J H1=>∀ D,H1 D=none→sZ own fr g tc te σ Q J D (upd H1 D (.lst []))
structure qy (X:Cx) (scope:Scope) (N:List Str) (tg elt:Expr) (ifs:List Expr) (g:TG) (tc:TT) (te:TE):Prop where
 tg:∀(cl:List (Str × Addr)) (C:Addr) (s₃:Shared) (H₃:Hp) (fp:List Addr),PG (jO X scope cl N C s₃ H₃ fp) tg g
 ifs:∀(cl:List (Str × Addr)) (C:Addr) (s₃:Shared) (H₃:Hp) (fp:List Addr),PTs (jO X scope cl N C s₃ H₃ fp) ifs tc
 elt:∀(cl:List (Str × Addr)) (C:Addr) (s₃:Shared) (H₃:Hp) (fp:List Addr),PE (jO X scope cl N C s₃ H₃ fp) elt te
section
variable {X:Cx}{scope:Scope}{own N:List Str}{fr:List Nat}{tg elt iter:Expr}{ifs:List Expr}{g:TG}{tc:TT}{te:TE}{wi:TI}{pos:Pos}
theorem yC(hc:X.calm=true)(S:aM X scope own fr N)(CP:qy X scope N tg elt ifs g tc te){pins:List (Addr × Obj)}{σ:St}{H2:Hp}{s2:Shared}(I2:Inv X pins σ H2 s2){it:Addr}{fp:List Addr}{tn:Nat→Heap→Prop}{J:It}
  (T:Turn X.prog X.w X.K tg J fp it tn) (st2:tn 0 s2.heap) (f2:∀ b∈fp,nW X pins H2 b) {Q:VK} {E:Value→Shared→Prop} {RR:Value→Addr→Result→Shared→Prop}
  (hw:∀ D,H2 D=none→sZ own.length fr g tc te σ Q J D (upd H2 D (.lst [])))
  (hR:∀ D C s' H' m,Inv X pins σ H' s'→nW X pins H' C→s'.heap.Ns C m→Q (.ref D) H'→RR (.ref D) C (.ok .next) s') :
  wpAny (model X.prog X.w) X.A (newList []) (fun acc s₃=>wpAny (model X.prog X.w) X.A (newFunctionEnv scope X.env.globals (clo X.env.cells scope.names []) [] X.env.qual none .none (some X.env)) (fun cenv s₄=>
   codeAny (model X.prog X.w) X.A (.compStart (.ListComp elt [⟨tg,iter,ifs,0⟩] scope pos) 0 (.ref it) acc { cenv with scope:=relabel scope X.env }) (RR acc cenv.locals) s₄) E s₃) E s2:=by
 have hD:H2 s2.heap.objs.size=none:=I2.hok.fresh (Nat.le_refl _)
 have I3:Inv X pins σ (upd H2 s2.heap.objs.size (.lst [])) { s2 with heap:=s2.heap.push { cls:=.type "list",data:=.seq ([]:List Value).toArray } }:=
  I2.Ks (t':=s2.toks) (ys:=[]) (its:=[]) .nil (Nat.zero_le _)
 have hltf:∀ b∈fp,b < s2.heap.objs.size:=fun b hb=>by
  obtain ⟨o,e,_⟩:=T.obj _ _ st2 b hb
  exact Heap.lt_size e
 have f3:∀ b∈fp,nW X pins (upd H2 s2.heap.objs.size (.lst [])) b:=fun b hb=>⟨by rw [aA (Nat.ne_of_lt (hltf b hb))]; exact(f2 b hb).1,(f2 b hb).2⟩
 obtain ⟨W,⟨m0,w0⟩,turn⟩:=hw _ hD
 refine wpAny_newObj_type (yJ fun h₁ hns₁ old₁ hco₁=>?_)
 suffices main:∀ s3:Shared,s3={ s2 with heap:=s2.heap.push { cls:=.type "list",data:=.seq ([]:List Value).toArray } }→Inv X pins σ (upd H2 s2.heap.objs.size (.lst [])) s3→∀ m:Str→Option Value,h₁.Ns s3.heap.objs.size m→
   (∀ b o,s3.heap.get? b=some o→h₁.get? b=some o)→CellsOk h₁ (s3.heap.objs.size+1) (cellsFrom (s3.heap.objs.size+1) scope.names [])→codeAny (model X.prog X.w) X.A (.compStart (.ListComp elt [⟨tg,iter,ifs,0⟩] scope pos) 0 (.ref it) (.ref s2.heap.objs.size) (compEnvC scope (nY s3.heap.objs.size X.env.cells scope.names) s3.heap.objs.size X.env))
    (RR (.ref s2.heap.objs.size) s3.heap.objs.size) { s3 with heap:=h₁,toks:=s3.toks } from
  main _ rfl I3 _ hns₁ old₁ hco₁
 clear hns₁ old₁ hco₁
 intro s3 hH3 I3 m3 hns₁ old hco
 have e3:s3.heap=s2.heap.push { cls:=.type "list",data:=.seq ([]:List Value).toArray }:=by rw [hH3]
 have hs3:s2.heap.objs.size < s3.heap.objs.size:=by rw [e3,Heap.size_push]; exact Nat.lt_succ_self _
 have hlt3:∀ b∈fp,b < s3.heap.objs.size:=fun b hb=>Nat.lt_trans (hltf b hb) hs3
 have I4:=GD S I3 f3 hlt3 (t:=s3.toks) hns₁ old hco
 have ok':=Cj S I3 f3 hlt3
 have st4:tn 0 h₁:=T.keep 0 s2.heap h₁ st2 fun b hb o e=>old b o (by rw [e3]; exact Heap.get?_push_of_some _ e)
 have stat:∀ {H':Hp},(∀ b∈fp,H' b=none)→∀ b∈fp,nW (jO X scope (nY s3.heap.objs.size X.env.cells scope.names) N s3.heap.objs.size s3 (upd H2 s2.heap.objs.size (.lst [])) fp) [] H' b:=fun {H'} hn b hb=>
  ⟨hn b hb,Nat.ne_of_lt (hlt3 b hb),ok'.yR b hb,.inl hb,(ok'.exf b hb).2,fun p hp=>by
   have hp:p∈([]:List (Addr × Obj)):=hp
   simp at hp⟩
 have loop:∀ s₄:Shared,s₄={ s3 with heap:=h₁,toks:=s3.toks }→
   codeAny (model X.prog X.w) X.A (.compLoop (.ListComp elt [⟨tg,iter,ifs,0⟩] scope pos) 0 (.ref it) (.ref s2.heap.objs.size) (compEnvC scope (nY s3.heap.objs.size X.env.cells scope.names) s3.heap.objs.size X.env))
    (RR (.ref s2.heap.objs.size) s3.heap.objs.size) s₄:=by
  rintro s₄ rfl
  refine wA (fun n s'=>∃ i ys σo H',σo.length=own.length∧Inv (jO X scope (nY s3.heap.objs.size X.env.cells scope.names) N s3.heap.objs.size s3 (upd H2 s2.heap.objs.size (.lst [])) fp) [] (σo++frv σ fr) H' s'∧
   tn i s'.heap∧(∀ b∈fp,H' b=none)∧W i n ys H') ?_ m0 ⟨0,[],List.replicate own.length none,_,List.length_replicate,I4,st4,fun b hb=>(f3 b hb).1,w0⟩
  rintro n s5 ⟨i,ys,σo,H5,hσ,I5,st5,fr5,w5⟩
  rcases turn i n ys H5 w5 with ⟨stop,qn⟩ | ⟨go,step⟩
  ·refine thn (T.done (jO X scope (nY s3.heap.objs.size X.env.cells scope.names) N s3.heap.objs.size s3 (upd H2 s2.heap.objs.size (.lst [])) fp) rfl rfl rfl hc i [] s5 (σo++frv σ fr) H5 _ I5 (stat fr5) st5 stop) fun r s6 ⟨hr,I6⟩=>?_
   subst hr
   obtain ⟨m,hn6,_⟩:=I6.loc
   refine hR _ _ s6 H5 m (I3.call' (ch:=fp) I6.os I6.base I6.hok I6.bare fun b hb=>⟨(f3 b hb).2.2.2.1,(f3 b hb).2.1,(f3 b hb).2.2.2.2.1,(f3 b hb).2.2.2.2.2⟩) (I3.mY (Nat.le_refl _) I6.free) hn6 qn
  ·refine thn (T.item (jO X scope (nY s3.heap.objs.size X.env.cells scope.names) N s3.heap.objs.size s3 (upd H2 s2.heap.objs.size (.lst [])) fp) rfl rfl rfl hc i [] s5 (σo++frv σ fr) H5 _ I5 (stat fr5) st5 go) fun r s6 ⟨u,hr,h6⟩=>?_
   subst hr
   refine thn h6 fun _ s7 ⟨x,H7,I7,r7,y7,st7,fr7⟩=>?_
   have I7':=I7.pinned (stat fr7) (T.obj _ _ st7)
   have again:∀ {σ8:St} {H8:Hp} {s8:Shared} {zs:List V},Inv (jO X scope (nY s3.heap.objs.size X.env.cells scope.names) N s3.heap.objs.size s3 (upd H2 s2.heap.objs.size (.lst [])) fp) ([]++tY fp s7.heap) (σ8++frv σ fr) H8 s8→σ8.length=own.length→
     (∃ m',m' < n∧W (i+1) m' zs H8)→∃ m,m < n∧∃ i ys σo H',σo.length=own.length∧Inv (jO X scope (nY s3.heap.objs.size X.env.cells scope.names) N s3.heap.objs.size s3 (upd H2 s2.heap.objs.size (.lst [])) fp) [] (σo++frv σ fr) H' s8∧
      tn i s8.heap∧(∀ b∈fp,H' b=none)∧W i m ys H':=fun {σ8 H8 s8 zs} I8 h8 ⟨m',hm,w8⟩=>by
    refine⟨m',hm,i+1,zs,σ8,H8,h8,I8.pX,T.keep _ _ _ st7 fun b hb o e=>(I8.pin (b,o) (List.mem_append_right _ (List.mem_append_right _ (lV hb e)))).1,fun b hb=>?_,w8⟩
    obtain ⟨o,e,d⟩:=T.obj _ _ st7 b hb
    exact(I8.pin (b,o) (List.mem_append_right _ (List.mem_append_right _ (lV hb e)))).2.1
   refine thn (CP.tg _ _ _ _ _ _ s7 _ H7 x u _ I7' r7 (step x H7 y7 σo hσ)) fun _ s8 ⟨σ8,H8,I8,⟨σo',hσ',eσ⟩,q8⟩=>?_
   subst eσ
   refine thn (CP.ifs _ _ _ _ _ _ s8 _ H8 _ I8 q8) fun b s9 ⟨H9,I9,q9⟩=>?_
   cases b with
   | false=>
    rw [if_neg Bool.false_ne_true] at q9 ⊢
    exact again I9 hσ' q9
   | true=>
    rw [if_pos rfl] at q9 ⊢
    refine thn (CP.elt _ _ _ _ _ _ s9 _ H9 _ I9 q9) fun z s10 ⟨y,H10,I10,r10,hz,hD10,q10⟩=>?_
    exact thn (gF _ s10 _ H10 (.ref s2.heap.objs.size) [y] (.ref s2.heap.objs.size) [z] (fun _ H=>∃ m',m' < n∧W (i+1) m' (ys++[y]) H) I10 rfl (.cons r10 .nil) ⟨_,ys,y,rfl,rfl,hD10,hz,q10⟩)
     fun _ s11 ⟨_,H11,I11,_,q11⟩=>again I11 hσ' q11
 exact codeAny_compStart_list (loop _ rfl) (T.self _ 0 _ _ _ st4 (loop _ rfl))
theorem bH(hc:X.calm=true)(S:aM X scope own fr N)(CP:qy X scope N tg elt ifs g tc te)(hi:PI X tg iter wi)(hs:∀ x,foldedSetIterable iter X.env x=pure x:=by intro _; rfl) :
  PE X (.ListComp elt [⟨tg,iter,ifs,0⟩] scope pos) (JG own.length fr wi g tc te):=by
 intro pins s σ H Q I h
 rw [eval_ListComp]
 refine wpAny_comprehension_free (use:=none) (g:=⟨tg,iter,ifs,0⟩) (gs:=[]) rfl hs (sY (S.clo I.ok)) S.kind S.names (thn (hi pins s σ H _ I h) fun v s1 h1=>thn h1 fun itv s2 h2=>?_)
 obtain ⟨it,fp,tn,J,H2,e,I2,T,st2,f2,hw⟩:=h2
 subst e
 exact yC (RR:=fun acc C=>compPost (model X.prog X.w) X.A X.xe none (EP X pins σ Q) acc C) hc S CP I2 T st2 f2 hw fun D C s' H' m I' fC hn q=>
  ⟨m,hn,fun h' hb=>⟨.ref D,H',I'.turned (t':=s'.toks) (fun b o hne e=>hb.extBut b o hne e) fC.1 fC.2.1 fC.2.2.2.1 fC.2.2.2.2.1 fC.2.2.2.2.2,rfl,q⟩⟩
theorem mj{i:Nat}{x:Str}{posc pos':Pos}(hc:X.calm=true)(hN:X.N.Nodup)(hi':X.N[i]?=some x)(hx:Loc X.env.scope x)(S:aM X scope own fr N)(CP:qy X scope N tg elt ifs g tc te)(hi:PI X tg iter wi)
  (hsw:swapsWith (.ListComp elt [⟨tg,iter,ifs,0⟩] scope posc) (some (.Name x pos')) pos.line X.env=pure true:=by rfl)
  (hf:X.fn x=true∨X.env.scope.names.lookup x=some .local:=by first | exact .inl rfl | exact .inr rfl | assumption) (hs:∀ x,foldedSetIterable iter X.env x=pure x:=by intro _; rfl) :
  PS X (.Assign [.Name x pos'] (.ListComp elt [⟨tg,iter,ifs,0⟩] scope posc) pos) (K9 (JG own.length fr wi g tc te) (Cu i)):=by
 intro pins s σ H D I h
 rw [exec_Assign_Name_used _ _ _ _ hsw]
 refine wpAny_bind (wpAny_standAt (wpAny_bind ?_))
 show wpAny _ X.A (do let _ ← comprehension (.ListComp elt [⟨tg,iter,ifs,0⟩] scope posc) scope X.env _ (newList []) false (eval iter X.env) (some (assign (.Name x pos') X.env))) _ _ s
 refine wpAny_bind (wpAny_mono (wpAny_comprehension_free (use:=some (assign (.Name x pos') X.env)) (g:=⟨tg,iter,ifs,0⟩) (gs:=[]) (Q:=fun _ s'=>SP X pins D .next s') rfl hs (sY (S.clo I.ok)) S.kind S.names
  (thn (hi pins s σ H _ I h) fun v s1 h1=>thn h1 fun itv s2 h2=>?_)) (fun _ _ q=>wpAny_pure (wpAny_pure q)) fun _ _ e=>e)
 obtain ⟨it,fp,tn,J,H2,e,I2,T,st2,f2,hw⟩:=h2
 subst e
 refine yC (Q:=fun x H1=>Cu i x σ H1 D.nx) (RR:=fun acc C=>compPost (model X.prog X.w) X.A X.xe (some (assign (.Name x pos') X.env)) (fun _ s'=>SP X pins D .next s') acc C) hc S CP I2 T st2 f2 hw fun Dd C s' H' m I' fC hn q=>?_
 refine wpAny_assign_Name (vp I' hN hi' hx (show RelV (.ref Dd) (.ref Dd) from rfl) (fun s'' I'' ⟨a,hsb,ha⟩=>?_) hf)
 have hCa:C≠a:=by
  rcases ha with z | z
  ·rw [z]; exact fC.2.1
  ·exact fun e=>fC.2.2.2.2.1 x a z e.symm
 refine⟨m,hn.sameBut hsb hCa,fun h' hb=>?_⟩
 exact⟨_,H',I''.turned (t':=s''.toks) (fun b o hne e=>hb.extBut b o hne e) fC.1 fC.2.1 fC.2.2.2.1 fC.2.2.2.2.1 fC.2.2.2.2.2,q⟩
end
end L2
end
section
set_option autoImplicit false
namespace L2
open PySem PySem.Spec PyProof.Rows
inductive T where
 | non | int (i:Int) | str (x:Str) | tup (ts:List T)
mutual
def Dp(H:Hp):T→V→Prop
 | .non,v=>v=V.non
 | .int i,v=>v=V.int i
 | .str x,v=>v=V.str x
 | .tup ts,v=>∃ a xs,v=V.ref a∧H a=some (.tup xs)∧DpL H ts xs
def DpL(H:Hp):List T→List V→Prop
 | [],xs=>xs=[]
 | t::ts,xs=>∃ x r,xs=x::r∧Dp H t x∧DpL H ts r
end
def gn(H H':Hp):Prop:=∀ a xs,H a=some (.tup xs)→H' a=some (.tup xs)
theorem gn.refl(H:Hp):gn H H:=fun _ _ h=>h
theorem gn.trans{H H1 H2:Hp}(a:gn H H1)(b:gn H1 H2):gn H H2:=fun c o h=>b c o (a c o h)
theorem Same.tups{H H':Hp}(h:Same H H'):gn H H':=fun a xs e=>h a _ e
mutual
theorem Dp.mono{H H':Hp}(h:gn H H'):∀ {t:T} {v:V},Dp H t v→Dp H' t v
 | .non,_,e=>by rw [Dp] at e ⊢; exact e
 | .int _,_,e=>by rw [Dp] at e ⊢; exact e
 | .str _,_,e=>by rw [Dp] at e ⊢; exact e
 | .tup ts,v,e=>by
  rw [Dp] at e ⊢
  obtain ⟨a,xs,e,ha,hl⟩:=e
  exact⟨a,xs,e,h a xs ha,DpL.mono h hl⟩
theorem DpL.mono{H H':Hp}(h:gn H H'):∀ {ts:List T} {xs:List V},DpL H ts xs→DpL H' ts xs
 | [],_,e=>by rw [DpL] at e ⊢; exact e
 | t::ts,xs,e=>by
  rw [DpL] at e ⊢
  obtain ⟨x,r,e,h1,h2⟩:=e
  exact⟨x,r,e,Dp.mono h h1,DpL.mono h h2⟩
end
theorem DpL.nil{H:Hp}:DpL H [] []:=by rw [DpL]
theorem DpL.cons{H:Hp}{t:T}{ts:List T}{x:V}{xs:List V}(h:Dp H t x)(r:DpL H ts xs):DpL H (t::ts) (x::xs):=by
 rw [DpL]
 exact⟨x,xs,rfl,h,r⟩
theorem DpL.cases{H:Hp}{t:T}{ts:List T}{xs:List V}(h:DpL H (t::ts) xs):∃ x r,xs=x::r∧Dp H t x∧DpL H ts r:=by
 rw [DpL] at h
 exact h
theorem DpL.jV{H:Hp}{xs:List V}(h:DpL H [] xs):xs=[]:=by
 rw [DpL] at h
 exact h
theorem Dp.int{H:Hp}(i:Int):Dp H (.int i) (.int i):=by rw [Dp]
theorem Dp.str{H:Hp}(x:Str):Dp H (.str x) (.str x):=by rw [Dp]
theorem Dp.KN{H:Hp}{i:Int}{v:V}(h:Dp H (.int i) v):v=.int i:=by
 rw [Dp] at h
 exact h
theorem Dp.jA{H:Hp}{x:Str}{v:V}(h:Dp H (.str x) v):v=.str x:=by
 rw [Dp] at h
 exact h
theorem Dp.cA{H:Hp}{ts:List T}{v:V}(h:Dp H (.tup ts) v):∃ a xs,v=V.ref a∧H a=some (.tup xs)∧DpL H ts xs:=by
 rw [Dp] at h
 exact h
theorem Dp.tup{H:Hp}{ts:List T}{a:Addr}{xs:List V}(h:H a=some (.tup xs))(r:DpL H ts xs):Dp H (.tup ts) (.ref a):=by
 rw [Dp]
 exact⟨a,xs,rfl,h,r⟩
theorem DpL.length{H:Hp}:∀ {ts:List T} {xs:List V},DpL H ts xs→xs.length=ts.length
 | [],xs,h=>by rw [h.jV]; rfl
 | t::ts,xs,h=>by
  obtain ⟨x,r,rfl,_,h2⟩:=h.cases
  rw [List.length_cons,List.length_cons,h2.length]
theorem DpL.get{H:Hp}:∀ {ts:List T} {xs:List V} {i:Nat} {t:T},DpL H ts xs→ts[i]?=some t→∃ x,xs[i]?=some x∧Dp H t x
 | [],_,_,_,_,e=>by simp at e
 | t::ts,xs,0,t',h,e=>by
  obtain ⟨x,r,rfl,h1,_⟩:=h.cases
  simp at e
  subst e
  exact⟨x,rfl,h1⟩
 | t::ts,xs,i+1,t',h,e=>by
  obtain ⟨x,r,rfl,_,h2⟩:=h.cases
  obtain ⟨y,e1,e2⟩:=h2.get (i:=i) (t:=t') (by simpa using e)
  exact⟨y,by simpa using e1,e2⟩
theorem DpL.append{H:Hp}:∀ {ts us:List T} {xs ys:List V},DpL H ts xs→DpL H us ys→DpL H (ts++us) (xs++ys)
 | [],_,xs,_,h,g=>by rw [h.jV]; exact g
 | t::ts,us,xs,ys,h,g=>by
  obtain ⟨x,r,rfl,h1,h2⟩:=h.cases
  exact .cons h1 (h2.append g)
theorem DpL.strs{H:Hp}:∀(ns:List Str),DpL H (ns.map T.str) (ns.map V.str)
 | []=>.nil
 | n::ns=>.cons (Dp.str n) (DpL.strs ns)
theorem DpL.jq{H:Hp}:∀ {ns:List Str} {xs:List V},DpL H (ns.map T.str) xs→xs=ns.map V.str
 | [],_,h=>h.jV
 | n::ns,xs,h=>by
  obtain ⟨x,r,rfl,h1,h2⟩:=DpL.cases (t:=T.str n) (ts:=ns.map T.str) h
  rw [h1.jA,DpL.jq h2]
  rfl
mutual
theorem Dp.fn{H:Hp}:∀ {t t':T} {v:V},Dp H t v→Dp H t' v→t=t'
 | .non,t',v,h,g=>by
  rw [Dp] at h
  subst h
  cases t' <;> rw [Dp] at g
  all_goals first | rfl | (cases g; done) | (obtain ⟨_,_,e,_⟩:=g; cases e)
 | .int i,t',v,h,g=>by
  rw [Dp] at h
  subst h
  cases t' <;> rw [Dp] at g
  all_goals first | (cases g; rfl) | (cases g; done) | (obtain ⟨_,_,e,_⟩:=g; cases e)
 | .str i,t',v,h,g=>by
  rw [Dp] at h
  subst h
  cases t' <;> rw [Dp] at g
  all_goals first | (cases g; rfl) | (cases g; done) | (obtain ⟨_,_,e,_⟩:=g; cases e)
 | .tup ts,t',v,h,g=>by
  obtain ⟨a,xs,rfl,ha,hl⟩:=h.cA
  cases t' with
  | tup us=>
   obtain ⟨b,ys,e,hb,gl⟩:=g.cA
   cases e
   rw [ha] at hb
   cases hb
   rw [DpL.fn hl gl]
  | _=>rw [Dp] at g; cases g
theorem DpL.fn{H:Hp}:∀ {ts us:List T} {xs:List V},DpL H ts xs→DpL H us xs→ts=us
 | [],us,xs,h,g=>by
  have e:=h.jV
  subst e
  cases us with
  | nil=>rfl
  | cons u us=>
   obtain ⟨_,_,e,_⟩:=g.cases
   cases e
 | t::ts,us,xs,h,g=>by
  obtain ⟨x,r,rfl,h1,h2⟩:=h.cases
  cases us with
  | nil=>
   have e:=g.jV
   cases e
  | cons u us=>
   obtain ⟨_,_,e,g1,g2⟩:=g.cases
   cases e
   rw [Dp.fn h1 g1,DpL.fn h2 g2]
end
def Lv:Nat→T→Prop
 | _,.non=>True
 | _,.int _=>True
 | _,.str _=>True
 | 0,.tup _=>False
 | n+1,.tup ts=>∀ t∈ts,Lv n t
noncomputable def dcd (p:Prop):Bool:=@decide p (Classical.propDecidable p)
theorem iR{p:Prop}(h:p):dcd p=true:=@decide_eq_true p (Classical.propDecidable p) h
theorem cR{p:Prop}(h:¬ p):dcd p=false:=@decide_eq_false p (Classical.propDecidable p) h
theorem pK{p:Prop}:dcd p=true↔p:=⟨fun h=>@of_decide_eq_true p (Classical.propDecidable p) h,iR⟩
theorem qG{p q:Prop}(h:p↔q):dcd p=dcd q:=by rw [propext h]
theorem oY{p:Prop}{b:Bool}(h:b=true↔p):b=dcd p:=by
 by_cases hp:p
 ·rw [iR hp]
  exact h.mpr hp
 ·rw [cR hp]
  cases b with
  | false=>rfl
  | true=>exact absurd (h.mp rfl) hp
section
variable {X:Cx}{pins:List (Addr × Obj)}{σ:St}{H:Hp}{s:Shared}
theorem mz(I:Inv X pins σ H s){a:Addr}{xs:List V}(h:H a=some (.tup xs)):∃ its:List Value,Vals xs its∧s.heap.IsTuple a its.toArray:=by
 obtain ⟨its,r,p,_⟩:=I.tuple (SqT.of h)
 exact⟨its,r,p⟩
theorem GX(I:Inv X pins σ H s):∀(n:Nat) (A:Around) (t1 t2:T) (v1 v2:V) (u1 u2:Value),Lv n t1→A.units+n < cLine→Dp H t1 v1→Dp H t2 v2→RelV v1 u1→RelV v2 u2→SeqAt.EqAt A s u1 u2 (dcd (t1=t2)):=by
 have flat:∀(A:Around) (t1 t2:T) (v1 v2:V) (u1 u2:Value),mH v1=true→mH v2=true→Dp H t1 v1→Dp H t2 v2→RelV v1 u1→RelV v2 u2→eqV v1 v2=dcd (t1=t2)→SeqAt.EqAt A s u1 u2 (dcd (t1=t2)):=
  fun A t1 t2 v1 v2 u1 u2 f1 f2 _ _ r1 r2 e=>by
   rw [← e]
   exact Gk r1 r2 f1 f2
 intro n
 induction n with
 | zero=>
  intro A t1 t2 v1 v2 u1 u2 hn hu d1 d2 r1 r2
  have hu0:A.units < cLine:=by omega
  cases t1 with
  | tup ts=>exact(show False from hn).elim
  | non=>
   rw [Dp] at d1
   subst d1
   cases t2 with
   | tup us=>
    obtain ⟨b,ys,rfl,hb,_⟩:=d2.cA
    obtain ⟨its,r,p⟩:=mz I hb
    cases r1
    cases r2
    rw [cR (by intro h; cases h)]
    exact SeqAt.EqAt.none_tuple p hu0
   | non=>rw [Dp] at d2; subst d2; exact flat A _ _ _ _ _ _ rfl rfl (by rw [Dp]) (by rw [Dp]) r1 r2 (iR rfl).symm
   | int j=>rw [Dp] at d2; subst d2; exact flat A _ _ _ _ _ _ rfl rfl (by rw [Dp]) (by rw [Dp]) r1 r2 (cR (by intro h; cases h)).symm
   | str j=>rw [Dp] at d2; subst d2; exact flat A _ _ _ _ _ _ rfl rfl (by rw [Dp]) (by rw [Dp]) r1 r2 (cR (by intro h; cases h)).symm
  | int i=>
   rw [Dp] at d1
   subst d1
   cases t2 with
   | tup us=>
    obtain ⟨b,ys,rfl,hb,_⟩:=d2.cA
    obtain ⟨its,r,p⟩:=mz I hb
    obtain ⟨t,rfl⟩:=r1
    cases r2
    rw [cR (by intro h; cases h)]
    exact SeqAt.EqAt.int_tuple i t p hu0
   | non=>rw [Dp] at d2; subst d2; exact flat A _ _ _ _ _ _ rfl rfl (by rw [Dp]) (by rw [Dp]) r1 r2 (cR (by intro h; cases h)).symm
   | int j=>
    rw [Dp] at d2
    subst d2
    exact flat A _ _ _ _ _ _ rfl rfl (by rw [Dp]) (by rw [Dp]) r1 r2 (oY (by show (i == j)=true↔_; rw [beq_iff_eq]; exact⟨fun h=>by rw [h],fun h=>by cases h; rfl⟩))
   | str j=>rw [Dp] at d2; subst d2; exact flat A _ _ _ _ _ _ rfl rfl (by rw [Dp]) (by rw [Dp]) r1 r2 (cR (by intro h; cases h)).symm
  | str i=>
   rw [Dp] at d1
   subst d1
   cases t2 with
   | tup us=>
    obtain ⟨b,ys,rfl,hb,_⟩:=d2.cA
    obtain ⟨its,r,p⟩:=mz I hb
    obtain ⟨t,rfl⟩:=r1
    cases r2
    rw [cR (by intro h; cases h)]
    exact SeqAt.EqAt.str_tuple i t p hu0
   | non=>rw [Dp] at d2; subst d2; exact flat A _ _ _ _ _ _ rfl rfl (by rw [Dp]) (by rw [Dp]) r1 r2 (cR (by intro h; cases h)).symm
   | int j=>rw [Dp] at d2; subst d2; exact flat A _ _ _ _ _ _ rfl rfl (by rw [Dp]) (by rw [Dp]) r1 r2 (cR (by intro h; cases h)).symm
   | str j=>
    rw [Dp] at d2
    subst d2
    exact flat A _ _ _ _ _ _ rfl rfl (by rw [Dp]) (by rw [Dp]) r1 r2 (oY (by show (i == j)=true↔_; rw [beq_iff_eq]; exact⟨fun h=>by rw [h],fun h=>by cases h; rfl⟩))
 | succ n ih=>
  intro A t1 t2 v1 v2 u1 u2 hn hu d1 d2 r1 r2
  cases t1 with
  | non=>exact(ih A .non t2 v1 v2 u1 u2 (by cases n <;> trivial) (by omega) d1 d2 r1 r2)
  | int i=>exact(ih A (.int i) t2 v1 v2 u1 u2 (by cases n <;> trivial) (by omega) d1 d2 r1 r2)
  | str i=>exact(ih A (.str i) t2 v1 v2 u1 u2 (by cases n <;> trivial) (by omega) d1 d2 r1 r2)
  | tup ts=>
   have hn:∀ t∈ts,Lv n t:=hn
   have hu0:A.units < cLine:=by omega
   obtain ⟨a,xs,rfl,ha,hl⟩:=d1.cA
   obtain ⟨its,r,p⟩:=mz I ha
   cases r1
   cases t2 with
   | non=>
    rw [Dp] at d2
    subst d2
    cases r2
    rw [cR (by intro h; cases h)]
    exact SeqAt.EqAt.tuple_none p hu0
   | int j=>
    rw [Dp] at d2
    subst d2
    obtain ⟨t,rfl⟩:=r2
    rw [cR (by intro h; cases h)]
    exact SeqAt.EqAt.tuple_int j t p hu0
   | str j=>
    rw [Dp] at d2
    subst d2
    obtain ⟨t,rfl⟩:=r2
    rw [cR (by intro h; cases h)]
    exact SeqAt.EqAt.tuple_str j t p hu0
   | tup us=>
    obtain ⟨b,ys,rfl,hb,gl⟩:=d2.cA
    obtain ⟨its2,q,p2⟩:=mz I hb
    cases r2
    by_cases hab:a=b
    ·subst hab
     rw [ha] at hb
     cases hb
     rw [iR (by rw [DpL.fn hl gl])]
     exact SeqAt.EqAt.same _
    ·have l1:its.toArray.size=ts.length:=by rw [List.size_toArray,← r.length,hl.length]
     have l2:its2.toArray.size=us.length:=by rw [List.size_toArray,← q.length,gl.length]
     have key:=SeqAt.RcAt.tuples (A:=A) (s:=s) (e:=fun j=>dcd (ts[j]?=us[j]?)) p p2 hu0 (fun j h1 h2=>by
      have j1:j < ts.length:=by omega
      have j2:j < us.length:=by omega
      have e1:ts[j]?=some ts[j]:=List.getElem?_eq_getElem j1
      have e2:us[j]?=some us[j]:=List.getElem?_eq_getElem j2
      obtain ⟨x1,f1,g1⟩:=hl.get e1
      obtain ⟨x2,f2,g2⟩:=gl.get e2
      obtain ⟨w1,k1,m1⟩:=r.get f1
      obtain ⟨w2,k2,m2⟩:=q.get f2
      have n1:its.toArray[j]=w1:=by
       have:its.toArray[j]?=some w1:=by simpa using k1
       rw [Array.getElem?_eq_getElem h1] at this
       exact Option.some.inj this
      have n2:its2.toArray[j]=w2:=by
       have:its2.toArray[j]?=some w2:=by simpa using k2
       rw [Array.getElem?_eq_getElem h2] at this
       exact Option.some.inj this
      rw [n1,n2]
      have:=ih A.in1 ts[j] us[j] x1 x2 w1 w2 (hn _ (List.getElem_mem j1)) (by show A.units+1+n < cLine; omega) g1 g2 m1 m2
      rw [show dcd (ts[j]?=us[j]?)=dcd (ts[j]=us[j]) from qG (by rw [e1,e2]; exact⟨fun h=>Option.some.inj h,fun h=>by rw [h]⟩)]
      exact this)
     have fin:=SeqAt.EqAt.of_refs hab key
     have ee:((List.range (min its.toArray.size its2.toArray.size)).all (fun j=>dcd (ts[j]?=us[j]?)) && its.toArray.size == its2.toArray.size)=dcd (T.tup ts=T.tup us):=by
      refine oY ?_
      rw [l1,l2,Bool.and_eq_true,List.all_eq_true,beq_iff_eq]
      constructor
      ·rintro ⟨h1,h2⟩
       have:ts=us:=by
        apply List.ext_getElem?
        intro j
        by_cases hj:j < ts.length
        ·exact pK.mp (h1 j (List.mem_range.mpr (by omega)))
        ·rw [List.getElem?_eq_none (by omega),List.getElem?_eq_none (by omega)]
       rw [this]
      ·intro h
       cases h
       exact⟨fun j _=>iR rfl,rfl⟩
     rw [ee] at fin
     exact fin
noncomputable def isT (H:Hp) (t:T) (u:Value):Bool:=dcd (∃ v,RelV v u∧Dp H t v)
theorem G5{t t':T}{v:V}{u:Value}(r:RelV v u)(d:Dp H t' v):isT H t u=dcd (t'=t):=by
 refine qG ⟨?_,?_⟩
 ·rintro ⟨v',r',d'⟩
  rw [r'.inj r] at d'
  exact(d'.fn d).symm
 ·intro h
  subst h
  exact⟨v,r,d⟩
theorem Cp:∀ {ts:List T} {xs:List V} {us:List Value},DpL H ts xs→Vals xs us→∀ u∈us,∃ t∈ts,∃ v,RelV v u∧Dp H t v
 | [],xs,us,h,r=>by
  have e:=h.jV
  subst e
  cases r
  exact fun u hu=>by cases hu
 | t::ts,xs,us,h,r=>by
  obtain ⟨x,xr,rfl,h1,h2⟩:=h.cases
  cases r with
  | cons r1 r2=>
   intro u hu
   rcases List.mem_cons.mp hu with e | e
   ·rw [e]
    exact⟨t,List.mem_cons_self,x,r1,h1⟩
   ·obtain ⟨t',m,z⟩:=Cp h2 r2 u e
    exact⟨t',List.mem_cons_of_mem _ m,z⟩
end
section
variable {X:Cx}
end
end L2
end
section
set_option autoImplicit false
namespace L2
open PySem PySem.Spec PyProof.Rows
section
variable {X:Cx}
def Nt:V→Option Int→Option Int→Hp→VK→Prop:=fun x lo hi H Q=>∃ z,x=.str z∧z.length≤sizeLine∧Q (.str (Txt.slice z lo hi)) H
theorem lW:SlR X Nt:=by
 intro pins s σ H x v vl vu lo hi sl Q I rx hs pl pu h
 obtain ⟨z,rfl,hz,q⟩:=h
 obtain ⟨t,rfl⟩:=rx
 obtain ⟨o,ho,hc,hd⟩:=hs
 have fin:∀ (t':Tok) (k:Nat),EP X pins σ Q (.str (Txt.slice z lo hi) t') { s with toks:=k }:=fun t' k=>⟨.str _,H,I.tok k,⟨_,rfl⟩,q⟩
 refine⟨"str",_,F.slot_str_getitem.lookup,typeIs_str _ _ _,?_⟩
 cases pl with
 | none=>
  cases pu with
  | none=>exact wpAny_getItem_str_slice (l:=none) (u:=none) (st:=none) ⟨o,ho,hc,hd⟩ rfl (post_val_or_str ⟨Nat.le_trans (Txt.slice_le z _ _) hz,fin⟩)
  | int j uj=>exact wpAny_getItem_str_slice (l:=none) (u:=some (j,uj)) (st:=none) ⟨o,ho,hc,hd⟩ rfl (post_val_or_str ⟨Nat.le_trans (Txt.slice_le z _ _) hz,fin⟩)
 | int i ui=>
  cases pu with
  | none=>exact wpAny_getItem_str_slice (l:=some (i,ui)) (u:=none) (st:=none) ⟨o,ho,hc,hd⟩ rfl (post_val_or_str ⟨Nat.le_trans (Txt.slice_le z _ _) hz,fin⟩)
  | int j uj=>exact wpAny_getItem_str_slice (l:=some (i,ui)) (u:=some (j,uj)) (st:=none) ⟨o,ho,hc,hd⟩ rfl (post_val_or_str ⟨Nat.le_trans (Txt.slice_le z _ _) hz,fin⟩)
def Ny(K:PySem.W.Frag)(te tk:TE):TE:=fun σ H Q=>te σ H fun x H1=>tk σ H1 fun y H2=>∃ a xs i,x=.ref a∧y=.int i∧SqL K H2 a xs∧
 ((i=1∧∀ p,H2 p=none→Q (.ref p) (upd H2 p (.lst xs)))∨(i=-1∧∀ p,H2 p=none→Q (.ref p) (upd H2 p (.lst xs.reverse))))
theorem Ht(its:List Value):slicePick its.toArray none none (some 1)=its.toArray:=by
 have e:slicePick its.toArray none none (some 1)=slicePick its.toArray none none none:=rfl
 rw [e,oM]
 simp [HT.sIx]
theorem zj{e k:Expr}{te tk:TE}{pos p2:Pos}(he:PE X e te)(hk:PE X k tk):PE X (.Subscript e (.Slice none none (some k) p2) pos) (Ny X.K te tk):=by
 intro pins s σ H Q I h
 refine Subscript_ (thn (he pins s σ H _ I h) fun v s1 ⟨x,H1,I1,r1,q1⟩=>?_)
 refine wpAny_Slice ?_
 rw [evalPart_none]
 refine wpAny_pure ?_
 refine wpAny_pure ?_
 rw [evalPart_some]
 refine thn (hk pins s1 σ H1 _ I1 q1) fun vk s3 ⟨y,H3,I3,r3,q3⟩=>?_
 obtain ⟨a,xs,i,rfl,rfl,hq,q⟩:=q3
 cases r1
 obtain ⟨t,rfl⟩:=r3
 have I4:Inv X pins σ H3 { s3 with heap:=s3.heap.push { cls:=.type "slice",data:=.fields #[.none,.none,.int i t] } }:=I3.kept (t':=s3.toks) fun b ob q=>Heap.get?_push_of_some _ q
 obtain ⟨its,r,ht,hz⟩:=I4.list hq
 have hlen:its.toArray.size=xs.length:=by rw [List.size_toArray]; exact r.length.symm
 show wpAny (model X.prog X.w) X.A (subscriptTail e (.Slice none none (some k) p2) (.ref a) (.ref s3.heap.objs.size)) (EP X pins σ Q) X.xe { s3 with heap:=s3.heap.push { cls:=.type "slice",data:=.fields #[.none,.none,.int i t] } }
 have fin:∀ ys:List V,ys.length≤sizeLine→∀ jts:List Value,Vals ys jts→(∀ p,H3 p=none→Q (.ref p) (upd H3 p (.lst ys)))→
   EP X pins σ Q (.ref (s3.heap.push { cls:=.type "slice",data:=.fields #[.none,.none,.int i t] }).objs.size)
    { s3 with heap:=(s3.heap.push { cls:=.type "slice",data:=.fields #[.none,.none,.int i t] }).push { cls:=.type "list",data:=.seq jts.toArray } }:=fun ys hy jts rj hQ=>
  ⟨.ref _,_,I4.Ks (t':=s3.toks) rj hy,rfl,hQ _ I4.fresh⟩
 rcases q with ⟨rfl,q⟩ | ⟨rfl,q⟩
 ·refine tail_any (ops:=[.ref a,.ref s3.heap.objs.size]) ht.isList.typeIs slot_list_getitem.lookup (wpAny_getItem_list_slice ht.isList (Heap.IsSliceOf.new ..) .none .none (.int 1 t) (by decide) ?_ (by rw [hlen]; exact hz)) (by with_unfolding_all rfl)
  rw [Ht]
  exact fin xs hz its r q
 ·refine tail_any (ops:=[.ref a,.ref s3.heap.objs.size]) ht.isList.typeIs slot_list_getitem.lookup (wpAny_getItem_list_slice ht.isList (Heap.IsSliceOf.new ..) .none .none (.int (-1) t) (by decide) ?_ (by rw [hlen]; exact hz)) (by with_unfolding_all rfl)
  rw [PySem.W.krv_pick,List.toList_toArray]
  exact fin xs.reverse (by rw [List.length_reverse]; exact hz) its.reverse r.reverse q
end
end L2
end
section
set_option autoImplicit false
namespace L2
open PySem PySem.Spec PyProof.Rows
open AutoSeq1 (wpAny_loadPart') in
open MeetsSeq MeetsSeq2 MeetsSeq3 SeqRoads2 SeqAt in
theorem Fw(l:Addr)(items:Array Value)(n:Nat)(dd:Option Addr)(sl:Array (Option Value))(x:Value)(e:Value→Bool)(j:Nat)(hj:j < items.size)(hit:e items[j]=true)(hno:∀ m (hm:m < items.size),m < j→e items[m]=false) :
  Meets (Builtin.«tuple.index» ⟨[.ref l,x],[]⟩) (fun A R s=>s.heap.get? l=some { cls:=.type "tuple",dict:=dd,data:=.seq items n,slots:=sl }∧(∀ y,y∈items→EqAt A.in1 s y x (e y))∧R (.ok (.ret (.int j s.toks))) { s with toks:=s.toks+1 }):=
 .of_wp fun prog w A R s h=>by
  obtain ⟨hp,g,d,tk,os⟩:=s
  obtain ⟨hl,he,h⟩:=h
  unfold Builtin.«tuple.index»
  simp only [Std.Legacy.Range.forIn_eq_forIn_range',Std.Legacy.Range.size]
  have hmin:(min items.size items.size - 0+1 - 1) / 1=items.size:=by simp
  wp_walk using wpAny_loadPart' hl
  rw [hmin]
  change wpAny _ _ (forIn (List.range' 0 items.size) (none,()) _) _ _ _
  refine wpAny_forIn_list _ (fun rest b s'=>b.1=none∧s'=⟨hp,g,d,tk,os⟩∧∃ i,i≤j∧rest=(List.range' 0 items.size).drop i) _ ?_ ?_ (List.range' 0 items.size) (none,()) ⟨rfl,rfl,0,Nat.zero_le _,by simp⟩
  ·rintro i rest b s' ⟨hb,rfl,k,hk,hr⟩
   have hkl:k < items.size:=by omega
   have e0:(List.range' 0 items.size).drop k=k::(List.range' 0 items.size).drop (k+1):=by
    rw [List.drop_eq_getElem_cons (by simpa using hkl)]
    simp
   rw [e0] at hr
   injection hr with h1 h2
   subst h1
   have hi:items[i]?=some items[i]:=by simp [hkl]
   rw [hi]
   refine wpAny_bind (he _ (Array.getElem_mem hkl) prog w _ _ ?_)
   by_cases hij:i=j
   ·subst hij
    rw [hit]
    wp_walk
    exact⟨_,rfl,h⟩
   ·rw [hno i hkl (by omega)]
    wp_walk
    exact⟨rfl,rfl,i+1,by omega,h2⟩
  ·rintro b s' ⟨hb,rfl,k,hk,hr⟩
   exfalso
   have:((List.range' 0 items.size).drop k).length=0:=by rw [← hr]; rfl
   simp at this
   omega
section
variable {prog:Program}{w:World}{A:Around}{E:Value→Shared→Prop}{s:Shared}
theorem mq{it t:Addr}{i:Nat}{items:Array Value}{x:Value}{Q:Value→Shared→Prop}(hit:s.heap.IsTupleIter it t i)(ht:s.heap.IsTuple t items)(hx:items[i]?=some x)
  (hQ:∀ h',h'.IsTupleIter it t (i+1)→Heap.SameBut it s.heap h'→Q x { s with heap:=h' }):wpAny (model prog w) A (Builtin.SmallTypes.nextOf (.ref it)) Q E s:=by
 obtain ⟨ob,e1,e2,e3⟩:=id hit
 obtain ⟨ot,g1,_,nn,g2⟩:=ht
 unfold Builtin.SmallTypes.nextOf
 refine wpAny_bind (wpAny_callSpecial?_slot (name:=Str.ofString "__next__") hit.typeIs F.slot_tuple_iterator_next (wpAny_call_entry F.slot_tuple_iterator_next hit.typeIs F.entry_tuple_iterator_next ?_ (F.args_tuple_iterator_next_1 _)))
 show wpAny _ _ (field (.ref it) 0 >>= _) _ _ s; refine wpAny_bind (wpAny_field e1 e3 (x:=.ref t) rfl ?_)
 show wpAny _ _ (if (Value.ref t == Value.none)=true then _ else _) _ _ s; rw [if_neg (show ¬ ((Value.ref t == Value.none)=true) from Bool.false_ne_true)]
 show wpAny _ _ (field (.ref it) 1 >>= _) _ _ s; refine wpAny_bind (wpAny_field e1 e3 (x:=.int i 0) rfl ?_)
 show wpAny _ _ (seqItems? (.ref t) >>= _) _ _ s; refine wpAny_bind (wpAny_seqItems g1 g2 ?_)
 simp only [Int.toNat_natCast,hx]
 refine wpAny_bind (wpAny_setField e1 e3 (by simp) (wpAny_pure ⟨x,rfl,wpAny_pure (hQ _ ⟨_,Heap.get?_update_self _ e1 (Obj.isFreed_of_fields (Obj.data_mapFields e3 _)),(Obj.cls_mapFields ..).trans e2,?_⟩ (Heap.SameBut.update ..))⟩))
 rw [Obj.data_mapFields e3]; simp [rawInt]
theorem qu{it t:Addr}{i:Nat}{items:Array Value}{Q:Value→Shared→Prop}(hh:A.handled=none)(hit:s.heap.IsTupleIter it t i)(ht:s.heap.IsTuple t items)(hx:items[i]?=none)
  (hE:∀ h' e,Heap.ExtBut it s.heap h'→(∃ o,h'.get? e=some o∧o.cls=.type "StopIteration")→E (.ref e) { s with heap:=h' }):wpAny (model prog w) A (Builtin.SmallTypes.nextOf (.ref it)) Q E s:=by
 obtain ⟨ob,e1,e2,e3⟩:=id hit
 obtain ⟨ot,g1,_,nn,g2⟩:=ht
 unfold Builtin.SmallTypes.nextOf
 refine wpAny_bind (wpAny_callSpecial?_slot (name:=Str.ofString "__next__") hit.typeIs F.slot_tuple_iterator_next (wpAny_call_entry F.slot_tuple_iterator_next hit.typeIs F.entry_tuple_iterator_next ?_ (F.args_tuple_iterator_next_1 _)))
 show wpAny _ _ (field (.ref it) 0 >>= _) _ _ s; refine wpAny_bind (wpAny_field e1 e3 (x:=.ref t) rfl ?_)
 show wpAny _ _ (if (Value.ref t == Value.none)=true then _ else _) _ _ s; rw [if_neg (show ¬ ((Value.ref t == Value.none)=true) from Bool.false_ne_true)]
 show wpAny _ _ (field (.ref it) 1 >>= _) _ _ s; refine wpAny_bind (wpAny_field e1 e3 (x:=.int i 0) rfl ?_)
 show wpAny _ _ (seqItems? (.ref t) >>= _) _ _ s; refine wpAny_bind (wpAny_seqItems g1 g2 ?_)
 simp only [Int.toNat_natCast,hx]
 refine wpAny_bind (wpAny_rule (wpAny_bind (wpAny_setField e1 e3 (by simp) ?_)))
 show wpAny _ _ (newExc (.type "StopIteration") [] >>= _) _ _ _; refine wpAny_bind ?_
 simp only [newExc,newTuple]; refine wpAny_bind (wpAny_newObj_type ?_ (by size_fits))
 refine wpAny_bind (m:=firstArgMember _ _) (wpAny_of_eq (a:=Value.none) (by first | rfl | (simp only [firstArgMember]; rfl)) ?_)
 refine wpAny_newObj_type ?_ (by size_fits); simp only [raiseNew]; refine wpAny_bind (wpAny_handled ?_)
 first | rw [show A.in1.handled=none from hh] | rw [hh]
 refine wpAny_bind (wpAny_pure (wpAny_throw (hE _ _ (((Heap.SameBut.update ..).extBut.push _).push _) ⟨_,Heap.get?_push_size _ rfl,rfl⟩)))
structure ZA (z TI TO i1 i2 t1 t2:Addr):Prop where
 a1:TI≠z
 a2:TO≠z
 a3:i1≠z
 a4:i2≠z
 a5:TI≠TO
 a6:TI≠i1
 a7:TI≠i2
 a8:TO≠i1
 a9:TO≠i2
 b1:i1≠i2
 b2:t1≠z
 b3:t1≠TO
 b4:t1≠i1
 b5:t1≠i2
 b6:t2≠z
 b7:t2≠TO
 b8:t2≠i1
 b9:t2≠i2
theorem Ed{z TI TO i1 i2 t1 t2:Addr}{k:Nat}{xs ys:Array Value}{x y a b:Value}{Q:Value→Shared→Prop}(D:ZA z TI TO i1 i2 t1 t2)
  (hz:IsZip s.heap z TI TO .none) (hTI:IsPair s.heap TI (.ref i1) (.ref i2)) (hTO:IsPair s.heap TO a b) (h1:s.heap.IsTupleIter i1 t1 k) (h2:s.heap.IsTupleIter i2 t2 k)
  (hl1:s.heap.IsTuple t1 xs) (hl2:s.heap.IsTuple t2 ys) (hx:xs[k]?=some x) (hy:ys[k]?=some y)
  (hQ:∀ h',IsZip h' z TI TO (rawInt s.heap.objs.size)→IsPair h' TO x y→h'.IsTupleIter i1 t1 (k+1)→h'.IsTupleIter i2 t2 (k+1)→IsPair h' s.heap.objs.size x y→
   (∀ c o,c≠z→c≠TO→c≠i1→c≠i2→s.heap.get? c=some o→h'.get? c=some o)→Q (.ref s.heap.objs.size) { s with heap:=h' }) :
  wpAny (model prog w) A (Builtin.«zip.__next__» ⟨[.ref z],[]⟩) (fun fin s'=>∃ v,fin=.done (.ret v)∧Q v s') E s:=by
 show wpAny _ _ (field (.ref z) 2 >>= _) _ _ _; refine wpAny_bind (wpAny_field hz rfl (x:=.bool false) rfl ?_)
 show wpAny _ _ (field (.ref z) 3 >>= _) _ _ _; refine wpAny_bind (wpAny_field hz rfl (x:=.ref TI) rfl (wpAny_bind (wpAny_seqItems hTI rfl ?_)))
 show wpAny _ _ (Builtin.SmallTypes.ownedTupleIsFree (.ref z) >>= _) _ _ _
 unfold Builtin.SmallTypes.ownedTupleIsFree
 refine wpAny_bind (wpAny_bind (wpAny_field hz rfl (x:=.none) rfl (wpAny_pure ?_)))
 simp only [if_true]
 refine wpAny_bind (wpAny_rule (wpAny_bind (wpAny_field hz rfl (x:=.ref TO) rfl (wpAny_bind (wpAny_setField_rec hz (by simp) fun g1 z1 q1=>?_)))))
 replace z1:IsZip g1 z TI TO .ellipsis:=z1
 simp only [List.zipIdx_cons,List.zipIdx_nil,List.forIn_cons,List.forIn_nil]
 refine wpAny_bind (wpAny_bind (wpAny_bind (wpAny_onRaise ?_)))
 show wpAny _ _ (Builtin.SmallTypes.nextOf (.ref i1) >>= _) _ _ _
 refine wpAny_bind (mq (h1.extBut q1.extBut D.a3) (hl1.extBut q1.extBut D.b2) hx fun g2 j2 q2=>wpAny_pure ?_)
 have p2:IsPair g2 TO a b:=q2.extBut _ _ D.a8 (q1.extBut _ _ D.a2 hTO)
 refine wpAny_bind (wpAny_seqItems p2 rfl (wpAny_bind (wpAny_updateSeq_pair p2 fun g3 p3 q3=>wpAny_bind (wpAny_letGo (wpAny_pure ?_)))))
 replace p3:IsPair g3 TO x b:=p3
 refine wpAny_bind (wpAny_bind (wpAny_onRaise ?_))
 show wpAny _ _ (Builtin.SmallTypes.nextOf (.ref i2) >>= _) _ _ _
 refine wpAny_bind (mq (((h2.extBut q1.extBut D.a4).extBut q2.extBut D.b1.symm).extBut q3.extBut D.a9.symm) (((hl2.extBut q1.extBut D.b6).extBut q2.extBut D.b8).extBut q3.extBut D.b7) hy fun g4 j4 q4=>wpAny_pure ?_)
 have p4:IsPair g4 TO x b:=q4.extBut _ _ D.a9 p3
 refine wpAny_bind (wpAny_seqItems p4 rfl (wpAny_bind (wpAny_updateSeq_pair p4 fun g5 p5 q5=>wpAny_bind (wpAny_letGo (wpAny_pure (wpAny_pure ?_))))))
 replace p5:IsPair g5 TO x y:=p5
 refine wpAny_bind (wpAny_seqItems p5 rfl (wpAny_bind (wpAny_newTuple ?_)))
 have sz:g5.objs.size=s.heap.objs.size:=by rw [q5.1,q4.1,q3.1,q2.1,q1.1]
 have z5:IsZip g5 z TI TO .ellipsis:=q5.extBut _ _ D.a2.symm (q4.extBut _ _ D.a4.symm (q3.extBut _ _ D.a2.symm (q2.extBut _ _ D.a3.symm z1)))
 have k5:∀ c o,c≠z→c≠TO→c≠i1→c≠i2→s.heap.get? c=some o→g5.get? c=some o:=fun c o c1 c2 c3 c4 e=>q5.extBut _ _ c2 (q4.extBut _ _ c4 (q3.extBut _ _ c2 (q2.extBut _ _ c3 (q1.extBut _ _ c1 e))))
 have j5:g5.IsTupleIter i1 t1 (k+1):=((j2.extBut q3.extBut D.a8.symm).extBut q4.extBut D.b1).extBut q5.extBut D.a8.symm
 have l5:g5.IsTupleIter i2 t2 (k+1):=j4.extBut q5.extBut D.a9.symm
 have zl:z < g5.objs.size:=Heap.lt_size z5
 show wpAny _ _ (Builtin.SmallTypes.ownedTupleHandOut (.ref z) (.ref g5.objs.size) >>= _) _ _ _
 refine wpAny_bind ?_
 unfold Builtin.SmallTypes.ownedTupleHandOut
 have z6:IsZip (g5.push { cls:=.type "tuple",data:=.seq #[x,y] }) z TI TO .ellipsis:=Heap.get?_push_of_some _ z5
 refine wpAny_bind (wpAny_setField_rec z6 (by simp) fun g7 z7 q7=>?_)
 replace z7:IsZip g7 z TI TO (rawInt g5.objs.size):=z7
 refine wpAny_setField_rec z7 (by simp) fun g8 z8 q8=>?_
 replace z8:IsZip g8 z TI TO (rawInt g5.objs.size):=z8
 have up:∀ c o,c≠z→g5.get? c=some o→g8.get? c=some o:=fun c o c1 e=>q8.extBut _ _ c1 (q7.extBut _ _ c1 (Heap.get?_push_of_some _ e))
 have n8:IsPair g8 g5.objs.size x y:=q8.extBut _ _ (Nat.ne_of_gt zl) (q7.extBut _ _ (Nat.ne_of_gt zl) (Heap.get?_push_size _ rfl))
 rw [sz] at z8 n8
 refine wpAny_pure ⟨_,rfl,?_⟩
 show Q (.ref g5.objs.size) _
 rw [sz]
 refine hQ g8 z8 (up _ _ D.a2 p5) ?_ ?_ n8 fun c o c1 c2 c3 c4 e=>up c o c1 (k5 c o c1 c2 c3 c4 e)
 ·obtain ⟨o,e,r⟩:=j5; exact⟨o,up _ o D.a3 e,r⟩
 ·obtain ⟨o,e,r⟩:=l5; exact⟨o,up _ o D.a4 e,r⟩
theorem En{z TI TO i1 i2 t1 t2:Addr}{k:Nat}{xs:Array Value}{a b:Value}{Q:Fin→Shared→Prop}(hh:A.handled=none)(D:ZA z TI TO i1 i2 t1 t2)
  (hz:IsZip s.heap z TI TO .none) (hTI:IsPair s.heap TI (.ref i1) (.ref i2)) (hTO:IsPair s.heap TO a b) (h1:s.heap.IsTupleIter i1 t1 k) (hl1:s.heap.IsTuple t1 xs) (hx:xs[k]?=none)
  (hE:∀ h' e,(∀ c o,c≠z→c≠TO→c≠i1→c≠i2→s.heap.get? c=some o→h'.get? c=some o)→(∃ o,h'.get? e=some o∧o.cls=.type "StopIteration")→E (.ref e) { s with heap:=h' }) :
  wpAny (model prog w) A (Builtin.«zip.__next__» ⟨[.ref z],[]⟩) Q E s:=by
 show wpAny _ _ (field (.ref z) 2 >>= _) _ _ _; refine wpAny_bind (wpAny_field hz rfl (x:=.bool false) rfl ?_)
 show wpAny _ _ (field (.ref z) 3 >>= _) _ _ _; refine wpAny_bind (wpAny_field hz rfl (x:=.ref TI) rfl (wpAny_bind (wpAny_seqItems hTI rfl ?_)))
 show wpAny _ _ (Builtin.SmallTypes.ownedTupleIsFree (.ref z) >>= _) _ _ _
 unfold Builtin.SmallTypes.ownedTupleIsFree
 refine wpAny_bind (wpAny_bind (wpAny_field hz rfl (x:=.none) rfl (wpAny_pure ?_)))
 simp only [if_true]
 refine wpAny_bind (wpAny_rule (wpAny_bind (wpAny_field hz rfl (x:=.ref TO) rfl (wpAny_bind (wpAny_setField_rec hz (by simp) fun g1 z1 q1=>?_)))))
 replace z1:IsZip g1 z TI TO .ellipsis:=z1
 simp only [List.zipIdx_cons,List.zipIdx_nil,List.forIn_cons,List.forIn_nil]
 refine wpAny_bind (wpAny_bind (wpAny_bind (wpAny_onRaise ?_)))
 show wpAny _ _ (Builtin.SmallTypes.nextOf (.ref i1) >>= _) _ _ _
 refine wpAny_bind (qu hh (h1.extBut q1.extBut D.a3) (hl1.extBut q1.extBut D.b2) hx fun g2 e q2 ⟨oe,e1,e2⟩=>?_)
 have z2:IsZip g2 z TI TO .ellipsis:=q2 _ _ D.a3.symm z1
 have hez:e≠z:=fun x=>by subst x; rw [z2] at e1; cases e1; simp at e2
 exact wpAny_setField_rec z2 (by simp) fun g3 _ q3=>hE g3 e (fun c o c1 _ c3 _ x=>q3.extBut _ _ c1 (q2 _ _ c3 (q1.extBut _ _ c1 x))) ⟨oe,q3.extBut _ _ hez e1,e2⟩
end
theorem Inv.rY{X:Cx}{pins:List (Addr × Obj)}{σ:St}{H:Hp}{s:Shared}{h':Heap}{fp:List Addr}{a:Addr}{o:HO}{t':Nat}(I:Inv X pins σ H s)(hf:∀ b∈fp,nW X pins H b)
  (k:∀ b u,b ∉ fp→s.heap.get? b=some u→h'.get? b=some u) (hp:s.heap.objs.size≤a) (new:cU X.prog X.w (upd H a o) h' a o):Inv X pins σ (upd H a o) { s with heap:=h',toks:=t' }:=by
 have hn:H a=none:=I.hok.fresh hp
 have nf:∀ b u,H b=some u→b ∉ fp:=fun b u e hb=>by rw [(hf b hb).1] at e; cases e
 refine I.step (g':=s.gens) (d':=s.drawn) (ch:=fp) (fun b hb=>⟨(hf b hb).2.2.2.1,(hf b hb).2.1,(hf b hb).2.2.2.2.1,(hf b hb).2.2.2.2.2⟩) (fun b u _ _ hc e _=>k b u hc e) (fun b u _ _ hc e _=>⟨u.slots,k b u hc e⟩)
  (fun b u _ e n=>by rw [aA (Nat.ne_of_lt (Nat.lt_of_lt_of_le (Heap.lt_size e) hp))]; exact n) (fun b u hc e=>⟨u,k b u hc e⟩) (fun b xs e=>by rw [aA (aB e hn)]; exact e)
  (fun b u v e=>by rw [aA (aB e hn)]; exact e) (fun b ps e=>⟨#[],by rw [aA (aB e hn),e]; simp⟩) (fun m hm=>?_) (fun b u e=>?_) I.bare
 ·obtain ⟨ob,es,ep,ho,r⟩:=hm
  exact⟨ob,es,ep,k _ ob (fun z=>(hf _ z).2.1 rfl) ho,r⟩
 ·by_cases hb:b=a
  ·subst hb
   rw [ak] at e
   cases e
   exact new
  ·rw [aA hb] at e
   refine(I.hok b u e).stay (fun c v hc q=>k c v ?_ q) (fun c q=>by rw [aA (aB q hn)]; exact q) fun c xs q=>by rw [aA (aB q hn)]; exact q
   rcases hc with z | z
   ·rw [z]; exact nf b u e
   ·exact nf c _ z
theorem Inv.rN{X:Cx}{pins:List (Addr × Obj)}{σ:St}{H:Hp}{s:Shared}{h':Heap}{fp:List Addr}{t':Nat}(I:Inv X pins σ H s)(hf:∀ b∈fp,nW X pins H b)
  (k:∀ b u,b ∉ fp→s.heap.get? b=some u→h'.get? b=some u):Inv X pins σ H { s with heap:=h',toks:=t' }:=by
 have nf:∀ b u,H b=some u→b ∉ fp:=fun b u e hb=>by rw [(hf b hb).1] at e; cases e
 refine I.step (g':=s.gens) (d':=s.drawn) (ch:=fp) (fun b hb=>⟨(hf b hb).2.2.2.1,(hf b hb).2.1,(hf b hb).2.2.2.2.1,(hf b hb).2.2.2.2.2⟩) (fun b u _ _ hc e _=>k b u hc e) (fun b u _ _ hc e _=>⟨u.slots,k b u hc e⟩)
  (fun b u _ e n=>n) (fun b u hc e=>⟨u,k b u hc e⟩) (fun b xs e=>e) (fun b u v e=>e) (fun b ps e=>⟨#[],by rw [e]; simp⟩) (fun m hm=>?_) (fun b u e=>?_) I.bare
 ·obtain ⟨ob,es,ep,ho,r⟩:=hm
  exact⟨ob,es,ep,k _ ob (fun z=>(hf _ z).2.1 rfl) ho,r⟩
 ·refine(I.hok b u e).stay (fun c v hc q=>k c v ?_ q) (fun c q=>q) fun c xs q=>q
  rcases hc with z | z
  ·rw [z]; exact nf b u e
  ·exact nf c _ z
def Itz(K:PySem.W.Frag)(t1 t2:Addr):It:=
 ⟨fun i H=>∃ xs ys x y,SqT K H t1 xs∧SqT K H t2 ys∧xs[i]?=some x∧ys[i]?=some y,fun i H v H'=>∃ p,H p=none∧v=.ref p∧∀ xs ys x y,SqT K H t1 xs→SqT K H t2 ys→xs[i]?=some x→ys[i]?=some y→H'=upd H p (.tup [x,y]),
  fun i H=>∃ xs,SqT K H t1 xs∧xs.length≤i⟩
theorem lE{P:Program}{w:World}{K:PySem.W.Frag}{elts:List Expr}{x1:Nat}{tpos:Pos}{z TI TO i1 i2 t1 t2:Addr}(D:ZA z TI TO i1 i2 t1 t2):Turn P w K (.Tuple elts x1 tpos) (Itz K t1 t2) [z,TI,TO,i1,i2] z
  (fun i h=>IsZip h z TI TO .none∧IsPair h TI (.ref i1) (.ref i2)∧(∃ a b,IsPair h TO a b)∧h.IsTupleIter i1 t1 i∧h.IsTupleIter i2 t2 i) where
 mem:=by simp
 obj:=fun i h st b hb=>by
  obtain ⟨hz,hTI,⟨a,c,hTO⟩,⟨o1,e1,_,d1⟩,⟨o2,e2,_,d2⟩⟩:=st
  simp only [List.mem_cons,List.not_mem_nil,or_false] at hb
  rcases hb with rfl | rfl | rfl | rfl | rfl
  ·exact⟨_,hz,fun v q=>nomatch q⟩
  ·exact⟨_,hTI,fun v q=>nomatch q⟩
  ·exact⟨_,hTO,fun v q=>nomatch q⟩
  ·exact⟨_,e1,fun v q=>by rw [d1] at q; cases q⟩
  ·exact⟨_,e2,fun v q=>by rw [d2] at q; cases q⟩
 keep:=fun i h h' st k=>by
  obtain ⟨hz,hTI,⟨a,c,hTO⟩,⟨o1,e1,r1⟩,⟨o2,e2,r2⟩⟩:=st
  exact⟨k z (by simp) _ hz,k TI (by simp) _ hTI,⟨a,c,k TO (by simp) _ hTO⟩,⟨o1,k i1 (by simp) _ e1,r1⟩,⟨o2,k i2 (by simp) _ e2,r2⟩⟩
 item:=by
  intro X hP hw hK hc i pins s σ H E I hf st hg
  subst hP hw hK
  obtain ⟨xs,ys,x,y,q1,q2,e1,e2⟩:=hg
  obtain ⟨its,rv,p,hz'⟩:=I.tuple q1
  obtain ⟨jts,rw',p',hz''⟩:=I.tuple q2
  obtain ⟨u,hu,ru⟩:=rv.get e1
  obtain ⟨u',hu',ru'⟩:=rw'.get e2
  obtain ⟨hz,hTI,⟨a,c,hTO⟩,h1,h2⟩:=st
  have hT:s.TypeIs (.ref z) "zip" := ⟨_,hz,rfl⟩
  unfold pyNext
  refine wpAny_bind (wpAny_attempt (wpAny_callSpecial?_slot (name:=Str.ofString "__next__") hT F.slot_zip_next (wpAny_call_entry F.slot_zip_next hT F.entry_zip_next
   (Ed D hz hTI hTO h1 h2 (show s.heap.IsTuple t1 its.toArray from p) (show s.heap.IsTuple t2 jts.toArray from p') (x:=u) (y:=u') (by simpa using hu) (by simpa using hu') fun h' a1 a2 a3 a4 a5 a6=>wpAny_pure ?_) (F.args_zip_next_1 _))))
  refine⟨_,rfl,wpAny_letOwnedTupleGo_zip a1 fun h2' a1' q'=>?_⟩
  have hn:H s.heap.objs.size=none:=I.hok.fresh (Nat.le_refl _)
  have zlt:z < s.heap.objs.size:=Heap.lt_size hz
  have tlt:TO < s.heap.objs.size:=Heap.lt_size hTO
  have i1lt:i1 < s.heap.objs.size:=by obtain ⟨_,e,_⟩:=h1; exact Heap.lt_size e
  have i2lt:i2 < s.heap.objs.size:=by obtain ⟨_,e,_⟩:=h2; exact Heap.lt_size e
  have kk:∀ b ob,b ∉ [z,TI,TO,i1,i2]→s.heap.get? b=some ob→h2'.get? b=some ob:=fun b ob hb e=>by
   simp only [List.mem_cons,List.not_mem_nil,or_false,not_or] at hb
   exact q'.extBut _ _ hb.1 (a6 b ob hb.1 hb.2.2.1 hb.2.2.2.1 hb.2.2.2.2 e)
  have I1:Inv X pins σ (upd H s.heap.objs.size (.tup [x,y])) { s with heap:=h2' }:=I.rY (t':=s.toks) hf kk (Nat.le_refl _)
   ⟨⟨by show 2≤sizeLine; decide,fun o e=>by rw [q'.extBut _ _ (Nat.ne_of_gt zlt) a5] at e; cases e; rfl⟩,[u,u'],.cons ru (.cons ru' .nil),⟨_,q'.extBut _ _ (Nat.ne_of_gt zlt) a5,rfl,_,rfl⟩⟩
  refine⟨.ref s.heap.objs.size,_,I1,rfl,⟨_,hn,rfl,fun xs' ys' x' y' k1 k2 k3 k4=>?_⟩,⟨a1',q'.extBut _ _ D.a1 (a6 _ _ D.a1 D.a5 D.a6 D.a7 hTI),⟨_,_,q'.extBut _ _ D.a2 a2⟩,a3.extBut q'.extBut D.a3,a4.extBut q'.extBut D.a4⟩,fun b hb=>?_⟩
  ·rw [I.nO k1 q1,e1] at k3
   rw [I.nO k2 q2,e2] at k4
   cases k3
   cases k4
   rfl
  ·have hb':=hb
   simp only [List.mem_cons,List.not_mem_nil,or_false] at hb'
   have hlt:b < s.heap.objs.size:=by
    rcases hb' with rfl | rfl | rfl | rfl | rfl
    ·exact zlt
    ·exact Heap.lt_size hTI
    ·exact tlt
    ·exact i1lt
    ·exact i2lt
   rw [aA (Nat.ne_of_lt hlt)]
   exact(hf b hb).1
 done:=by
  intro X hP hw hK hc i pins s σ H E I hf st hg
  subst hP hw hK
  obtain ⟨xs,q1,e1⟩:=hg
  obtain ⟨its,rv,p,hz'⟩:=I.tuple q1
  obtain ⟨hz,hTI,⟨a,c,hTO⟩,h1,h2⟩:=st
  have hT:s.TypeIs (.ref z) "zip" := ⟨_,hz,rfl⟩
  have hl:=rv.length
  unfold pyNext
  refine wpAny_bind (wpAny_attempt (wpAny_callSpecial?_slot (name:=Str.ofString "__next__") hT F.slot_zip_next (wpAny_call_entry F.slot_zip_next hT F.entry_zip_next
   (En (I.ok.hd hc) D hz hTI hTO h1 (show s.heap.IsTuple t1 its.toArray from p) (by simp; omega) fun h' e kk ⟨o,ho,hcl⟩=>?_) (F.args_zip_next_1 _))))
  refine wpAny_bind (wpAny_isInstance (T:= "StopIteration") (b:=true) ⟨o,ho,hcl⟩ isSubtype_stop (wpAny_pure ⟨rfl,I.rN (t':=s.toks) hf fun b u hb q=>?_⟩))
  simp only [List.mem_cons,List.not_mem_nil,or_false,not_or] at hb
  exact kk b u hb.1 hb.2.2.1 hb.2.2.2.1 hb.2.2.2.2 q
 self:=fun _ _ _ _ _ st h=>wpAny_pyIter_zip st.1 h
abbrev zq1(h:Heap)(l1:Addr):Heap:=h.push { cls:=.type "tuple_iterator",data:=.fields #[.ref l1,.int 0 0] }
abbrev zq2(h:Heap)(l1 l2:Addr):Heap:=(zq1 h l1).push { cls:=.type "tuple_iterator",data:=.fields #[.ref l2,.int 0 0] }
abbrev zq3(h:Heap)(l1 l2:Addr):Heap:=(zq2 h l1 l2).push { cls:=.type "tuple",data:=.seq #[.ref h.objs.size,.ref (zq1 h l1).objs.size] }
abbrev zq4(h:Heap)(l1 l2:Addr):Heap:=(zq3 h l1 l2).push { cls:=.type "tuple",data:=.seq #[.none,.none] }
abbrev zq5(h:Heap)(l1 l2:Addr):Heap:=(zq4 h l1 l2).push { cls:=.type "zip",data:=.fields #[.none,.bool false,.bool false,.ref (zq2 h l1 l2).objs.size,.ref (zq3 h l1 l2).objs.size] }
theorem JT(l1 l2:Addr)(xs ys:Array Value):Meets (Builtin.«zip.__new__» ⟨[.type "zip",.ref l1,.ref l2],[]⟩) (fun _ R s=>s.heap.IsTuple l1 xs∧s.heap.IsTuple l2 ys∧R (.ok (.ret (.ref (zq4 s.heap l1 l2).objs.size))) { s with heap:=zq5 s.heap l1 l2 }):=
 .of_wp fun prog w A R s h=>by
  obtain ⟨hp,g,d,tk,os⟩:=s
  obtain ⟨hl1,hl2,h⟩:=h
  have hsub:=sub_zip
  have hL1:Heap.IsTuple (Shared.heap ⟨hp,g,d,tk,os⟩) l1 xs:=hl1
  have hL2:Heap.IsTuple (Shared.heap ⟨hp.push { cls:=.type "tuple_iterator",data:=.fields #[.ref l1,.int 0 0] },g,d,tk,os⟩) l2 ys:=Heap.IsTuple.push hl2 _
  wp_walk using wpAny_pyIter_tuple hL1,wpAny_pyIter_tuple hL2
  exact⟨_,rfl,h⟩
theorem Jc{prog:Program}{w:World}{A:Around}{E:Value→Shared→Prop}{s:Shared}{l1 l2:Addr}{xs ys:Array Value}{Q:Value→Shared→Prop}(hl1:s.heap.IsTuple l1 xs)(hl2:s.heap.IsTuple l2 ys)
  (h:Q (.ref (zq4 s.heap l1 l2).objs.size) { s with heap:=zq5 s.heap l1 l2 }):wpAny (model prog w) A (call (.type "zip") [.ref l1,.ref l2]) Q E s:=by
 refine callType_new F.called_zip (by decide) (F.typeCall_zip_2 _ _) (F.newCall_zip_2 _ _) (fun obj=>F.args_object_init_3 obj _ _) F.entry_zip_new (JT l1 l2 xs ys) ⟨hl1,hl2,?_⟩
 show _∧_
 exact⟨⟨_,Heap.get?_push_size _ rfl,rfl⟩,h⟩
theorem Mt{n t1 t2:Nat}(h1:t1 < n)(h2:t2 < n):ZA (n+4) (n+2) (n+3) n (n+1) t1 t2:=by
 constructor <;> (change @Ne Nat _ _; omega)
section
variable {X:Cx}
theorem fW(hc:X.calm=true):dU X (.builtin "all") (fun xs H Q=>∃(p:Addr) (bs:List Bool),xs=[.ref p]∧SqL X.K H p (bs.map V.bl)∧Q (.bl (bs.all id)) H):=by
 intro pins s σ H xs us Q I r h
 obtain ⟨p,bs,rfl,hq,q⟩:=h
 obtain ⟨u,rfl,ru⟩:=vals1 r
 cases ru
 obtain ⟨its,rv,pl,hz⟩:=I.list hq
 have hl:=rv.length
 rw [List.length_map] at hl
 refine call_all_walk (wpAny_pyIter_list pl.isList ?_)
 have plt:p < s.heap.objs.size:=by obtain ⟨o,e,_⟩:=pl.isList; exact Heap.lt_size e
 refine⟨s.heap.objs.size,_,_,_,_,_,fun i=>bs.getD i true,rfl,Walks.list (A:=X.A.in1) (I.ok.hd hc) s.heap.objs.size p (Nat.ne_of_lt plt) its.toArray,⟨⟨_,Heap.get?_push_size _ rfl,rfl,rfl⟩,pl.isList.push _⟩,fun i v s' Q' E' hv hQ=>?_,fun h' tk kk=>?_⟩
 ·have hi:i < bs.length:=by
   have:=(Array.getElem?_eq_some_iff.mp hv).1
   rw [List.size_toArray] at this
   omega
  obtain ⟨u,hu,ru⟩:=rv.get (i:=i) (x:=V.bl bs[i]) (by simp [hi])
  have hv':its[i]?=some v:=by simpa using hv
  rw [hv'] at hu
  cases hu
  cases ru
  refine wpAny_truthy_bool ?_
  simpa [hi] using hQ
 ·have ee:((List.range its.toArray.size).all fun i=>bs.getD i true)=bs.all id:=by
   rw [List.size_toArray,← hl]
   apply Bool.eq_iff_iff.mpr
   rw [List.all_eq_true,List.all_eq_true]
   constructor
   ·intro h b hb
    obtain ⟨i,hi,rfl⟩:=List.getElem_of_mem hb
    have:=h i (List.mem_range.mpr hi)
    simpa [hi] using this
   ·intro h i hi
    have hi':=List.mem_range.mp hi
    have:=h bs[i] (List.getElem_mem hi')
    simpa [hi'] using this
  rw [ee]
  have I1:Inv X pins σ H { s with heap:=s.heap.push { cls:=.type "list_iterator",data:=.fields #[.ref p,.int 0 0] } }:=I.kept (t':=s.toks) fun b o e=>Heap.get?_push_of_some _ e
  refine⟨.bl _,H,I1.turned (t':=tk) (it:=s.heap.objs.size) (fun b o hb e=>kk b o (by simpa using hb) e) (I.hok.fresh (Nat.le_refl _)) (Nat.ne_of_gt I.lt) (.inr I.sz) ?_ ?_,rfl,q⟩
  ·exact(I.mY (Nat.le_refl _) (I.hok.fresh (Nat.le_refl _))).2.2.2.2.1
  ·exact(I.mY (Nat.le_refl _) (I.hok.fresh (Nat.le_refl _))).2.2.2.2.2
def Its(x:Str):It:=⟨fun i _=>i < x.cps.size,fun i H v H'=>H'=H∧∃ c,x.cps[i]?=some c∧v=.str ⟨#[c]⟩,fun i _=>x.cps.size≤i⟩
theorem GP{P:Program}{w:World}{K:PySem.W.Frag}{tg:Expr}(x:Str)(t:Tok)(it:Addr):Turn P w K tg (Its x) [it] it (fun i h=>h.IsStrIter it "str_ascii_iterator" x t i) where
 mem:=by simp
 obj:=fun i h st b hb=>by
  have e:b=it:=by simpa using hb
  subst e
  obtain ⟨o,e,c,d⟩:=st
  exact⟨o,e,fun v z=>by rw [d] at z; cases z⟩
 keep:=fun i h h' st k=>by
  obtain ⟨o,e,r⟩:=st
  exact⟨o,k it (by simp) o e,r⟩
 item:=by
  intro X hP hw hK hc i pins s σ H E I hf st hg
  subst hP hw hK
  have hg:i < x.cps.size:=hg
  obtain ⟨f0,f1,f2,f3,f4,f5⟩:=hf it (by simp)
  refine wpAny_pyNext_ascii_item st (c:=x.cps[i]) (by simp [hg]) fun h' st' sb=>?_
  have I1:Inv X pins σ H { s with heap:=h',toks:=s.toks+1 }:=I.turned (fun b o hb e=>(sb.2 b hb).trans e) f0 f1 f3 f4 f5
  obtain ⟨o,e,c,d⟩:=id st'
  exact⟨_,rfl,Bj (s:={ s with heap:=h',toks:=s.toks+1 }) e c d (by decide) ⟨.str ⟨#[x.cps[i]]⟩,H,I1,⟨_,rfl⟩,⟨rfl,_,by simp [hg],rfl⟩,st',fun b hb=>(hf b hb).1⟩⟩
 done:=by
  intro X hP hw hK hc i pins s σ H E I hf st hg
  subst hP hw hK
  have hg:x.cps.size≤i:=hg
  obtain ⟨f0,f1,f2,f3,f4,f5⟩:=hf it (by simp)
  exact wpAny_pyNext_ascii_end (I.ok.hd hc) st (by simp [hg]) fun h' eb=>⟨rfl,I.turned (t':=s.toks) (fun b o hb e=>eb b o hb e) f0 f1 f3 f4 f5⟩
 self:=fun _ _ _ _ _ st h=>wpAny_pyIter_striter_ascii st h
def Nr(te:TE):TI:=fun σ H R=>te σ H fun v H1=>∃ x,v=.str x∧x.cps.all (· < 128)=true∧R (Its x) H1
theorem Hj{tg e:Expr}{te:TE}(he:PE X e te):PI X tg e (Nr te):=by
 intro pins s σ H R I h
 refine thn (he pins s σ H _ I h) fun v s1 ⟨y,H1,I1,r1,x,e,hx,q⟩=>?_
 subst e
 obtain ⟨t,rfl⟩:=r1
 refine wpAny_pyIter_ascii hx ?_
 refine⟨s1.heap.objs.size,[s1.heap.objs.size],_,_,H1,rfl,I1.kept (t':=s1.toks) fun b o e=>Heap.get?_push_of_some _ e,GP x t _,⟨_,Heap.get?_push_size _ rfl,rfl,rfl⟩,fun b hb=>?_,q⟩
 have e:b=s1.heap.objs.size:=by simpa using hb
 subst e
 exact I1.mY (Nat.le_refl _) (I1.hok.fresh (Nat.le_refl _))
theorem bM:dU X (.builtin "isinstance") (fun xs H Q=>∃ x n t b,xs=[x,.ty n]∧nU X.K H x t∧PySem.W.kitOne X.K t (.type n)=some b∧Q (.bl b) H):=by
 intro pins s σ H xs us Q I r h
 obtain ⟨x,n,t,b,rfl,ty,e,q⟩:=h
 obtain ⟨u,w',rfl,ru,rw'⟩:=vals2 r
 cases rw'
 exact Dz I ru ty e fun tk=>⟨.bl b,H,I.tok _,rfl,q⟩
theorem gA(K:PySem.W.Frag)(n:String):PySem.W.kitOne K (.type n) (.type n)=some true:=by
 unfold PySem.W.kitOne
 rw [if_pos (by simp)]
def Nu(r:V→List V→Hp→VK→Prop)(to:TE)(t:TA):TE:=fun σ H Q=>to σ H fun x H1=>(∃ p xs,x=.ref p∧H1 p=some (.tup xs))∧t σ H1 fun xs H2=>r x xs H2 Q
theorem KC{o e:Expr}{es:List Expr}{to:TE}{t:TA}{name:Str}{apos cpos:Pos}{id:String}{r:V→List V→Hp→VK→Prop}(slot:Slot "tuple" name id)(hty:typeOf (.builtin id)=pure (.type "method_descriptor"))(hm:MtR X id r)(ho:PE X o to)(ha:PA X (e::es) t)
  (hbase:attributeBase o name X.env (eval o X.env)=eval o X.env:=by rfl)
  (hfew:((backTo cpos (starEach (e::es) X.env)).all (fun x=>!x.1) && (backToKw cpos (keywordEach [] X.env)).all (fun x=>x.1.isSome) && decide ((e::es).length+([]:List Keyword).length+(if ([]:List Keyword).isEmpty then 0 else 1) < 30))=true:=by rfl)
  (hline:(apos.endLine == cpos.line)=true:=by rfl) (hs:starEach (e::es) X.env=(false,eval e X.env)::starEach es X.env:=by rfl) (hplain:(backTo cpos (starEach es X.env)).any (·.1)=false:=by rfl):PE X (.Call (.Attribute o name apos) (e::es) [] cpos) (Nu r to t):=by
 intro pins s σ H Q I h
 refine wpAny_Call_method_late hbase hfew hline rfl (thn (ho pins s σ H _ I h) fun v s1 ⟨x,H1,I1,r1,⟨p,xs,e1,e2⟩,q1⟩=>?_)
 subst e1
 cases r1
 obtain ⟨⟨_,nd⟩,its,rv,ob,g1,g2,g3⟩:(xs.length≤sizeLine∧NoD s1.heap p)∧∃ its:List Value,Vals xs its∧IsTup s1.heap p its.toArray:=I1.hok p _ e2
 refine⟨"tuple",id,PySem.F.plainAttrs_tuple,slot,hty,⟨ob,g1,g2⟩,fun a ea=>?_,?_⟩
 ·cases ea
  exact⟨ob,g1,nd ob g1⟩
 have hA:=ha cpos pins s1 σ H1 _ I1 q1
 rw [hs] at hA ⊢
 refine Calls.callWith_builtin (by show (false || (backTo cpos (starEach es X.env)).any (·.1))=false; rw [hplain] <;> rfl) (Calls.evalArgs_plain ?_)
 exact thn hA fun us s2 ⟨vs,H2,I2,r2,q2⟩=>hm pins s2 σ H2 (.ref p) vs (.ref p) us Q I2 rfl r2 q2
def G8:V→List V→Hp→VK→Prop:=fun x vs H Q=>∃ p y xs t ts j,x=.ref p∧vs=[y]∧H p=some (.tup xs)∧Dp H t y∧DpL H ts xs∧(∀ t∈ts,Lv 6 t)∧ts[j]?=some t∧(∀ m,m < j→ts[m]?≠some t)∧Q (.int (j:Nat)) H
theorem Aj(hu:X.A.units+10 < cLine):MtM X "tuple.index" G8:=by
 intro pins s σ H x vs v us Q I rx rv h
 obtain ⟨p,y,xs,t,ts,j,rfl,rfl,hH,dy,dl,lv,hj,hno,q⟩:=h
 cases rx
 obtain ⟨u,rfl,ru⟩:=rv.one
 obtain ⟨⟨z,nd⟩,its,r,ob,g1,g2,n,g3⟩:(xs.length≤sizeLine∧NoD s.heap p)∧∃ its:List Value,Vals xs its∧IsTup s.heap p its.toArray:=I.hok p _ hH
 have hl:=r.length
 have hjl:j < its.toArray.size:=by
  have:=(List.getElem?_eq_some_iff.mp hj).1
  rw [List.size_toArray,← hl,dl.length]
  exact this
 have at_:∀(m:Nat) (hm:m < its.toArray.size) (t':T),ts[m]?=some t'→isT H t its.toArray[m]=dcd (t'=t):=fun m hm t' e'=>by
  obtain ⟨x',f,g⟩:=dl.get e'
  obtain ⟨w,k,m'⟩:=r.get f
  have:its.toArray[m]=w:=by
   have z:its.toArray[m]?=some w:=by simpa using k
   rw [Array.getElem?_eq_getElem hm] at z
   exact Option.some.inj z
  rw [this]
  exact G5 m' g
 obtain ⟨oc,od,odt,osl⟩:=ob
 simp only at g2 g3
 subst g2 g3
 refine call_meets F.slot_tuple_index ⟨_,g1,rfl⟩ F.entry_tuple_index (F.args_tuple_index_2 _ _) (Fw p its.toArray n od osl u (isT H t) j hjl ?_ ?_) ⟨g1,?_,?_⟩
 ·rw [at_ j hjl t hj]
  exact iR rfl
 ·intro m hm hlt
  have hm':m < ts.length:=by
   rw [List.size_toArray,← hl,dl.length] at hm
   exact hm
  rw [at_ m hm _ (List.getElem?_eq_getElem hm')]
  refine cR fun h=>hno m hlt ?_
  rw [List.getElem?_eq_getElem hm',h]
 ·intro w hw
  obtain ⟨t',m,v',r',d'⟩:=Cp dl r w (by simpa using hw)
  rw [G5 r' d']
  exact GX I 6 _ t' t v' y w u (lv t' m) (by show X.A.units+1+6 < cLine; omega) d' dy r' ru
 ·exact⟨.int j,H,I.tok _,⟨_,rfl⟩,q⟩
end
end L2
end
section
set_option autoImplicit false
namespace L2
open PySem PySem.Spec PyProof.Rows
theorem cU.ex{P:Program}{w:World}{H:Hp}{h:Heap}{a:Addr}{o:HO}(x:cU P w H h a o):∃ ob,h.get? a=some ob:=by
 cases o with
 | lst xs=>obtain ⟨_,_,_,_,e⟩:=x; exact⟨_,e⟩
 | tup xs=>obtain ⟨_,_,_,ob,e,_⟩:=x; exact⟨_,e⟩
 | dK kvs=>obtain ⟨_,_,_,_,o,_,_,e,_⟩:=x; exact⟨_,e⟩
 | dT kvs=>obtain ⟨_,_,_,_,o,_,_,e,_⟩:=x; exact⟨_,e⟩
 | set S n=>obtain ⟨o,_,_,_,e,_⟩:=x; exact⟨_,e⟩
 | ins C dx fs=>obtain ⟨_,_,_,e,_⟩:=x; exact⟨_,e⟩
 | own y=>exact x
 | xd fs=>obtain ⟨_,⟨_,_,_,e,_⟩,_⟩:=x; exact⟨_,e⟩
 | rng lo hi=>obtain ⟨_,_,_,e⟩:=x; exact⟨_,e⟩
 | frz ob u=>exact⟨_,x.1⟩
 | tbl ps=>exact⟨_,x⟩
 | met f y=>exact⟨_,x⟩
 | ext φ=>exact x.2.1
theorem Ho{P:Program}{w:World}{outer:List Env}{H H':Hp}{h h' h2 B:Heap}(u:Un (frs outer) [] H H' h h')(hok:HOk P w H' h')(uP:∀ b,H' b≠none→∃ o,B.get? b=some o)
  (xJ:∀ b o,h.get? b=some o→b ∉ frs outer→∃ o,B.get? b=some o) (fr:∀ b∈frs outer,∃ o,h'.get? b=some o∧∀ vs,o.data≠.fields vs) (st0:B.StaysIn h') (st:B.StaysIn h2) (up:h'.UpToSlots h2) :
  Un (frs outer) [] H H' h h2∧HOk P w H' h2:=by
 have same:∀ b o,(∃ o',B.get? b=some o')→h'.get? b=some o→h2.get? b=some o:=fun b o ⟨o',e⟩ q=>by
  have z:=st0 b o' e
  rw [q] at z
  cases z
  exact st b _ e
 refine⟨⟨fun b o q n nf nx=>same b o (xJ b o q nf) (u.keep b o q n nf nx),fun b o q n hf nx=>?_,u.free,fun b o q nx=>?_,u.tups,u.rB,u.tR⟩,fun a o e=>(hok a o e).stay (fun b v hb q=>same b v (uP b ?_) q) (fun _ q=>q) fun _ _ q=>q⟩
 ·obtain ⟨sl,e⟩:=u.slot b o q n hf nx
  obtain ⟨o',e',hd⟩:=fr b hf
  rw [e] at e'
  cases e'
  obtain ⟨sl2,e2⟩:=up b _ e hd
  exact⟨sl2,e2⟩
 ·by_cases hf:b∈frs outer
  ·obtain ⟨o',e',hd⟩:=fr b hf
   obtain ⟨sl2,e2⟩:=up b _ e' hd
   exact⟨_,e2⟩
  ·obtain ⟨o',e'⟩:=xJ b o q hf
   exact⟨o',st b _ e'⟩
 ·rcases hb with rfl | hb
  ·rw [e]; simp
  ·rw [hb]; simp
structure jU (P:Program) (w:World) (outer:List Env) (H:Hp) (s:Shared) (e:Addr) (cls:Value) (H':Hp) (B:Heap) (a0:Value) (s':Shared):Prop where
 os:s'.os=s.os
 bare:AllBare s'.gens
 un:Un (frs outer) [] H H' s.heap s'.heap
 hok:HOk P w H' s'.heap
 fl:Heap.FlyingW B outer e cls a0 s'.heap
 uP:∀ b,H' b≠none→∃ o,B.get? b=some o
 xJ:∀ b o,s.heap.get? b=some o→b ∉ frs outer→∃ o,B.get? b=some o
def CXe(P:Program)(w:World):CXT:=fun outer H s E e s'=>∃ ea C H' B a0,e=.ref ea∧jU P w outer H s ea (.ref C) H' B a0 s'∧E (.ref C) none H'
section
variable {P:Program}{w:World}{outer:List Env}{H H':Hp}{s s':Shared}{e:Addr}{cls a0:Value}{B h2:Heap}
theorem jU.frames(f:jU P w outer H s e cls H' B a0 s'):∀ b∈frs outer,∃ o,s'.heap.get? b=some o∧∀ vs,o.data≠.fields vs:=fun b hb=>(f.fl.2.2.1.mem hb).2
theorem jU.move(f:jU P w outer H s e cls H' B a0 s')(fl:Heap.FlyingW B outer e cls a0 h2)(up:s'.heap.UpToSlots h2):jU P w outer H s e cls H' B a0 { s' with heap:=h2 }:=by
 obtain ⟨u2,ok2⟩:=Ho f.un f.hok f.uP f.xJ f.frames f.fl.1 fl.1 up
 exact⟨f.os,f.bare,u2,ok2,fl,f.uP,f.xJ⟩
end
section
variable {X:Cx}{pins:List (Addr × Obj)}{σ:St}{H H':Hp}{s s':Shared}{e:Addr}{cls a0:Value}{B h2:Heap}
theorem jU.inv(I:Inv X pins σ H s)(f:jU X.prog X.w X.stack H s e cls H' B a0 s'):Inv X pins σ H' s':=I.call' (ch:=[]) f.os f.un f.hok f.bare (fun _ z=>nomatch z)
theorem jU.leave(I:Inv X pins σ H s)(hx:X.ex=[])(hs:X.stack=X.env::X.outer)(hf:X.env.frame=some X.env.locals)(f:jU X.prog X.w X.stack H s e cls H' B a0 s')(fl:Heap.FlyingW B X.outer e cls a0 h2)(up:s'.heap.UpToSlots h2) :
  jU X.prog X.w X.outer X.H₀ X.s₀ e cls H' B a0 { s' with heap:=h2 }:=by
 obtain ⟨u2,ok2⟩:=Ho f.un f.hok f.uP f.xJ f.frames f.fl.1 fl.1 up
 have J:Inv X pins σ H' { s' with heap:=h2 }:=I.call' (ch:=[]) f.os u2 ok2 f.bare (fun _ z=>nomatch z)
 have hb:=J.base
 rw [hx] at hb
 refine⟨J.os,J.bare,hb,ok2,fl,f.uP,fun b o q nf=>?_⟩
 obtain ⟨o',q'⟩:=I.base.there b o q (by rw [hx]; simp)
 refine f.xJ b o' q' ?_
 rw [hs]
 intro z
 have z':b∈X.env.locals::frs X.outer:=by
  have:frs (X.env::X.outer)=X.env.locals::frs X.outer:=by
   unfold frs
   rw [List.filterMap_cons,hf]
  rw [this] at z
  exact z
 rcases List.mem_cons.mp z' with z | z
 ·subst z
  exact absurd (Nat.lt_of_lt_of_le (Heap.lt_size q) I.ok.above) (Nat.lt_irrefl _)
 ·exact nf z
end
def Cd(X:Cx)(E:XK):Prop:=∀(pins:List (Addr × Obj)) (σ:St) (H:Hp) (s:Shared) (h':Heap) (e C:Addr) (vs:List Value),Inv X pins σ H s→Heap.MadeExcOf s.heap h' e (.ref C) vs→E (.ref C) none H→X.xe (.ref e) { s with heap:=h' }
section
variable {P:Program}{w:World}{K:PySem.W.Frag}{mg:Str→Option Value}{base:Heap}{N:List Str}{qual:Str}{scope:Scope}{f:Addr}{cd:Value}{A:Around}{outer:List Env}{s:Shared}{H:Hp}{E:XK}
theorem iD:Passes (CXe P w) (pP (CXe P w) P w K mg base N qual scope f cd A outer s H E) E:=by
 intro pins σ H1 s1 e s' I ⟨ea,C,H',B,a0,he,fl,hE⟩
 subst he
 exact wpAny_leaves_onW I.ok.frames rfl fl.fl fun h' f' up=>⟨ea,C,H',B,a0,rfl,fl.leave I rfl rfl rfl f' up,hE⟩
theorem Eb:Cd (pP (CXe P w) P w K mg base N qual scope f cd A outer s H E) E:=by
 intro pins σ H1 s1 h' e C vs I hx hE
 obtain ⟨B,hst,cov,hfr⟩:∃ B:Heap,(∀ b o,B.get? b=some o→s1.heap.get? b=some o)∧(∀ b o,s1.heap.get? b=some o→b ∉ frs (pP (CXe P w) P w K mg base N qual scope f cd A outer s H E).stack→∃ o,B.get? b=some o)∧
   s1.heap.FunFrames B (pP (CXe P w) P w K mg base N qual scope f cd A outer s H E).stack:=
  ⟨_,fun b o q=>PySem.W.of_hideAll (frs (pP (CXe P w) P w K mg base N qual scope f cd A outer s H E).stack) q,fun b o q nf=>⟨o,PySem.W.hideAll_get _ q nf⟩,PySem.W.funFrames_hide I.stack fun env he a ha=>List.mem_filterMap.mpr ⟨env,he,ha⟩⟩
 have uP:∀ b,H1 b≠none→∃ o,B.get? b=some o:=fun b hb=>by
  cases q:H1 b with
  | none=>exact absurd q hb
  | some o=>
   obtain ⟨ob,e1⟩:=(I.hok b o q).ex
   exact cov b ob e1 fun z=>by rw [I.vQ b z] at q; cases q
 refine wpAny_leaves_madeW (base:=B) I.ok.frames rfl hst hfr hx fun h2 t fl tup nt up=>⟨e,C,H1,B,.ref t,rfl,?_,hE⟩
 have up2:s1.heap.UpToSlots h2:=(Heap.UpToSlots.of_keeps hx.keeps).trans up
 obtain ⟨u2,ok2⟩:=Ho (outer:=(pP (CXe P w) P w K mg base N qual scope f cd A outer s H E).stack) (h:=s1.heap) (Un.refl (H:=H1) (h:=s1.heap)) I.hok uP cov (fun b hb=>(hfr.mem hb).2) hst fl.1 up2
 have J:Inv (pP (CXe P w) P w K mg base N qual scope f cd A outer s H E) pins σ H1 { s1 with heap:=h2 }:=I.call' (ch:=[]) rfl u2 ok2 I.bare (fun _ z=>nomatch z)
 refine⟨J.os,J.bare,J.base,ok2,fl,uP,fun b o q nf=>?_⟩
 obtain ⟨o',q'⟩:=I.base.there b o q (fun z=>nomatch z)
 refine cov b o' q' fun z=>?_
 rcases List.mem_cons.mp (I.vX b z) with z | z
 ·subst z
  exact absurd (Nat.lt_of_lt_of_le (Heap.lt_size q) I.ok.above) (Nat.lt_irrefl _)
 ·exact nf z
end
end L2
end
section
set_option autoImplicit false
namespace L2
open PySem PySem.Spec PyProof.Rows
def uG(ea C:Addr)(h:Heap):Prop:=∃ ob,h.get? ea=some ob∧ob.cls=.ref C
theorem uG.ty{ea C:Addr}{M:Model}{h:Heap}(x:uG ea C h):PySem.W.Looks M h (typeOf (.ref ea)) (.ref C):=by
 obtain ⟨ob,q,z⟩:=x
 rw [← z]
 exact(PySem.W.Looks.ld q).andThen .now
structure XIn (K:PySem.W.Frag) (C:Addr):Prop where
 ga:PySem.W.findIn K (.ref C) "__getattribute__" = some (some (.builtin "BaseException.__getattribute__"))
 hk:PySem.W.findIn K (.ref C) "__getattr__" = some none
 ca:PySem.W.findIn K (.ref C) "__class__" = some (some (.builtin "object.__class__"))
 gt:PySem.W.specialIn K (.builtin "object.__class__") "__get__" = some (some (.builtin "getset_descriptor.__get__"))
 tk:PySem.W.takesIn K (.builtin "object.__class__")=some true
 ob:PySem.W.mroIn K C (.type "object")=some true
 be:PySem.W.mroIn K C (.type "BaseException")=some true
 cl:(PySem.W.clsIn K C).isSome=true
section
open Builtin Builtin.ObjectAttr Builtin.Getset_descriptor PySem.W
variable {prog:Program}{w:World}{K:PySem.W.Frag}{ea C:Addr}
theorem uK{A:Around}{R:Result→Shared→Prop}{tp:Value}{s:Shared}(X:K.In s.heap)(c:XIn K C)(x:uG ea C s.heap)(h:R (.ok (.ret (.ref C))) s) :
  codeAny (model prog w) A (.call (.builtin "getset_descriptor.__get__") ⟨[.builtin "object.__class__",.ref ea,tp],[]⟩) R s:=by
 obtain ⟨h1,g1,d1,t1,o1⟩:=s
 have La:=x.ty (M:=model prog w)
 have Lb:=looks_mroIn (M:=model prog w) X c.ob
 refine codeAny_call_builtin KF.slot_gs.plain KF.entry_gs ?_
 refine KF.slot_gs.check _ _ _ _ _ _ _ _ KF.type_class (KF.args_gs _ _ _) ?_
 unfold Builtin.«getset_descriptor.__get__»
 unfold descrGet
 rw [dga_obj]
 refine wpAny_bind ?_
 refine wpAny_pure ?_
 unfold descrGetter descrCheckInstance
 unfold descrNameAndClass isInstance
 simp only [KF.owner_class]
 repeat lk
 refine⟨Code.quiet_builtin _ (by decide +kernel),?_⟩
 refine codeAny_builtin KF.entry_class ?_
 unfold Builtin.«object.__class__»
 unfold shownTypeOf
 repeat lk
 exact h
theorem Fy{M:Model}{h:Heap}(X:K.In h)(c:XIn K C):Looks M h (find (.ref ea) (.ref C) "__class__") (.bind (.builtin "getset_descriptor.__get__") (.builtin "object.__class__")):=by
 have l1:=looks_findIn (M:=M) X c.ca
 have l2:Looks M h (getOf (some (.builtin "object.__class__"))) _:=looks_specialIn (M:=M) X c.gt
 have l3:=looks_takesIn (M:=M) X c.tk
 have l4:Looks M h (dataDescriptor? (some (.builtin "object.__class__")) (some (.builtin "getset_descriptor.__get__"))) (some (.builtin "getset_descriptor.__get__",.builtin "object.__class__")):=l3.andThen .now
 exact l1.andThen (l2.andThen (l4.andThen (Looks.tag .now)))
theorem wu{A:Around}{E:Value→Shared→Prop}{Q:Fin→Shared→Prop}{tk:Tok}{s:Shared}(X:K.In s.heap)(c:XIn K C)(x:uG ea C s.heap)(h:Q (.done (.ret (.ref C))) s) :
  wpAny (model prog w) A (Builtin.«object.__getattribute__» ⟨[.ref ea,.str "__class__" tk],[]⟩) Q E s:=by
 obtain ⟨h1,g1,d1,t1,o1⟩:=s
 have La:=x.ty (M:=model prog w)
 have Lb:=Fy (M:=model prog w) (ea:=ea) X c
 repeat (first | (with_reducible refine wpAny_call ?_) | lk)
 refine uK X c x ?_
 repeat lk
 exact h
theorem wC{M:Model}{A:Around}{E:Value→Shared→Prop}{Q:Unit→Shared→Prop}{nv:Value}{s:Shared}(X:K.In s.heap)(c:XIn K C)(x:uG ea C s.heap)(h:Q () s) :
  wpAny M A (checkBuiltinCall "BaseException.__getattribute__" ⟨[.ref ea,nv],[]⟩) Q E s:=by
 obtain ⟨h1,g1,d1,t1,o1⟩:=s
 have La:=x.ty (M:=M)
 have Lb:=looks_mroIn (M:=M) X c.be
 have k1:builtinKind "BaseException.__getattribute__" = some .slot:=by decide +kernel
 have k2:splitId "BaseException.__getattribute__" = some ("BaseException","__getattribute__"):=by decide +kernel
 have k3:=F.args_bexc_ga (.ref ea) nv
 simp only [checkBuiltinCall,k1,k2]
 refine wpAny_bind ?_
 unfold isInstance
 repeat (first | lk | wp_step)
 exact h
theorem K8{A:Around}{E:Value→Shared→Prop}{Q:Option Value→Shared→Prop}{s:Shared}(X:K.In s.heap)(c:XIn K C)(x:uG ea C s.heap)(h:Q (some (.ref C)) { s with toks:=s.toks+1 }) :
  wpAny (model prog w) A (getAttr? (.ref ea) "__class__") Q E s:=by
 obtain ⟨h1,g1,d1,t1,o1⟩:=s
 have La:=x.ty (M:=model prog w)
 have Lb:=looks_findIn (M:=model prog w) X c.ga
 have Lc:=looks_findIn (M:=model prog w) X c.hk
 have n1:(onTheHeap (Value.ref C) && Value.builtin "BaseException.__getattribute__" == Value.builtin "object.__getattribute__")=false:=by
  have:(Value.builtin "BaseException.__getattribute__" == Value.builtin "object.__getattribute__")=false:=by decide +kernel
  rw [this]
  rfl
 have n3:=F.attr_ValueError.ga.bind (.ref ea)
 unfold getAttr? getAttrBy?
 refine wpAny_bind (wpAny_mkText (wpAny_bind (wpAny_attempt ?_)))
 unfold getAttrBy
 refine wpAny_holding ?_
 refine wpAny_bind (La.at ?_)
 refine wpAny_bind (Lb.at ?_)
 dsimp only
 rw [n1]
 rw [if_neg Bool.false_ne_true]
 unfold getAttrByItsOwn hookBefore
 rw [if_pos (show onTheHeap (Value.ref C)=true from rfl)]
 refine wpAny_bind (Lc.at ?_)
 unfold callGetattribute
 rw [if_neg (by decide)]
 unfold boundAndCalled
 rw [n3]
 refine wpAny_bind (wpAny_attempt (wpAny_holding (wpAny_bind (wpAny_pure ?_))))
 refine wpAny_call ?_
 refine codeAny_call_builtin F.attr_ValueError.ga.plain F.entry_bexc_ga (wC X c x (wu X c x ?_))
 repeat lk
 exact h
theorem sy(c:XIn K C):KitX K (.ref ea) (.ref C) (uG ea C) where
 ty:=fun _ _ _ p=>p.ty
 it:=fun M h X p=>by
  have cl:=c.cl
  unfold clsIn at cl
  split at cl
  ·rename_i a1 a2 a3 a4 ho
   intro A1 Q1 E1 s1 k q
   unfold isType loadHead
   refine wpAny_bind ?_
   exact wpAny_loadPart (k _ _ (X _ _ ho)) (wpAny_pure q)
  ·cases cl
 ne:=fun h tp dd its n sl X htp=>by
  have cl:=c.cl
  refine Bool.eq_false_iff.mpr fun q=>?_
  cases (Value.ref.inj (beq_iff_eq.mp q):C=tp)
  unfold clsIn at cl
  split at cl
  ·rename_i a1 a2 a3 a4 ho
   cases (X _ _ ho).symm.trans htp
  ·cases cl
 ca:=fun X p k=>K8 X c p k
end
end L2
end
section
set_option autoImplicit false
namespace L2
open PySem PySem.Spec PyProof.Rows
def qI(ea C:Addr):HO:=.ext (uG ea C)
section
variable {X:Cx}
theorem vU{pins:List (Addr × Obj)}{σ:St}{H:Hp}{s:Shared}{ea C:Addr}(I:Inv X pins σ H s)(h:H ea=some (qI ea C)):uG ea C s.heap:=(show cU X.prog X.w H s.heap ea (.ext (uG ea C)) from I.hok ea _ h).1
theorem Hv:dU X (.builtin "isinstance") (fun xs H Q=>∃ ea C C1 b,xs=[.ref ea,.ref C1]∧H ea=some (qI ea C)∧XIn X.K C∧PySem.W.kitOne X.K (.ref C) (.ref C1)=some b∧Q (.bl b) H):=by
 intro pins s σ H Q xs us I r h
 obtain ⟨ea,C,C1,b,rfl,he,c,e,q⟩:=h
 obtain ⟨u,v,rfl,ru,rv⟩:=vals2 r
 cases (show u=Value.ref ea from ru)
 cases (show v=Value.ref C1 from rv)
 exact PySem.W.kia_one (sy c) I.kIn (vU I he) e (fun z=>nomatch z) fun tk=>⟨.bl b,H,I.tok _,rfl,q⟩
theorem zZ:dU X (.builtin "isinstance") (fun xs H Q=>∃ ea C n b,xs=[.ref ea,.ty n]∧H ea=some (qI ea C)∧XIn X.K C∧PySem.W.kitOne X.K (.ref C) (.type n)=some b∧Q (.bl b) H):=by
 intro pins s σ H Q xs us I r h
 obtain ⟨ea,C,n,b,rfl,he,c,e,q⟩:=h
 obtain ⟨u,v,rfl,ru,rv⟩:=vals2 r
 cases (show u=Value.ref ea from ru)
 cases (show v=Value.type n from rv)
 exact PySem.W.kia_one (sy c) I.kIn (vU I he) e (fun z=>nomatch z) fun tk=>⟨.bl b,H,I.tok _,rfl,q⟩
theorem Bk:∀ {cs:List Addr} {us:List Value},Vals (cs.map V.ref) us→us=cs.map Value.ref
 | [],_,.nil=>rfl
 | c::cs,_,.cons r t=>by
  cases (show _=Value.ref c from r)
  rw [Bk t]
  rfl
theorem yj:dU X (.builtin "isinstance") (fun xs H Q=>∃(ea C tp:Addr) (cs:List Addr) (b:Bool),xs=[.ref ea,.ref tp]∧H ea=some (qI ea C)∧XIn X.K C∧H tp=some (.tup (cs.map V.ref))∧PySem.W.kitAny X.K (.ref C) (cs.map Value.ref)=some b∧Q (.bl b) H):=by
 intro pins s σ H Q xs us I r h
 obtain ⟨ea,C,tp,cs,b,rfl,he,c,ht,e,q⟩:=h
 obtain ⟨u,v,rfl,ru,rv⟩:=vals2 r
 cases (show u=Value.ref ea from ru)
 cases (show v=Value.ref tp from rv)
 obtain ⟨_,its,rr,o,h1,h2,h3⟩:=(show cU X.prog X.w H s.heap tp (.tup (cs.map V.ref)) from I.hok tp _ ht)
 rw [Bk rr] at h3
 obtain ⟨n,h3⟩:=h3
 obtain ⟨oc,od,oda,osl⟩:=o
 dsimp only at h2 h3
 subst h2 h3
 exact PySem.W.kia_tup (sy c) I.kIn (vU I he) h1 e (fun z=>nomatch z) fun tk=>⟨.bl b,H,I.tok _,rfl,q⟩
end
theorem Ia{K:PySem.W.Frag}{h:Heap}{C:Addr}{bmB:List Value}{newId:String}(X:K.In h)(q:PySem.W.excIn K C bmB newId=true) :
  ∃ m1 N1 a1 a2 a3 a4 a5 a6 a7 a8 a9 b0 b1 b2 b3 b5 mN,h.get? C=some (excClassObj a1 a2 C N1 a3 m1 a4 a5 a6 a7 a8 a9 b0 b1 b2 b3 b5 newId)∧h.Ns N1 mN∧mN "__init__" = none∧OwnTail h bmB m1:=by
 unfold PySem.W.excIn at q
 split at q
 ·rename_i dd cd sl ho
  split at q
  ·rename_i C1 m1 b0 b1 b2 b3 nn b5 hm hs
   rw [Bool.and_eq_true,Bool.and_eq_true,Bool.and_eq_true,Bool.and_eq_true,Bool.and_eq_true] at q
   obtain ⟨⟨⟨⟨⟨q1,q2⟩,q3⟩,q4⟩,q5⟩,q6⟩:=q
   cases beq_iff_eq.mp q1
   cases beq_iff_eq.mp q2
   obtain ⟨c1,c2,c3,c4,c5,c6,c7,c8,c9,c10,c11⟩:=cd
   dsimp only at hm q3 q5 q6
   subst hm
   have z3:c11=false:=by cases c11; rfl; cases q3
   subst z3
   obtain ⟨l⟩:=sl
   have z:l=[b0,b1,b2,b3,some (.builtin newId),b5]:=hs
   subst z
   have q6':=beq_iff_eq.mp q6
   exact⟨m1,c4,c1,c5,c2,c6,c7,c8,c9,c10,dd,b0,b1,b2,b3,b5,_,X _ _ ho,.of_isNs (PySem.W.isNs_of_in X q5),PySem.W.nsMap_none_of_in X q5 q6',PySem.W.tail_of_in X q4⟩
  ·cases q
 ·cases q
structure MJ (K:PySem.W.Frag) (mg:Str→Option Value) (x:Str) (C:Addr):Prop where
 m:mg x=some (.ref C)
 ex:PySem.W.excIn K C [.type "ValueError",.type "Exception",.type "BaseException",.type "object"] "ValueError.__new__" = true
 i:XIn K C
def J4(E:XK)(C:Addr)(t:TA):TS:=fun _ σ H=>t σ H fun vs H1=>vs.length≤sizeLine∧E (.ref C) none H1
theorem Gg{X:Cx}{E:XK}{x:Str}{C:Addr}{e:Expr}{es:List Expr}{t:TA}{np cpos pos:Pos}(hE:Cd X E)(hc:X.calm=true)(c:MJ X.K X.mg x C)(hg:Gl X x)(ha:PA X (e::es) t)
  (hdb:(x == ("__debug__" : Str))=false:=by decide) (he:starEach (e::es) X.env=(false,eval e X.env)::starEach es X.env:=by rfl) (hpl:(backTo cpos (starEach es X.env)).any (·.1)=false:=by rfl) :
  PS X (.Raise (some (.Call (.Name x np) (e::es) [] cpos)) none pos) (J4 E C t):=by
 intro pins s σ H D I h
 obtain ⟨m1,N1,a1,a2,a3,a4,a5,a6,a7,a8,a9,b0,b1,b2,b3,b5,mN,hC,hN,hni,T⟩:=Ia I.ok.mod.kin c.ex
 refine wpAny_Raise_call_subT (C:=C) (nm:=a1) (q:=a2) (N:=N1) (bs:=a3) (bm:=m1) (hdct:=a4) (sn:=a5) (sub:=a6) (ab:=a7) (col:=a8) (dd:=a9) (k0:=b0) (k1:=b1) (k2:=b2) (k3:=b3) (k5:=b5) F.excBase_ValueError (mN:=mN)
  (T.hasType F.excBase_ValueError.hasBase) (I.ok.hd hc) (by rw [he]; show (false || (backTo cpos (starEach es X.env)).any (·.1))=false; rw [hpl]; rfl) hni (pI I hg c.m ⟨rfl,?_⟩ hdb)
 have hw:=ha cpos pins s σ H _ I h
 rw [he] at hw ⊢
 refine Calls.evalArgs_plain (wpAny_mono hw (fun us s1 ⟨vs,H1,I1,r,hl,q⟩=>?_) fun _ _ y=>y)
 refine⟨rfl,?_,I1.bk _ _ hC,hN.keeps I1.bk,T.keeps I1.bk,fun h' ea hm=>hE pins σ H1 s1 h' ea C us I1 hm q⟩
 show us.length≤sizeLine
 rw [← r.length]
 exact hl
end L2
end
section
set_option autoImplicit false
namespace L2
open PySem PySem.Spec PyProof.Rows
structure Fnd (K:PySem.W.Frag) (mg:Str→Option Value) (x:Str) (st:Stmt) (ps:List Str) (f:Addr) (fd:FuncData):Prop where
 fn:Fun K x x st f fd
 b:Binds K fd ps []
 m:mg x=some (.ref f)
theorem aJ{X:Cx}{x:Str}{st:Stmt}{ps:List Str}{f:Addr}{fd:FuncData}{k:Nat}{sp:Sp}{e:Expr}{es:List Expr}{t:TA}{p pos:Pos}(D:Fnd X.K X.mg x st ps f fd)(G:aU X.prog X.w X.K X.mg X.base CX0 k f fd ps sp)(hr:jw k X.A)(hg:Gl X x)(ha:PA X (e::es) t)
  (hdb:(x == ("__debug__" : Str))=false:=by decide) (he:starEach (e::es) X.env=(false,eval e X.env)::starEach es X.env:=by rfl) (hpl:(backTo pos (starEach es X.env)).any (·.1)=false:=by rfl):PE X (.Call (.Name x p) (e::es) [] pos) (Bs sp [] E0 t):=
 Bw G hr hg D.m D.fn.kp D.b .nil Ma ha hdb he hpl
theorem cF:bootBuiltins "len" = some (.builtin "len"):=by decide +kernel
theorem bf:bootBuiltins "isinstance" = some (.builtin "isinstance"):=by decide +kernel
theorem Kl:bootBuiltins "int" = some (.type "int"):=by decide +kernel
theorem Bf:bootBuiltins "bool" = some (.type "bool"):=by decide +kernel
theorem tQ:bootBuiltins "str" = some (.type "str"):=by decide +kernel
theorem bJ:bootBuiltins "tuple" = some (.type "tuple"):=by decide +kernel
theorem vM:bootBuiltins "list" = some (.type "list"):=by decide +kernel
theorem Kq:bootBuiltins "abs" = some (.builtin "abs"):=by decide +kernel
theorem ji:bootBuiltins "all" = some (.builtin "all"):=by decide +kernel
theorem G7:bootBuiltins "any" = some (.builtin "any"):=by decide +kernel
theorem wQ:bootBuiltins "max" = some (.builtin "max"):=by decide +kernel
theorem Gn:bootBuiltins "min" = some (.builtin "min"):=by decide +kernel
def Mz(t u:TS):TS:=fun D σ H=>∃ M:St→Hp→Prop,t { D with nx:=M } σ H∧∀ σ' H',M σ' H'→u D σ' H'
theorem lB{X:Cx}{st:Stmt}{rest:List Stmt}{t u:TS}(h1:PS X st t)(h2:PSs X rest u):PSs X (st::rest) (Mz t u):=by
 intro pins s σ H D I h
 obtain ⟨M,h,hM⟩:=h
 refine wpAny_execs_cons (thn (h1 pins s σ H _ I h) fun f s1 q=>?_)
 cases f with
 | next=>
  obtain ⟨σ1,H1,I1,m1⟩:=q
  exact h2 pins s1 σ1 H1 D I1 (hM σ1 H1 m1)
 | brk=>exact q
 | cont=>exact q
 | ret u=>exact q
def Off(p:Addr)(H H':Hp):Prop:=∀ b o,b≠p→H b=some o→H' b=some o
theorem Off.refl(p:Addr)(H:Hp):Off p H H:=fun _ _ _ e=>e
theorem Off.trans{p:Addr}{H H1 H2:Hp}(a:Off p H H1)(b:Off p H1 H2):Off p H H2:=fun c o n e=>b c o n (a c o n e)
theorem Off.upd{p:Addr}{H:Hp}{o:HO}:Off p H (upd H p o):=fun c u n e=>by rw [aA n]; exact e
theorem Off.new{p q:Addr}{H:Hp}{o:HO}(h:H q=none):Off p H (L2.upd H q o):=fun c u _ e=>by rw [aA (aB e h)]; exact e
theorem Same.off{p:Addr}{H H':Hp}(h:Same H H'):Off p H H':=fun c u _ e=>h c u e
theorem Same.new{q:Addr}{H:Hp}{o:HO}(h:H q=none):Same H (upd H q o):=fun c u e=>by rw [aA (aB e h)]; exact e
theorem oX{α:Type}{xs:List α}{i:Int}(h0:0≤i)(h1:i < xs.length):∃ v,atI xs i=some v∧v∈xs∧xs[i.toNat]?=some v:=by
 have h:i.toNat < xs.length:=by omega
 refine⟨xs[i.toNat],?_,List.getElem_mem h,List.getElem?_eq_getElem h⟩
 have:=aV (xs:=xs) (j:=i.toNat) (v:=xs[i.toNat]) (List.getElem?_eq_getElem h)
 rw [Int.toNat_of_nonneg h0] at this
 exact this
theorem su{ns:List Str}{i:Int}(h0:0≤i)(h1:i < ns.length):∃ x,atI (ns.map V.str) i=some (.str x)∧x∈ns∧ns[i.toNat]?=some x:=by
 obtain ⟨v,e,m,g⟩:=oX (xs:=ns.map V.str) h0 (by rw [List.length_map]; exact h1)
 rw [List.getElem?_map] at g
 cases q:ns[i.toNat]? with
 | none=>rw [q] at g; cases g
 | some x=>
  rw [q] at g
  cases g
  exact⟨x,e,List.mem_of_getElem? q,rfl⟩
theorem Jd{as:List Str}{a b c:Int}:¬ HO.lst [.int a,.int b,.int c]=HO.lst (as.map V.str):=by
 intro h
 cases as with
 | nil=>cases h
 | cons x r=>
  injection h with h
  injection h with h
  cases h
theorem iw{x:Str}{ns:List Str}:inV (.str x) (ns.map V.str)=decide (x∈ns):=by
 unfold inV
 rw [List.any_map]
 apply Bool.eq_iff_iff.mpr
 rw [List.any_eq_true,decide_eq_true_iff]
 constructor
 ·rintro ⟨y,hy,e⟩
  have:(y == x)=true:=e
  rw [beq_iff_eq] at this
  rw [← this]
  exact hy
 ·intro h
  exact⟨x,h,by show (x == x)=true; simp⟩
theorem gW(ns:List Str):(ns.map V.str).all mH=true:=by
 rw [List.all_map,List.all_eq_true]
 exact fun _ _=>rfl
theorem Ci{X:Cx}{K:PySem.W.Frag}(h:X.K=K):OpR X (compareOp .In) (rIn K false):=by subst h; exact ql
theorem zY{X:Cx}{K:PySem.W.Frag}(h:X.K=K):OpR X (compareOp .NotIn) (rIn K true):=by subst h; exact jH
theorem jL{X:Cx}{K:PySem.W.Frag}(h:X.K=K):IxR X (IW K):=by subst h; exact bT
theorem dW{X:Cx}{K:PySem.W.Frag}(h:X.K=K):IxR X (Jg K):=by subst h; exact dG
theorem El{X:Cx}{K:PySem.W.Frag}(h:X.K=K):SlR X (Ie K):=by subst h; exact j8
theorem kO{X:Cx}{K:PySem.W.Frag}{es:List Expr}{k:Nat}{t:TGs}{n:Nat}{pos:Pos}(hk:X.K=K)(hc:X.calm=true)(h:PGs X es t)(hn:(assignEach es X.env).length=n:=by rfl)(hst:(assignEach es X.env).findIdx? (·.1)=none:=by rfl) :
  PG X (.Tuple es k pos) (Ly K n t):=by subst hk; exact sX hc h hn hst
def okF(scope:Scope)(N0 N own:List Str)(fr:List Nat)(j:Nat):Bool:=match fr[j]? with
 | none=>false
 | some i=>match N[own.length+j]?,N0[i]? with
  | some x,some y=>(x == y) && (scope.names.lookup x == some .free)
  | _,_=>false
def CSc(scX:Scope)(N0:List Str)(scope:Scope)(own:List Str)(fr:List Nat)(N:List Str):Prop:=
 scope.kind=.function∧(scope.names.map (·.1)).Nodup∧(∀ y∈scope.names,y.2=.local→scope.names.lookup y.1=some .local)∧(∀ y∈scope.names,y.2=.free→scX.names.lookup y.1=some .cell∨scX.names.lookup y.1=some .free)∧
  N.length=own.length+fr.length∧(∀ j∈List.range fr.length,okF scope N0 N own fr j=true)∧N.take own.length=own
instance (scX:Scope) (N0:List Str) (scope:Scope) (own:List Str) (fr:List Nat) (N:List Str):Decidable (CSc scX N0 scope own fr N):=by
 unfold CSc
 infer_instance
theorem aM.of{X:Cx}{scope:Scope}(own:List Str)(fr:List Nat)(N:List Str)(scX:Scope)(N0:List Str)(hsc:X.env.scope=scX)(hN:X.N=N0)(h:CSc scX N0 scope own fr N):aM X scope own fr N where
 kind:=h.1
 nodup:=h.2.1
 names:=h.2.2.1
 free:=fun y hy e=>by
  show X.env.scope.names.lookup y.1=_∨X.env.scope.names.lookup y.1=_
  rw [hsc]
  exact h.2.2.2.1 y hy e
 len:=h.2.2.2.2.1
 Ke:=fun j i e=>by
  have hj:j < fr.length:=(List.getElem?_eq_some_iff.mp e).1
  have q:=h.2.2.2.2.2.1 j (List.mem_range.mpr hj)
  unfold okF at q
  rw [e] at q
  simp only at q
  cases e1:N[own.length+j]? with
  | none=>rw [e1] at q; simp at q
  | some x=>
   cases e2:N0[i]? with
   | none=>rw [e1,e2] at q; simp at q
   | some y=>
    rw [e1,e2] at q
    simp only [Bool.and_eq_true,beq_iff_eq] at q
    exact⟨x,rfl,by rw [hN,e2,q.1],q.2⟩
 frs:=fun j x e hj=>by
  rw [← h.2.2.2.2.2.2,List.getElem?_take_of_lt hj]
  exact e
theorem jC{env:Env}{scope:Scope}{x:Str}(h:scope.names.lookup x=some .cell):(relabel scope env).names.lookup x=some .cell:=by
 unfold relabel
 show List.lookup x (List.map _ _)=_
 rw [gq (scope:=scope),h]
 rfl
theorem aM.of2{X:Cx}{scope sc0:Scope}{e0:Env}(own:List Str)(fr:List Nat)(N:List Str)(N0:List Str)(hsc:X.env.scope=relabel sc0 e0)(hN:X.N=N0)(h:CSc sc0 N0 scope own fr N):aM X scope own fr N where
 kind:=h.1
 nodup:=h.2.1
 names:=h.2.2.1
 free:=fun y hy e=>by
  show X.env.scope.names.lookup y.1=_∨X.env.scope.names.lookup y.1=_
  rw [hsc]
  rcases h.2.2.2.1 y hy e with z | z
  ·exact .inl (jC z)
  ·unfold relabel
   show List.lookup y.1 (List.map _ _)=_∨List.lookup y.1 (List.map _ _)=_
   rw [gq (scope:=sc0),z]
   simp only [Option.map_some]
   split
   ·exact .inl rfl
   ·exact .inr rfl
 len:=h.2.2.2.2.1
 Ke:=fun j i e=>by
  have hj:j < fr.length:=(List.getElem?_eq_some_iff.mp e).1
  have q:=h.2.2.2.2.2.1 j (List.mem_range.mpr hj)
  unfold okF at q
  rw [e] at q
  simp only at q
  cases e1:N[own.length+j]? with
  | none=>rw [e1] at q; simp at q
  | some x=>
   cases e2:N0[i]? with
   | none=>rw [e1,e2] at q; simp at q
   | some y=>
    rw [e1,e2] at q
    simp only [Bool.and_eq_true,beq_iff_eq] at q
    exact⟨x,rfl,by rw [hN,e2,q.1],q.2⟩
 frs:=fun j x e hj=>by
  rw [← h.2.2.2.2.2.2,List.getElem?_take_of_lt hj]
  exact e
end L2
end
section
set_option autoImplicit false
namespace L2
open PySem PySem.Spec PyProof.Rows
section
variable {X:Cx}{pins:List (Addr × Obj)}{σ:St}{H:Hp}{s:Shared}
abbrev Cx.suite(X:Cx)(ea:Addr):Cx:={ X with A:=X.A.mark (some (.ref ea)),calm:=false,xe:=fun _ _=>False }
theorem Inv.suite(I:Inv X pins σ H s)(ea:Addr):Inv (X.suite ea) pins σ H s:=
 ⟨⟨I.ok.mod,I.ok.kind,I.ok.glob,I.ok.blt,I.ok.above,I.ok.inj,I.ok.has,I.ok.cab,(fun z=>nomatch z),I.ok.frames,I.ok.stk,I.ok.exf,I.ok.bs,I.ok.bsz,I.ok.yS,I.ok.yR,I.ok.qO,I.ok.frf⟩,I.os,I.bare,I.base,I.loc,I.cell,I.free,I.jZ,I.pin,I.hok,I.len⟩
theorem Inv.rF{s':Shared}{σ':St}{H':Hp}{ea:Addr}(O:X.Ok)(I:Inv (X.suite ea) pins σ' H' s'):Inv X pins σ' H' s':=⟨O,I.os,I.bare,I.base,I.loc,I.cell,I.free,I.jZ,I.pin,I.hok,I.len⟩
theorem name_goes{M:Model}{A:Around}{E:Value→Shared→Prop}{i:Nat}{x:Str}{pos:Pos}{Q:Unit→Shared→Prop}(I:Inv X pins σ H s)(hN:X.N.Nodup)(hi:X.N[i]?=some x)(hk:X.env.scope.names.lookup x=some .local)
  (h:∀ s',Inv X pins (σ.set i none) H s'→Q () s'):wpAny M A (do bindName X.env x .none; unbindBehindTheSuite X.env x pos) Q E s:=by
 obtain ⟨m,hn,hl⟩:=id I.loc
 have hcls:(X.env.scope.kind == .class || (X.env.scope.kind == .module && X.env.locals != X.env.globals))=false:=by rw [I.ok.kind]; rfl
 have hiσ:i < σ.length:=by rw [I.len]; exact(List.getElem?_eq_some_iff.mp hi).1
 have cne:=I.cne
 refine wpAny_nameGoes_keeps hk hn hcls fun h' v hn' hs=>?_
 obtain ⟨oL,_,_,hoL,_⟩:=id hn
 refine h _ ⟨I.ok,I.os,I.bare,⟨fun b o e n hb hx=>?_,fun b o e n hb hx=>?_,I.base.free,fun b o e hx=>?_,I.base.tups,I.base.rB,I.base.tR⟩,⟨_,hn',fun j y v' e1 e2 e3=>?_⟩,fun y c e=>?_,I.free,I.jZ,fun p hp=>?_,fun b ob e=>?_,by simpa using I.len⟩
 ·exact(hs.2 b (Nat.ne_of_lt (Nat.lt_of_lt_of_le (Heap.lt_size e) I.ok.above))).trans (I.base.keep b o e n hb hx)
 ·obtain ⟨sl,e1⟩:=I.base.slot b o e n hb hx
  exact⟨sl,(hs.2 b (Nat.ne_of_lt (Nat.lt_of_lt_of_le (Heap.lt_size e) I.ok.above))).trans e1⟩
 ·obtain ⟨o',e1⟩:=I.base.there b o e hx
  exact⟨o',(hs.2 b (Nat.ne_of_lt (Nat.lt_of_lt_of_le (Heap.lt_size e) I.ok.above))).trans e1⟩
 ·by_cases hj:j=i
  ·subst hj
   rw [List.getElem?_set_self hiσ] at e2
   cases e2
  ·rw [List.getElem?_set_ne (Ne.symm hj)] at e2
   obtain ⟨u',r',q⟩:=hl j y v' e1 e2 e3
   refine⟨u',r',?_⟩
   rcases q with ⟨k,e⟩ | ⟨k,c,e,z⟩
   ·refine .inl ⟨k,?_⟩
    have:y≠x:=fun e=>hj (tE hN e1 (e ▸ hi))
    simp [this,e]
   ·exact .inr ⟨k,c,e,z.sameBut hs (cne y c e)⟩
 ·obtain ⟨w',z⟩:=I.cell y c e
  exact⟨w',z.sameBut hs (cne y c e)⟩
 ·obtain ⟨e,n,ne,nf,d⟩:=I.pin p hp
  exact⟨(hs.2 p.1 ne).trans e,n,ne,nf,d⟩
 ·refine(I.hok b ob e).stay (fun c w' hc q=>(hs.2 c ?_).trans q) (fun _ q=>q) fun _ _ q=>q
  rintro rfl
  rcases hc with rfl | hc
  ·rw [I.free] at e; cases e
  ·rw [I.free] at hc; cases hc
theorem jU.caught{s':Shared}{H':Hp}{ea C:Addr}{B:Heap}{a0:Value}(I:Inv X pins σ H s)(f:jU X.prog X.w X.stack H s ea (.ref C) H' B a0 s'):H' ea=none∧Inv X pins σ (upd H' ea (qI ea C)) s':=by
 obtain ⟨b1,b2,b3,oe,vs,T,oT,ts,he,⟨hc,h0⟩,hd,_⟩:=id f.fl
 have nS:s.heap.get? ea=none:=by
  cases q:s.heap.get? ea with
  | none=>rfl
  | some o=>
   by_cases hf:ea∈frs X.stack
   ·obtain ⟨o',e',hd'⟩:=f.frames ea hf
    rw [he] at e'
    cases e'
    exact absurd hd (hd' vs)
   ·obtain ⟨o',e'⟩:=f.xJ ea o q hf
    rw [b2] at e'
    cases e'
 have nH:H' ea=none:=by
  cases q:H' ea with
  | none=>rfl
  | some o=>
   obtain ⟨o',e'⟩:=f.uP ea (by rw [q]; simp)
   rw [b2] at e'
   cases e'
 refine⟨nH,?_⟩
 have ne:∀ b u,H' b=some u→b≠ea:=fun b u e z=>by rw [z,nH] at e; cases e
 refine I.call' (ch:=[]) f.os ⟨f.un.keep,f.un.slot,fun b o q n nx=>?_,f.un.there,fun b xs q=>?_,fun b o u q=>?_,fun b ps q=>?_⟩ (fun b o q=>?_) f.bare (fun _ z=>nomatch z)
 ·rw [aA (fun z=>by rw [z,nS] at q; cases q)]
  exact f.un.free b o q n nx
 ·have e:=f.un.tups b xs q
  rw [aA (ne _ _ e)]
  exact e
 ·have e:=f.un.rB b o u q
  rw [aA (ne _ _ e)]
  exact e
 ·obtain ⟨more,e⟩:=f.un.tR b ps q
  exact⟨more,by rw [aA (ne _ _ e)]; exact e⟩
 ·by_cases hb:b=ea
  ·subst hb
   rw [ak] at q
   cases q
   exact⟨⟨oe,he,hc⟩,⟨oe,he⟩,fun h1 h2 ⟨ob,q,z⟩ k=>⟨ob,k _ q,z⟩⟩
  ·rw [aA hb] at q
   refine(f.hok b o q).stay (fun _ _ _ z=>z) (fun c z=>?_) fun c xs z=>?_
   ·rw [aA (ne _ _ z)]
    exact z
   ·rw [aA (ne _ _ z)]
    exact z
end
def XP(X:Cx)(pins:List (Addr × Obj))(σ:St)(E:XK)(e:Value)(s':Shared):Prop:=∃ ea C H s H' B a0,e=.ref ea∧Inv X pins σ H s∧jU X.prog X.w X.stack H s ea (.ref C) H' B a0 s'∧E (.ref C) none H'
theorem Ih{X:Cx}{x:Str}{st:Stmt}{ps:List Str}{f:Addr}{fd:FuncData}{k:Nat}{sp:Sp}{e:Expr}{es:List Expr}{t:TA}{p pos:Pos}(D:Fnd X.K X.mg x st ps f fd)(G:aU X.prog X.w X.K X.mg X.base (CXe X.prog X.w) k f fd ps sp)(hr:jw k X.A)(hg:Gl X x)(ha:PA X.nox (e::es) t)
  {pins:List (Addr × Obj)} {s:Shared} {σ:St} {H:Hp} {Q:VK} {E:XK} (I:Inv X pins σ H s) (h:Bs sp [] E t σ H Q)
  (hdb:(x == ("__debug__" : Str))=false:=by decide) (he:starEach (e::es) X.env=(false,eval e X.env)::starEach es X.env:=by rfl) (hpl:(backTo pos (starEach es X.env)).any (·.1)=false:=by rfl) :
  wpAny (model X.prog X.w) X.A (eval (.Call (.Name x p) (e::es) [] pos) X.env) (EP X pins σ Q) (XP X pins σ E) s:=by
 refine wpAny_Call_Name_kw (pI I hg D.m ?_ hdb)
 refine PySem.W.callWith_K (h₀:=X.base) I.ok.mod.kin D.fn.kp (wpAny_mono (ha pos pins s σ H _ (I.wish _) h) (fun us s1 ⟨vs,H1,I1,r,q⟩=>⟨I1.kI.kIn,?_⟩) fun _ _ z=>False.elim z) he hpl
 have J:=I1.kI
 have q':sp vs H1 Q E:=by
  have q2:sp (vs++[]) H1 Q E:=q
  rw [List.append_nil] at q2
  exact q2
 have hl:us.length=ps.length:=by rw [← r.length]; exact G.len _ _ _ _ q'
 have hb:=D.b s1 us J.kIn (by rw [List.append_nil]; exact hl)
 rw [List.append_nil] at hb
 refine wpAny_call (codeAny_mono (G.run X.A X.stack s1 H1 ⟨us,[]⟩ us vs Q E hr J.env0 hb r q') fun rr s' hq=>?_)
 cases rr with
 | error e=>
  obtain ⟨ea,C,H',B,a0,he,fl,hE⟩:=hq
  exact⟨ea,C,H1,s1,H',B,a0,he,J,fl,hE⟩
 | ok fl=>
  cases fl with
  | ret u=>exact J.after hq
  | next=>exact False.elim hq
  | brk=>exact False.elim hq
  | cont=>exact False.elim hq
def PH(X:Cx)(hs:List ExceptHandler)(t:Addr→TS):Prop:=∀(pins:List (Addr × Obj)) (s:Shared) (σ:St) (H:Hp) (s':Shared) (ea C:Addr) (H':Hp) (B:Heap) (a0:Value) (D:Ends),Inv X pins σ H s→jU X.prog X.w X.stack H s ea (.ref C) H' B a0 s'→t C D σ H'→
 wpAny (model X.prog X.w) X.A (handleBy (.ref ea) X.env hs) (SP X pins D) X.xe s'
def M6:Addr→TS:=fun _ _ _ _=>False
theorem Kp{X:Cx}:PH X [] M6:=fun _ _ _ _ _ _ _ _ _ _ _ _ _ h=>h.elim
def Ga(i:Nat)(D:Ends):Ends:={ nx:=fun σ H=>D.nx (σ.set i none) H,rt:=D.rt,bk:=fun σ H=>D.bk (σ.set i none) H,ct:=fun σ H=>D.ct (σ.set i none) H }
def Ml(K:PySem.W.Frag)(C1:Addr)(i:Nat)(ts:TS)(tr:Addr→TS):Addr→TS:=fun C D σ H=>∃ b,PySem.W.exmOne K (.ref C) (.ref C1)=some b∧
 if b=true then ∀ ea,H ea=none→ts (Ga i D) (σ.set i (some (.ref ea))) (upd H ea (qI ea C)) else tr C D σ H
theorem Ji{X:Cx}{x n:Str}{C1:Addr}{np pos:Pos}{b0:Stmt}{suite:List Stmt}{rest:List ExceptHandler}{i:Nat}{ts:TS}{tr:Addr→TS}(hg:Gl X x)(hm:X.mg x=some (.ref C1))(hN:X.N.Nodup)(hi:X.N[i]?=some n)(hk:X.env.scope.names.lookup n=some .local)
  (hsuite:∀ ea,PSs (X.suite ea) (b0::suite) ts) (hrest:PH X rest tr) (hdb:(x == ("__debug__" : Str))=false:=by decide) :
  PH X (.ExceptHandler (some (.Name x np)) (some n) (b0::suite) pos::rest) (Ml X.K C1 i ts tr):=by
 intro pins s σ H s' ea C H' B a0 D I f h
 obtain ⟨b,he,h⟩:=h
 have J:=f.inv I
 have LT:PySem.W.Looks (model X.prog X.w) s'.heap (typeOf (.ref ea)) (.ref C):=by
  obtain ⟨ob,q,z⟩:=f.fl.there
  exact uG.ty ⟨ob,q,z⟩
 refine wpAny_handleBy_cons (codeAny_handlers_test ?_) (by intro q; cases q)
 refine pI (X:=X.suite ea) (J.suite ea) hg hm ?_ hdb
 refine(PySem.W.exm_one J.kIn LT he).here ?_
 cases b with
 | false=>
  rw [if_neg Bool.false_ne_true] at h
  exact hrest pins s σ H s' ea C H' B a0 D I f h
 | true=>
  rw [if_pos rfl] at h
  show codeAny (model X.prog X.w) (X.A.mark (some (.ref ea))) (.handlers (.ref ea) [.ExceptHandler none (some n) (b0::suite) pos] X.env) _ s'
  refine codeAny_handlers_suite_as ?_
  refine lands_againW f.fl fun h6 fl6 up6=>?_
  obtain ⟨nH,J6⟩:=(f.move fl6 up6).caught I
  refine tV (X:=X.suite ea) (v:=.ref ea) (J6.suite ea) hN hi (.inl hk) rfl (fun s7 J7=>?_) (.inr hk)
  refine wpAny_mono (hsuite ea pins s7 _ _ (Ga i D) J7 (h ea nH)) (fun fl s8 q=>?_) (fun _ _ z=>False.elim z)
  cases fl with
  | next=>
   obtain ⟨σ',H2,I2,q⟩:=q
   exact name_goes (I2.rF I.ok) hN hi hk fun s9 I9=>⟨_,_,I9,q⟩
  | brk=>
   obtain ⟨σ',H2,I2,q⟩:=q
   exact name_goes (I2.rF I.ok) hN hi hk fun s9 I9=>⟨_,_,I9,q⟩
  | cont=>
   obtain ⟨σ',H2,I2,q⟩:=q
   exact name_goes (I2.rF I.ok) hN hi hk fun s9 I9=>⟨_,_,I9,q⟩
  | ret u=>
   obtain ⟨v,σ',H2,I2,r,q⟩:=q
   exact name_goes (I2.rF I.ok) hN hi hk fun s9 I9=>⟨v,_,_,I9,r,q⟩
def NQ(sp:Sp)(t:TA)(th:Addr→TS):TS:=fun D σ H=>t σ H fun vs H1=>sp (vs++[]) H1 (fun _ H2=>D.nx σ H2) (fun cls _ H2=>∃ C,cls=.ref C∧th C D σ H2)
theorem K3{X:Cx}{x:Str}{st:Stmt}{ps:List Str}{f:Addr}{fd:FuncData}{k:Nat}{sp:Sp}{e:Expr}{es:List Expr}{t:TA}{p pos epos tpos:Pos}{h0:ExceptHandler}{hs:List ExceptHandler}{th:Addr→TS}(D:Fnd X.K X.mg x st ps f fd)(G:aU X.prog X.w X.K X.mg X.base (CXe X.prog X.w) k f fd ps sp)(hr:jw k X.A)(hg:Gl X x)(ha:PA X.nox (e::es) t)
  (hstk:X.stack=X.env::X.outer∧X.env.frame=some X.env.locals) (hh:PH X (h0::hs) th)
  (hdb:(x == ("__debug__" : Str))=false:=by decide) (he:starEach (e::es) X.env=(false,eval e X.env)::starEach es X.env:=by rfl) (hpl:(backTo pos (starEach es X.env)).any (·.1)=false:=by rfl)
  (hsw:swapsWith (.Call (.Name x p) (e::es) [] pos) none epos.line X.env=pure false:=by rfl) :
  PS X (.Try [.Expr (.Call (.Name x p) (e::es) [] pos) epos] (h0::hs) [] [] tpos) (NQ sp t th):=by
 intro pins s σ H Dn I h
 refine wpAny_Try_except ?_
 have hc:=Ih (p:=p) (pos:=pos) D G hr hg ha (E:=fun cls _ H2=>∃ C,cls=.ref C∧th C Dn σ H2) (Q:=fun _ H2=>Dn.nx σ H2) I h hdb he hpl
 refine wpAny_execs_cons (wpAny_mono (wpAny_Expr_any (Q:=fun fl s1=>fl=.next∧∃ H2,Inv X pins σ H2 s1∧Dn.nx σ H2) (thn hc fun v s1 ⟨x,H1,I1,r1,q1⟩=>⟨rfl,H1,I1,q1⟩) I.quiet hsw) (fun fl s1 q=>?_) fun ev s1 q=>?_)
 ·obtain ⟨rfl,H2,I2,q⟩:=q
  exact wpAny_execs_nil (wpAny_execs_nil ⟨σ,H2,I2,q⟩)
 ·obtain ⟨ea,C,H1,s2,H',B,a0,rfl,J,fl,C',hC,q⟩:=q
  cases hC
  have hfr:X.A.frames=some (X.env::X.outer):=by rw [← hstk.1]; exact I.ok.frames
  have ffl:Heap.FlyingW B (X.env::X.outer) ea (.ref C) a0 s1.heap:=by rw [← hstk.1]; exact fl.fl
  refine wpAny_looks_onW hfr hstk.2 ffl fun h4 held up4=>?_
  refine wpAny_landsW held fun h5 fl5 up5=>?_
  exact hh pins s2 σ H1 _ ea C H' B a0 Dn J (fl.move (by rw [hstk.1]; exact fl5) (up4.trans up5)) q
theorem Fun.okX{P:Program}{w:World}{K:PySem.W.Frag}{mg:Str→Option Value}{base:Heap}{x qual:Str}{st:Stmt}{f:Addr}{fd:FuncData}{N ps:List Str}{k:Nat}{sp:Sp}(F:Fun K x qual st f fd)(S:aW N ps (aq st))(len:∀ vs H Q E,sp vs H Q E→vs.length=ps.length)
  (hbody:∀(cdv:Value) (A:Around) (outer:List Env) (s:Shared) (H:Hp) (vs:List V) (Q:VK) (E:XK),jw k (A.deeper (envOfC qual (aq st) s.heap.objs.size f cdv))→sp vs H Q E→
   ∃ t,PSs (pP (CXe P w) P w K mg base N qual (aq st) f cdv A outer s H E) (aD st) t∧t { nx:=fun _ H'=>Q .non H',rt:=Q } (start N vs) H):aU P w K mg base (CXe P w) (k+1) f fd ps sp:=by
 obtain ⟨oc,od,kV,doc,pm,an,cdv,ct,osl,rfl,lk,hcd⟩:=F.ex
 exact JK lk hcd S len fun A outer s H vs Q E hr hsp=>hbody cdv A outer s H vs Q E hr hsp
theorem jN{X:Cx}{x:Str}{st:Stmt}{ps:List Str}{f:Addr}{fd:FuncData}{k:Nat}{sp:Sp}{E:XK}{e:Expr}{es:List Expr}{t:TA}{p pos:Pos}(D:Fnd X.K X.mg x st ps f fd)(G:aU X.prog X.w X.K X.mg X.base (CXe X.prog X.w) k f fd ps sp)(hr:jw k X.A)(hg:Gl X x)(hx:Passes (CXe X.prog X.w) X E)(ha:PA X (e::es) t)
  (hdb:(x == ("__debug__" : Str))=false:=by decide) (he:starEach (e::es) X.env=(false,eval e X.env)::starEach es X.env:=by rfl) (hpl:(backTo pos (starEach es X.env)).any (·.1)=false:=by rfl):PE X (.Call (.Name x p) (e::es) [] pos) (Bs sp [] E t):=
 Bw G hr hg D.m D.fn.kp D.b .nil hx ha hdb he hpl
end L2
end
section
set_option autoImplicit false
namespace L2
open PySem PySem.Spec PyProof.Rows
theorem uN:bootBuiltins "ValueError" = some (.type "ValueError"):=by decide +kernel
theorem zM{X:Cx}{K:PySem.W.Frag}(hK:X.K=K):dU X (.builtin "isinstance") (fun xs H Q=>∃ ea C C1 b,xs=[.ref ea,.ref C1]∧H ea=some (qI ea C)∧XIn K C∧PySem.W.kitOne K (.ref C) (.ref C1)=some b∧Q (.bl b) H):=by subst hK; exact Hv
theorem wk{X:Cx}{K:PySem.W.Frag}(hK:X.K=K):dU X (.builtin "isinstance") (fun xs H Q=>∃ ea C n b,xs=[.ref ea,.ty n]∧H ea=some (qI ea C)∧XIn K C∧PySem.W.kitOne K (.ref C) (.type n)=some b∧Q (.bl b) H):=by subst hK; exact zZ
structure Mi (k:Nat) (A:Around):Prop where
 dp:A.depth+3 * k+5 < recursionLimit
 un:A.units+16 * k+200 < cLine
structure Ov (P:Program) (w:World) (K:PySem.W.Frag) (mg:Str→Option Value) (base:Heap) (k:Nat) (f:Addr) (fd:FuncData) (ps:List Str) (sp:Sp):Prop where
 len:∀ vs H Q E,sp vs H Q E→vs.length=ps.length
 run:∀(A:Around) (outer:List Env) (s:Shared) (H:Hp) (args:Args) (us:List Value) (vs:List V) (Q:VK),Mi k A→GF P w K mg base A outer s H→BindsTo s fd args (ps.zip us)→Vals vs us→sp vs H Q E0→
  codeAny (model P w) A (.call (.ref f) args) (CR CX0 outer P w H s Q E0) s
end L2
end
section
set_option autoImplicit false
namespace L2
open PySem PySem.Spec PyProof.Rows
def Mq(_ j:Int):Prop:=0 < j∧j < 1606938044258990275541962092341162602522202993782792835301376
theorem Gq{X:Cx}:OpR X (binaryOp .FloorDiv) (rI Mq fun i j=>.int (i / j)):=opI fun i j _ _ _ _ _ hc q=>by
 have h1:(0:Int) < j:=hc.1
 have h2:j < 1606938044258990275541962092341162602522202993782792835301376:=hc.2
 refine floordiv_int (by omega) (by rw [Int.fdiv_eq_ediv_of_nonneg i (by omega)]; exact q) (.inl (PyProof.noPylong_of_log2 ?_))
 have h3:j.natAbs≠0:=by omega
 have h4:j.natAbs < 2 ^ 200:=by
  have e:(2:Nat) ^ 200=1606938044258990275541962092341162602522202993782792835301376:=by decide +kernel
  rw [e]
  omega
 exact Nat.lt_trans ((Nat.log2_lt h3).mpr h4) (by decide)
def Fb:R2:=fun x y H Q=>∃(a b:Addr) (ys:List V),x=.ref a∧y=.ref b∧H a=some (.tup [])∧H b=some (.tup ys)∧Q (.ref b) H
theorem Gz{X:Cx}:OpR X (binaryOp .Add) Fb:=by
 intro pins s σ H x y v u Q I rx ry h
 obtain ⟨a,b,ys,rfl,rfl,ha,hb,q⟩:=h
 cases rx
 cases ry
 obtain ⟨its,r,p⟩:=mz I ha
 obtain ⟨its2,r2,p2⟩:=mz I hb
 have e0:its=[]:=r.j7.mpr rfl
 subst e0
 obtain ⟨⟨cls,dd,data,sl⟩,ho,hc,n,hd⟩:=id p
 obtain ⟨⟨cls2,dd2,data2,sl2⟩,ho2,hc2,n2,hd2⟩:=id p2
 simp only at hc hd hc2 hd2
 subst hc hd hc2 hd2
 exact concat_meets ⟨_,ho,rfl⟩ ⟨_,ho2,rfl⟩ noFill_tuple_add seq_tuple_add PySem.F.slot_tuple_add PySem.F.entry_tuple_add (PySem.F.args_tuple_add_2 _ _) (tuple_addW0 a b [].toArray its2.toArray n n2 dd dd2 sl sl2 rfl) ⟨ho,ho2,⟨.ref b,H,I,rfl,q⟩⟩
theorem G3{X:Cx}:OpR X (binaryOp .Add) (fun x y H Q=>JH X.K x y H Q∨Fb x y H Q):=Io.or Gz
end L2
end
section
set_option autoImplicit false
namespace L2
open PySem PySem.Spec PyProof.Rows
section
variable {X:Cx}{pins:List (Addr × Obj)}{σ:St}{H:Hp}{s:Shared}{d:Addr}{u u':HO}
end
theorem G9{P:Program}{w:World}{k:Key}{v:Value}(h:(cP P w).is k v=true):RelV (kV k) v:=by
 rw [Av] at h
 rcases dJ h with ⟨i,t,rfl,rfl⟩ | ⟨x,t,rfl,rfl⟩
 ·exact⟨t,rfl⟩
 ·exact⟨t,rfl⟩
theorem eV{α β:Type}{F:α→β→Prop}:∀ {l₁:List α} {l₂:List β},Paired F l₁ l₂→∀(i:Nat) (h1:i < l₁.length) (h2:i < l₂.length),F l₁[i] l₂[i]
 | _,_,.nil,i,h1,_=>by simp at h1
 | _,_,.cons r t,0,_,_=>r
 | _,_,.cons r t,i+1,h1,h2=>eV t i (by simpa using h1) (by simpa using h2)
section
variable {X:Cx}
theorem FZ(hc:X.calm=true):dU X (.builtin "any") (fun xs H Q=>∃(p:Addr) (bs:List Bool),xs=[.ref p]∧SqL X.K H p (bs.map V.bl)∧Q (.bl (bs.any id)) H):=by
 intro pins s σ H xs us Q I r h
 obtain ⟨p,bs,rfl,hq,q⟩:=h
 obtain ⟨u,rfl,ru⟩:=vals1 r
 cases ru
 obtain ⟨its,rv,pl,hz⟩:=I.list hq
 have hl:=rv.length
 rw [List.length_map] at hl
 refine call_any_walk (wpAny_pyIter_list pl.isList ?_)
 have plt:p < s.heap.objs.size:=by obtain ⟨o,e,_⟩:=pl.isList; exact Heap.lt_size e
 refine⟨s.heap.objs.size,_,_,_,_,_,fun i=>bs.getD i false,rfl,Walks.list (A:=X.A.in1) (I.ok.hd hc) s.heap.objs.size p (Nat.ne_of_lt plt) its.toArray,⟨⟨_,Heap.get?_push_size _ rfl,rfl,rfl⟩,pl.isList.push _⟩,fun i v s' Q' E' hv hQ=>?_,fun h' tk kk=>?_⟩
 ·have hi:i < bs.length:=by
   have:=(Array.getElem?_eq_some_iff.mp hv).1
   rw [List.size_toArray] at this
   omega
  obtain ⟨u,hu,ru⟩:=rv.get (i:=i) (x:=V.bl bs[i]) (by simp [hi])
  have hv':its[i]?=some v:=by simpa using hv
  rw [hv'] at hu
  cases hu
  cases ru
  refine wpAny_truthy_bool ?_
  simpa [hi] using hQ
 ·have ee:((List.range its.toArray.size).any fun i=>bs.getD i false)=bs.any id:=by
   rw [List.size_toArray,← hl]
   apply Bool.eq_iff_iff.mpr
   rw [List.any_eq_true,List.any_eq_true]
   constructor
   ·rintro ⟨i,hi,h⟩
    have hi':=List.mem_range.mp hi
    exact⟨bs[i],List.getElem_mem hi',by simpa [hi'] using h⟩
   ·rintro ⟨b,hb,h⟩
    obtain ⟨i,hi,rfl⟩:=List.getElem_of_mem hb
    exact⟨i,List.mem_range.mpr hi,by simpa [hi] using h⟩
  rw [ee]
  have I1:Inv X pins σ H { s with heap:=s.heap.push { cls:=.type "list_iterator",data:=.fields #[.ref p,.int 0 0] } }:=I.kept (t':=s.toks) fun b o e=>Heap.get?_push_of_some _ e
  refine⟨.bl _,H,I1.turned (t':=tk) (it:=s.heap.objs.size) (fun b o hb e=>kk b o (by simpa using hb) e) (I.hok.fresh (Nat.le_refl _)) (Nat.ne_of_gt I.lt) (.inr I.sz) ?_ ?_,rfl,q⟩
  ·exact(I.mY (Nat.le_refl _) (I.hok.fresh (Nat.le_refl _))).2.2.2.2.1
  ·exact(I.mY (Nat.le_refl _) (I.hok.fresh (Nat.le_refl _))).2.2.2.2.2
end
end L2
end
section
set_option autoImplicit false
namespace L2
open PySem PySem.Spec PyProof.Rows
def Ite(K:PySem.W.Frag)(a:Addr):It:=
 ⟨fun i H=>∃ xs x,SqL K H a xs∧xs[i]?=some x,fun i H v H'=>∃ p,H p=none∧v=.ref p∧∀ xs x,SqL K H a xs→xs[i]?=some x→H'=upd H p (.tup [.int i,x]),fun i H=>∃ xs,SqL K H a xs∧xs.length≤i⟩
theorem uV{P:Program}{w:World}{K:PySem.W.Frag}{elts:List Expr}{x1:Nat}{tpos:Pos}{e it l:Addr}(hne:e≠it):Turn P w K (.Tuple elts x1 tpos) (Ite K l) [e,it] e
  (fun i h=>(∃ old,IsEnum h e it i old)∧h.IsListIter it l i) where
 mem:=by simp
 obj:=fun i h st b hb=>by
  obtain ⟨⟨old,he⟩,o,ei,c,d⟩:=st
  simp only [List.mem_cons,List.not_mem_nil,or_false] at hb
  rcases hb with rfl | rfl
  ·exact⟨_,he,fun v q=>nomatch q⟩
  ·exact⟨o,ei,fun v z=>by rw [d] at z; cases z⟩
 keep:=fun i h h' st k=>by
  obtain ⟨⟨old,he⟩,o,ei,r⟩:=st
  exact⟨⟨old,k e (by simp) _ he⟩,o,k it (by simp) _ ei,r⟩
 item:=by
  intro X hP hw hK hc i pins s σ H E I hf st hg
  subst hP hw hK
  obtain ⟨xs,x,hq,hx⟩:=hg
  obtain ⟨its,rv,p,hz⟩:=I.list hq
  obtain ⟨u,hu,ru⟩:=rv.get hx
  obtain ⟨⟨old,he⟩,hit⟩:=st
  refine wpAny_pyNext_enum_item he hit p.isList (x:=u) (by simpa using hu) hne fun h' a1 a2 a3 a4 a5=>?_
  refine⟨_,rfl,wpAny_letOwnedTupleGo_enum a1 fun h2' a1' q'=>?_⟩
  have hn:H s.heap.objs.size=none:=I.hok.fresh (Nat.le_refl _)
  have elt:e < s.heap.objs.size:=Heap.lt_size he
  have ilt:it < s.heap.objs.size:=by obtain ⟨_,e,_⟩:=hit; exact Heap.lt_size e
  have kk:∀ b ob,b ∉ [e,it]→s.heap.get? b=some ob→h2'.get? b=some ob:=fun b ob hb ee=>by
   simp only [List.mem_cons,List.not_mem_nil,or_false,not_or] at hb
   exact q'.extBut _ _ hb.1 (a5 b ob hb.1 hb.2 ee)
  have I1:Inv X pins σ (upd H s.heap.objs.size (.tup [.int i,x])) { s with heap:=h2',toks:=s.toks+1 }:=I.rY (t':=s.toks+1) hf kk (Nat.le_refl _)
   ⟨⟨by show 2≤sizeLine; decide,fun o ee=>by rw [q'.extBut _ _ (Nat.ne_of_gt elt) a3] at ee; cases ee; rfl⟩,[.int i s.toks,u],.cons ⟨_,rfl⟩ (.cons ru .nil),⟨_,q'.extBut _ _ (Nat.ne_of_gt elt) a3,rfl,_,rfl⟩⟩
  refine⟨.ref s.heap.objs.size,_,I1,rfl,⟨_,hn,rfl,fun xs' x' k1 k3=>?_⟩,⟨⟨_,by simpa using a1'⟩,a2.extBut q'.extBut hne.symm⟩,fun b hb=>?_⟩
  ·rw [I.yD k1 hq,hx] at k3
   cases k3
   rfl
  ·have hb':=hb
   simp only [List.mem_cons,List.not_mem_nil,or_false] at hb'
   have hlt:b < s.heap.objs.size:=by
    rcases hb' with rfl | rfl
    ·exact elt
    ·exact ilt
   rw [aA (Nat.ne_of_lt hlt)]
   exact(hf b hb).1
 done:=by
  intro X hP hw hK hc i pins s σ H E I hf st hg
  subst hP hw hK
  obtain ⟨xs,hq,hx⟩:=hg
  obtain ⟨its,rv,p,hz⟩:=I.list hq
  obtain ⟨⟨old,he⟩,hit⟩:=st
  have hl:=rv.length
  refine wpAny_pyNext_enum_end (I.ok.hd hc) he hit p.isList (by simp; omega) fun h' eb=>⟨rfl,I.rN (t':=s.toks) hf fun b u hb q=>?_⟩
  simp only [List.mem_cons,List.not_mem_nil,or_false,not_or] at hb
  exact eb b u hb.2 q
 self:=fun _ _ _ _ _ st h=>by
  obtain ⟨⟨old,he⟩,_⟩:=st
  exact wpAny_pyIter_enum he h
section
variable {X:Cx}
def Mp(K:PySem.W.Frag)(ta:TA):TI:=fun σ H R=>ta σ H fun vs H1=>∃ a xs,vs=[.ref a]∧SqL K H1 a xs∧R (Ite K a) H1
theorem pY{elts:List Expr}{x1:Nat}{tpos:Pos}{a:Expr}{ta:TA}{p pos:Pos}(hg:Gl X "enumerate")(hm:X.mg "enumerate" = none)(ha:PA X [a] ta)
  (he:starEach [a] X.env=(false,eval a X.env)::starEach [] X.env:=by rfl) (hpl:(backTo pos (starEach [] X.env)).any (·.1)=false:=by rfl):PI X (.Tuple elts x1 tpos) (.Call (.Name "enumerate" p) [a] [] pos) (Mp X.K ta):=by
 intro pins s σ H R I h
 have boot_enum:bootBuiltins "enumerate" = some (.type "enumerate"):=by decide +kernel
 refine wpAny_Call_Name_kw (oR I hg hm boot_enum ?_)
 refine PyProof.Rows.callWith_type1 (thn (ha pos pins s σ H _ I h) fun us s1 ⟨vs,H1,I1,r1,t1,xs,e,q1,q⟩=>?_) he hpl
 subst e
 obtain ⟨u,rfl,ru⟩:=vals1 r1
 cases ru
 obtain ⟨its,rv,p1,hz1⟩:=I1.list q1
 refine call_enumerate_list p1.isList fun h' hE hI hsz hk=>?_
 refine wpAny_pyIter_enum hE ?_
 have I2:Inv X pins σ H1 { s1 with heap:=h' }:=I1.kept (t':=s1.toks) hk
 have hne:s1.heap.objs.size+1≠s1.heap.objs.size:=by change @Ne Nat _ _; omega
 refine⟨s1.heap.objs.size+1,[s1.heap.objs.size+1,s1.heap.objs.size],_,Ite X.K t1,H1,rfl,I2,uV hne,⟨⟨_,hE⟩,hI⟩,fun b hb=>?_,q⟩
 have hle:s1.heap.objs.size≤b:=by
  simp only [List.mem_cons,List.not_mem_nil,or_false] at hb
  rcases hb with h | h <;> rw [h] <;> first | exact Nat.le_refl _ | exact Nat.le_add_right _ _
 exact I1.mY hle (I1.hok.fresh hle)
end
end L2
end
section
set_option autoImplicit false
namespace L2
open PySem PySem.Spec PyProof.Rows
theorem vB:entryFor table "dict.update.loop" = some Builtin.«dict.update.loop»:=entryFor_of_fast (by kernel_rfl)
theorem nP:plainId "dict.update.loop" = true:=by decide +kernel
theorem yH:typeLookup (.type "tuple") "keys" = pure none:=by rw [typeLookup_type,builtinLookup_eq_fast]; kernel_rfl
section
variable {prog:Program}{w:World}{A:Around}{E:Value→Shared→Prop}{s:Shared}
theorem DK{a:Addr}{o:Obj}{xs:Array Value}{k:Nat}{Q:Option Value→Shared→Prop}(hx:s.heap.get? a=some o)(hc:o.cls=.type "tuple")(hdat:o.data=.seq xs k)(hd:o.dict=none)(hA:A.handled=none)
  (h:∀ h' tk,(∀ b o,s.heap.get? b=some o→h'.get? b=some o)→Q none { s with heap:=h',toks:=tk }):wpAny (model prog w) A (getAttr? (.ref a) "keys") Q E s:=by
 obtain ⟨c,dct,dat,sl⟩:=o
 simp only at hc hdat hd
 subst hc hdat hd
 obtain ⟨hp,g,d,tk,os⟩:=s
 have hT:∀ tk',(⟨hp,g,d,tk',os⟩:Shared).TypeIs (.ref a) "tuple" := fun _=>⟨_,hx,rfl⟩
 have f1:=sub_AttributeError
 have f3:=F.slot_tuple_getattribute.lookup
 have f4:=F.slot_tuple_getattribute.bind (.ref a)
 have f5:=am_tuple_getattr_none
 have hm:=yH
 unfold getAttr? getAttrBy? getAttrBy
 repeat (any_goals (first | assumption | exact hT _ | ((with_reducible show wpAny _ _ (call (Value.builtin "tuple.__getattribute__") _ _) _ _ _); refine call_meets F.slot_tuple_getattribute (hT _) am_entry_tuple_getattribute (F.args_tuple_getattribute_2 _ _) (meets_getattribute_miss_tuple a xs k sl "keys" _ hm (by decide +kernel)) ⟨hx,hA,fun h' tk' e hx'=>?_⟩) | wp_step))
 have kk:=hx'.keeps
 obtain ⟨t',u',he⟩:=hx'.there
 show wpAny _ _ (getattributeRaised _ _ _ _ _ _ _) _ _ _
 unfold getattributeRaised
 repeat (any_goals (first | assumption | wp_step))
 all_goals exact h _ _ kk
end
end L2
end
section
set_option autoImplicit false
namespace L2
open PySem PySem.Spec PyProof.Rows
section
variable {X:Cx}{pins:List (Addr × Obj)}{σ:St}{A:Around}
def wz(H:Hp)(xs:List V)(kvs:List (Key × V)):Prop:=xs.length=kvs.length∧∀(i:Nat) (kv:Key × V),kvs[i]?=some kv→∃ p,xs[i]?=some (.ref p)∧H p=some (.tup [kV kv.1,kv.2])
theorem Lz{H:Hp}{s:Shared}{d:Addr}{kvs:List (Key × V)}{k:Key}{v:V}{u r:Value}{E:Value→Shared→Prop}{Q:Unit→Shared→Prop}(I:Inv X pins σ H s)(e:H d=some (.dK kvs))(l:kvs.length < sizeLine)(ry:RelV (kV k) u)(rv:RelV v r)
  (h:∀ h',Heap.SameBut d s.heap h'→Inv X pins σ (upd H d (.dK (putK kvs k v))) { s with heap:=h',toks:=s.toks+1 }→Q () { s with heap:=h',toks:=s.toks+1 }):wpAny (model X.prog X.w) A (dictSet d u r) Q E s:=by
 obtain ⟨z,hd,vs,rel,dd⟩:=Gy I.hok e
 have hz:vs.length≤sizeLine:=by rw [← rel.length]; exact z
 have hl:(putK kvs k v).length≤sizeLine:=by have:=iH kvs k v; omega
 refine wpAny_dictSet_pairs (hsz:=hz) (uE ry) dd fun h' dd' hs=>h _ hs ?_
 have he:∃ q,h'.get? d=some q:=let ⟨q,_,_,hq,_⟩:=dd'; ⟨q,hq⟩
 exact rJ (t':=s.toks+1) I (by rw [e]; exact True.intro) hs he (Ak hl hd (rel.put k rv) dd')
theorem yh(kvs:List (Key × V))(kv:Key × V):dH [] (kvs++[kv])=putK (dH [] kvs) kv.1 kv.2:=by
 unfold dH
 rw [List.foldl_append]
 rfl
theorem Ir{H:Hp}{a d it:Addr}{xs:List V}{kvs:List (Key × V)}{R:Result→Shared→Prop}(hh:A.handled=none)(ha:H a=some (.tup xs))(hp:wz H xs kvs)(hn:kvs.length≤1000)(hd:H d=none)(hid:it≠d)(hia:it≠a)
  (hR:∀ s',Inv X pins σ (upd H d (.dK (dH [] kvs))) s'→R (.ok (.ret .none)) s') :
  ∀(k i:Nat) (s:Shared),kvs.length - i=k→i≤kvs.length→Inv X pins σ (upd H d (.dK (dH [] (kvs.take i)))) s→s.heap.IsTupleIter it a i→(∀ H':Hp,H' it=none→nW X pins H' it)→H it=none→
   codeAny (model X.prog X.w) A (.builtin "dict.update.loop" ⟨[.ref d,.ref it,rawInt i,.none],[]⟩) R s:=by
 intro k
 have had:a≠d:=aB ha hd
 have hz:sizeLine=16777216:=sizeLine_eq
 induction k with
 | zero=>
  intro i s hk hi I hit hf hi0
  have hin:i=kvs.length:=by omega
  have ha':(upd H d (.dK (dH [] (kvs.take i)))) a=some (.tup xs):=by rw [aA had]; exact ha
  obtain ⟨its,rv,p,_⟩:=I.tuple (SqT.of ha')
  have hit0:(upd H d (.dK (dH [] (kvs.take i)))) it=none:=by rw [aA hid]; exact hi0
  obtain ⟨f0,f1,f2,f3,f4,f5⟩:=hf _ hit0
  refine codeAny_builtin vB ?_
  rw [Around.under_plainId nP _]
  show wpAny _ A.in1 (pyNext (.ref it) >>= _) _ _ s
  refine wpAny_bind (wpAny_pyNext_tuple_end hh hit (show s.heap.IsTuple a its.toArray from p) (by have:=rv.length; have:=hp.1; simp; omega) fun h' eb=>?_)
  refine wpAny_bind (wpAny_pure (wpAny_pure ?_))
  have I1:=I.turned (t':=s.toks) (fun b o hb e=>eb b o hb e) f0 f1 f3 f4 f5
  rw [hin,List.take_of_length_le (Nat.le_refl _)] at I1
  exact hR _ I1
 | succ k ih=>
  intro i s hk hi I hit hf hi0
  have hlt:i < kvs.length:=by omega
  have ha':(upd H d (.dK (dH [] (kvs.take i)))) a=some (.tup xs):=by rw [aA had]; exact ha
  obtain ⟨its,rv,p,_⟩:=I.tuple (SqT.of ha')
  have hit0:(upd H d (.dK (dH [] (kvs.take i)))) it=none:=by rw [aA hid]; exact hi0
  obtain ⟨f0,f1,f2,f3,f4,f5⟩:=hf _ hit0
  obtain ⟨pr,ex,hpr⟩:=hp.2 i kvs[i] (List.getElem?_eq_getElem hlt)
  obtain ⟨u,hu,ru⟩:=rv.get ex
  cases ru
  refine codeAny_builtin vB ?_
  rw [Around.under_plainId nP _]
  show wpAny _ A.in1 (pyNext (.ref it) >>= _) _ _ s
  refine wpAny_bind (wpAny_pyNext_tuple_item hit (show s.heap.IsTuple a its.toArray from p) (x:=.ref pr) (by simpa using hu) fun h' hit' sb=>?_)
  have I1:=I.turned (t':=s.toks) (fun b o hb e=>sb.extBut b o hb e) f0 f1 f3 f4 f5
  have hpd:pr≠d:=aB hpr hd
  obtain ⟨jts,rj,⟨oj,gj,cj,nj,dj⟩,_⟩:=I1.tuple (SqT.of (show (upd H d (.dK (dH [] (kvs.take i)))) pr=some (.tup [kV kvs[i].1,kvs[i].2]) by rw [aA hpd]; exact hpr))
  obtain ⟨v1,v2,rfl,r1,r2⟩:=rj.two
  have hT:({ s with heap:=h' }:Shared).TypeIs (.ref pr) "tuple" := ⟨oj,gj,cj⟩
  refine wpAny_bind (wpAny_holding ?_)
  refine wpAny_bind (wpAny_tryCatch ?_)
  unfold Builtin.Dict.pairItems
  refine wpAny_bind (wpAny_typeOf hT ?_)
  rw [if_pos (by decide)]
  refine wpAny_bind (wpAny_seqItems gj dj (wpAny_pure ?_))
  show wpAny _ _ (holding [v1,v2] (dictSet d v1 v2)) _ _ _
  refine wpAny_holding (Lz I1 ak ?_ r1 r2 fun h2 sb2 I2=>?_)
  ·have:=kJ (kvs.take i) []
   rw [List.length_take,List.length_nil] at this
   omega
  rw [bR] at I2
  have et:kvs.take (i+1)=kvs.take i++[kvs[i]]:=by
   rw [List.take_succ,List.getElem?_eq_getElem hlt]
   rfl
  rw [← yh,← et] at I2
  refine wpAny_pure ⟨plainId_quiet nP _,?_⟩
  exact ih (i+1) _ (by omega) hlt I2 (hit'.extBut sb2.extBut hid) hf hi0
end
end L2
end
section
set_option autoImplicit false
namespace L2
open PySem PySem.Spec PyProof.Rows
section
variable {X:Cx}
theorem tK(hc:X.calm=true):dU X (.type "dict") (fun xs H Q=>∃ a ps kvs,xs=[.ref a]∧H a=some (.tup ps)∧wz H ps kvs∧kvs.length≤1000∧∀ d,H d=none→Q (.ref d) (upd H d (.dK (dH [] kvs)))):=by
 intro pins s σ H xs us Q I r h
 obtain ⟨a,ps,kvs,rfl,ha,hp,hn,q⟩:=h
 obtain ⟨u,rfl,ru⟩:=vals1 r
 cases ru
 have hh:X.A.handled=none:=I.ok.hd hc
 refine callType_codes (Q₁:=fun obj s₁=>obj=.ref s.heap.objs.size∧s₁={ s with heap:=s.heap.push { cls:=.type "dict",data:=.dict #[] } }) F.kt_called_dict (F.kt_typeCall_dict_1 _) F.entry_dict_init (kt_code_dict_new _ ⟨rfl,rfl⟩) ?_
 rintro obj s₁ ⟨rfl,rfl⟩
 have hd:H s.heap.objs.size=none:=I.hok.fresh (Nat.le_refl _)
 have I1:Inv X pins σ (upd H s.heap.objs.size (.dK [])) { s with heap:=s.heap.push { cls:=.type "dict",data:=.dict #[] } }:=
  I.laid (t':=s.toks) (fun b o e=>Heap.get?_push_of_some _ e) (Nat.le_refl _) (rQ s.heap (Nat.lt_of_lt_of_le I.big (Nat.le_refl _)))
 have had:a≠s.heap.objs.size:=aB ha hd
 have ha1:(upd H s.heap.objs.size (.dK [])) a=some (.tup ps):=by rw [aA had]; exact ha
 obtain ⟨⟨_,nd⟩,its,rv,o,go,co,n,dto⟩:=I1.hok a _ ha1
 have hnew:(s.heap.push { cls:=.type "dict",data:=.dict #[] }).DictOf (cP X.prog X.w) s.heap.objs.size []:=Heap.DictOf.new s.heap
 refine⟨hnew.typeIs,F.args_dict_init_2 _ _,?_⟩
 unfold Builtin.«dict.__init__»
 refine wpAny_bind ?_
 unfold Builtin.Dict.selfAndRest
 refine wpAny_bind (wpAny_notOrdered_dict hnew.typeIs ?_)
 show wpAny _ _ (pure (s.heap.objs.size,[Value.ref a])) _ _ _
 refine wpAny_pure ?_
 show wpAny _ _ (Builtin.Dict.updateFrom "dict.__init__" s.heap.objs.size (.ref a) [] .none) _ _ _
 unfold Builtin.Dict.updateFrom
 have hT:({ s with heap:=s.heap.push { cls:=.type "dict",data:=.dict #[] } }:Shared).TypeIs (.ref a) "tuple" := ⟨o,go,co⟩
 refine wpAny_bind (wpAny_typeOf hT ?_)
 rw [if_pos (by decide)]
 refine wpAny_bind (DK go co dto (nd o go) hh fun h2 tk2 k2=>?_)
 rw [if_pos (by rfl)]
 have I2:=I1.kept (t':=tk2) k2
 refine wpAny_bind (wpAny_rule ?_)
 refine wpAny_bind (wpAny_pyIter_tuple (show Heap.IsTuple h2 a its.toArray from ⟨o,k2 a o go,co,n,dto⟩) ?_)
 have I3:=I2.kept (t':=tk2) (h':=h2.push { cls:=.type "tuple_iterator",data:=.fields #[.ref a,.int 0 0] }) fun b o e=>Heap.get?_push_of_some _ e
 have hle:s.heap.objs.size < h2.objs.size:=by
  obtain ⟨o',e'⟩:∃ o',(s.heap.push { cls:=.type "dict",data:=.dict #[] }).get? s.heap.objs.size=some o':=⟨_,Heap.get?_push_size _ rfl⟩
  exact Heap.lt_size (k2 _ _ e')
 have hif:(upd H s.heap.objs.size (.dK [])) h2.objs.size=none:=I2.hok.fresh (Nat.le_refl _)
 refine wpAny_pure ⟨plainId_quiet nP _,?_⟩
 have al:a < h2.objs.size:=Heap.lt_size (k2 a o go)
 have hi0:H h2.objs.size=none:=by rw [aA (Nat.ne_of_gt hle)] at hif; exact hif
 refine Ir (A:=X.A.in1) (H:=H) (a:=a) (d:=s.heap.objs.size) (it:=h2.objs.size) (xs:=ps) (kvs:=kvs) hh ha hp hn hd (Nat.ne_of_gt hle) (Nat.ne_of_gt al) (fun s' I'=>?_) kvs.length 0 _ (by simp) (Nat.zero_le _) I3 ⟨_,Heap.get?_push_size _ rfl,rfl,rfl⟩ (fun H' hH'=>?_) hi0
 ·exact⟨rfl,⟨.ref s.heap.objs.size,_,I',rfl,q _ hd⟩⟩
 ·obtain ⟨g1,g2⟩:=I2.mY (Nat.le_refl _) hif
  exact⟨hH',g2⟩
end
end L2
end
section
set_option autoImplicit false
namespace L2
open PySem PySem.Spec PyProof.Rows
section
variable {X:Cx}
abbrev w6:=@Builtin.Str.tooLong
theorem size_rep(xs:Array Nat):∀(k:Nat) (acc:Array Nat),(List.foldl (fun x1 x2=>x1++x2) acc (List.replicate k xs)).size=acc.size+k * xs.size
 | 0,acc=>by simp
 | k+1,acc=>by
  rw [List.replicate_succ,List.foldl_cons,size_rep xs k,Array.size_append,Nat.succ_mul]
  omega
def jy(x:Str)(n:Int):Str:=if n < 1 then Str.empty else if (n == 1 || x.length == 0)=true then x else ⟨(List.replicate n.toNat x.cps).foldl (·++·) #[]⟩
theorem Ig:OpR X (binaryOp .Mult) (fun a b H Q=>∃ x n,a=.str x∧b=.int n∧0≤n∧n≤1000∧x.length≤1000∧Q (.str (jy x n)) H):=by
 intro pins s σ H a b u v Q I ra rb h
 obtain ⟨x,n,rfl,rfl,h0,h1,hx,q⟩:=h
 obtain ⟨t,rfl⟩:=ra
 obtain ⟨t',rfl⟩:=rb
 have hz:sizeLine=16777216:=sizeLine_eq
 have hm:x.length * n.toNat≤1000000:=by
  have:x.length * n.toNat≤1000 * 1000:=Nat.mul_le_mul hx (by omega)
  omega
 have h3:w6 (x.length * n.toNat)=false:=by
  unfold w6
  exact decide_eq_false (by omega)
 refine P.mul_str ?_ ?_ (fun _ _=>h3) ?_
 ·rw [decide_eq_false (by omega),decide_eq_false (by omega)]
  rfl
 ·intro hn _ hgt
  have h4:(x.length:Int) * n≤2 ^ 63 - 1:=by
   have:(x.length:Int) * n≤1000 * 1000:=Int.mul_le_mul (by omega) h1 h0 (by decide)
   omega
  have:=(Int.le_ediv_iff_mul_le (by omega:0 < n)).mpr h4
  omega
 ·unfold jy at q
  by_cases c1:n < 1
  ·rw [if_pos c1] at q ⊢
   exact⟨by decide,.str _,H,I.tok _,⟨_,rfl⟩,q⟩
  ·rw [if_neg c1] at q ⊢
   by_cases c2:(n == 1 || x.length == 0)=true
   ·rw [if_pos c2] at q ⊢
    exact⟨.str _,H,I,⟨_,rfl⟩,q⟩
   ·rw [if_neg c2] at q ⊢
    refine⟨?_,.str _,H,I.tok _,⟨_,rfl⟩,q⟩
    show (List.foldl (fun x1 x2=>x1++x2) #[] (List.replicate n.toNat x.cps)).size≤sizeLine
    rw [size_rep]
    have:x.cps.size=x.length:=rfl
    have:n.toNat * x.cps.size=x.length * n.toNat:=by rw [this,Nat.mul_comm]
    rw [Array.size_empty]
    omega
end
end L2
end
section
set_option autoImplicit false
namespace L2
open PySem PySem.Spec PyProof.Rows PySem.W
def KOk{α:Type}(n:Nat)(P:α→Prop):KasT α→Prop
 | .ret a=>P a
 | .ask i j k=>i < n∧j < n∧∀ b,KOk n P (k b)
theorem KOk.bind{α β:Type}{n:Nat}{P:α→Prop}{Q:β→Prop}{f:α→KasT β}(hf:∀ a,P a→KOk n Q (f a)):∀ {t:KasT α},KOk n P t→KOk n Q (t.bind f)
 | .ret a,h=>hf a h
 | .ask i j k,h=>⟨h.1,h.2.1,fun b=>KOk.bind hf (h.2.2 b)⟩
theorem KOk.wp{α:Type}{n:Nat}{P:α→Prop}{Q:α→Shared→Prop}{s:Shared}{cmp:Nat→Nat→(Bool→Shared→Prop)→Shared→Prop}(hc:∀ i j C,i < n→j < n→(∀ b,C b s)→cmp i j C s)(hq:∀ a,P a→Q a s):∀ {t:KasT α},KOk n P t→t.kasWp cmp Q s
 | .ret a,h=>hq a h
 | .ask i j k,h=>hc i j _ h.1 h.2.1 fun b=>KOk.wp hc hq (h.2.2 b)
def Pm(n:Nat)(p:Array Nat):Prop:=p.Perm (List.range n).toArray
theorem Pm.lt{n:Nat}{p:Array Nat}(h:Pm n p)(h0:0 < n)(i:Nat):p.getD i 0 < n:=by
 by_cases hi:i < p.size
 ·have e:p.getD i 0=p[i]:=by simp [Array.getD,hi]
  rw [e]
  have m:p[i]∈(List.range n).toArray:=h.mem_iff.mp (Array.getElem_mem hi)
  simpa using m
 ·have e:p.getD i 0=0:=by simp [Array.getD,hi]
  rw [e]
  exact h0
theorem Pm.rev{n:Nat}{p:Array Nat}(h:Pm n p)(i j:Nat):Pm n (kas_rev p i j):=Array.Perm.trans (mirror_perm p i j _) h
theorem Pm.bub{n:Nat}{p:Array Nat}(h:Pm n p)(k d:Nat):Pm n (bubble p k d):=Array.Perm.trans (bubble_perm p k d) h
section
variable {n:Nat}(h0:0 < n)
include h0
theorem yU{p:Array Nat}(h:Pm n p):∀(f m:Nat),KOk n (fun _=>True) (kas_asc p f m)
 | 0,m=>trivial
 | f+1,m=>⟨h.lt h0 _,h.lt h0 _,fun b=>by
   cases b with
   | true=>exact trivial
   | false=>exact yU h f (m+1)⟩
theorem rG:∀(f:Nat) {p:Array Nat} (m q:Nat),Pm n p→KOk n (fun r=>Pm n r.1) (kas_desc f p m q)
 | 0,p,m,q,h=>h
 | f+1,p,m,q,h=>⟨h.lt h0 _,h.lt h0 _,fun b=>by
   cases b with
   | true=>
    show KOk n _ (if true=true then _ else _)
    rw [if_pos rfl]
    split
    ·exact rG f _ _ (h.rev _ _)
    ·exact rG f _ _ h
   | false=>
    refine⟨h.lt h0 _,h.lt h0 _,fun d=>?_⟩
    cases d with
    | true=>exact h
    | false=>exact rG f _ _ h⟩
theorem yd(m nrem:Nat){p:Array Nat}(h:Pm n p):KOk n (fun r=>Pm n r.2) (kas_tail3 m nrem p):=by
 unfold kas_tail3
 refine KOk.bind (P:=fun _=>True) (fun a _=>?_) (yU h0 (h.rev 0 m) _ _)
 exact h.rev 0 m
theorem qU(m nrem:Nat){p:Array Nat}(h:Pm n p):KOk n (fun r=>Pm n r.2) (kas_descPart m nrem p):=by
 refine KOk.bind (fun r hr=>?_) (rG h0 _ _ _ h)
 split
 ·exact yd h0 _ _ (hr.rev _ _)
 ·exact yd h0 _ _ hr
theorem Ez(nrem:Nat){p:Array Nat}(h:Pm n p):KOk n (fun r=>Pm n r.2) (kas_count nrem p):=by
 refine KOk.bind (fun r _=>?_) (yU h0 h _ _)
 split
 ·exact h
 ·split
  ·refine⟨h.lt h0 _,h.lt h0 _,fun b=>?_⟩
   cases b with
   | true=>exact h
   | false=>exact qU h0 _ _ (h.rev _ _)
  ·exact qU h0 _ _ h
theorem rW{p:Array Nat}(h:Pm n p)(k:Nat):∀(f l r:Nat),KOk n (fun _=>True) (kas_place p k f l r)
 | 0,l,r=>trivial
 | f+1,l,r=>by
  unfold kas_place
  split
  ·exact trivial
  ·refine⟨h.lt h0 _,h.lt h0 _,fun b=>?_⟩
   cases b with
   | true=>exact rW h k f _ _
   | false=>exact rW h k f _ _
theorem GZ:∀(f:Nat) {p:Array Nat} (k:Nat),Pm n p→KOk n (Pm n) (kas_bin f p k)
 | 0,p,k,h=>h
 | f+1,p,k,h=>KOk.bind (fun l _=>GZ f (k+1) (h.bub _ _)) (rW h0 h k _ _ _)
theorem HW:KOk n (Pm n) (kas_sort n):=by
 refine KOk.bind (fun r hr=>?_) (Ez h0 n (Array.Perm.refl _))
 split
 ·exact GZ h0 _ _ hr
 ·exact hr
end
theorem Pm.out{vs:List Value}{p:Array Nat}(h:Pm vs.length p):(p.toList.map fun i=>vs.getD i Value.none).Perm vs:=by
 have h1:p.toList.Perm (List.range vs.length):=by simpa using h.toList
 have h2:=h1.map fun i=>vs.getD i Value.none
 have h3:(List.range vs.length).map (fun i=>vs.getD i Value.none)=vs:=by
  apply List.ext_getElem (by simp)
  intro i a b
  simp [b]
 rw [h3] at h2
 exact h2
section
variable {prog:Program}{w:World}{A:Around}{E:Value→Shared→Prop}{s:Shared}
structure Kc (prog:Program) (w:World) (A:Around) (κ:SortKind) (vs:List Value) (h:Heap):Prop where
 kind:∀ (s':Shared) (Q:SortKind→Shared→Prop) (E:Value→Shared→Prop),(∀ b o,h.get? b=some o→s'.heap.get? b=some o)→Q κ s'→wpAny (model prog w) A (keyKind' vs.toArray) Q E s'
 lt:∀ x∈vs,∀ y∈vs,∀ (s':Shared) (C:Bool→Shared→Prop),(∀ b o,h.get? b=some o→s'.heap.get? b=some o)→(∀ b,C b s')→wpAny (model prog w) A (keyLt' κ x y) C (fun _ _=>False) s'
theorem uM{a:Addr}{vs:List Value}{n:Nat}{P:Fin→Shared→Prop}{h₀:Heap}{κ:SortKind}(ho:s.heap.get? a=some (seqObj "list" vs.toArray n))(h64:vs.length < 64)(keep:∀ b o,h₀.get? b=some o→s.heap.get? b=some o∧b≠a)
  (hc:2≤vs.length→Kc prog w A κ vs h₀)
  (h:∀ out:Array Value,out.toList.Perm vs→P (.done (.ret .none)) { s with heap:=sortedHeap s.heap a vs out }) :
  wpAny (model prog w) A (Builtin.«list.sort» ⟨[.ref a],[]⟩) P E s:=by
 rw [list_sort_plain]
 have ha:a < s.heap.objs.size:=Heap.lt_size ho
 refine wpAny_bind (listItems_at ho rfl ?_)
 refine wpAny_bind (listUpdate_at ho rfl ?_ (by rw [List.size_toArray,sizeLine_eq]; omega) (Nat.zero_le _))
 obtain ⟨e1,ho1⟩:∃ e1,(s.heap.update a (Obj.mapSeq fun _=>#[])).get? a=some (seqObj "list" #[] e1):=⟨_,get?_update_seq ho (fun _=>#[])⟩
 refine wpAny_bind (seqEpoch_at ho1 rfl ?_)
 refine wpAny_bind (wpAny_newTuple ?_ (by show vs.length≤_; rw [sizeLine_eq]; omega))
 refine wpAny_bind (wpAny_newList ?_ (Nat.zero_le _))
 refine wpAny_holding ?_
 have ho6:(((s.heap.update a (Obj.mapSeq fun _=>#[])).push (seqObj "tuple" vs.toArray 0)).push (seqObj "list" #[] 0)).get? a=some (seqObj "list" #[] e1):=by
  rw [Heap.get?_push_ne _ _ _ (by rw [size_push',Heap.size_update]; exact Nat.ne_of_lt (Nat.lt_succ_of_lt ha)),Heap.get?_push_ne _ _ _ (by rw [Heap.size_update]; exact Nat.ne_of_lt ha)]
  exact ho1
 have kp:∀ b o,h₀.get? b=some o→(((s.heap.update a (Obj.mapSeq fun _=>#[])).push (seqObj "tuple" vs.toArray 0)).push (seqObj "list" #[] 0)).get? b=some o:=fun b o e=>by
  obtain ⟨e',ne⟩:=keep b o e
  exact Heap.get?_push_of_some _ (Heap.get?_push_of_some _ ((Heap.get?_update_other _ _ (Ne.symm ne)).trans e'))
 show wpAny (model prog w) A _ P E { s with heap:=((s.heap.update a (Obj.mapSeq fun _=>#[])).push (seqObj "tuple" vs.toArray 0)).push (seqObj "list" #[] 0) }
 dsimp only
 have hsz:vs.toArray.size=vs.length:=by simp
 have fin:∀ st':SortSt,failedOf st'=none→((arrOf st').map (·.2)).toList.Perm vs→wpAny (model prog w) A (do
   let touched:=(← seqEpoch a) != e1
   Builtin.List.listUpdate (.ref a) fun _=>(arrOf st').map (·.2)
   if let some e:=failedOf st' then rule "list.sort.comparison-raised"; throw e
   if touched then rule "list.sort.modified"; raiseError "ValueError" "list modified during sort"
   ret .none) P E { s with heap:=((s.heap.update a (Obj.mapSeq fun _=>#[])).push (seqObj "tuple" vs.toArray 0)).push (seqObj "list" #[] 0) }:=fun st' hf hp=>by
  refine wpAny_bind (seqEpoch_at ho6 rfl ?_)
  refine wpAny_bind (listUpdate_at ho6 rfl ?_ (Nat.zero_le _) (by
   have:=hp.length_eq
   rw [Array.length_toList] at this
   show ((arrOf st').map (·.2)).size≤_
   rw [this,sizeLine_eq]
   omega))
  rw [hf]
  simp only [bne_self_eq_false,Bool.false_eq_true,if_false]
  exact wpAny_pure (h _ hp)
 by_cases h2:vs.toArray.size < 2
 ·rw [if_pos h2,if_pos h2]
  refine wpAny_bind (wpAny_pure ?_)
  rw [StateT.run_pure]
  refine wpAny_bind (wpAny_pure ?_)
  refine fin (SortSt.mk' general' (vs.toArray.zip vs.toArray) #[] 7 none) rfl ?_
  have e:((vs.toArray.zip vs.toArray).map (·.2)).toList=vs:=by
   simp only [List.zip_toArray,List.map_toArray]
   exact List.map_snd_zip (Nat.le_refl _)
  show ((vs.toArray.zip vs.toArray).map (·.2)).toList.Perm vs
  rw [e]
 ·rw [if_neg h2,if_neg h2]
  rw [hsz] at h2
  have C:=hc (by omega)
  refine wpAny_bind (C.kind _ _ _ kp ?_)
  refine wpAny_bind (wpAny_mono (kat_run (ks:=vs) (Q:=fun st' s'=>s'={ s with heap:=((s.heap.update a (Obj.mapSeq fun _=>#[])).push (seqObj "tuple" vs.toArray 0)).push (seqObj "list" #[] 0) }∧failedOf st'=none∧((arrOf st').map (·.2)).toList.Perm vs)
   (G:=fun p s'=>s'={ s with heap:=((s.heap.update a (Obj.mapSeq fun _=>#[])).push (seqObj "tuple" vs.toArray 0)).push (seqObj "list" #[] 0) }∧Pm vs.length p) rfl (by omega) h64 (fun p st' s' _ e1 e2 ⟨e3,e4⟩=>⟨e3,e2,?_⟩) ?_) ?_ fun _ _ e=>e)
  ·rw [kat_snds rfl e1]
   exact e4.out
  ·refine KOk.wp (fun i j Cc hi hj hC=>?_) (fun p hp=>⟨rfl,hp⟩) (HW (by omega))
   have gm:∀ i,i < vs.length→vs.getD i Value.none∈vs:=fun i hi=>by
    have:vs.getD i Value.none=vs[i]:=by simp [hi]
    rw [this]
    exact List.getElem_mem hi
   exact C.lt _ (gm i hi) _ (gm j hj) _ _ kp hC
  ·rintro ⟨⟨⟩,st'⟩ s' ⟨rfl,hf,hp⟩
   exact fin st' hf hp
theorem zu{l:Addr}{vs:List Value}{Q:Value→Shared→Prop}{κ:SortKind}(hl:s.heap.IsList l vs.toArray)(h64:vs.length < 64)(hc:2≤vs.length→Kc prog w A.in1.in1 κ vs s.heap)
  (h:∀ out:Array Value,out.toList.Perm vs→Q (.ref (s.heap.objs.size+1)) { s with heap:=sortedAll s.heap vs out }) :
  wpAny (model prog w) A (call (.builtin "sorted") [.ref l]) Q E s:=by
 refine Calls.call_function_entry kind_sorted plain_sorted entry_sorted (args_sorted1 _) ?_
 unfold Builtin.«sorted»
 refine wpAny_bind (m:=checkCount "sorted" 1 1 _) (wpAny_pure ?_)
 refine wpAny_bind (collect_list hl ?_ (by rw [sizeLine_eq]; omega))
 refine wpAny_bind (wpAny_newList ?_ (by rw [sizeLine_eq]; omega))
 have hsz:((s.heap.push (seqObj "list" #[] 0)).update s.heap.objs.size (Obj.mapSeq (·++vs.toArray))).objs.size=s.heap.objs.size+1:=by
  rw [Heap.size_update,size_push']
 have hoL:(((s.heap.push (seqObj "list" #[] 0)).update s.heap.objs.size (Obj.mapSeq (·++vs.toArray))).push (seqObj "list" vs.toArray 0)).get? (s.heap.objs.size+1)=some (seqObj "list" vs.toArray 0):=by
  rw [← hsz]; exact Heap.get?_push_size _ rfl
 have keep:∀ b o,s.heap.get? b=some o→(((s.heap.push (seqObj "list" #[] 0)).update s.heap.objs.size (Obj.mapSeq (·++vs.toArray))).push (seqObj "list" vs.toArray 0)).get? b=some o∧b≠s.heap.objs.size+1:=fun b o q=>by
  have hlt:b < s.heap.objs.size:=Heap.lt_size q
  refine⟨?_,Nat.ne_of_lt (Nat.lt_succ_of_lt hlt)⟩
  rw [Heap.get?_push_ne _ _ _ (by rw [hsz]; exact Nat.ne_of_lt (Nat.lt_succ_of_lt hlt)),Heap.get?_update_ne _ _ _ _ (Nat.ne_of_lt hlt),Heap.get?_push_ne _ _ _ (Nat.ne_of_lt hlt)]
  exact q
 show wpAny _ _ _ _ _ { s with heap:=((s.heap.push (seqObj "list" #[] 0)).update s.heap.objs.size (Obj.mapSeq (·++vs.toArray))).push (seqObj "list" vs.toArray 0) }
 rw [hsz]
 refine wpAny_bind (wpAny_holding (wpAny_call_entry slot_list_sort ⟨_,hoL,rfl⟩ entry_list_sort (uM hoL h64 keep hc fun out a1=>⟨_,rfl,?_⟩) (args_list_sort _)))
 exact wpAny_pure ⟨_,rfl,h out a1⟩
end
theorem Vals.perm:∀ {us ws:List Value},us.Perm ws→∀ {xs:List V},Vals xs ws→∃ ys,ys.Perm xs∧Vals ys us:=by
 intro us ws h
 induction h with
 | nil=>exact fun {xs} r=>⟨xs,.refl _,r⟩
 | cons a _ ih=>
  intro xs r
  cases r with
  | cons q t=>
   obtain ⟨ys,p,r'⟩:=ih t
   exact⟨_::ys,p.cons _,.cons q r'⟩
 | swap a b l=>
  intro xs r
  cases r with
  | cons q t=>
   cases t with
   | cons q' t'=>exact⟨_,.swap _ _ _,.cons q' (.cons q t')⟩
 | trans _ _ i1 i2=>
  intro xs r
  obtain ⟨ys,p,r'⟩:=i2 r
  obtain ⟨zs,p',r''⟩:=i1 r'
  exact⟨zs,p'.trans p,r''⟩
def Ip(b:Bool)(y:V):Prop:=if b then (∃ x,y=.str x) else ∃ i,y=.int i
section
variable {X:Cx}
theorem qZ(b:Bool):dU X (.builtin "sorted") (fun xs H Q=>∃ l ps,xs=[.ref l]∧SqL X.K H l ps∧ps.length < 64∧(∀ x∈ps,∃ p i y,x=.ref p∧H p=some (.tup [.int i,y])∧Ip b y)∧∀ d qs,qs.Perm ps→H d=none→Q (.ref d) (upd H d (.lst qs))):=by
 intro pins s σ H xs us Q I r h
 obtain ⟨l,ps,rfl,hl,h64,hp,q⟩:=h
 obtain ⟨u,rfl,ru⟩:=vals1 r
 cases ru
 obtain ⟨its,rv,pl,hz⟩:=I.list hl
 have hlen:=rv.length
 have item:∀ v∈its,∃(p:Addr) (o:Obj) (i:Int) (t:Tok) (y:Value) (n:Nat),v=.ref p∧s.heap.get? p=some o∧o.cls=.type "tuple" ∧ o.data=.seq #[.int i t,y] n∧(if b then ∃ x t',y=Value.str x t' else ∃ j t',y=Value.int j t'):=fun v hv=>by
  obtain ⟨i,hi,rfl⟩:=List.getElem_of_mem hv
  have hi':i < ps.length:=by omega
  obtain ⟨w',hw,rw'⟩:=rv.get (i:=i) (x:=ps[i]) (List.getElem?_eq_getElem hi')
  rw [List.getElem?_eq_getElem hi] at hw
  cases hw
  obtain ⟨p,j,y,e,hH,hy⟩:=hp ps[i] (List.getElem_mem hi')
  rw [e] at rw'
  have rw':its[i]=.ref p:=rw'
  obtain ⟨jts,rj,⟨o,go,co,n,dn⟩,_⟩:=I.tuple (SqT.of hH)
  obtain ⟨v1,v2,rfl,⟨t,rfl⟩,r2⟩:=rj.two
  refine⟨p,o,j,t,v2,n,rw',go,co,dn,?_⟩
  unfold Ip at hy
  cases b with
  | true=>
   obtain ⟨x,rfl⟩:=(by simpa using hy:∃ x,y=V.str x)
   obtain ⟨t',rfl⟩:=r2
   simp
  | false=>
   obtain ⟨x,rfl⟩:=(by simpa using hy:∃ x,y=V.int x)
   obtain ⟨t',rfl⟩:=r2
   simp
 have hcmp:2≤its.length→Kc X.prog X.w X.A.in1.in1 (tuples' ((Value.type "int") != Value.type "tuple")) its s.heap:=fun h2=>by
  refine⟨fun s' Q' E' kp hq=>?_,fun x hx y hy s' C kp hC=>?_⟩
  ·have tups:∀ vs:List Value,(∀ v∈vs,v∈its)→∃ fs:List Value,KatTups s'.heap vs fs∧fs.length=vs.length∧∀ f∈fs,∃ i t,f=Value.int i t:=by
    intro vs
    induction vs with
    | nil=>exact fun _=>⟨[],.nil,rfl,fun _ h=>nomatch h⟩
    | cons v vs ih=>
     intro hm
     obtain ⟨fs,k,e,hf⟩:=ih fun v hv=>hm v (List.mem_cons_of_mem _ hv)
     obtain ⟨p,o,i,t,y,n,rfl,go,co,dn,_⟩:=item v (hm v List.mem_cons_self)
     refine⟨.int i t::fs,.cons (kp p o go) co dn rfl k,by rw [List.length_cons,List.length_cons,e],fun f hf'=>?_⟩
     rcases List.mem_cons.mp hf' with rfl | h'
     ·exact⟨i,t,rfl⟩
     ·exact hf f h'
   obtain ⟨fs,k,e,hf⟩:=tups its fun _ h=>h
   refine kat_kind (T:=.type "int") k (by omega) (fun v hv=>?_) rfl hq
   obtain ⟨i,t,rfl⟩:=hf v hv
   exact .now
  ·obtain ⟨p,o,i,t,y1,n,rfl,go,co,dn,h1⟩:=item x hx
   obtain ⟨p',o',i',t',y2,n',rfl,go',co',dn',h1'⟩:=item y hy
   refine kat_lt (kp p o go) dn (kp p' o' go') dn' ?_
   show KatLex _ _ _ _ _ _ [(Value.int i t,Value.int i' t'),(y1,y2)] 0 s'
   refine kat_cons (wpAny_eqBool_int (kat_go (fun _=>kat_yes ?_) fun _=>kat_no ?_))
   ·cases b with
    | true=>
     obtain ⟨x1,u1,rfl⟩:=(by simpa using h1:∃ x t',y1=Value.str x t')
     obtain ⟨x2,u2,rfl⟩:=(by simpa using h1':∃ x t',y2=Value.str x t')
     refine kat_cons (wpAny_eqBool_str (kat_go (fun _=>kat_yes (kat_nil (hC _))) fun _=>kat_no ?_))
     exact kat_one _ _ (lt_str (hC _))
    | false=>
     obtain ⟨x1,u1,rfl⟩:=(by simpa using h1:∃ x t',y1=Value.int x t')
     obtain ⟨x2,u2,rfl⟩:=(by simpa using h1':∃ x t',y2=Value.int x t')
     refine kat_cons (wpAny_eqBool_int (kat_go (fun _=>kat_yes (kat_nil (hC _))) fun _=>kat_no ?_))
     exact kat_one _ _ (PyProof.Rows.lt_int (hC _))
   ·exact oneLt_int (hC _)
 refine zu pl.isList (by omega) hcmp fun out hperm=>?_
 obtain ⟨ys,py,ry⟩:=rv.perm hperm
 obtain ⟨e,he⟩:=sortedAll_at s.heap its out
 have hd:H (s.heap.objs.size+1)=none:=I.hok.fresh (Nat.le_succ _)
 refine⟨.ref (s.heap.objs.size+1),_,I.laid (t':=s.toks) (o:=.lst ys) (fun b o q=>sortedAll_old q) (Nat.le_succ _) ⟨by rw [py.length_eq]; exact hz,out.toList,e,ry,by rw [Array.toArray_toList]; exact he⟩,rfl,q _ ys py hd⟩
end
end L2
end
section
set_option autoImplicit false
namespace L2
open PySem PySem.Spec PyProof.Rows
theorem qL:bootBuiltins "sorted" = some (.builtin "sorted"):=by decide +kernel
theorem Bp:bootBuiltins "dict" = some (.type "dict"):=by decide +kernel
section
variable {X:Cx}{K:PySem.W.Frag}
theorem vf{tg l:Expr}{tl:TE}(h:X.K=K)(hl:PE X l tl):PI X tg l (JC K tl):=by subst h; exact eZ hl
theorem yL{tg l:Expr}{tl:TE}(h:X.K=K)(hl:PE X l tl):PI X tg l (Mj K tl):=by subst h; exact eY hl
theorem Ad(h:X.K=K)(hc:X.calm=true):dU X (.builtin "any") (fun xs H Q=>∃(p:Addr) (bs:List Bool),xs=[.ref p]∧SqL K H p (bs.map V.bl)∧Q (.bl (bs.any id)) H):=by subst h; exact FZ hc
end
end L2
end
section
set_option autoImplicit false
namespace L2
open PySem PyProof.Rows
theorem bw{J:It}{n own:Nat}{fr:List Nat}{g:TG}{tc:TT}{te:TE}{σ:St}{Q:VK}{D:Addr}{H0:Hp}(Pv:Nat→List V→Hp→Prop)(h0:Pv 0 [] H0)(stop:∀ ys H,Pv n ys H→J.stop n H∧Q (.ref D) H)
  (go:∀ i ys H,i < n→Pv i ys H→J.go i H∧∀ x H',J.yld i H x H'→∀ σo:St,σo.length=own→g x (σo++frv σ fr) H' fun σ2 H2=>(∃ σo':St,σo'.length=own∧σ2=σo'++frv σ fr)∧
   tc σ2 H2 fun b H3=>if b=true then te σ2 H3 fun y H4=>ys.length < sizeLine∧H4 D=some (.lst ys)∧∃ m',m' < n - i∧(m'=n - (i+1)∧i+1≤n∧Pv (i+1) (ys++[y]) (upd H4 D (.lst (ys++[y])))) else ∃ m',m' < n - i∧(m'=n - (i+1)∧i+1≤n∧Pv (i+1) ys H3)) :
  sZ own fr g tc te σ Q J D H0:=by
 refine⟨fun i m ys H=>m=n - i∧i≤n∧Pv i ys H,⟨n,by simp,Nat.zero_le _,h0⟩,?_⟩
 rintro i m ys H ⟨rfl,hi,p⟩
 by_cases hlt:i < n
 ·exact .inr (go i ys H hlt p)
 ·have e:i=n:=by omega
  subst e
  exact .inl (stop ys H p)
theorem aX{n i:Nat}(h:i < n){P:Prop}(p:P):∃ m',m' < n - i∧(m'=n - (i+1)∧i+1≤n∧P):=⟨n - (i+1),by omega,rfl,h,p⟩
theorem own1{σo:St}(h:σo.length=1):∃ o,σo=[o]:=by
 cases σo with
 | nil=>cases h
 | cons o r=>
  cases r with
  | nil=>exact⟨o,rfl⟩
  | cons _ _=>cases h
theorem FT{σo:St}(h:σo.length=2):∃ o o',σo=[o,o']:=by
 cases σo with
 | nil=>cases h
 | cons o r=>
  cases r with
  | nil=>cases h
  | cons o' r=>
   cases r with
   | nil=>exact⟨o,o',rfl⟩
   | cons _ _=>cases h
theorem qm{α β:Type}{f:α→β}:∀ {l:List α},(∀ a∈l,∀ b∈l,f a=f b→a=b)→l.Nodup→(l.map f).Nodup
 | [],_,_=>List.nodup_nil
 | a::r,hi,hn=>by
  obtain ⟨h1,h2⟩:=List.nodup_cons.mp hn
  rw [List.map_cons]
  refine List.nodup_cons.mpr ⟨fun m=>?_,qm (fun x hx y hy=>hi x (List.mem_cons_of_mem _ hx) y (List.mem_cons_of_mem _ hy)) h2⟩
  obtain ⟨b,hb,e⟩:=List.mem_map.mp m
  exact h1 (hi b (List.mem_cons_of_mem _ hb) a List.mem_cons_self e ▸ hb)
theorem dO{α:Type}[DecidableEq α]:∀ {l m:List α},l.Nodup→(∀ x∈l,x∈m)→l.length≤m.length
 | [],_,_,_=>Nat.zero_le _
 | a::r,m,hn,hs=>by
  obtain ⟨h1,h2⟩:=List.nodup_cons.mp hn
  have hm:a∈m:=hs a List.mem_cons_self
  have:=dO (l:=r) (m:=m.erase a) h2 fun x hx=>by
   have ne:x≠a:=fun e=>h1 (e ▸ hx)
   exact(List.mem_erase_of_ne ne).mpr (hs x (List.mem_cons_of_mem _ hx))
  have e:=List.length_erase_of_mem hm
  have p:0 < m.length:=List.length_pos_of_mem hm
  rw [List.length_cons]
  omega
theorem IK{A:Around}{k:Nat}(hr:jw k A):A.units+10 < cLine:=by
 have:=hr.units
 omega
def Pu(H:Hp)(p:Addr):Prop:=∃ a b c:Int,H p=some (.lst [.int a,.int b,.int c])
theorem Pu.ne{H:Hp}{p u:Addr}{us:List Str}(h:Pu H p)(g:H u=some (.lst (us.map V.str))):u≠p:=by
 obtain ⟨a,b,c,e⟩:=h
 exact(eU e g Jd).symm
theorem Pu.upd{H:Hp}{p:Addr}{a b c:Int}:Pu (upd H p (.lst [.int a,.int b,.int c])) p:=⟨a,b,c,ak⟩
theorem Pu.same{H H':Hp}{p:Addr}(h:Pu H p)(s:Same H H'):Pu H' p:=by
 obtain ⟨a,b,c,e⟩:=h
 exact⟨a,b,c,s p _ e⟩
theorem Pu.neN{H:Hp}{p q:Addr}(h:Pu H p)(g:H q=none):p≠q:=by
 obtain ⟨a,b,c,e⟩:=h
 exact aB e g
theorem Pu.aA{H:Hp}{p q:Addr}{o:HO}(h:Pu H p)(g:p≠q):Pu (L2.upd H q o) p:=by
 obtain ⟨a,b,c,e⟩:=h
 exact⟨a,b,c,by rw [L2.aA g]; exact e⟩
theorem jR{c A B:Prop}[Decidable c](h:c)(a:A):if c then A else B:=by
 rw [if_pos h]
 exact a
theorem jz{c A B:Prop}[Decidable c](h:¬ c)(b:B):if c then A else B:=by
 rw [if_neg h]
 exact b
def abc:Str:= "abcdefghijklmnopqrstuvwxyz"
def letters:List Str:=abc.cps.toList.map fun c=>⟨#[c]⟩
theorem qT:letters.length=26:=by decide +kernel
theorem pL:abc.cps.size=26:=by decide +kernel
theorem ju:∀ x∈letters,x.length=1:=by
 intro x hx
 obtain ⟨c,_,rfl⟩:=List.mem_map.mp hx
 rfl
theorem uI:letters.Nodup:=by decide +kernel
theorem xY{a b z:Str}(ha:a.length=1)(hb:b.length=1)(h:a++z=b++z):a=b:=by
 obtain ⟨⟨a⟩⟩:=a
 obtain ⟨⟨b⟩⟩:=b
 have h':(a++z.cps.toList)=(b++z.cps.toList):=by
  have e:∀ y:List Nat,((⟨⟨y⟩⟩:Str)++z).cps.toList=y++z.cps.toList:=fun y=>by
   show ((⟨y⟩:Array Nat)++z.cps).toList=_
   rw [Array.toList_append]
  rw [← e,← e,h]
 have:=List.append_cancel_right h'
 rw [this]
theorem gD(a b:Str):(a++b).length=a.length+b.length:=by
 show (a.cps++b.cps).size=_
 rw [Array.size_append]
 rfl
theorem xH{us:List Str}(h:us.length≤25)(z:Str):∃ c∈letters,¬ (c++z)∈us:=by
 apply Classical.byContradiction
 intro hn
 have all:∀ c∈letters,(c++z)∈us:=fun c hc=>Classical.byContradiction fun hx=>hn ⟨c,hc,hx⟩
 have nd:(letters.map (·++z)).Nodup:=by
  exact qm (fun a ha b hb e=>xY (ju a ha) (ju b hb) e) uI
 have:=dO nd fun x hx=>by
  obtain ⟨c,hc,rfl⟩:=List.mem_map.mp hx
  exact all c hc
 rw [List.length_map,qT] at this
 omega
theorem nM(z:Str)(lo hi:Option Int):(Txt.slice z lo hi).length≤z.length:=Txt.slice_le z lo hi
theorem xR{K:PySem.W.Frag}{a:Addr}{xs:List V}{g:TG}{tb:TS}{D:Ends}{σ:St}{H:Hp}(Pv:Nat→St→Hp→Prop)(h0:Pv 0 σ H)(hl:∀ i σ H,i≤xs.length→Pv i σ H→SqL K H a xs)
  (hs:∀ i x σ H p,xs[i]?=some x→Pv i σ H→H p=none→g (.ref p) σ (upd H p (.tup [.int i,x])) fun σ2 H2=>tb { D with nx:=Pv (i+1),ct:=Pv (i+1),bk:=D.nx } σ2 H2) (hd:∀ σ H,Pv xs.length σ H→D.nx σ H) :
  ∃ W:Nat→Nat→St→Hp→Prop,(∃ m,W 0 m σ H)∧∀ i m σ H,W i m σ H→
   ((Ite K a).stop i H∧D.nx σ H)∨((Ite K a).go i H∧∃ N:St→Hp→Prop,(∀ σ' H',N σ' H'→∃ m',m' < m∧W (i+1) m' σ' H')∧∀ x H',(Ite K a).yld i H x H'→g x σ H' fun σ2 H2=>tb { D with nx:=N,ct:=N,bk:=D.nx } σ2 H2):=by
 refine⟨fun i m σ H=>m=xs.length - i∧i≤xs.length∧Pv i σ H,⟨xs.length,by simp,Nat.zero_le _,h0⟩,?_⟩
 rintro i m σ H ⟨rfl,hi,p⟩
 have q:=hl i σ H hi p
 by_cases hlt:i < xs.length
 ·refine .inr ⟨⟨xs,xs[i],q,by simp [hlt]⟩,Pv (i+1),fun σ' H' p'=>⟨xs.length - (i+1),by omega,rfl,hlt,p'⟩,fun x H' y=>?_⟩
  obtain ⟨r,hr,rfl,y⟩:=y
  have e:=y xs xs[i] q (by simp [hlt])
  subst e
  exact hs i xs[i] σ _ r (by simp [hlt]) p hr
 ·have e:i=xs.length:=by omega
  subst e
  exact .inl ⟨⟨xs,q,Nat.le_refl _⟩,hd σ H p⟩
end L2
end
section
set_option autoImplicit false
namespace L2
open PySem PySem.Spec PyProof.Rows
section
variable {X:Cx}{K:PySem.W.Frag}
def Nh(K:PySem.W.Frag):R2:=fun x y H Q=>∃(a b:Addr) (xs:List V),x=.ref a∧y=.ref b∧SqL K H a xs∧SqL K H b []∧Q (.bl (!xs.isEmpty)) H
def NK(K:PySem.W.Frag):R2:=fun x y H Q=>∃(a b:Addr) (xs:List V),x=.ref a∧y=.ref b∧SqL K H a xs∧SqL K H b []∧Q (.bl xs.isEmpty) H
theorem Gf(hK:X.K=K)(hu:X.A.units < cLine):OpR X (compareOp .NotEq) (Nh K):=by
 subst hK
 intro pins s σ H x y v u Q I rx ry h
 obtain ⟨a,b,xs,rfl,rfl,ha,hb,q⟩:=h
 cases rx
 cases ry
 obtain ⟨its,r,p,_⟩:=I.list ha
 obtain ⟨its2,r2,p2,_⟩:=I.list hb
 have e2:its2=[]:=r2.j7.mpr rfl
 subst e2
 cases xs with
 | nil=>
  have e1:its=[]:=r.j7.mpr rfl
  subst e1
  exact SeqAt.RcNeAt.lists (A:=X.A) (s:=s) (e:=fun _=>true) p.isList p2.isList rfl hu (fun j h1 _=>by simp at h1) X.prog X.w X.xe _ ⟨.bl false,H,I,rfl,q⟩
 | cons x0 xr=>
  have hl:=r.length
  refine SeqAt.RcNeAt.lists_lengths (A:=X.A) (s:=s) p.isList p2.isList ?_ hu X.prog X.w X.xe _ ⟨.bl true,H,I,rfl,q⟩
  rw [List.length_cons] at hl
  have:its.length≠0:=by omega
  simpa using this
theorem Ld(hK:X.K=K)(hu:X.A.units < cLine):OpR X (compareOp .Eq) (NK K):=by
 subst hK
 intro pins s σ H x y v u Q I rx ry h
 obtain ⟨a,b,xs,rfl,rfl,ha,hb,q⟩:=h
 cases rx
 cases ry
 obtain ⟨its,r,p,_⟩:=I.list ha
 obtain ⟨its2,r2,p2,_⟩:=I.list hb
 have e2:its2=[]:=r2.j7.mpr rfl
 subst e2
 cases xs with
 | nil=>
  have e1:its=[]:=r.j7.mpr rfl
  subst e1
  exact SeqAt.RcAt.lists (A:=X.A) (s:=s) (e:=fun _=>true) p.isList p2.isList rfl hu (fun j h1 _=>by simp at h1) X.prog X.w X.xe _ ⟨.bl true,H,I,rfl,q⟩
 | cons x0 xr=>
  have hl:=r.length
  refine SeqAt.RcAt.lists_lengths (A:=X.A) (s:=s) p.isList p2.isList ?_ hu X.prog X.w X.xe _ ⟨.bl false,H,I,rfl,q⟩
  rw [List.length_cons] at hl
  have:its.length≠0:=by omega
  simpa using this
def Od(K:PySem.W.Frag)(tl:TE):TI:=fun σ H R=>tl σ H fun x H1=>∃ a,x=.ref a∧((∃ xs,SqT K H1 a xs∧R (Itt K a) H1)∨∃ xs,SqL K H1 a xs∧R (Itl K a) H1)
theorem qQ{tg l:Expr}{tl:TE}(hl:PE X l tl)(hK:X.K=K):PI X tg l (Od K tl):=by
 subst hK
 intro pins s σ H R I h
 refine thn (hl pins s σ H _ I h) fun v s1 ⟨x,H1,I1,r1,a,e,q1⟩=>?_
 subst e
 cases r1
 rcases q1 with ⟨xs,hq,q⟩ | ⟨xs,hq,q⟩
 ·obtain ⟨its,rv,p,hz⟩:=I1.tuple hq
  refine wpAny_pyIter_tuple (show s1.heap.IsTuple a its.toArray from p) ?_
  refine⟨s1.heap.objs.size,[s1.heap.objs.size],_,_,H1,rfl,I1.kept (t':=s1.toks) fun b o e=>Heap.get?_push_of_some _ e,tM a _,⟨_,Heap.get?_push_size _ rfl,rfl,rfl⟩,fun b hb=>?_,q⟩
  have e:b=s1.heap.objs.size:=by simpa using hb
  subst e
  exact I1.mY (Nat.le_refl _) (I1.hok.fresh (Nat.le_refl _))
 ·obtain ⟨its,rv,p,hz⟩:=I1.list hq
  refine wpAny_pyIter_list p.isList ?_
  refine⟨s1.heap.objs.size,[s1.heap.objs.size],_,_,H1,rfl,I1.kept (t':=s1.toks) fun b o e=>Heap.get?_push_of_some _ e,uW a _,⟨_,Heap.get?_push_size _ rfl,rfl,rfl⟩,fun b hb=>?_,q⟩
  have e:b=s1.heap.objs.size:=by simpa using hb
  subst e
  exact I1.mY (Nat.le_refl _) (I1.hok.fresh (Nat.le_refl _))
theorem uJ(hK:X.K=K):dU X (.builtin "len") (fun xs H Q=>∃ p ys,xs=[.ref p]∧(SqL K H p ys∨SqT K H p ys)∧Q (.int ys.length) H):=by subst hK; exact aY
theorem uQ(hK:X.K=K):dU X (.type "list") (fun xs H Q=>∃ p ys,xs=[.ref p]∧(SqL K H p ys∨SqT K H p ys)∧∀ l,H l=none→Q (.ref l) (upd H l (.lst ys))):=by subst hK; exact lR
end
end L2
end
section
set_option autoImplicit false
namespace L2
open PySem PySem.Spec PyProof.Rows
section
variable {X:Cx}{K:PySem.W.Frag}
def gB(H:Hp)(v:V)(ys:List V):Prop:=∃ p,v=.ref p∧(H p=some (.lst ys)∨H p=some (.tup ys))
theorem BW{pins:List (Addr × Obj)}{σ:St}{H:Hp}{A:Around}{R:Result→Shared→Prop}{it:Addr}{xs:List V}{bs:List Bool}(tn:Nat→Heap→Prop)(hb:bs.length=xs.length)
  (item:∀(i:Nat) (hi:i < xs.length) (s:Shared) (Q:Option Value→Shared→Prop) (E:Value→Shared→Prop),Inv X pins σ H s→tn i s.heap→(∀ u h',RelV xs[i] u→Inv X pins σ H { s with heap:=h' }→tn (i+1) h'→Q (some u) { s with heap:=h' })→wpAny (model X.prog X.w) A.in1 (pyNext (.ref it)) Q E s)
  (done:∀(s:Shared) (Q:Option Value→Shared→Prop) (E:Value→Shared→Prop),Inv X pins σ H s→tn xs.length s.heap→(∀ h',Inv X pins σ H { s with heap:=h' }→Q none { s with heap:=h' })→wpAny (model X.prog X.w) A.in1 (pyNext (.ref it)) Q E s)
  (tru:∀(i:Nat) (hi:i < xs.length) (hj:i < bs.length),∃ ys,gB H xs[i] ys∧bs[i]=!ys.isEmpty)
  (hR:∀ s',Inv X pins σ H s'→R (.ok (.ret (.bool (bs.any id)))) s') :
  ∀(k i:Nat) (s:Shared),xs.length - i=k→i≤xs.length→(∀(j:Nat) (hj:j < bs.length),j < i→bs[j]=false)→Inv X pins σ H s→tn i s.heap→codeAny (model X.prog X.w) A (.builtin "any.loop" ⟨[.ref it],[]⟩) R s:=by
 intro k
 induction k with
 | zero=>
  intro i s hk hi hf I ht
  have hin:i=xs.length:=by omega
  subst hin
  refine codeAny_builtin F.entry_any_loop ?_
  rw [Around.under_plainId F.plain_any_loop _]
  show wpAny _ A.in1 (pyNext (.ref it) >>= _) _ _ s
  refine wpAny_bind (done s _ _ I ht fun h' I'=>?_)
  refine wpAny_bind (wpAny_rule (wpAny_pure ?_))
  have e:bs.any id=false:=by
   apply Bool.eq_false_iff.mpr
   intro h
   obtain ⟨b,hb',hb1⟩:=List.any_eq_true.mp h
   obtain ⟨j,hj,rfl⟩:=List.getElem_of_mem hb'
   rw [hf j hj (by omega)] at hb1
   cases hb1
  have:=hR _ I'
  rw [e] at this
  exact this
 | succ k ih=>
  intro i s hk hi hf I ht
  have hlt:i < xs.length:=by omega
  have hlb:i < bs.length:=by omega
  refine codeAny_builtin F.entry_any_loop ?_
  rw [Around.under_plainId F.plain_any_loop _]
  show wpAny _ A.in1 (pyNext (.ref it) >>= _) _ _ s
  refine wpAny_bind (item i hlt s _ _ I ht fun u h' ru I' ht'=>?_)
  obtain ⟨ys,⟨p,ep,hp⟩,eb⟩:=tru i hlt hlb
  rw [ep] at ru
  cases ru
  have hs:sizeLine=16777216:=sizeLine_eq
  have hl63:=mR
  have step:∀(s2:Shared),Inv X pins σ H s2→s2.heap=h'→wpAny (model X.prog X.w) A.in1 (do
    letGo [Value.ref p]
    if bs[i]=true then do rule "any.true-item"; ret (.bool true) else again (.builtin "any.loop" ⟨[.ref it],[]⟩)) (fun fin s'=>(match fin with | .done f=>R (.ok f) s' | .again c=>Code.quiet c∧codeAny (model X.prog X.w) A c R s')) (fun e s'=>R (.error e) s') s2:=fun s2 I2 e2=>by
   refine wpAny_bind (wpAny_letGo ?_)
   cases hbi:bs[i] with
   | true=>
    simp only [if_true]
    refine wpAny_bind (wpAny_rule (wpAny_pure ?_))
    have e:bs.any id=true:=List.any_eq_true.mpr ⟨bs[i],List.getElem_mem hlb,hbi⟩
    have:=hR _ I2
    rw [e] at this
    exact this
   | false=>
    simp only [Bool.false_eq_true,if_false]
    refine wpAny_pure ⟨plainId_quiet F.plain_any_loop _,ih (i+1) _ (by omega) hlt (fun j hj hji=>?_) I2 (by rw [e2]; exact ht')⟩
    by_cases hji':j=i
    ·subst hji'
     exact hbi
    ·exact hf j hj (by omega)
  rcases hp with hp | hp
  ·obtain ⟨its,r,pl,hz⟩:=I'.list (SqL.of hp)
   have hlen:=r.length
   refine wpAny_bind (wpAny_holding (wpAny_truthy_list pl.isList (by simp only [List.size_toArray]; omega) ?_))
   rw [lZ r,← eb]
   exact step _ (I'.tok _) rfl
  ·obtain ⟨its,r,pl,hz⟩:=I'.tuple (SqT.of hp)
   have hlen:=r.length
   refine wpAny_bind (wpAny_holding (truthy_tuple pl (by simp only [List.size_toArray]; omega) ?_))
   rw [lZ r,← eb]
   exact step _ (I'.tok _) rfl
end
end L2
end
section
set_option autoImplicit false
namespace L2
open PySem PySem.Spec PyProof.Rows
section
variable {X:Cx}{K:PySem.W.Frag}
theorem Eh(hc:X.calm=true):dU X (.builtin "any") (fun vs H Q=>∃(p:Addr) (xs:List V) (bs:List Bool),vs=[.ref p]∧(H p=some (.lst xs)∨H p=some (.tup xs))∧bs.length=xs.length∧
  (∀(i:Nat) (hi:i < xs.length) (hj:i < bs.length),∃ ys,gB H xs[i] ys∧bs[i]=!ys.isEmpty)∧Q (.bl (bs.any id)) H):=by
 intro pins s σ H xs us Q I r h
 obtain ⟨p,xs,bs,rfl,hp,hb,tru,q⟩:=h
 obtain ⟨u,rfl,ru⟩:=vals1 r
 cases ru
 have hh:X.A.handled=none:=I.ok.hd hc
 refine call_function_tree F.kind_any F.plain_any F.entry_any (F.args_any1 _) ?_
 unfold Builtin.«any»
 refine wpAny_bind (m:=oneArg "any" _) (wpAny_pure ?_)
 rcases hp with hp | hp
 ·obtain ⟨its,rv,pl,hz⟩:=I.list (SqL.of hp)
  have hl:=rv.length
  refine wpAny_bind (wpAny_pyIter_list pl.isList ?_)
  have I1:=I.kept (t':=s.toks) (h':=s.heap.push { cls:=.type "list_iterator",data:=.fields #[.ref p,.int 0 0] }) fun b o e=>Heap.get?_push_of_some _ e
  have fp:=I.mY (Nat.le_refl _) (I.hok.fresh (Nat.le_refl s.heap.objs.size))
  obtain ⟨f0,f1,f2,f3,f4,f5⟩:=fp
  refine wpAny_pure ⟨plainId_quiet F.plain_any_loop _,BW (X:=X) (pins:=pins) (σ:=σ) (H:=H) (A:=X.A) (it:=s.heap.objs.size) (xs:=xs) (bs:=bs) (fun i h=>h.IsListIter s.heap.objs.size p i) hb ?_ ?_ tru (fun s' I'=>?_) xs.length 0 _ (by simp) (Nat.zero_le _) (by intro j hj h; omega) I1 ⟨_,Heap.get?_push_size _ rfl,rfl,rfl⟩⟩
  ·intro i hi s2 Q2 E2 I2 t2 k
   obtain ⟨its2,rv2,pl2,_⟩:=I2.list (SqL.of hp)
   obtain ⟨u,hu,ru⟩:=rv2.get (i:=i) (x:=xs[i]) (List.getElem?_eq_getElem hi)
   exact wpAny_pyNext_list_item t2 pl2.isList (x:=u) (by simpa using hu) fun h' st' sb=>k u h' ru (I2.turned (t':=s2.toks) (fun b o hb e=>(sb.2 b hb).trans e) f0 f1 f3 f4 f5) st'
  ·intro s2 Q2 E2 I2 t2 k
   obtain ⟨its2,rv2,pl2,_⟩:=I2.list (SqL.of hp)
   have hl2:=rv2.length
   exact wpAny_pyNext_list_end hh t2 pl2.isList (by simp; omega) fun h' eb=>k h' (I2.turned (t':=s2.toks) (fun b o hb e=>eb b o hb e) f0 f1 f3 f4 f5)
  ·exact⟨.bl _,H,I',rfl,q⟩
 ·obtain ⟨its,rv,pl,hz⟩:=I.tuple (SqT.of hp)
  have hl:=rv.length
  refine wpAny_bind (wpAny_pyIter_tuple (show s.heap.IsTuple p its.toArray from pl) ?_)
  have I1:=I.kept (t':=s.toks) (h':=s.heap.push { cls:=.type "tuple_iterator",data:=.fields #[.ref p,.int 0 0] }) fun b o e=>Heap.get?_push_of_some _ e
  have fp:=I.mY (Nat.le_refl _) (I.hok.fresh (Nat.le_refl s.heap.objs.size))
  obtain ⟨f0,f1,f2,f3,f4,f5⟩:=fp
  refine wpAny_pure ⟨plainId_quiet F.plain_any_loop _,BW (X:=X) (pins:=pins) (σ:=σ) (H:=H) (A:=X.A) (it:=s.heap.objs.size) (xs:=xs) (bs:=bs) (fun i h=>h.IsTupleIter s.heap.objs.size p i) hb ?_ ?_ tru (fun s' I'=>?_) xs.length 0 _ (by simp) (Nat.zero_le _) (by intro j hj h; omega) I1 ⟨_,Heap.get?_push_size _ rfl,rfl,rfl⟩⟩
  ·intro i hi s2 Q2 E2 I2 t2 k
   obtain ⟨its2,rv2,pl2,_⟩:=I2.tuple (SqT.of hp)
   obtain ⟨u,hu,ru⟩:=rv2.get (i:=i) (x:=xs[i]) (List.getElem?_eq_getElem hi)
   exact wpAny_pyNext_tuple_item t2 (show s2.heap.IsTuple p its2.toArray from pl2) (x:=u) (by simpa using hu) fun h' st' sb=>k u h' ru (I2.turned (t':=s2.toks) (fun b o hb e=>sb.extBut b o hb e) f0 f1 f3 f4 f5) st'
  ·intro s2 Q2 E2 I2 t2 k
   obtain ⟨its2,rv2,pl2,_⟩:=I2.tuple (SqT.of hp)
   have hl2:=rv2.length
   exact wpAny_pyNext_tuple_end hh t2 (show s2.heap.IsTuple p its2.toArray from pl2) (by simp; omega) fun h' eb=>k h' (I2.turned (t':=s2.toks) (fun b o hb e=>eb b o hb e) f0 f1 f3 f4 f5)
  ·exact⟨.bl _,H,I',rfl,q⟩
theorem zK{a:Expr}{ta:TE}(hK:X.K=K)(ha:PE X a ta)(he:∀ whole,isTrue a X.env whole=(do let v ← whole; standAt a.pos; holding [v] (truthy v))) :
  PT X a (fun σ H Q=>ta σ H fun x H'=>∃ k,Ju K x H' k∧Q k H'):=by subst hK; exact qb ha he
theorem BR(hK:X.K=K):SlR X (fun x lo hi H Q=>Ko K x lo hi H Q∨Ie K x lo hi H Q):=by subst hK; exact Fv.or j8
theorem pJ(hK:X.K=K):IxR X (fun x y H Q=>Jg K x y H Q∨IW K x y H Q):=by subst hK; exact dG.or bT
end
end L2
end
section
set_option autoImplicit false
namespace L2
open PySem PySem.Spec PyProof.Rows PySem.W
section
variable {prog:Program}{w:World}{A:Around}{E:Value→Shared→Prop}{s:Shared}{T:String}{r d:Addr}{n:Nat}{P:Nat→Value→Prop}{OK:Heap→Prop}
theorem yM{Q:List Value→Shared→Prop}(K:KdlSrc prog w T r d n P OK)(hh:A.handled=none)(hok:OK s.heap)(hn:n≤sizeLine)
  (hQ:∀ (h':Heap) (tk:Nat) (acc:Array Value),(∀ b o,s.heap.get? b=some o→h'.get? b=some o)→ItemsOf P acc n→Q acc.toList { s with heap:=h',toks:=tk }):wpAny (model prog w) A (collect (.ref r)) Q E s:=by
 obtain ⟨l1,l2⟩:=K.there _ hok
 unfold collect
 refine wpAny_bind (wpAny_runValue (codeAny_builtin F.entry_proto_collect ?_))
 rw [Around.under_plainId F.plain_proto_collect _]
 show wpAny _ A.in1 (newList [] >>= fun l=>again (.builtin "list.__iadd__" ⟨[l,.ref r],[]⟩)) _ _ s
 refine wpAny_bind (wpAny_newObj_type ?_)
 refine wpAny_pure ⟨plainId_quiet F.plain_list_iadd _,codeAny_builtin F.entry_list_iadd ?_⟩
 rw [Around.under_plainId F.plain_list_iadd _]
 show wpAny _ A.in1 (Builtin.List.listExtendWith (.ref s.heap.objs.size) (.ref r) (.ref s.heap.objs.size)) _ _ _
 have fin':∀ s':Shared,(∃ (h':Heap) (tk:Nat) (acc:Array Value) (c:Nat),s'={ s with heap:=h',toks:=tk }∧(∀ b o,s.heap.get? b=some o→h'.get? b=some o)∧h'.get? s.heap.objs.size=some { cls:=.type "list",dict:=none,data:=.seq acc c,slots:=#[] }∧ItemsOf P acc n)→
   wpAny (model prog w) A (do
    let o ← load s.heap.objs.size
    match o.data with
    | .seq xs _=>pure xs.toList
    | _=>unsupported "internal:collect") Q E s':=by
  rintro s' ⟨h',tk,acc,c,rfl,kp,hS,hacc⟩
  exact wpAny_bind (wpAny_load hS (wpAny_pure (hQ h' tk acc kp hacc)))
 refine wpAny_mono (kdl_extend (s:={ s with heap:=s.heap.push { cls:=.type "list",data:=.seq ([]:List Value).toArray } }) (A:=A)
  (R:=fun r' s'=>r'=.ok (.ret (.ref s.heap.objs.size))∧∃ (h':Heap) (tk:Nat) (acc:Array Value) (c:Nat),s'={ s with heap:=h',toks:=tk }∧(∀ b o,s.heap.get? b=some o→h'.get? b=some o)∧h'.get? s.heap.objs.size=some { cls:=.type "list",dict:=none,data:=.seq acc c,slots:=#[] }∧ItemsOf P acc n)
  K hh (K.keep _ _ hok fun b _ o e=>Heap.get?_push_of_some _ e) s.heap.objs.size (Nat.ne_of_gt l1) (Nat.ne_of_gt l2) _ 0 (Heap.get?_push_size _ rfl)
  (fun h' tk acc c kp hS hacc=>⟨rfl,h',tk,acc,c,rfl,fun b o e=>kp b o (Nat.ne_of_lt (Heap.lt_size e)) (Heap.get?_push_of_some _ e),hS,hacc⟩) hn) (fun fin s' h=>?_) (fun e s' h=>?_)
 ·cases fin with
  | done f=>
   obtain ⟨e,h⟩:=h
   cases e
   exact fin' s' h
  | again c'=>exact⟨h.1,codeAny_mono h.2 fun r s'' hr=>by obtain ⟨rfl,hr⟩:=hr; exact fin' s'' hr⟩
 ·exact absurd h.1 (by simp)
theorem uf{Q:Value→Shared→Prop}(K:KdlSrc prog w "dict" r d n P OK)(hh:A.handled=none)(hok:OK s.heap)(hn:n≤sizeLine)
  (hQ:∀ (h':Heap) (tk:Nat) (acc:Array Value),(∀ b o,s.heap.get? b=some o→h'.get? b=some o)→ItemsOf P acc n→Q (.ref h'.objs.size) { s with heap:=h'.push { cls:=.type "tuple",data:=.seq acc },toks:=tk }) :
  wpAny (model prog w) A (call (.type "tuple") [.ref r]) Q E s:=by
 refine callType_codes (Q₁:=fun obj s₁=>s₁.TypeIs obj "tuple" ∧ Q obj s₁) F.called_tuple (F.typeCall_tuple_1 _) F.entry_object_init (codeAny_call_builtin (by decide +kernel) F.entry_tuple_new (wpAny_of_eq (F.newCall_tuple_1 _) ?_)) fun obj s₁ h₁=>?_
 ·have hT:∀ tk',({ s with toks:=tk' }:Shared).TypeIs (.ref r) "dict" := fun tk'=>K.type _ hok
  obtain ⟨hp,g,dd,tk,os⟩:=s
  have hsub:=sub_tuple_self
  have hinit:=init_tuple_lookup
  have hmh:=madeHere_tuple
  have hT0:Shared.TypeIs ⟨hp,g,dd,tk,os⟩ (.ref r) "dict" := hT tk
  wp_walk using wpAny_typeOf hT0,yM (A:=A.in1.in1) K hh hok hn
  intro h' tk' acc kp hacc
  show wpAny _ _ (Builtin.Tuple.tupleExact acc.toList.toArray >>= fun v=>ret v) _ _ _
  unfold Builtin.Tuple.tupleExact
  refine wpAny_bind (wpAny_newObj_type ?_ (by show acc.toList.toArray.size≤sizeLine; simp; rw [hacc.1]; exact hn))
  have e:acc.toList.toArray=acc:=by simp
  rw [e]
  refine wpAny_pure ⟨⟨_,Heap.get?_push_size _ rfl,rfl⟩,hQ h' tk' acc kp hacc⟩
 ·exact⟨h₁.1,F.args_object_init_2 _ _,object_init_meets F.called_tuple.init.lookup F.called_tuple.made (by decide) prog w A.in1 _ s₁ ⟨h₁.1,rfl,h₁.2⟩⟩
end
end L2
end
section
set_option autoImplicit false
namespace L2
open PySem PySem.Spec PyProof.Rows
section
variable {X:Cx}
theorem CV{X:Cx}:∀(ks:List (Key × V)) (ws:List (Key × Value)) (us:List Value),KV ks ws→us.length=ws.length→(∀(j:Nat) (v:Value),us[j]?=some v→∃ k x,ws[j]?=some (k,x)∧(cP X.prog X.w).is k v=true)→Vals (ks.map fun kv=>kV kv.1) us:=by
 intro ks ws us rr
 induction rr generalizing us with
 | nil=>
  intro hl _
  cases us with
  | nil=>exact .nil
  | cons _ _=>cases hl
 | @cons p w' ks ws r t ih=>
  intro hl hi
  cases us with
  | nil=>cases hl
  | cons u us=>
   obtain ⟨k,x,e1,e2⟩:=hi 0 u rfl
   cases e1
   exact .cons (by show RelV (kV p.1) u; rw [r.1]; exact G9 e2) (ih us (by simpa using hl) fun j v e=>hi (j+1) v e)
theorem nD(hc:X.calm=true):dU X (.type "tuple") (fun xs H Q=>∃ d kvs,xs=[.ref d]∧Rd H d (.dK kvs)∧∀ l,H l=none→Q (.ref l) (upd H l (.tup (kvs.map fun kv=>kV kv.1)))):=by
 intro pins s σ H xs us Q I r h
 obtain ⟨d,kvs,rfl,hd,q⟩:=h
 obtain ⟨u,rfl,ru⟩:=vals1 r
 cases ru
 have hh:X.A.handled=none:=I.ok.hd hc
 obtain ⟨hz,hs,vs,rv,od,es,ep,ho,r1,r2,r3⟩:=(show cU X.prog X.w H s.heap d (.dK kvs) from hd.ok I.hok)
 have hl:vs.length=kvs.length:=(Paired.length rv).symm
 refine uf (PySem.W.kdl_dict (knd:=cP X.prog X.w) (kvs:=vs) (ep:=ep) hs) hh ⟨_,_,ho,r1,r2,r3⟩ (by omega) fun h' tk acc kp it=>?_
 obtain ⟨i1,i2⟩:=it
 have rk:=CV (X:=X) kvs vs acc.toList rv (by rw [Array.length_toList]; exact i1) fun j v e=>i2 j v (by simpa using e)
 have I1:Inv X pins σ H { s with heap:=h',toks:=tk }:=I.kept (t':=tk) kp
 have I2:Inv X pins σ (upd H h'.objs.size (.tup (kvs.map fun kv=>kV kv.1))) { s with heap:=h'.push { cls:=.type "tuple",data:=.seq acc },toks:=tk }:=
  I1.laid (t':=tk) (fun b o e=>Heap.get?_push_of_some _ e) (Nat.le_refl _) (show cU X.prog X.w _ _ _ (.tup (kvs.map fun kv=>kV kv.1)) from ⟨⟨by rw [List.length_map]; exact hz,mZ _ _⟩,acc.toList,rk,by rw [Array.toArray_toList]; exact IsTup.new _ _⟩)
 exact⟨.ref h'.objs.size,_,I2,rfl,q _ (I1.hok.fresh (Nat.le_refl _))⟩
end
section
variable {prog:Program}{w:World}{A:Around}{E:Value→Shared→Prop}{s:Shared}
theorem Ef(l:Addr)(items:Array Value)(n:Nat)(dct:Option Addr)(sl:Array (Option Value)) :
  Meets (Builtin.«enumerate.__new__» ⟨[.type "enumerate",.ref l],[]⟩) (fun _ R s=>s.heap.get? l=some { cls:=.type "tuple",dict:=dct,data:=.seq items n,slots:=sl }∧
   R (.ok (.ret (.ref (s.heap.push { cls:=.type "tuple_iterator",data:=.fields #[.ref l,.int 0 0] }).objs.size)))
    { s with heap:=(s.heap.push { cls:=.type "tuple_iterator",data:=.fields #[.ref l,.int 0 0] }).push { cls:=.type "enumerate",data:=.fields #[.none,.bool false,.ref s.heap.objs.size,rawInt 0,.none,.none] } }):=
 .of_wp fun prog w A R s h=>by
  obtain ⟨hp,g,d,tk,os⟩:=s
  obtain ⟨hl,h⟩:=h
  have hsub:=sub_enumerate
  have hL:Heap.IsTuple (Shared.heap ⟨hp,g,d,tk,os⟩) l items:=⟨_,hl,rfl,n,rfl⟩
  wp_walk using AutoSeq1.wpAny_loadPart' hl
  refine wpAny_stack_any fun st=>wpAny_pure ?_
  split
  ·rename_i c _ _ _ _ _
   cases (c == Value.type "enumerate")
   ·wp_walk using AutoSeq1.wpAny_loadPart' hl,wpAny_pyIter_tuple hL
    exact⟨_,rfl,h⟩
   ·wp_walk using AutoSeq1.wpAny_loadPart' hl,wpAny_pyIter_tuple hL
    exact⟨_,rfl,h⟩
  ·wp_walk using AutoSeq1.wpAny_loadPart' hl,wpAny_pyIter_tuple hL
   exact⟨_,rfl,h⟩
theorem zA{l:Addr}{items:Array Value}{Q:Value→Shared→Prop}(hL:s.heap.IsTuple l items)
  (h:∀ h',IsEnum h' (s.heap.objs.size+1) s.heap.objs.size 0 .none→h'.IsTupleIter s.heap.objs.size l 0→(∀ b o,s.heap.get? b=some o→h'.get? b=some o)→Q (.ref (s.heap.objs.size+1)) { s with heap:=h' }) :
  wpAny (model prog w) A (call (.type "enumerate") [.ref l]) Q E s:=by
 obtain ⟨⟨c,dct,dt,sl⟩,hl,hc,n,hd⟩:=hL
 have hc:c=.type "tuple" := hc
 have hd:dt=.seq items n:=hd
 subst hc hd
 refine callType_new F.called_enumerate (by decide) (F.typeCall_enumerate_1 _) (F.newCall_enumerate_1 _) (fun obj=>F.args_object_init_2 obj _) F.entry_enumerate_new (Ef l items n dct sl) ⟨hl,?_⟩
 have hz:(s.heap.push { cls:=.type "tuple_iterator",data:=.fields #[.ref l,.int 0 0] }).objs.size=s.heap.objs.size+1:=Heap.size_push ..
 show _∧_
 rw [hz]
 have he:IsEnum ((s.heap.push { cls:=.type "tuple_iterator",data:=.fields #[.ref l,.int 0 0] }).push { cls:=.type "enumerate",data:=.fields #[.none,.bool false,.ref s.heap.objs.size,rawInt 0,.none,.none] }) (s.heap.objs.size+1) s.heap.objs.size 0 .none:=by
  rw [← hz]
  exact Heap.get?_push_size _ rfl
 exact⟨⟨_,he,rfl⟩,h _ he ⟨_,Heap.get?_push_of_some _ (Heap.get?_push_size _ rfl),rfl,rfl⟩ fun b o e=>Heap.get?_push_of_some _ (Heap.get?_push_of_some _ e)⟩
end
end L2
end
section
set_option autoImplicit false
namespace L2
open PySem PySem.Spec PyProof.Rows
section
variable {prog:Program}{w:World}{A:Around}{E:Value→Shared→Prop}{s:Shared}
theorem zJ{e it l:Addr}{i:Nat}{c:Int}{items:Array Value}{x old:Value}{Q:Value→Shared→Prop}(he:IsEnum s.heap e it c old)(hit:s.heap.IsTupleIter it l i)(hl:s.heap.IsTuple l items)(hx:items[i]?=some x)(hne:e≠it)
  (hQ:∀ h',IsEnumOut h' e it (c+1) x s.heap.objs.size→h'.IsTupleIter it l (i+1)→h'.get? s.heap.objs.size=some { cls:=.type "tuple",data:=.seq #[.int c s.toks,x] }→
   (∀ b o,b≠e→b≠it→s.heap.get? b=some o→h'.get? b=some o)→Q (.ref s.heap.objs.size) { s with heap:=h',toks:=s.toks+1 }) :
  wpAny (model prog w) A (Builtin.«enumerate.__next__» ⟨[.ref e],[]⟩) (fun fin s'=>∃ v,fin=.done (.ret v)∧Q v s') E s:=by
 obtain ⟨hp,g,d,tk,os⟩:=s
 have elt:e < hp.objs.size:=Heap.lt_size he
 show wpAny _ _ (field (.ref e) 2 >>= _) _ _ _
 refine wpAny_bind (wpAny_field he rfl (x:=.ref it) rfl ?_)
 refine wpAny_bind (mq hit hl hx fun h1 t1 b1=>?_)
 have e1:IsEnum h1 e it c old:=(b1.2 e hne).trans he
 show wpAny _ _ (field (.ref e) 3 >>= _) _ _ ⟨h1,g,d,tk,os⟩
 refine wpAny_bind (wpAny_field e1 rfl (x:=rawInt c) rfl ?_)
 show wpAny _ _ (field (.ref e) 4 >>= _) _ _ ⟨h1,g,d,tk,os⟩
 refine wpAny_bind (wpAny_field e1 rfl (x:=.none) rfl ?_)
 show wpAny _ _ (mkInt c >>= _) _ _ ⟨h1,g,d,tk,os⟩
 refine wpAny_bind (wpAny_mkInt ?_)
 show wpAny _ _ (setField (.ref e) 3 (rawInt (c+1)) >>= _) _ _ ⟨h1,g,d,tk+1,os⟩
 refine wpAny_bind (wpAny_setField_rec e1 (by simp) fun h2 e2 b2=>?_)
 replace e2:IsEnum h2 e it (c+1) old:=e2
 show wpAny _ _ (setField (.ref e) 4 .none >>= _) _ _ ⟨h2,g,d,tk+1,os⟩
 refine wpAny_bind (wpAny_setField_rec e2 (by simp) fun h3 e3 b3=>?_)
 replace e3:IsEnum h3 e it (c+1) old:=e3
 show wpAny _ _ (newTuple [.int c tk,x] >>= _) _ _ ⟨h3,g,d,tk+1,os⟩
 refine wpAny_bind (wpAny_newTuple ?_)
 have hsz:h3.objs.size=hp.objs.size:=b3.1.trans (b2.1.trans b1.1)
 have e4:IsEnum (h3.push { cls:=.type "tuple",data:=.seq #[.int c tk,x] }) e it (c+1) old:=Heap.get?_push_of_some _ e3
 have g4:(h3.push { cls:=.type "tuple",data:=.seq #[.int c tk,x] }).get? hp.objs.size=some { cls:=.type "tuple",data:=.seq #[.int c tk,x] }:=by
  rw [← hsz]
  exact Heap.get?_push_size _ rfl
 have k4:∀ b o,b≠e→b≠it→hp.get? b=some o→(h3.push { cls:=.type "tuple",data:=.seq #[.int c tk,x] }).get? b=some o:=fun b o c1 c2 z=>
  Heap.get?_push_of_some _ (b3.extBut b o c1 (b2.extBut b o c1 (b1.extBut b o c2 z)))
 have t4:(h3.push { cls:=.type "tuple",data:=.seq #[.int c tk,x] }).IsTupleIter it l (i+1):=by
  obtain ⟨o,ho,r⟩:=(t1.extBut b2.extBut (Ne.symm hne)).extBut b3.extBut (Ne.symm hne)
  exact⟨o,Heap.get?_push_of_some _ ho,r⟩
 have gt:hp.objs.size≠e:=Nat.ne_of_gt elt
 show wpAny _ _ (Builtin.SmallTypes.ownedTupleIsFree (.ref e) >>= _) _ _ ⟨h3.push { cls:=.type "tuple",data:=.seq #[.int c tk,x] },g,d,tk+1,os⟩
 rw [hsz]
 generalize h3.push { cls:=.type "tuple",data:=.seq #[.int c tk,x] }=h4 at e4 g4 k4 t4
 refine wpAny_bind ?_
 unfold Builtin.SmallTypes.ownedTupleIsFree
 refine wpAny_bind (wpAny_field e4 rfl (x:=.none) rfl (wpAny_pure ?_))
 simp only [if_true]
 refine wpAny_bind (wpAny_rule ?_)
 refine wpAny_bind (wpAny_field e4 rfl (x:=old) rfl ?_)
 refine wpAny_bind (wpAny_setField_rec e4 (by simp) fun h5 e5 b5=>?_)
 replace e5:IsEnum h5 e it (c+1) x:=e5
 show wpAny _ _ (Builtin.SmallTypes.ownedTupleHandOut (.ref e) (.ref hp.objs.size) >>= _) _ _ ⟨h5,g,d,tk+1,os⟩
 refine wpAny_bind ?_
 unfold Builtin.SmallTypes.ownedTupleHandOut
 refine wpAny_bind (wpAny_setField_rec e5 (by simp) fun h6 e6 b6=>?_)
 replace e6:IsEnumOut h6 e it (c+1) x hp.objs.size:=e6
 refine wpAny_setField_rec e6 (by simp) fun h7 e7 b7=>?_
 replace e7:IsEnumOut h7 e it (c+1) x hp.objs.size:=e7
 refine wpAny_bind (wpAny_letGo (wpAny_pure ⟨_,rfl,hQ h7 e7 ?_ ?_ ?_⟩))
 ·exact((t4.extBut b5.extBut (Ne.symm hne)).extBut b6.extBut (Ne.symm hne)).extBut b7.extBut (Ne.symm hne)
 ·exact b7.extBut _ _ gt (b6.extBut _ _ gt (b5.extBut _ _ gt g4))
 ·exact fun b o c1 c2 z=>b7.extBut b o c1 (b6.extBut b o c1 (b5.extBut b o c1 (k4 b o c1 c2 z)))
theorem zH{e it l:Addr}{i:Nat}{c:Int}{items:Array Value}{x old:Value}{Q:Option Value→Shared→Prop}(he:IsEnum s.heap e it c old)(hit:s.heap.IsTupleIter it l i)(hl:s.heap.IsTuple l items)(hx:items[i]?=some x)(hne:e≠it)
  (hQ:∀ h',IsEnumOut h' e it (c+1) x s.heap.objs.size→h'.IsTupleIter it l (i+1)→h'.get? s.heap.objs.size=some { cls:=.type "tuple",data:=.seq #[.int c s.toks,x] }→
   (∀ b o,b≠e→b≠it→s.heap.get? b=some o→h'.get? b=some o)→Q (some (.ref s.heap.objs.size)) { s with heap:=h',toks:=s.toks+1 }) :
  wpAny (model prog w) A (pyNext (.ref e)) Q E s:=by
 have hT:s.TypeIs (.ref e) "enumerate" := ⟨_,he,rfl⟩
 unfold pyNext
 exact wpAny_bind (wpAny_attempt (wpAny_callSpecial?_slot (name:=Str.ofString "__next__") hT F.slot_enumerate_next (wpAny_call_entry F.slot_enumerate_next hT F.entry_enumerate_next (zJ he hit hl hx hne fun h' a b c k=>wpAny_pure (hQ h' a b c k)) (F.args_enumerate_next_1 _))))
theorem DY{e it l:Addr}{i:Nat}{c:Int}{items:Array Value}{old:Value}{Q:Option Value→Shared→Prop}(hh:A.handled=none)(he:IsEnum s.heap e it c old)(hit:s.heap.IsTupleIter it l i)(hl:s.heap.IsTuple l items)(hx:items[i]?=none)
  (hQ:∀ h',Heap.ExtBut it s.heap h'→Q none { s with heap:=h' }):wpAny (model prog w) A (pyNext (.ref e)) Q E s:=by
 have hT:s.TypeIs (.ref e) "enumerate" := ⟨_,he,rfl⟩
 unfold pyNext
 refine wpAny_bind (wpAny_attempt (wpAny_callSpecial?_slot (name:=Str.ofString "__next__") hT F.slot_enumerate_next (wpAny_call_entry F.slot_enumerate_next hT F.entry_enumerate_next ?_ (F.args_enumerate_next_1 _))))
 show wpAny _ _ (field (.ref e) 2 >>= _) _ _ _
 refine wpAny_bind (wpAny_field he rfl (x:=.ref it) rfl ?_)
 refine wpAny_bind (qu hh hit hl hx fun h' x' k' hx'=>?_)
 obtain ⟨o,ho,hc⟩:=hx'
 exact wpAny_bind (wpAny_isInstance (T:= "StopIteration") (b:=true) ⟨o,ho,hc⟩ isSubtype_stop (wpAny_pure (hQ _ k')))
end
end L2
end
section
set_option autoImplicit false
namespace L2
open PySem PySem.Spec PyProof.Rows
def HX(K:PySem.W.Frag)(a:Addr):It:=
 ⟨fun i H=>∃ xs x,SqT K H a xs∧xs[i]?=some x,fun i H v H'=>∃ p,H p=none∧v=.ref p∧∀ xs x,SqT K H a xs→xs[i]?=some x→H'=upd H p (.tup [.int i,x]),fun i H=>∃ xs,SqT K H a xs∧xs.length≤i⟩
theorem zQ{P:Program}{w:World}{K:PySem.W.Frag}{elts:List Expr}{x1:Nat}{tpos:Pos}{e it l:Addr}(hne:e≠it):Turn P w K (.Tuple elts x1 tpos) (HX K l) [e,it] e
  (fun i h=>(∃ old,IsEnum h e it i old)∧h.IsTupleIter it l i) where
 mem:=by simp
 obj:=fun i h st b hb=>by
  obtain ⟨⟨old,he⟩,o,ei,c,d⟩:=st
  simp only [List.mem_cons,List.not_mem_nil,or_false] at hb
  rcases hb with rfl | rfl
  ·exact⟨_,he,fun v q=>nomatch q⟩
  ·exact⟨o,ei,fun v z=>by rw [d] at z; cases z⟩
 keep:=fun i h h' st k=>by
  obtain ⟨⟨old,he⟩,o,ei,r⟩:=st
  exact⟨⟨old,k e (by simp) _ he⟩,o,k it (by simp) _ ei,r⟩
 item:=by
  intro X hP hw hK hc i pins s σ H E I hf st hg
  subst hP hw hK
  obtain ⟨xs,x,hq,hx⟩:=hg
  obtain ⟨its,rv,p,hz⟩:=I.tuple hq
  obtain ⟨u,hu,ru⟩:=rv.get hx
  obtain ⟨⟨old,he⟩,hit⟩:=st
  refine zH he hit (show s.heap.IsTuple l its.toArray from p) (x:=u) (by simpa using hu) hne fun h' a1 a2 a3 a5=>?_
  refine⟨_,rfl,wpAny_letOwnedTupleGo_enum a1 fun h2' a1' q'=>?_⟩
  have hn:H s.heap.objs.size=none:=I.hok.fresh (Nat.le_refl _)
  have elt:e < s.heap.objs.size:=Heap.lt_size he
  have ilt:it < s.heap.objs.size:=by obtain ⟨_,e,_⟩:=hit; exact Heap.lt_size e
  have kk:∀ b ob,b ∉ [e,it]→s.heap.get? b=some ob→h2'.get? b=some ob:=fun b ob hb ee=>by
   simp only [List.mem_cons,List.not_mem_nil,or_false,not_or] at hb
   exact q'.extBut _ _ hb.1 (a5 b ob hb.1 hb.2 ee)
  have I1:Inv X pins σ (upd H s.heap.objs.size (.tup [.int i,x])) { s with heap:=h2',toks:=s.toks+1 }:=I.rY (t':=s.toks+1) hf kk (Nat.le_refl _)
   ⟨⟨by show 2≤sizeLine; decide,fun o ee=>by rw [q'.extBut _ _ (Nat.ne_of_gt elt) a3] at ee; cases ee; rfl⟩,[.int i s.toks,u],.cons ⟨_,rfl⟩ (.cons ru .nil),⟨_,q'.extBut _ _ (Nat.ne_of_gt elt) a3,rfl,_,rfl⟩⟩
  refine⟨.ref s.heap.objs.size,_,I1,rfl,⟨_,hn,rfl,fun xs' x' k1 k3=>?_⟩,⟨⟨_,by simpa using a1'⟩,a2.extBut q'.extBut hne.symm⟩,fun b hb=>?_⟩
  ·rw [I.nO k1 hq,hx] at k3
   cases k3
   rfl
  ·have hb':=hb
   simp only [List.mem_cons,List.not_mem_nil,or_false] at hb'
   have hlt:b < s.heap.objs.size:=by
    rcases hb' with rfl | rfl
    ·exact elt
    ·exact ilt
   rw [aA (Nat.ne_of_lt hlt)]
   exact(hf b hb).1
 done:=by
  intro X hP hw hK hc i pins s σ H E I hf st hg
  subst hP hw hK
  obtain ⟨xs,hq,hx⟩:=hg
  obtain ⟨its,rv,p,hz⟩:=I.tuple hq
  obtain ⟨⟨old,he⟩,hit⟩:=st
  have hl:=rv.length
  refine DY (I.ok.hd hc) he hit (show s.heap.IsTuple l its.toArray from p) (by simp; omega) fun h' eb=>⟨rfl,I.rN (t':=s.toks) hf fun b u hb q=>?_⟩
  simp only [List.mem_cons,List.not_mem_nil,or_false,not_or] at hb
  exact eb b u hb.2 q
 self:=fun _ _ _ _ _ st h=>by
  obtain ⟨⟨old,he⟩,_⟩:=st
  exact wpAny_pyIter_enum he h
section
variable {X:Cx}{K:PySem.W.Frag}
def J0(K:PySem.W.Frag)(ta:TA):TI:=fun σ H R=>ta σ H fun vs H1=>∃ a,vs=[.ref a]∧((∃ xs,SqL K H1 a xs∧R (Ite K a) H1)∨∃ xs,SqT K H1 a xs∧R (HX K a) H1)
theorem Eu{elts:List Expr}{x1:Nat}{tpos:Pos}{a:Expr}{ta:TA}{p pos:Pos}(hK:X.K=K)(hg:Gl X "enumerate")(hm:X.mg "enumerate" = none)(ha:PA X [a] ta)
  (he:starEach [a] X.env=(false,eval a X.env)::starEach [] X.env:=by rfl) (hpl:(backTo pos (starEach [] X.env)).any (·.1)=false:=by rfl):PI X (.Tuple elts x1 tpos) (.Call (.Name "enumerate" p) [a] [] pos) (J0 K ta):=by
 subst hK
 intro pins s σ H R I h
 have boot_enum:bootBuiltins "enumerate" = some (.type "enumerate"):=by decide +kernel
 refine wpAny_Call_Name_kw (oR I hg hm boot_enum ?_)
 refine PyProof.Rows.callWith_type1 (thn (ha pos pins s σ H _ I h) fun us s1 ⟨vs,H1,I1,r1,t1,e,q1⟩=>?_) he hpl
 subst e
 obtain ⟨u,rfl,ru⟩:=vals1 r1
 cases ru
 have hne:s1.heap.objs.size+1≠s1.heap.objs.size:=by change @Ne Nat _ _; omega
 have fp:∀ b∈[s1.heap.objs.size+1,s1.heap.objs.size],nW X pins H1 b:=fun b hb=>by
  have hle:s1.heap.objs.size≤b:=by
   simp only [List.mem_cons,List.not_mem_nil,or_false] at hb
   rcases hb with h | h <;> rw [h] <;> first | exact Nat.le_refl _ | exact Nat.le_add_right _ _
  exact I1.mY hle (I1.hok.fresh hle)
 rcases q1 with ⟨xs,q1,q⟩ | ⟨xs,q1,q⟩
 ·obtain ⟨its,rv,p1,hz1⟩:=I1.list q1
  refine call_enumerate_list p1.isList fun h' hE hI hsz hk=>?_
  refine wpAny_pyIter_enum hE ?_
  exact⟨s1.heap.objs.size+1,[s1.heap.objs.size+1,s1.heap.objs.size],_,Ite X.K t1,H1,rfl,I1.kept (t':=s1.toks) hk,uV hne,⟨⟨_,hE⟩,hI⟩,fp,q⟩
 ·obtain ⟨its,rv,p1,hz1⟩:=I1.tuple q1
  refine zA (show s1.heap.IsTuple t1 its.toArray from p1) fun h' hE hI hk=>?_
  refine wpAny_pyIter_enum hE ?_
  exact⟨s1.heap.objs.size+1,[s1.heap.objs.size+1,s1.heap.objs.size],_,HX X.K t1,H1,rfl,I1.kept (t':=s1.toks) hk,zQ hne,⟨⟨_,hE⟩,hI⟩,fp,q⟩
end
end L2
end
section
set_option autoImplicit false
namespace L2
open PySem PyProof.Rows
abbrev Mv(g:TG)(tb:TS)(D:Ends)(σ:L2.St)(J:It)(H1:Hp):Prop:=∃ W:Nat→Nat→L2.St→Hp→Prop,(∃ m,W 0 m σ H1)∧∀ i m σ H,W i m σ H→
 (J.stop i H∧D.nx σ H)∨(J.go i H∧∃ N:L2.St→Hp→Prop,(∀ σ' H',N σ' H'→∃ m',m' < m∧W (i+1) m' σ' H')∧∀ x H',J.yld i H x H'→g x σ H' fun σ2 H2=>tb { D with nx:=N,ct:=N,bk:=D.nx } σ2 H2)
theorem gB.same{H H':Hp}{v:V}{ys:List V}(h:gB H v ys)(s:Same H H'):gB H' v ys:=by
 obtain ⟨p,e,h⟩:=h
 exact⟨p,e,h.elim (fun z=>.inl (s p _ z)) fun z=>.inr (s p _ z)⟩
theorem vO{K:PySem.W.Frag}{a:Addr}{xs:List V}{g:TG}{tb:TS}{D:Ends}{σ:L2.St}{H:Hp}(hq:gB H (.ref a) xs)(Pv:Nat→L2.St→Hp→Prop)(h0:Pv 0 σ H)
  (keep:∀ i σ H',i≤xs.length→Pv i σ H'→∀ o,H a=some o→H' a=some o)
  (hs:∀ i x σ H,xs[i]?=some x→Pv i σ H→g x σ H fun σ2 H2=>tb { D with nx:=Pv (i+1),ct:=Pv (i+1),bk:=D.nx } σ2 H2) (hd:∀ σ H,Pv xs.length σ H→D.nx σ H) :
  (∃ xs,SqT K H a xs∧Mv g tb D σ (Itt K a) H)∨∃ xs,SqL K H a xs∧Mv g tb D σ (Itl K a) H:=by
 obtain ⟨p,e,h⟩:=hq
 cases e
 rcases h with h | h
 ·exact .inr ⟨xs,SqL.of h,mO (K:=K) (a:=a) (xs:=xs) Pv h0 (fun i σ H' hi p=>SqL.of (keep i σ H' hi p _ h)) hs hd⟩
 ·exact .inl ⟨xs,SqT.of h,rH (K:=K) (a:=a) (xs:=xs) Pv h0 (fun i σ H' hi p=>SqT.of (keep i σ H' hi p _ h)) hs hd⟩
theorem ug{K:PySem.W.Frag}{a:Addr}{xs:List V}{own:Nat}{fr:List Nat}{g:TG}{tc:TT}{te:TE}{σ:L2.St}{Q:VK}{H:Hp}(hq:gB H (.ref a) xs)(Pv:Addr→Nat→List V→Hp→Prop)
  (h0:∀ D,H D=none→Pv D 0 [] (upd H D (.lst []))) (keep:∀ D i ys H',H D=none→Pv D i ys H'→∀ o,H a=some o→H' a=some o) (stop:∀ D ys H',H D=none→Pv D xs.length ys H'→Q (.ref D) H')
  (go:∀ D i x ys H',H D=none→i < xs.length→xs[i]?=some x→Pv D i ys H'→∀ σo:L2.St,σo.length=own→g x (σo++frv σ fr) H' fun σ2 H2=>(∃ σo':L2.St,σo'.length=own∧σ2=σo'++frv σ fr)∧
   tc σ2 H2 fun b H3=>if b=true then te σ2 H3 fun y H4=>ys.length < sizeLine∧H4 D=some (.lst ys)∧∃ m',m' < xs.length - i∧(m'=xs.length - (i+1)∧i+1≤xs.length∧Pv D (i+1) (ys++[y]) (upd H4 D (.lst (ys++[y])))) else ∃ m',m' < xs.length - i∧(m'=xs.length - (i+1)∧i+1≤xs.length∧Pv D (i+1) ys H3)) :
  (∃ xs,SqT K H a xs∧∀ D,H D=none→sZ own fr g tc te σ Q (Itt K a) D (upd H D (.lst [])))∨∃ xs,SqL K H a xs∧∀ D,H D=none→sZ own fr g tc te σ Q (Itl K a) D (upd H D (.lst [])):=by
 obtain ⟨p,e,h⟩:=hq
 cases e
 rcases h with h | h
 ·refine .inr ⟨xs,SqL.of h,fun D hD=>bw (n:=xs.length) (Pv D) (h0 D hD) (fun ys H' p=>⟨⟨xs,SqL.of (keep D _ ys H' hD p _ h),Nat.le_refl _⟩,stop D ys H' hD p⟩) fun i ys H' hi p=>?_⟩
  have ex:xs[i]?=some xs[i]:=List.getElem?_eq_getElem hi
  have hl:=SqL.of (K:=K) (keep D i ys H' hD p _ h)
  refine⟨⟨xs,xs[i],hl,ex⟩,?_⟩
  rintro x H2 ⟨rfl,yy⟩ σo ho
  exact go D i x ys H2 hD hi (yy xs hl) p σo ho
 ·refine .inl ⟨xs,SqT.of h,fun D hD=>bw (n:=xs.length) (Pv D) (h0 D hD) (fun ys H' p=>⟨⟨xs,SqT.of (keep D _ ys H' hD p _ h),Nat.le_refl _⟩,stop D ys H' hD p⟩) fun i ys H' hi p=>?_⟩
  have ex:xs[i]?=some xs[i]:=List.getElem?_eq_getElem hi
  have hl:=SqT.of (K:=K) (keep D i ys H' hD p _ h)
  refine⟨⟨xs,xs[i],hl,ex⟩,?_⟩
  rintro x H2 ⟨rfl,yy⟩ σo ho
  exact go D i x ys H2 hD hi (yy xs hl) p σo ho
theorem yV{K:PySem.W.Frag}{a:Addr}{xs:List V}{own:Nat}{fr:List Nat}{g:TG}{tc:TT}{te:TE}{σ:L2.St}{Q:VK}{H:Hp}(hq:gB H (.ref a) xs)(Pv:Addr→Nat→List V→Hp→Prop)
  (h0:∀ D,H D=none→Pv D 0 [] (upd H D (.lst []))) (keep:∀ D i ys H',H D=none→Pv D i ys H'→∀ o,H a=some o→H' a=some o) (stop:∀ D ys H',H D=none→Pv D xs.length ys H'→Q (.ref D) H')
  (go:∀ D i x ys H' p,H D=none→i < xs.length→xs[i]?=some x→Pv D i ys H'→H' p=none→∀ σo:L2.St,σo.length=own→g (.ref p) (σo++frv σ fr) (upd H' p (.tup [.int i,x])) fun σ2 H2=>(∃ σo':L2.St,σo'.length=own∧σ2=σo'++frv σ fr)∧
   tc σ2 H2 fun b H3=>if b=true then te σ2 H3 fun y H4=>ys.length < sizeLine∧H4 D=some (.lst ys)∧∃ m',m' < xs.length - i∧(m'=xs.length - (i+1)∧i+1≤xs.length∧Pv D (i+1) (ys++[y]) (upd H4 D (.lst (ys++[y])))) else ∃ m',m' < xs.length - i∧(m'=xs.length - (i+1)∧i+1≤xs.length∧Pv D (i+1) ys H3)) :
  (∃ xs,SqL K H a xs∧∀ D,H D=none→sZ own fr g tc te σ Q (Ite K a) D (upd H D (.lst [])))∨∃ xs,SqT K H a xs∧∀ D,H D=none→sZ own fr g tc te σ Q (HX K a) D (upd H D (.lst [])):=by
 obtain ⟨p,e,h⟩:=hq
 cases e
 rcases h with h | h
 ·refine .inl ⟨xs,SqL.of h,fun D hD=>bw (n:=xs.length) (Pv D) (h0 D hD) (fun ys H' p=>⟨⟨xs,SqL.of (keep D _ ys H' hD p _ h),Nat.le_refl _⟩,stop D ys H' hD p⟩) fun i ys H' hi p=>?_⟩
  have ex:xs[i]?=some xs[i]:=List.getElem?_eq_getElem hi
  have hl:=SqL.of (K:=K) (keep D i ys H' hD p _ h)
  refine⟨⟨xs,xs[i],hl,ex⟩,?_⟩
  rintro x H2 ⟨q,hq,rfl,yy⟩ σo ho
  have e2:=yy xs xs[i] hl ex
  subst e2
  exact go D i xs[i] ys H' q hD hi ex p hq σo ho
 ·refine .inr ⟨xs,SqT.of h,fun D hD=>bw (n:=xs.length) (Pv D) (h0 D hD) (fun ys H' p=>⟨⟨xs,SqT.of (keep D _ ys H' hD p _ h),Nat.le_refl _⟩,stop D ys H' hD p⟩) fun i ys H' hi p=>?_⟩
  have ex:xs[i]?=some xs[i]:=List.getElem?_eq_getElem hi
  have hl:=SqT.of (K:=K) (keep D i ys H' hD p _ h)
  refine⟨⟨xs,xs[i],hl,ex⟩,?_⟩
  rintro x H2 ⟨q,hq,rfl,yy⟩ σo ho
  have e2:=yy xs xs[i] hl ex
  subst e2
  exact go D i xs[i] ys H' q hD hi ex p hq σo ho
def OD(H:Hp)(vs:List V)(rows:List (List Str)):Prop:=Paired (fun(v:V) (r:List Str)=>gB H v (r.map V.str)) vs rows
end L2
end
section
set_option autoImplicit false
namespace L2
open PySem PySem.Spec PyProof.Rows
section
variable {X:Cx}
end
end L2
end
section
set_option autoImplicit false
namespace L2
open PySem PySem.Spec PyProof.Rows
def Oa:Key→PyData
 | .inl i=>.int i
 | .inr x=>.str x
mutual
def noL:PyData→Bool
 | .none | .bool _ | .int _ | .str _=>true
 | .list _=>false
 | .tuple xs=>Mu xs
 | .dict kvs=>Lf kvs
def Mu:List PyData→Bool
 | []=>true
 | x::xs=>noL x && Mu xs
def Lf:List (PyData × PyData)→Bool
 | []=>true
 | (_,v)::r=>noL v && Lf r
end
mutual
inductive RdV (H:Hp):V→PyData→Prop
 | non:RdV H .non .none
 | bl (b:Bool):RdV H (.bl b) (.bool b)
 | int (i:Int):RdV H (.int i) (.int i)
 | str (x:Str):RdV H (.str x) (.str x)
 | tup {a:Addr} {xs:List V} {ds:List PyData}:H a=some (.tup xs)→RdA H xs ds→RdV H (.ref a) (.tuple ds)
 | lst {a:Addr} {xs:List V} {ds:List PyData}:H a=some (.lst xs)→RdA H xs ds→RdV H (.ref a) (.list ds)
 | dct {a:Addr} {kvs:List (Key × V)} {ds:List PyData}:H a=some (.dK kvs)→RdA H (kvs.map (·.2)) ds→RdV H (.ref a) (.dict ((kvs.map fun p=>Oa p.1).zip ds))
inductive RdA (H:Hp):List V→List PyData→Prop
 | nil:RdA H [] []
 | cons {v:V} {d:PyData} {vs:List V} {ds:List PyData}:RdV H v d→RdA H vs ds→RdA H (v::vs) (d::ds)
end
theorem RdA.length{H:Hp}:∀ {vs:List V} {ds:List PyData},RdA H vs ds→vs.length=ds.length
 | _,_,.nil=>rfl
 | _,_,.cons _ r=>by simp [RdA.length r]
section
variable {X:Cx}{pins:List (Addr × Obj)}{σ:St}{H:Hp}{s:Shared}
end
end L2
end
section
set_option autoImplicit false
namespace L2
open PySem PySem.Spec PyProof.Rows
def Lw(x:Str):Prop:=∀ c∈x.cps.toList,c∈abc.cps.toList
theorem Lw.empty:Lw Str.empty:=fun c hc=>nomatch hc
theorem Lw.nil:Lw "" := by
 unfold Lw
 decide +kernel
theorem Lw.app{x y:Str}(h:Lw x)(g:Lw y):Lw (x++y):=fun c hc=>by
 have hc:c∈(x.cps++y.cps).toList:=hc
 rw [Array.toList_append] at hc
 rcases List.mem_append.mp hc with q | q
 ·exact h c q
 ·exact g c q
theorem Lw.one{c:Nat}(h:c∈abc.cps.toList):Lw ⟨#[c]⟩:=fun d hd=>by
 rw [List.mem_singleton.mp (show d∈[c] from hd)]
 exact h
theorem Lw.letter{x:Str}(h:x∈letters):Lw x:=by
 obtain ⟨c,hc,rfl⟩:=List.mem_map.mp h
 exact Lw.one hc
theorem Lw.slice{x:Str}(h:Lw x)(lo hi:Option Int):Lw (Txt.slice x lo hi):=by
 unfold Txt.slice
 split
 ·exact h
 ·intro c hc
  obtain ⟨i,_,e⟩:=List.mem_filterMap.mp (show c∈(List.filterMap (x.cps[·]?) _) from hc)
  exact h c (Array.mem_toList_iff.mpr (Array.mem_of_getElem? e))
theorem BP{c:Nat}{xs:Array Nat}:∀ {k:Nat} {acc:Array Nat},c∈(List.foldl (fun x1 x2=>x1++x2) acc (List.replicate k xs)).toList→c∈acc.toList∨c∈xs.toList
 | 0,_,h=>.inl h
 | k+1,acc,h=>by
  rcases BP (k:=k) (acc:=acc++xs) h with q | q
  ·rw [Array.toList_append] at q
   exact List.mem_append.mp q
  ·exact .inr q
theorem Lw.rep{x:Str}(h:Lw x)(n:Int):Lw (jy x n):=by
 unfold jy
 split
 ·exact Lw.empty
 ·split
  ·exact h
  ·intro c hc
   rcases BP hc with q | q
   ·exact nomatch q
   ·exact h c q
theorem Ku:∀ c∈abc.cps.toList,97≤c∧c≤122:=by decide +kernel
theorem tZ{xs:List Nat}{i:Int}{c:Nat}(h:atI xs i=some c):c∈xs:=by
 unfold atI at h
 obtain ⟨j,_,e⟩:=Option.bind_eq_some_iff.mp h
 exact List.mem_of_getElem? e
end L2
end
section
set_option autoImplicit false
namespace L2
open PySem PySem.Spec PyProof.Rows
def Ow(H:Hp)(us:List V)(tbl:List (List Int)):Prop:=Paired (fun(v:V) (js:List Int)=>∃ a,v=.ref a∧H a=some (.tup (js.map V.int))) us tbl
end L2
end
section
set_option autoImplicit false
namespace L2
open PySem PySem.Spec PyProof.Rows
section
variable {prog:Program}{w:World}{A:Around}{E:Value→Shared→Prop}{s:Shared}
theorem qY{l:Addr}{T:String}{o:Obj}{vs:List Value}{n:Nat}{ss:List Str}{Q:Value→Shared→Prop}(hT:T = "list" ∨ T = "tuple")(ho:s.heap.get? l=some o)(hc:o.cls=.type T)(hd:o.data=.seq vs.toArray n)(hS:StrsAre vs ss)(h64:vs.length < 64)
  (h:∀(h1:Heap) (out:Array Value) (ss':List Str),(∀ b o',s.heap.get? b=some o'→h1.get? b=some o')→StrsAre out.toList ss'→ss'.Perm ss→sortedS ss'=true→Q (.ref h1.objs.size) { s with heap:=sortedHeap (h1.push (seqObj "list" vs.toArray 0)) h1.objs.size vs out }) :
  wpAny (model prog w) A (call (.builtin "sorted") [.ref l]) Q E s:=by
 refine Calls.call_function_entry kind_sorted plain_sorted entry_sorted (args_sorted1 _) ?_
 unfold Builtin.«sorted»
 refine wpAny_bind (m:=checkCount "sorted" 1 1 _) (wpAny_pure ?_)
 refine wpAny_bind (wpAny_collect_seq l hT ho hc hd (fun h1 kp=>?_) (by rw [List.size_toArray,sizeLine_eq]; omega))
 have e0:vs.toArray.toList=vs:=by simp
 rw [e0]
 refine wpAny_bind (wpAny_newList ?_ (by rw [sizeLine_eq]; omega))
 have hoL:(h1.push (seqObj "list" vs.toArray 0)).get? h1.objs.size=some (seqObj "list" vs.toArray 0):=Heap.get?_push_size _ rfl
 show wpAny _ _ _ _ _ { s with heap:=h1.push (seqObj "list" vs.toArray 0) }
 refine wpAny_bind (wpAny_holding (wpAny_call_entry slot_list_sort ⟨_,hoL,rfl⟩ entry_list_sort (list_sort_treeK strKind_oneLt hoL hS.keysOf (fun v₁ v₂ rest e=>keyKind_strs (by rw [← e]; exact hS)) h64 fun st' a1 a2=>⟨_,rfl,?_⟩) (args_list_sort _)))
 obtain ⟨ss',b1,b2,b3⟩:=sorted_out_str hS a1 a2
 exact wpAny_pure ⟨_,rfl,h h1 _ ss' kp b1 b2 b3⟩
end
theorem oU:∀ {ss:List Str} {us:List Value},Vals (ss.map V.str) us→StrsAre us ss
 | [],_,.nil=>.nil
 | x::ss,_,.cons r t=>by
  obtain ⟨k,rfl⟩:=r
  exact .cons x k (oU t)
theorem pZ:∀ {ss:List Str} {us:List Value},StrsAre us ss→Vals (ss.map V.str) us
 | _,_,.nil=>.nil
 | _,_,.cons y t h=>.cons ⟨t,rfl⟩ (pZ h)
section
variable {X:Cx}
theorem wD:dU X (.builtin "sorted") (fun xs H Q=>∃ p ss,xs=[.ref p]∧(SqL X.K H p (ss.map V.str)∨SqT X.K H p (ss.map V.str))∧ss.length < 64∧∀ d ss',ss'.Perm ss→sortedS ss'=true→H d=none→Q (.ref d) (upd H d (.lst (ss'.map V.str)))):=by
 intro pins s σ H xs us Q I r h
 obtain ⟨p,ss,rfl,hq,h64,q⟩:=h
 obtain ⟨u,rfl,rx⟩:=vals1 r
 cases rx
 have fin:∀(its:List Value) (h1:Heap) (out:Array Value) (ss':List Str),(∀ b o',s.heap.get? b=some o'→h1.get? b=some o')→StrsAre out.toList ss'→ss'.Perm ss→sortedS ss'=true→EP X pins σ Q (.ref h1.objs.size) { s with heap:=sortedHeap (h1.push (seqObj "list" its.toArray 0)) h1.objs.size its out }:=fun its h1 out ss' kp b1 b2 b3=>by
  have I1:Inv X pins σ H { s with heap:=h1 }:=I.kept (t':=s.toks) kp
  have hoL:(h1.push (seqObj "list" its.toArray 0)).get? h1.objs.size=some (seqObj "list" its.toArray 0):=Heap.get?_push_size _ rfl
  obtain ⟨e,he⟩:=sortedHeap_at (out:=out) hoL
  refine⟨.ref h1.objs.size,_,I1.laid (t':=s.toks) (o:=.lst (ss'.map V.str)) (fun b o e'=>?_) (Nat.le_refl _) ⟨?_,out.toList,e,pZ b1,by rw [Array.toArray_toList]; exact he⟩,rfl,q _ ss' b2 b3 (I1.hok.fresh (Nat.le_refl _))⟩
  ·have hlt:b < h1.objs.size:=Heap.lt_size e'
   rw [sortedHeap_old (Nat.ne_of_lt hlt) (by rw [size_push']; exact Nat.lt_succ_of_lt hlt)]
   exact Heap.get?_push_of_some _ e'
  ·rw [List.length_map,b2.length_eq,sizeLine_eq]
   omega
 rcases hq with hq | hq
 ·obtain ⟨its,r',pl,hz⟩:=I.list hq
  have hlen:=r'.length
  rw [List.length_map] at hlen
  obtain ⟨o,ho,hc,n,hd⟩:=pl.isList
  exact qY (.inl rfl) ho hc hd (oU r') (by omega) (fin its)
 ·obtain ⟨its,r',pl,hz⟩:=I.tuple hq
  have hlen:=r'.length
  rw [List.length_map] at hlen
  obtain ⟨o,ho,hc,n,hd⟩:=pl
  exact qY (.inr rfl) ho hc hd (oU r') (by omega) (fin its)
end
end L2
end
section
set_option autoImplicit false
namespace L2
open PySem PySem.Spec PyProof.Rows
section
variable {X:Cx}
end
end L2
end
section
set_option autoImplicit false
namespace L2
open PySem PySem.Spec PyProof.Rows
end L2
end
section
set_option autoImplicit false
namespace HT
open PySem PySem.Spec PyProof.Rows
section
variable {prog:Program}{w:World}{A:Around}{E:Value→Shared→Prop}{s:Shared}
theorem nZ{t sl:Addr}{items:Array Value}{vl vu:Value}{lo hi:Option Int}{Q:Value→Shared→Prop}(ht:IsTup s.heap t items)(hs:s.heap.IsSliceOf sl vl vu .none)(pl:IsPart vl lo)(pu:IsPart vu hi)
  (hw:sIx items.size 0 lo=0∧sIx items.size items.size hi=items.size) (h:Q (.ref t) s):wpAny (model prog w) A (getItem (.ref t) (.ref sl)) Q E s:=by
 obtain ⟨os,hos,hcs,hds⟩:=id hs
 have hTs:s.TypeIs (.ref sl) "slice" := ⟨os,hos,hcs⟩
 unfold getItem
 try with_reducible refine wpAny_holding ?_
 first | refine wpAny_bind (wpAny_pure ?_) | skip
 refine wpAny_bind (wpAny_sequenceKey ht.typeIs (by decide) ?_)
 refine wpAny_bind (wpAny_callSpecial?_slot (name:=Str.ofString "__getitem__") ht.typeIs PyProof.Rows.slot_tuple_getitem
  (wpAny_call_entry PyProof.Rows.slot_tuple_getitem ht.typeIs entry_tuple_getitem ?_ (args_tuple_getitem _ _)))
 show wpAny _ _ (Builtin.Tuple.tupleItemsOf (.ref t) >>= _) _ _ s
 refine wpAny_bind (tupleItemsOf_ ht ?_)
 refine wpAny_bind (wpAny_typeOf hTs ?_)
 rw [if_pos (by decide)]
 refine wpAny_bind (lC hs pl pu ?_)
 have hyes:(((sIx items.size 0 lo:Nat):Int) == 0 && (1:Int) == 1 && (sIx items.size items.size hi - sIx items.size 0 lo) == items.size)=true:=by
  rw [hw.1,hw.2]
  simp
 show wpAny _ _ (if (((sIx items.size 0 lo:Nat):Int) == 0 && (1:Int) == 1 && (sIx items.size items.size hi - sIx items.size 0 lo) == items.size)=true then _ else _) _ _ s
 rw [if_pos hyes]
 unfold Builtin.Tuple.tupleIsExact
 refine wpAny_bind (wpAny_bind (wpAny_typeOf ht.typeIs (wpAny_pure ?_)))
 rw [if_pos (by decide)]
 refine wpAny_bind (wpAny_rule ?_)
 exact wpAny_pure ⟨_,rfl,wpAny_pure h⟩
end
end HT
namespace L2
open PySem PySem.Spec PyProof.Rows
section
variable {X:Cx}
def Nq(K:PySem.W.Frag):V→Option Int→Option Int→Hp→VK→Prop:=fun x lo hi H Q=>∃ a xs,x=.ref a∧H a=some (.tup xs)∧
 ∀ p H',H' p=some (.tup (gb xs lo hi))→Same H H'→Q (.ref p) H'
theorem vR:SlR X (Nq X.K):=by
 intro pins s σ H x v vl vu lo hi sl Q I rx hs pl pu h
 obtain ⟨a,xs,rfl,hx,q⟩:=h
 by_cases hw:HT.sIx xs.length 0 lo=0∧HT.sIx xs.length xs.length hi=xs.length
 ·cases rx
  obtain ⟨its,r,ht,hz⟩:=I.tuple (SqT.of (K:=X.K) hx)
  have hlen:its.toArray.size=xs.length:=by rw [List.size_toArray]; exact r.length.symm
  refine⟨"tuple",_,PyProof.Rows.slot_tuple_getitem.lookup,ht.typeIs,?_⟩
  refine HT.nZ ht hs pl pu (by rw [hlen]; exact hw) ?_
  have e:gb xs lo hi=xs:=by
   unfold gb
   rw [hw.1,hw.2]
   simp
  exact⟨.ref a,H,I,rfl,q a H (by rw [e]; exact hx) (Same.refl H)⟩
 ·exact Fv pins s σ H (.ref a) v vl vu lo hi sl Q I rx hs pl pu ⟨a,xs,rfl,SqT.of hx,hw,fun p hp=>q p _ ak (Same.new hp)⟩
end
end L2
end
section
set_option autoImplicit false
namespace L2
open PySem PySem.Spec PyProof.Rows
section
variable {prog:Program}{w:World}{A:Around}{E:Value→Shared→Prop}{s:Shared}
theorem Dw{z TI TO i1 i2 t1 t2:Addr}{k:Nat}{xs ys:Array Value}{x a b:Value}{Q:Fin→Shared→Prop}(hh:A.handled=none)(D:ZA z TI TO i1 i2 t1 t2)
  (hz:IsZip s.heap z TI TO .none) (hTI:IsPair s.heap TI (.ref i1) (.ref i2)) (hTO:IsPair s.heap TO a b) (h1:s.heap.IsTupleIter i1 t1 k) (h2:s.heap.IsTupleIter i2 t2 k) (hl1:s.heap.IsTuple t1 xs) (hl2:s.heap.IsTuple t2 ys) (hx:xs[k]?=some x) (hy:ys[k]?=none)
  (hE:∀ h' e,(∀ c o,c≠z→c≠TO→c≠i1→c≠i2→s.heap.get? c=some o→h'.get? c=some o)→(∃ o,h'.get? e=some o∧o.cls=.type "StopIteration")→E (.ref e) { s with heap:=h' }) :
  wpAny (model prog w) A (Builtin.«zip.__next__» ⟨[.ref z],[]⟩) Q E s:=by
 show wpAny _ _ (field (.ref z) 2 >>= _) _ _ _; refine wpAny_bind (wpAny_field hz rfl (x:=.bool false) rfl ?_)
 show wpAny _ _ (field (.ref z) 3 >>= _) _ _ _; refine wpAny_bind (wpAny_field hz rfl (x:=.ref TI) rfl (wpAny_bind (wpAny_seqItems hTI rfl ?_)))
 show wpAny _ _ (Builtin.SmallTypes.ownedTupleIsFree (.ref z) >>= _) _ _ _
 unfold Builtin.SmallTypes.ownedTupleIsFree
 refine wpAny_bind (wpAny_bind (wpAny_field hz rfl (x:=.none) rfl (wpAny_pure ?_)))
 simp only [if_true]
 refine wpAny_bind (wpAny_rule (wpAny_bind (wpAny_field hz rfl (x:=.ref TO) rfl (wpAny_bind (wpAny_setField_rec hz (by simp) fun g1 z1 q1=>?_)))))
 replace z1:IsZip g1 z TI TO .ellipsis:=z1
 simp only [List.zipIdx_cons,List.zipIdx_nil,List.forIn_cons,List.forIn_nil]
 refine wpAny_bind (wpAny_bind (wpAny_bind (wpAny_onRaise ?_)))
 show wpAny _ _ (Builtin.SmallTypes.nextOf (.ref i1) >>= _) _ _ _
 refine wpAny_bind (mq (h1.extBut q1.extBut D.a3) (hl1.extBut q1.extBut D.b2) hx fun g2 j2 q2=>wpAny_pure ?_)
 have p2:IsPair g2 TO a b:=q2.extBut _ _ D.a8 (q1.extBut _ _ D.a2 hTO)
 refine wpAny_bind (wpAny_seqItems p2 rfl (wpAny_bind (wpAny_updateSeq_pair p2 fun g3 p3 q3=>wpAny_bind (wpAny_letGo (wpAny_pure ?_)))))
 refine wpAny_bind (wpAny_bind (wpAny_onRaise ?_))
 show wpAny _ _ (Builtin.SmallTypes.nextOf (.ref i2) >>= _) _ _ _
 refine wpAny_bind (qu hh (((h2.extBut q1.extBut D.a4).extBut q2.extBut D.b1.symm).extBut q3.extBut D.a9.symm) (((hl2.extBut q1.extBut D.b6).extBut q2.extBut D.b8).extBut q3.extBut D.b7) hy fun g4 e q4 ⟨oe,e1,e2⟩=>?_)
 have z4:IsZip g4 z TI TO .ellipsis:=q4 _ _ D.a4.symm (q3.extBut _ _ D.a2.symm (q2.extBut _ _ D.a3.symm z1))
 have hez:e≠z:=fun x=>by subst x; rw [z4] at e1; cases e1; simp at e2
 exact wpAny_setField_rec z4 (by simp) fun g5 _ q5=>hE g5 e (fun c o c1 c2 c3 c4 x=>q5.extBut _ _ c1 (q4 _ _ c4 (q3.extBut _ _ c2 (q2.extBut _ _ c3 (q1.extBut _ _ c1 x))))) ⟨oe,q5.extBut _ _ hez e1,e2⟩
end
def KQ(K:PySem.W.Frag)(t1 t2:Addr):It:=
 ⟨fun i H=>∃ xs ys x y,SqT K H t1 xs∧SqT K H t2 ys∧xs[i]?=some x∧ys[i]?=some y,fun i H v H'=>∃ p,H p=none∧v=.ref p∧∀ xs ys x y,SqT K H t1 xs→SqT K H t2 ys→xs[i]?=some x→ys[i]?=some y→H'=upd H p (.tup [x,y]),
  fun i H=>∃ xs ys,SqT K H t1 xs∧SqT K H t2 ys∧(xs.length≤i∨ys.length≤i)⟩
theorem Ej{P:Program}{w:World}{K:PySem.W.Frag}{elts:List Expr}{x1:Nat}{tpos:Pos}{z TI TO i1 i2 t1 t2:Addr}(D:ZA z TI TO i1 i2 t1 t2):Turn P w K (.Tuple elts x1 tpos) (KQ K t1 t2) [z,TI,TO,i1,i2] z
  (fun i h=>IsZip h z TI TO .none∧IsPair h TI (.ref i1) (.ref i2)∧(∃ a b,IsPair h TO a b)∧h.IsTupleIter i1 t1 i∧h.IsTupleIter i2 t2 i) where
 mem:=(lE (P:=P) (w:=w) (K:=K) (elts:=elts) (x1:=x1) (tpos:=tpos) D).mem
 obj:=(lE (P:=P) (w:=w) (K:=K) (elts:=elts) (x1:=x1) (tpos:=tpos) D).obj
 keep:=(lE (P:=P) (w:=w) (K:=K) (elts:=elts) (x1:=x1) (tpos:=tpos) D).keep
 item:=(lE (P:=P) (w:=w) (K:=K) (elts:=elts) (x1:=x1) (tpos:=tpos) D).item
 done:=by
  intro X hP hw hK hc i pins s σ H E I hf st hg
  subst hP hw hK
  obtain ⟨xs,ys,q1,q2,e1⟩:=hg
  by_cases hx:xs.length≤i
  ·exact(lE (P:=X.prog) (w:=X.w) (K:=X.K) (elts:=elts) (x1:=x1) (tpos:=tpos) D).done X rfl rfl rfl hc i pins s σ H E I hf st ⟨xs,q1,hx⟩
  ·have hy:=e1.resolve_left hx
   obtain ⟨its,rv,p,hz'⟩:=I.tuple q1
   obtain ⟨jts,rw',p',hz''⟩:=I.tuple q2
   have hl:=rv.length
   have hl2:=rw'.length
   have hxi:i < xs.length:=by omega
   obtain ⟨u,hu,ru⟩:=rv.get (List.getElem?_eq_getElem hxi)
   obtain ⟨hz,hTI,⟨a,c,hTO⟩,h1,h2⟩:=st
   have hT:s.TypeIs (.ref z) "zip" := ⟨_,hz,rfl⟩
   unfold pyNext
   refine wpAny_bind (wpAny_attempt (wpAny_callSpecial?_slot (name:=Str.ofString "__next__") hT F.slot_zip_next (wpAny_call_entry F.slot_zip_next hT F.entry_zip_next
    (Dw (I.ok.hd hc) D hz hTI hTO h1 h2 (show s.heap.IsTuple t1 its.toArray from p) (show s.heap.IsTuple t2 jts.toArray from p') (x:=u) (by simpa using hu) (by simp; omega) fun h' e kk ⟨o,ho,hcl⟩=>?_) (F.args_zip_next_1 _))))
   refine wpAny_bind (wpAny_isInstance (T:= "StopIteration") (b:=true) ⟨o,ho,hcl⟩ isSubtype_stop (wpAny_pure ⟨rfl,I.rN (t':=s.toks) hf fun b u hb q=>?_⟩))
   simp only [List.mem_cons,List.not_mem_nil,or_false,not_or] at hb
   exact kk b u hb.1 hb.2.2.1 hb.2.2.2.1 hb.2.2.2.2 q
 self:=(lE (P:=P) (w:=w) (K:=K) (elts:=elts) (x1:=x1) (tpos:=tpos) D).self
section
variable {X:Cx}
def MF(K:PySem.W.Frag)(ta:TA):TI:=fun σ H R=>ta σ H fun vs H1=>∃ a b xs ys,vs=[.ref a,.ref b]∧SqT K H1 a xs∧SqT K H1 b ys∧R (KQ K a b) H1
theorem Hy{elts:List Expr}{x1:Nat}{tpos:Pos}{a b:Expr}{ta:TA}{p pos:Pos}(hg:Gl X "zip")(hm:X.mg "zip" = none)(ha:PA X [a,b] ta)
  (he:starEach [a,b] X.env=(false,eval a X.env)::starEach [b] X.env:=by rfl) (hpl:(backTo pos (starEach [b] X.env)).any (·.1)=false:=by rfl):PI X (.Tuple elts x1 tpos) (.Call (.Name "zip" p) [a,b] [] pos) (MF X.K ta):=by
 intro pins s σ H R I h
 refine wpAny_Call_Name_kw (oR I hg hm boot_zip ?_)
 refine PyProof.Rows.callWith_type1 (thn (ha pos pins s σ H _ I h) fun us s1 ⟨vs,H1,I1,r1,t1,t2,xs,ys,e,q1,q2,q⟩=>?_) he hpl
 subst e
 obtain ⟨u,w',rfl,ru,rw'⟩:=vals2 r1
 cases ru
 cases rw'
 obtain ⟨its,rv,p1,hz1⟩:=I1.tuple q1
 obtain ⟨jts,rv2,p2,hz2⟩:=I1.tuple q2
 refine Jc (show s1.heap.IsTuple t1 its.toArray from p1) (show s1.heap.IsTuple t2 jts.toArray from p2) ?_
 have b1:(zq1 s1.heap t1).objs.size=s1.heap.objs.size+1:=Heap.size_push ..
 have b2:(zq2 s1.heap t1 t2).objs.size=s1.heap.objs.size+2:=by rw [Heap.size_push,b1]
 have b3:(zq3 s1.heap t1 t2).objs.size=s1.heap.objs.size+3:=by rw [Heap.size_push,b2]
 have b4:(zq4 s1.heap t1 t2).objs.size=s1.heap.objs.size+4:=by rw [Heap.size_push,b3]
 have c1:t1 < s1.heap.objs.size:=p1.lt
 have c2:t2 < s1.heap.objs.size:=p2.lt
 have hz:IsZip (zq5 s1.heap t1 t2) (zq4 s1.heap t1 t2).objs.size (zq2 s1.heap t1 t2).objs.size (zq3 s1.heap t1 t2).objs.size .none:=Heap.get?_push_size _ rfl
 have DD:ZA (zq4 s1.heap t1 t2).objs.size (zq2 s1.heap t1 t2).objs.size (zq3 s1.heap t1 t2).objs.size s1.heap.objs.size (zq1 s1.heap t1).objs.size t1 t2:=by
  rw [b4,b2,b3,b1]
  exact Mt c1 c2
 refine wpAny_pyIter_zip hz ?_
 have I2:Inv X pins σ H1 { s1 with heap:=zq5 s1.heap t1 t2 }:=I1.kept (t':=s1.toks) fun b o e=>Heap.get?_push_of_some _ (Heap.get?_push_of_some _ (Heap.get?_push_of_some _ (Heap.get?_push_of_some _ (Heap.get?_push_of_some _ e))))
 refine⟨(zq4 s1.heap t1 t2).objs.size,[(zq4 s1.heap t1 t2).objs.size,(zq2 s1.heap t1 t2).objs.size,(zq3 s1.heap t1 t2).objs.size,s1.heap.objs.size,(zq1 s1.heap t1).objs.size],_,KQ X.K t1 t2,H1,rfl,I2,
  Ej DD,⟨hz,?_,⟨.none,.none,?_⟩,?_,?_⟩,fun b hb=>?_,q⟩
 ·exact Heap.get?_push_of_some _ (Heap.get?_push_of_some _ (Heap.get?_push_size _ rfl))
 ·exact Heap.get?_push_of_some _ (Heap.get?_push_size _ rfl)
 ·exact⟨_,Heap.get?_push_of_some _ (Heap.get?_push_of_some _ (Heap.get?_push_of_some _ (Heap.get?_push_of_some _ (Heap.get?_push_size _ rfl)))),rfl,rfl⟩
 ·exact⟨_,Heap.get?_push_of_some _ (Heap.get?_push_of_some _ (Heap.get?_push_of_some _ (Heap.get?_push_size _ rfl))),rfl,rfl⟩
 ·have hle:s1.heap.objs.size≤b:=by
   rw [b4,b2,b3,b1] at hb
   simp only [List.mem_cons,List.not_mem_nil,or_false] at hb
   rcases hb with h | h | h | h | h <;> rw [h] <;> first | exact Nat.le_refl _ | exact Nat.le_add_right _ _
  exact I1.mY hle (I1.hok.fresh hle)
end
end L2
end
section
set_option autoImplicit false
namespace L2
open PySem PySem.Spec PyProof.Rows
section
variable {X:Cx}
end
end L2
end
section
set_option autoImplicit false
namespace L2
open PySem PySem.Spec PyProof.Rows
section
variable {X:Cx}
def Ou:R2:=fun x y H Q=>∃(a b:Addr) (xs ys:List V) (ts us:List T),x=.ref a∧y=.ref b∧H a=some (.tup xs)∧H b=some (.tup ys)∧DpL H ts xs∧DpL H us ys∧(∀ t∈ts,Lv 5 t)∧Q (.bl (dcd (ts=us))) H
theorem Ey(hu:X.A.units+10 < cLine):OpR X (compareOp .Eq) Ou:=by
 intro pins s σ H x y v u Q I rx ry h
 obtain ⟨a,b,xs,ys,ts,us,rfl,rfl,ha,hb,d1,d2,lv,q⟩:=h
 cases rx
 cases ry
 obtain ⟨its,r,p⟩:=mz I ha
 obtain ⟨its2,r2,p2⟩:=mz I hb
 have l1:=r.length
 have l2:=r2.length
 have n1:=d1.length
 have n2:=d2.length
 have key:=SeqAt.RcAt.tuples (A:=X.A) (s:=s) (e:=fun j=>dcd (ts[j]?=us[j]?)) p p2 (by omega) (fun j h1 h2=>by
  have h1':j < its.length:=by simpa using h1
  have h2':j < its2.length:=by simpa using h2
  have j1:j < ts.length:=by omega
  have j2:j < us.length:=by omega
  obtain ⟨v1,e1,dv1⟩:=d1.get (List.getElem?_eq_getElem j1)
  obtain ⟨v2,e2,dv2⟩:=d2.get (List.getElem?_eq_getElem j2)
  obtain ⟨w1,k1,m1⟩:=r.get e1
  obtain ⟨w2,k2,m2⟩:=r2.get e2
  have e3:its.toArray[j]=w1:=by
   have:its.toArray[j]?=some w1:=by simpa using k1
   rw [Array.getElem?_eq_getElem h1] at this
   exact Option.some.inj this
  have e4:its2.toArray[j]=w2:=by
   have:its2.toArray[j]?=some w2:=by simpa using k2
   rw [Array.getElem?_eq_getElem h2] at this
   exact Option.some.inj this
  rw [e3,e4]
  have:=GX I 5 X.A.in1 ts[j] us[j] v1 v2 w1 w2 (lv _ (List.getElem_mem j1)) (by show X.A.units+1+5 < cLine; omega) dv1 dv2 m1 m2
  rw [List.getElem?_eq_getElem j1,List.getElem?_eq_getElem j2]
  have e5:dcd (some ts[j]=some us[j])=dcd (ts[j]=us[j]):=qG ⟨fun h=>Option.some.inj h,fun h=>by rw [h]⟩
  rw [e5]
  exact this)
 have ee:((List.range (min its.toArray.size its2.toArray.size)).all (fun j=>dcd (ts[j]?=us[j]?)) && its.toArray.size == its2.toArray.size)=dcd (ts=us):=by
  apply oY
  rw [Bool.and_eq_true,List.all_eq_true,beq_iff_eq]
  constructor
  ·rintro ⟨h1,h2⟩
   have h2:its.length=its2.length:=by simpa using h2
   apply List.ext_getElem?
   intro j
   by_cases hj:j < ts.length
   ·exact pK.mp (h1 j (List.mem_range.mpr (by simp; omega)))
   ·rw [List.getElem?_eq_none (by omega),List.getElem?_eq_none (by omega)]
  ·intro h
   refine⟨fun j _=>iR (by rw [h]),?_⟩
   have:its.length=its2.length:=by rw [← l1,← l2,n1,n2,h]
   simpa using this
 rw [ee] at key
 exact key X.prog X.w X.xe _ ⟨.bl _,H,I,rfl,q⟩
end
end L2
end
section
set_option autoImplicit false
namespace L2
open PySem PySem.Spec PyProof.Rows
structure Shw (d:PyData) (n k:Nat):Prop where
 sh:d.showable=true
 sz:d.shown.length≤n
 dp:d.depth≤k
def Cps(x:Str):Prop:=∀ c∈x.cps.toList,c < 16 ^ 8
mutual
def toD:T→PyData
 | .non=>.none
 | .int i=>.int i
 | .str x=>.str x
 | .tup ts=>.tuple (mJ ts)
def mJ:List T→List PyData
 | []=>[]
 | t::ts=>toD t::mJ ts
end
theorem pW:∀ ts:List T,mJ ts=ts.map toD
 | []=>by rw [mJ,List.map_nil]
 | t::ts=>by rw [mJ,List.map_cons,pW ts]
mutual
theorem Dp.rd{H:Hp}:∀ {t:T} {v:V},Dp H t v→RdV H v (toD t)
 | .non,_,e=>by rw [Dp] at e; rw [toD,e]; exact .non
 | .int i,_,e=>by rw [Dp] at e; rw [toD,e]; exact .int i
 | .str x,_,e=>by rw [Dp] at e; rw [toD,e]; exact .str x
 | .tup ts,v,e=>by
  rw [Dp] at e
  obtain ⟨a,xs,rfl,ha,hl⟩:=e
  rw [toD]
  exact .tup ha (DpL.rd hl)
theorem DpL.rd{H:Hp}:∀ {ts:List T} {xs:List V},DpL H ts xs→RdA H xs (mJ ts)
 | [],_,e=>by rw [DpL] at e; rw [mJ,e]; exact .nil
 | t::ts,xs,e=>by
  rw [DpL] at e
  obtain ⟨x,r,rfl,h1,h2⟩:=e
  rw [mJ]
  exact .cons (Dp.rd h1) (DpL.rd h2)
end
end L2
end
section
set_option autoImplicit false
namespace L2
open PySem PySem.Spec PyProof.Rows
section
variable {X:Cx}{K:PySem.W.Frag}
end
end L2
end
section
set_option autoImplicit false
namespace L2
open PySem PyProof.Rows
section
variable {prog:Program}{w:World}{A:Around}{R:Result→Shared→Prop}{I:Addr}{fp wr:List Addr}{G:Array GenState→Array GenState→Prop}{n:Nat}{P:Nat→Value→Prop}{St:Nat→Shared→Prop}
theorem ud{knd:KeyKind prog w Str}{h h':Heap}{a:Addr}{S:Str→Bool}{n:Nat}(x:h.SetOf knd a S n)(k:∀ o,h.get? a=some o→h'.get? a=some o):h'.SetOf knd a S n:=by
 obtain ⟨o,es,ep,t,ho,rest⟩:=x
 exact⟨o,es,ep,t,k _ ho,rest⟩
end
section
variable {X:Cx}
def Js(P:Program)(w:World)(a:Addr)(n:Nat):HO:=.ext fun h=>∃ S:Str→Bool,h.SetOf (strKind P w) a S n
theorem kj:dU X (.builtin "len") (fun xs H Q=>∃ a n,xs=[.ref a]∧H a=some (Js X.prog X.w a n)∧Q (.int n) H):=by
 intro pins s σ H xs us Q I r h
 obtain ⟨a,n,rfl,ha,q⟩:=h
 obtain ⟨u,rfl,ru⟩:=vals1 r
 cases ru
 obtain ⟨⟨S,o,es,ep,t,ho,hex,hd,_,_,hb,hf,rfl⟩,_⟩:=I.hok a _ ha
 refine call_len_set ho hex hd hf (by unfold scanBound at hb; omega) ⟨.int es.size,H,I.tok _,⟨_,rfl⟩,q⟩
end
end L2
end
section
set_option autoImplicit false
namespace L2
open PySem PyProof.Rows
def un(ns:List Str):Nat→Nat
 | 0=>0
 | i+1=>if decide (ns.getD i "" ∈ ns.take i)=true then un ns i else un ns i+1
theorem Bt(ns:List Str):∀ i,un ns i≤i
 | 0=>Nat.le_refl _
 | i+1=>by
  have:=Bt ns i
  rw [un]
  split <;> omega
theorem Jx(ns:List Str):∀ i,i≤ns.length→(un ns i=i↔(ns.take i).Nodup)
 | 0,_=>by simp [un]
 | i+1,h=>by
  have ih:=Jx ns i (by omega)
  have hl:=Bt ns i
  have hil:i < ns.length:=h
  have ex:ns.getD i "" = ns[i]:=by simp [hil]
  have et:ns.take (i+1)=ns.take i++[ns[i]]:=by rw [List.take_succ,List.getElem?_eq_getElem hil]; rfl
  rw [un,ex,et,List.nodup_append]
  by_cases hm:ns[i]∈ns.take i
  ·rw [if_pos (decide_eq_true hm)]
   refine⟨fun e=>by omega,fun q=>absurd rfl (q.2.2 _ hm _ List.mem_cons_self)⟩
  ·rw [if_neg (by rw [decide_eq_false hm]; exact Bool.false_ne_true)]
   refine⟨fun e=>⟨ih.mp (by omega),by simp,fun a ha b hb e'=>?_⟩,fun q=>by rw [ih.mpr q.1]⟩
   rw [List.mem_singleton.mp hb] at e'
   exact hm (e' ▸ ha)
theorem vP(ns:List Str):un ns ns.length=ns.length↔ns.Nodup:=by
 rw [Jx ns ns.length (Nat.le_refl _),List.take_of_length_le (Nat.le_refl _)]
section
variable {prog:Program}{w:World}{A:Around}{R:Result→Shared→Prop}{I:Addr}{fp wr:List Addr}{G:Array GenState→Array GenState→Prop}{n:Nat}{P:Nat→Value→Prop}{St:Nat→Shared→Prop}
theorem yI(W:WalksS prog w A.in1 I fp wr G n P St)(S:Addr)(hSf:S ∉ fp)(ns:List Str)(hn:ns.length=n)
  (hval:∀ i v,P i v→∃ t,v=.str (ns.getD i "") t) (hb:n+1 < scanBound) :
  ∀(k i:Nat) (s:Shared),n - i=k→i≤n→St i s→s.heap.SetOf (strKind prog w) S (fun k'=>decide (k'∈ns.take i)) (un ns i)→
   (∀ s',Moved (S::wr) G s s'→s'.heap.SetOf (strKind prog w) S (fun k'=>decide (k'∈ns.take n)) (un ns n)→R (.ok (.ret .none)) s')→
   codeAny (model prog w) A (.builtin "set.update.loop" ⟨[.ref S,.ref I],[]⟩) R s:=by
 have hSw:S ∉ wr:=fun h=>hSf (W.sub _ h)
 have hsub:∀ b∈wr,b∈S::wr:=fun b hb=>List.mem_cons_of_mem _ hb
 intro k
 induction k with
 | zero=>
  intro i s hk hi hst hS hR
  have hin:i=n:=by omega
  subst hin
  refine codeAny_builtin F.entry_set_update_loop ?_
  rw [Around.under_plainId F.plain_set_update_loop _]
  show wpAny _ A.in1 (pyNext (.ref I) >>= _) _ _ s
  refine wpAny_bind (W.done s _ _ hst fun s' hm=>?_)
  show wpAny _ A.in1 (ret Value.none) _ _ s'
  exact wpAny_pure (hR s' (hm.mono hsub) (ud hS fun o e=>hm.heap S _ hSw e))
 | succ k ih=>
  intro i s hk hi hst hS hR
  have hlt:i < n:=by omega
  refine codeAny_builtin F.entry_set_update_loop ?_
  rw [Around.under_plainId F.plain_set_update_loop _]
  show wpAny _ A.in1 (pyNext (.ref I) >>= _) _ _ s
  refine wpAny_bind (W.item i s _ _ hlt hst fun v s' hP hst' hm=>?_)
  obtain ⟨t,rfl⟩:=hval i v hP
  have hS':=ud hS fun o e=>hm.heap S o hSw e
  have hil:i < ns.length:=by omega
  have ex:ns.getD i "" = ns[i]:=by simp [hil]
  rw [ex]
  show wpAny _ A.in1 (holding [Value.str ns[i] t] (setAdd S (.str ns[i] t)) >>= _) _ _ s'
  refine wpAny_bind (wpAny_holding ?_)
  unfold setAdd
  refine wpAny_holding ?_
  refine wpAny_bind ((strKind prog w).pyHash (k:=ns[i]) (strKind_is _ _ _ _) ?_)
  refine wpAny_setAddHashed_of (knd:=strKind prog w) (s:={ s' with toks:=s'.toks+1 }) (strKind_is _ _ _ _) rfl hS' (by have:=Bt ns i; omega) fun h' hsb hS2=>?_
  have hSi:h'.SetOf (strKind prog w) S (fun k'=>decide (k'∈ns.take (i+1))) (un ns (i+1)):=
   SetOf_congr hS2 (fun k'=>by
    rw [List.take_succ,List.getElem?_eq_getElem hil]
    show (decide (k'∈ns.take i) || decide (k'=ns[i]))=decide (k'∈ns.take i++[ns[i]])
    rw [Bool.eq_iff_iff,Bool.or_eq_true,decide_eq_true_eq,decide_eq_true_eq,decide_eq_true_eq,List.mem_append,List.mem_singleton]) (by rw [un,ex])
  refine wpAny_pure ⟨plainId_quiet F.plain_set_update_loop _,ih (i+1) _ (by omega) hlt (W.frame _ s' _ _ hst' (Nat.le_succ _) fun b hb o e=>?_) hSi fun s'' hm'' hS''=>?_⟩
  ·rw [hsb.2 b (fun h:b=S=>hSf (by rw [← h]; exact hb))]; exact e
  ·refine hR s'' (Moved.trans W.gtrans ((hm.mono hsub).then_heap (Nat.le_succ _) fun b o hb e=>?_) hm'') hS''
   rw [hsb.2 b (fun h:b=S=>hb (by rw [h]; exact List.mem_cons_self))]; exact e
end
theorem DW{prog:Program}{w:World}{A:Around}{E:Value→Shared→Prop}{s:Shared}{l:Addr}{its:List Value}{ns:List Str}{Q:Value→Shared→Prop}(hh:A.handled=none)(hl:s.heap.IsList l its.toArray)
  (hi:∀(i:Nat) v,its[i]?=some v→∃ t,v=.str (ns.getD i "") t) (hn:ns.length=its.length) (hb:ns.length+1 < scanBound)
  (h:∀ (h':Heap) (tk:Nat) (S:Str→Bool),h'.SetOf (strKind prog w) s.heap.objs.size S (un ns ns.length)→(∀ b o,b < s.heap.objs.size→s.heap.get? b=some o→h'.get? b=some o)→Q (.ref s.heap.objs.size) { s with heap:=h',toks:=tk }) :
  wpAny (model prog w) A (call (.type "set") [.ref l]) Q E s:=by
 obtain ⟨c,tl,hmro⟩:=F.called_set.mro
 have hmade:=F.called_set.made
 have hsub:=F.called_set.sub
 refine wpAny_call (codeAny_of_tree ?_)
 show wpAny _ _ (callAny (.type "set") _) _ _ _
 refine wpAny_pure ⟨Code.quiet_builtin _ (by decide +kernel),codeAny_builtin F.entry_type_call ?_⟩
 rw [Around.under_plain (weight_type_call_type "set" [.ref l] []) rfl]
 have h1:=F.called_set.notType
 have h2:=F.called_set.canCreate
 have hct:=F.typeCall_set_1 (.ref l)
 repeat (any_goals (first | assumption | wp_step))
 refine codeAny_mono (code_set_new_1 (.ref l) (E:=E) (Q₁:=fun obj s₁=>∃ led:Bool,obj=.ref s.heap.objs.size∧s₁={ s with heap:=s.heap.push { cls:=.type "set",dict:=none,data:=.set #[] 0 (.fresh 0 0 led) } }) fun led=>⟨led,rfl,rfl⟩) fun r s₁ hr=>?_
 cases r with
 | error e=>exact hr
 | ok fl=>
  cases fl with
  | ret obj=>
   obtain ⟨led,rfl,rfl⟩:=hr
   have e0:(s.heap.push { cls:=.type "set",dict:=none,data:=.set #[] 0 (.fresh 0 0 led) }).objs.size=s.heap.objs.size+1:=Heap.size_push ..
   have old:∀ b o,s.heap.get? b=some o→(s.heap.push { cls:=.type "set",dict:=none,data:=.set #[] 0 (.fresh 0 0 led) }).get? b=some o:=fun b o e=>Heap.get?_push_of_some _ e
   have hS:(s.heap.push { cls:=.type "set",dict:=none,data:=.set #[] 0 (.fresh 0 0 led) }).get? s.heap.objs.size=some { cls:=.type "set",dict:=none,data:=.set #[] 0 (.fresh 0 0 led) }:=Heap.get?_push_size _ rfl
   have hl1:(s.heap.push { cls:=.type "set",dict:=none,data:=.set #[] 0 (.fresh 0 0 led) }).IsList l its.toArray:=hl.push _
   generalize s.heap.push { cls:=.type "set",dict:=none,data:=.set #[] 0 (.fresh 0 0 led) }=h0 at e0 old hS hl1
   have hT:Shared.TypeIs { s with heap:=h0 } (.ref s.heap.objs.size) "set" := ⟨_,hS,rfl⟩
   have hli:=F.called_set.init.lookup
   have hbi:=F.called_set.init.bind (.ref s.heap.objs.size)
   repeat (any_goals (first | assumption | wp_step))
   refine codeAny_mono (codeAny_call_builtin (R:=wants (fun r s₂=>r=.none∧∃ h' tk S,s₂={ s with heap:=h',toks:=tk }∧
     h'.SetOf (strKind prog w) s.heap.objs.size S (un ns ns.length)∧(∀ b o,b < s.heap.objs.size→s.heap.get? b=some o→h'.get? b=some o)) E) F.called_set.init.plain F.entry_set_init (check_set_init_1 hT ?_)) fun r₂ s₂ hr₂=>?_
   ·have hll:l < s.heap.objs.size:=by
     obtain ⟨ol,hol,_⟩:=hl
     exact Heap.lt_size hol
    obtain ⟨ol,hol,hcl,nl,hdl⟩:=id hl1
    obtain ⟨ocls,odict,odata,oslots⟩:=ol
    simp only at hcl hdl
    subst hcl; subst hdl
    have hsls:=F.sub_list_set
    have hslf:=F.sub_list_frozenset
    have hne:(Value.type "list" == Value.type "dict")=false:=by decide
    unfold Builtin.«set.__init__» noKeywords Builtin.Frozenset.updateFrom
    generalize hPI:pyIter=PI
    wp_walk
    subst hPI
    refine wpAny_pyIter_list hl1 ?_
    refine wpAny_bind (wpAny_runValue ?_)
    have hh3:A.in1.in1.in1.handled=none:=by simp [hh]
    have hneI:l≠h0.objs.size:=by rw [e0]; exact Nat.ne_of_lt (Nat.lt_succ_of_lt hll)
    have hSf:s.heap.objs.size ∉ [h0.objs.size,l]:=by
     simp only [List.mem_cons,List.mem_singleton,List.not_mem_nil,or_false,not_or]
     exact⟨by rw [e0]; exact Nat.ne_of_lt (Nat.lt_succ_self _),Nat.ne_of_gt hll⟩
    have hsz:its.toArray.size=ns.length:=by rw [List.size_toArray,hn]
    refine yI ((Walks.list hh3 _ l hneI its.toArray).toS) s.heap.objs.size hSf ns hsz.symm (fun i v hv=>hi i v (by simpa using hv)) (by omega) (its.toArray.size - 0) 0 _ (by omega) (Nat.zero_le _)
     ⟨⟨_,Heap.get?_push_size _ rfl,rfl,rfl⟩,(hl1.push _)⟩ ?hS0 ?hR
    case hS0=>
     exact SetOf_congr ((setObjOf_fresh (knd:=strKind prog w) led).setOf (Heap.get?_push_of_some _ hS) (by unfold scanBound; omega)) (fun _=>rfl) rfl
    case hR=>
     intro s' hm hS'
     obtain ⟨h',g',d',tk',os'⟩:=s'
     have eg:g'=s.gens:=hm.gens
     have ed:d'=s.drawn:=hm.drawn
     have eo:os'=s.os:=hm.os
     subst eg; subst ed; subst eo
     show wpAny _ _ _ _ _ _
     refine wpAny_pure ?_
     show wpAny _ _ (ret Value.none) _ _ _
     refine wpAny_pure ⟨rfl,h',tk',_,rfl,by rw [hsz] at hS'; exact hS',fun b o hb e=>?_⟩
     exact hm.heap b o (by simp only [List.mem_cons,List.mem_singleton,List.not_mem_nil,or_false,not_or]; exact⟨Nat.ne_of_lt hb,by rw [e0]; exact Nat.ne_of_lt (Nat.lt_succ_of_lt hb)⟩) (Heap.get?_push_of_some _ (old b o e))
   ·cases r₂ with
    | error e=>exact hr₂
    | ok fl₂=>
     cases fl₂ with
     | ret r=>
      obtain ⟨rfl,h',tk,S,rfl,hS',hk'⟩:=hr₂
      repeat (any_goals (first | assumption | wp_step))
      exact h _ _ _ hS' hk'
     | _=>exact hr₂.elim
  | _=>exact hr.elim
theorem Dj{prog:Program}{w:World}{A:Around}{E:Value→Shared→Prop}{s:Shared}{l:Addr}{its:List Value}{ns:List Str}{Q:Value→Shared→Prop}(hh:A.handled=none)(hl:s.heap.IsTuple l its.toArray)
  (hi:∀(i:Nat) v,its[i]?=some v→∃ t,v=.str (ns.getD i "") t) (hn:ns.length=its.length) (hb:ns.length+1 < scanBound)
  (h:∀ (h':Heap) (tk:Nat) (S:Str→Bool),h'.SetOf (strKind prog w) s.heap.objs.size S (un ns ns.length)→(∀ b o,b < s.heap.objs.size→s.heap.get? b=some o→h'.get? b=some o)→Q (.ref s.heap.objs.size) { s with heap:=h',toks:=tk }) :
  wpAny (model prog w) A (call (.type "set") [.ref l]) Q E s:=by
 obtain ⟨c,tl,hmro⟩:=F.called_set.mro
 have hmade:=F.called_set.made
 have hsub:=F.called_set.sub
 refine wpAny_call (codeAny_of_tree ?_)
 show wpAny _ _ (callAny (.type "set") _) _ _ _
 refine wpAny_pure ⟨Code.quiet_builtin _ (by decide +kernel),codeAny_builtin F.entry_type_call ?_⟩
 rw [Around.under_plain (weight_type_call_type "set" [.ref l] []) rfl]
 have h1:=F.called_set.notType
 have h2:=F.called_set.canCreate
 have hct:=F.typeCall_set_1 (.ref l)
 repeat (any_goals (first | assumption | wp_step))
 refine codeAny_mono (code_set_new_1 (.ref l) (E:=E) (Q₁:=fun obj s₁=>∃ led:Bool,obj=.ref s.heap.objs.size∧s₁={ s with heap:=s.heap.push { cls:=.type "set",dict:=none,data:=.set #[] 0 (.fresh 0 0 led) } }) fun led=>⟨led,rfl,rfl⟩) fun r s₁ hr=>?_
 cases r with
 | error e=>exact hr
 | ok fl=>
  cases fl with
  | ret obj=>
   obtain ⟨led,rfl,rfl⟩:=hr
   have e0:(s.heap.push { cls:=.type "set",dict:=none,data:=.set #[] 0 (.fresh 0 0 led) }).objs.size=s.heap.objs.size+1:=Heap.size_push ..
   have old:∀ b o,s.heap.get? b=some o→(s.heap.push { cls:=.type "set",dict:=none,data:=.set #[] 0 (.fresh 0 0 led) }).get? b=some o:=fun b o e=>Heap.get?_push_of_some _ e
   have hS:(s.heap.push { cls:=.type "set",dict:=none,data:=.set #[] 0 (.fresh 0 0 led) }).get? s.heap.objs.size=some { cls:=.type "set",dict:=none,data:=.set #[] 0 (.fresh 0 0 led) }:=Heap.get?_push_size _ rfl
   have hl1:(s.heap.push { cls:=.type "set",dict:=none,data:=.set #[] 0 (.fresh 0 0 led) }).IsTuple l its.toArray:=hl.push _
   generalize s.heap.push { cls:=.type "set",dict:=none,data:=.set #[] 0 (.fresh 0 0 led) }=h0 at e0 old hS hl1
   have hT:Shared.TypeIs { s with heap:=h0 } (.ref s.heap.objs.size) "set" := ⟨_,hS,rfl⟩
   have hli:=F.called_set.init.lookup
   have hbi:=F.called_set.init.bind (.ref s.heap.objs.size)
   repeat (any_goals (first | assumption | wp_step))
   refine codeAny_mono (codeAny_call_builtin (R:=wants (fun r s₂=>r=.none∧∃ h' tk S,s₂={ s with heap:=h',toks:=tk }∧
     h'.SetOf (strKind prog w) s.heap.objs.size S (un ns ns.length)∧(∀ b o,b < s.heap.objs.size→s.heap.get? b=some o→h'.get? b=some o)) E) F.called_set.init.plain F.entry_set_init (check_set_init_1 hT ?_)) fun r₂ s₂ hr₂=>?_
   ·have hll:l < s.heap.objs.size:=by
     obtain ⟨ol,hol,_⟩:=hl
     exact Heap.lt_size hol
    obtain ⟨ol,hol,hcl,nl,hdl⟩:=id hl1
    obtain ⟨ocls,odict,odata,oslots⟩:=ol
    simp only at hcl hdl
    subst hcl; subst hdl
    have hsls:=F.sub_tuple_set
    have hslf:=F.sub_tuple_frozenset
    have hne:(Value.type "tuple" == Value.type "dict")=false:=by decide
    unfold Builtin.«set.__init__» noKeywords Builtin.Frozenset.updateFrom
    generalize hPI:pyIter=PI
    wp_walk
    subst hPI
    refine wpAny_pyIter_tuple hl1 ?_
    refine wpAny_bind (wpAny_runValue ?_)
    have hh3:A.in1.in1.in1.handled=none:=by simp [hh]
    have hneI:l≠h0.objs.size:=by rw [e0]; exact Nat.ne_of_lt (Nat.lt_succ_of_lt hll)
    have hSf:s.heap.objs.size ∉ [h0.objs.size,l]:=by
     simp only [List.mem_cons,List.mem_singleton,List.not_mem_nil,or_false,not_or]
     exact⟨by rw [e0]; exact Nat.ne_of_lt (Nat.lt_succ_self _),Nat.ne_of_gt hll⟩
    have hsz:its.toArray.size=ns.length:=by rw [List.size_toArray,hn]
    refine yI ((Walks.tuple hh3 _ l hneI its.toArray).toS) s.heap.objs.size hSf ns hsz.symm (fun i v hv=>hi i v (by simpa using hv)) (by omega) (its.toArray.size - 0) 0 _ (by omega) (Nat.zero_le _)
     ⟨⟨_,Heap.get?_push_size _ rfl,rfl,rfl⟩,(hl1.push _)⟩ ?hS0 ?hR
    case hS0=>
     exact SetOf_congr ((setObjOf_fresh (knd:=strKind prog w) led).setOf (Heap.get?_push_of_some _ hS) (by unfold scanBound; omega)) (fun _=>rfl) rfl
    case hR=>
     intro s' hm hS'
     obtain ⟨h',g',d',tk',os'⟩:=s'
     have eg:g'=s.gens:=hm.gens
     have ed:d'=s.drawn:=hm.drawn
     have eo:os'=s.os:=hm.os
     subst eg; subst ed; subst eo
     show wpAny _ _ _ _ _ _
     refine wpAny_pure ?_
     show wpAny _ _ (ret Value.none) _ _ _
     refine wpAny_pure ⟨rfl,h',tk',_,rfl,by rw [hsz] at hS'; exact hS',fun b o hb e=>?_⟩
     exact hm.heap b o (by simp only [List.mem_cons,List.mem_singleton,List.not_mem_nil,or_false,not_or]; exact⟨Nat.ne_of_lt hb,by rw [e0]; exact Nat.ne_of_lt (Nat.lt_succ_of_lt hb)⟩) (Heap.get?_push_of_some _ (old b o e))
   ·cases r₂ with
    | error e=>exact hr₂
    | ok fl₂=>
     cases fl₂ with
     | ret r=>
      obtain ⟨rfl,h',tk,S,rfl,hS',hk'⟩:=hr₂
      repeat (any_goals (first | assumption | wp_step))
      exact h _ _ _ hS' hk'
     | _=>exact hr₂.elim
  | _=>exact hr.elim
section
variable {X:Cx}
theorem qH(hc:X.calm=true):dU X (.type "set") (fun xs H Q=>∃(l:Addr) (ns:List Str),xs=[.ref l]∧(SqL X.K H l (ns.map V.str)∨SqT X.K H l (ns.map V.str))∧ns.length≤3000∧∀ d,H d=none→Q (.ref d) (upd H d (Js X.prog X.w d (un ns ns.length)))):=by
 intro pins s σ H xs us Q I r h
 obtain ⟨l,ns,rfl,hl,hn,q⟩:=h
 obtain ⟨u,rfl,ru⟩:=vals1 r
 cases ru
 have hh:X.A.handled=none:=I.ok.hd hc
 have fin:∀ (h':Heap) (tk:Nat) (S:Str→Bool),h'.SetOf (strKind X.prog X.w) s.heap.objs.size S (un ns ns.length)→(∀ b o,b < s.heap.objs.size→s.heap.get? b=some o→h'.get? b=some o)→(∃(v:V) (H':Hp),Inv X pins σ H' { s with heap:=h',toks:=tk }∧RelV v (.ref s.heap.objs.size)∧Q v H'):=fun h' tk S hS hk=>by
  refine⟨.ref s.heap.objs.size,_,I.laid (o:=Js X.prog X.w s.heap.objs.size (un ns ns.length)) (fun b u e=>hk b u (Heap.lt_size e) e) (Nat.le_refl _) ⟨⟨S,hS⟩,?_,fun h1 h2 ⟨S',x⟩ k=>⟨S',ud x k⟩⟩,rfl,q _ (I.hok.fresh (Nat.le_refl _))⟩
  obtain ⟨o,_,_,_,ho,_⟩:=hS
  exact⟨o,ho⟩
 have val:∀ {its:List Value},Vals (ns.map V.str) its→∀(i:Nat) v,its[i]?=some v→∃ t,v=.str (ns.getD i "") t:=fun {its} rv i v hv=>by
  have hlen:=rv.length
  rw [List.length_map] at hlen
  have hil:i < ns.length:=by
   have:=(List.getElem?_eq_some_iff.mp hv).1
   omega
  obtain ⟨w',hw,rw'⟩:=rv.get (i:=i) (x:=.str ns[i]) (by rw [List.getElem?_map,List.getElem?_eq_getElem hil]; rfl)
  rw [hv] at hw
  cases hw
  obtain ⟨t,rfl⟩:=rw'
  exact⟨t,by simp [hil]⟩
 rcases hl with hl | hl
 ·obtain ⟨its,rv,pl,hz⟩:=I.list hl
  have hlen:=rv.length
  rw [List.length_map] at hlen
  exact DW hh pl.isList (ns:=ns) (val rv) (by omega) (by unfold scanBound; omega) fin
 ·obtain ⟨its,rv,pl,hz⟩:=I.tuple hl
  have hlen:=rv.length
  rw [List.length_map] at hlen
  exact Dj hh pl (ns:=ns) (val rv) (by omega) (by unfold scanBound; omega) fin
end
end L2
end
section
set_option autoImplicit false
namespace L2
open PySem PyProof.Rows
def cG(rows:List (List Str))(x:Str):Bool:=rows.any fun o=>decide (x∈o.drop 1)
def freeOf(rows:List (List Str)):List Str→List Str
 | []=>[]
 | x::_=>if cG rows x=true then [] else [x]
def frees(rows:List (List Str)):List Str:=rows.flatMap (freeOf rows)
def bO(x:Str)(r:List Str):List Str:=r.filter fun y=>decide (y≠x)
def full(rows:List (List Str)):List (List Str):=rows.filter fun r=>!r.isEmpty
inductive Mg:List (List Str)→Option (List Str)→Prop where
 | nil:Mg [] (some [])
 | stuck {rows:List (List Str)}:rows≠[]→frees rows=[]→Mg rows none
 | step {rows:List (List Str)} {x:Str} {more:List Str} {r:Option (List Str)}:frees rows=x::more→Mg (full (rows.map (bO x))) r→Mg rows (r.map (x::·))
theorem Mg.det{rows:List (List Str)}{r:Option (List Str)}(h:Mg rows r):∀ {r':Option (List Str)},Mg rows r'→r=r':=by
 induction h with
 | nil=>
  intro r' h'
  cases h' with
  | nil=>rfl
  | stuck h _=>exact absurd rfl h
  | step h _=>cases h
 | stuck h1 h2=>
  intro r' h'
  cases h' with
  | nil=>exact absurd rfl h1
  | stuck _ _=>rfl
  | step h _=>rw [h2] at h; cases h
 | step h1 _ ih=>
  intro r' h'
  cases h' with
  | nil=>cases h1
  | stuck _ h=>rw [h1] at h; cases h
  | step h hr=>
   rw [h1] at h
   cases h
   rw [ih hr]
def tot(rows:List (List Str)):Nat:=(rows.map List.length).sum
theorem gC(r:List Str)(rows:List (List Str)):tot (r::rows)=r.length+tot rows:=by
 unfold tot
 rw [List.map_cons,List.sum_cons]
theorem pR:∀(rows:List (List Str)),tot (full rows)=tot rows
 | []=>rfl
 | r::rows=>by
  unfold full
  rw [List.filter_cons]
  have ih:=pR rows
  unfold full at ih
  cases r with
  | nil=>
   rw [gC,← ih]
   simp
  | cons y r=>simp only [List.isEmpty_cons,Bool.not_false,if_true]; rw [gC,gC,ih]
theorem wH(x:Str)(r:List Str):(bO x r).length≤r.length:=List.length_filter_le _ _
theorem tX(x:Str):∀(rows:List (List Str)),tot (rows.map (bO x))≤tot rows
 | []=>Nat.le_refl _
 | r::rows=>by
  rw [List.map_cons,gC,gC]
  have:=tX x rows
  have:=wH x r
  omega
theorem oV{x:Str}:∀ {rows:List (List Str)},(∃ r∈rows,x∈r)→tot (rows.map (bO x)) < tot rows
 | [],⟨_,h,_⟩=>nomatch h
 | r::rows,⟨q,hq,hx⟩=>by
  rw [List.map_cons,gC,gC]
  have h1:=tX x rows
  have h2:=wH x r
  rcases List.mem_cons.mp hq with rfl | h
  ·have:(bO x q).length < q.length:=by
    unfold bO
    refine Nat.lt_of_le_of_ne (List.length_filter_le _ _) fun e=>?_
    have:=List.length_filter_eq_length_iff.mp e x hx
    simp at this
   omega
  ·have:=oV ⟨q,h,hx⟩
   omega
theorem nT{rows:List (List Str)}{x:Str}(h:x∈frees rows):∃ r∈rows,r.head?=some x:=by
 obtain ⟨r,hr,hx⟩:=List.mem_flatMap.mp h
 refine⟨r,hr,?_⟩
 cases r with
 | nil=>cases hx
 | cons y r=>
  have hx:x∈(if cG rows y=true then [] else [y]):=hx
  by_cases hh:cG rows y=true
  ·rw [if_pos hh] at hx
   cases hx
  ·rw [if_neg hh] at hx
   rw [List.mem_singleton.mp hx]
   rfl
theorem tW{rows:List (List Str)}{r:List Str}(h:r∈rows):r.length≤tot rows:=by
 induction rows with
 | nil=>cases h
 | cons q rows ih=>
  rw [gC]
  rcases List.mem_cons.mp h with rfl | h
  ·omega
  ·have:=ih h
   omega
theorem m9:∀(rows:List (List Str)),(full rows).length≤tot rows
 | []=>Nat.le_refl _
 | r::rows=>by
  have ih:=m9 rows
  unfold full at ih ⊢
  rw [List.filter_cons,gC]
  cases r with
  | nil=>simpa using ih
  | cons y r=>simp only [List.isEmpty_cons,Bool.not_false,if_true,List.length_cons]; omega
def jQ(H:Hp)(vs:List V)(rows:List (List Str)):Prop:=Paired (fun(v:V) (r:List Str)=>∃ a,v=.ref a∧H a=some (.tup (r.map V.str))) vs rows
def Lj(H:Hp)(vs:List V)(rows:List (List Str)):Prop:=Paired (fun(v:V) (r:List Str)=>∃ a,v=.ref a∧H a=some (.lst (r.map V.str))) vs rows
theorem jQ.mono{H H':Hp}{vs:List V}{rows:List (List Str)}(h:jQ H vs rows)(s:gn H H'):jQ H' vs rows:=Paired.oZ h fun v r ⟨a,e,q⟩=>⟨a,e,s a _ q⟩
def oH(H:Hp)(D:Addr)(vs:List V)(rows:List (List Str)):Prop:=Paired (fun(v:V) (r:List Str)=>∃ a,v=.ref a∧a≠D∧H a=some (.lst (r.map V.str))) vs rows
theorem oH.l{H:Hp}{D:Addr}{vs:List V}{rows:List (List Str)}(h:oH H D vs rows):Lj H vs rows:=Paired.oZ h fun v r ⟨a,e,_,q⟩=>⟨a,e,q⟩
theorem oH.mono{H H':Hp}{D:Addr}{vs:List V}{rows:List (List Str)}(h:oH H D vs rows)(s:Same H H'):oH H' D vs rows:=Paired.oZ h fun v r ⟨a,e,n,q⟩=>⟨a,e,n,s a _ q⟩
def mG(H:Hp)(D E:Addr)(vs:List V)(rows:List (List Str)):Prop:=Paired (fun(v:V) (r:List Str)=>∃ a,v=.ref a∧a≠D∧a≠E∧H a=some (.lst (r.map V.str))) vs rows
theorem mG.x{H:Hp}{D E:Addr}{vs:List V}{rows:List (List Str)}(h:mG H D E vs rows):oH H E vs rows:=Paired.oZ h fun v r ⟨a,e,_,n,q⟩=>⟨a,e,n,q⟩
theorem mG.grow{H H':Hp}{D E:Addr}{o:HO}{vs:List V}{rows:List (List Str)}(h:mG H D E vs rows)(s:Same H H'):mG (upd H' D o) D E vs rows:=Paired.oZ h fun v r ⟨a,e,n,n',q⟩=>⟨a,e,n,n',by rw [aA n]; exact s a _ q⟩
theorem mG.mono{H H':Hp}{D E:Addr}{vs:List V}{rows:List (List Str)}(h:mG H D E vs rows)(s:Same H H'):mG H' D E vs rows:=Paired.oZ h fun v r ⟨a,e,n,n',q⟩=>⟨a,e,n,n',s a _ q⟩
theorem oH.get{H:Hp}{D:Addr}{vs:List V}{rows:List (List Str)}(h:oH H D vs rows){i:Nat}(hi:i < vs.length):∃(a:Addr) (hr:i < rows.length),vs[i]?=some (.ref a)∧a≠D∧H a=some (.lst (rows[i].map V.str)):=by
 have hr:i < rows.length:=by rw [← Paired.length h]; exact hi
 obtain ⟨a,e,n,q⟩:=eV h i hi hr
 exact⟨a,hr,by rw [List.getElem?_eq_getElem hi,e],n,q⟩
theorem at0(y:Str)(r:List Str):atI ((y::r).map V.str) 0=some (.str y):=aV (j:=0) rfl
theorem xG(R:List (List Str)):∀(rows:List (List Str)),(rows.flatMap (freeOf R)).length≤rows.length
 | []=>Nat.le_refl _
 | r::rows=>by
  rw [List.flatMap_cons,List.length_append,List.length_cons]
  have:=xG R rows
  have:(freeOf R r).length≤1:=by
   cases r with
   | nil=>exact Nat.zero_le _
   | cons y r=>
    show (if cG R y=true then [] else [y]).length≤1
    split <;> simp
  omega
theorem eX{α β:Type}{F:α→β→Prop}{as:List α}{bs:List β}{a:α}{b:β}(h:Paired F as bs)(hy:F a b):Paired F (as++[a]) (bs++[b]):=by
 induction h with
 | nil=>exact .cons hy .nil
 | cons a _ ih=>exact .cons a ih
theorem jQ.get{H:Hp}{vs:List V}{rows:List (List Str)}(h:jQ H vs rows){i:Nat}(hi:i < vs.length):∃(a:Addr) (hr:i < rows.length),vs[i]?=some (.ref a)∧H a=some (.tup (rows[i].map V.str)):=by
 have hr:i < rows.length:=by rw [← Paired.length h]; exact hi
 obtain ⟨a,e,q⟩:=eV h i hi hr
 exact⟨a,hr,by rw [List.getElem?_eq_getElem hi,e],q⟩
theorem take_snoc{α:Type}{l:List α}{i:Nat}(h:i < l.length):l.take (i+1)=l.take i++[l[i]]:=by
 rw [List.take_succ,List.getElem?_eq_getElem h]
 rfl
theorem nR(rows:List (List Str))(r:List Str):full (rows++[r])=full rows++(if r.isEmpty=true then [] else [r]):=by
 unfold full
 rw [List.filter_append]
 congr 1
 cases r <;> rfl
theorem cV{σ:L2.St}{H:Hp}{A B:Hp→Prop}(h:A H):LK σ H (fun b H3=>if b=true then A H3 else B H3):=by
 show (if true=true then A H else B H)
 rw [if_pos rfl]
 exact h
def NZ(H:Hp)(x:Str)(r:Option (List Str))(v:V):Prop:=match r with
 | none=>v=.non
 | some os=>∃ q,v=.ref q∧H q=some (.tup ((x::os).map V.str))
theorem Ja(r:List Str):gb (r.map V.str) (some 1) none=(r.drop 1).map V.str:=by
 unfold gb
 rw [List.length_map]
 have e1:HT.sIx r.length 0 (some 1)=min 1 r.length:=HT.rP r.length 0 1
 have e2:HT.sIx r.length r.length none=r.length:=rfl
 rw [e1,e2,← List.map_drop,← List.map_take]
 congr 1
 cases r with
 | nil=>rfl
 | cons y r=>
  have:min 1 (y::r).length=1:=by simp
  rw [this]
  exact List.take_of_length_le (by simp)
end L2
end
section
set_option autoImplicit false
namespace L2
open PySem PySem.Spec PyProof.Rows
def Nm(x:Str):Prop:=1≤x.length∧x.length≤6∧Lw x
theorem lK{x:Str}{j:Int}(h0:0≤j)(h:j≤x.length):(Txt.slice x none (some j)).length=j.toNat:=by
 have e:x.cps.toList.length=x.length:=Array.length_toList
 show (StrLaws.sliceText x none (some j)).length=_
 rw [StrLaws.sliceText_to ⟨h0,by rw [e]; exact h⟩]
 show (List.toArray _).size=_
 rw [List.size_toArray,List.length_take,List.length_drop,e]
 omega
theorem uo{x:Str}{i:Int}(h0:0≤i)(h:i≤x.length):(Txt.slice x (some i) none).length=x.length - i.toNat:=by
 have e:x.cps.toList.length=x.length:=Array.length_toList
 show (StrLaws.sliceText x (some i) none).length=_
 rw [StrLaws.sliceText_from ⟨h0,by rw [e]; exact h⟩]
 show (List.toArray _).size=_
 rw [List.size_toArray,List.length_take,List.length_drop,e]
 omega
theorem KD(x:Str):(Txt.slice x none (some 5)).length≤5:=by
 by_cases h:5≤x.length
 ·rw [lK (by decide) (by omega)]
  decide
 ·exact Nat.le_trans (nM x _ _) (by omega)
theorem Iz{x:Str}:(jy x 6).length=6 * x.length:=by
 unfold jy
 rw [if_neg (by decide)]
 split
 ·rename_i h
  have h0:x.length=0:=by simpa using h
  rw [h0]
 ·show (List.foldl (fun x1 x2=>x1++x2) #[] (List.replicate (6:Int).toNat x.cps)).size=_
  rw [size_rep,Array.size_empty,Nat.zero_add]
  rfl
theorem Ln{x:Str}(h:Nm x)(i:Nat):Nm (Txt.slice (jy x 6) none (some (if 0+(i:Int)+1 < 6 then 0+(i:Int)+1 else 6))):=by
 obtain ⟨h1,h6,hl⟩:=h
 have e6:(jy x 6).length=6 * x.length:=Iz
 have hj:∃ j:Int,(if 0+(i:Int)+1 < 6 then 0+(i:Int)+1 else 6)=j∧1≤j∧j≤6:=⟨_,rfl,by split <;> omega,by split <;> omega⟩
 obtain ⟨j,e,j1,j6⟩:=hj
 rw [e]
 have:=lK (x:=jy x 6) (j:=j) (by omega) (by omega)
 exact⟨by omega,by omega,(hl.rep _).slice _ _⟩
theorem M5{x:Str}(h:Nm x){pl:Int}{c:Nat}(h0:0≤pl)(hp:pl < x.length)(hc:c∈abc.cps.toList):Nm (Txt.slice x none (some pl)++⟨#[c]⟩++Txt.slice x (some (pl+1)) none):=by
 obtain ⟨h1,h6,hl⟩:=h
 have a:=lK (x:=x) h0 (by omega)
 have b:=uo (x:=x) (i:=pl+1) (by omega) (by omega)
 have e:(Txt.slice x none (some pl)++⟨#[c]⟩++Txt.slice x (some (pl+1)) none).length=x.length:=by
  rw [gD,gD,a,b]
  show pl.toNat+1+_=_
  omega
 exact⟨by rw [e]; exact h1,by rw [e]; exact h6,((hl.slice _ _).app (Lw.one hc)).app (hl.slice _ _)⟩
end L2
end
section
set_option autoImplicit false
namespace L2
open PySem PySem.Spec PyProof.Rows
def Nv:R2:=fun x y H Q=>∃ c j,x=.str ⟨#[c]⟩∧y=.str j∧Q (.bl (decide (c∈j.cps.toList))) H
theorem JV{X:Cx}:OpR X (compareOp .In) Nv:=by
 intro pins s σ H x y v u Q I rx ry h
 obtain ⟨c,j,rfl,rfl,q⟩:=h
 obtain ⟨t,rfl⟩:=rx
 obtain ⟨t',rfl⟩:=ry
 refine in_str ⟨.bl _,H,I,rfl,?_⟩
 rw [PySem.StrLaws.found_one]
 exact q
def tyD:PyData→String
 | .none=> "NoneType"
 | .bool _=> "bool"
 | .int _=> "int"
 | .str _=> "str"
 | .list _=> "list"
 | .tuple _=> "tuple"
 | .dict _=> "dict"
theorem RdV.ty{K:PySem.W.Frag}{H:Hp}{v:V}{d:PyData}(h:RdV H v d):nU K H v (.type (tyD d)):=by
 cases h with
 | non=>exact .non
 | bl b=>exact .bl b
 | int i=>exact .int i
 | str x=>exact .str x
 | tup e _=>exact .tup e
 | lst e _=>exact .lst e
 | dct e _=>exact .dK e
def xT:PyData→Bool
 | .tuple _=>true
 | _=>false
def CJ:PyData→Bool
 | .str _=>true
 | _=>false
theorem Hl(K:PySem.W.Frag)(d:PyData):PySem.W.kitOne K (.type (tyD d)) (.type "tuple")=some (xT d):=by
 cases d <;> first | exact gA K "tuple" | rfl
theorem JF(K:PySem.W.Frag)(d:PyData):PySem.W.kitOne K (.type (tyD d)) (.type "str")=some (CJ d):=by
 cases d <;> first | exact gA K "str" | rfl
theorem Af{d:PyData}(h:xT d=true):∃ ds,d=.tuple ds:=by
 cases d <;> first | exact⟨_,rfl⟩ | cases h
theorem Gb{d:PyData}(h:CJ d=true):∃ x,d=.str x:=by
 cases d <;> first | exact⟨_,rfl⟩ | cases h
theorem RdV.jW{H:Hp}{v:V}{ds:List PyData}(h:RdV H v (.tuple ds)):∃ a xs,v=.ref a∧H a=some (.tup xs)∧RdA H xs ds:=by
 cases h with
 | tup e q=>exact⟨_,_,rfl,e,q⟩
theorem RdV.jA{H:Hp}{v:V}{x:Str}(h:RdV H v (.str x)):v=.str x:=by
 cases h
 rfl
theorem RdA.get{H:Hp}:∀ {vs:List V} {ds:List PyData},RdA H vs ds→∀ {i:Nat} {d:PyData},ds[i]?=some d→∃ v,vs[i]?=some v∧RdV H v d
 | _,_,.nil,_,_,h=>nomatch h
 | _,_,.cons q r,0,_,h=>by cases h; exact⟨_,rfl,q⟩
 | _,_,.cons q r,i+1,_,h=>RdA.get r h
theorem RdA.jq{H:Hp}:∀ {xs:List Str} {vs:List V},RdA H vs (xs.map PyData.str)→vs=xs.map V.str
 | [],_,.nil=>rfl
 | x::xs,_,.cons q r=>by rw [q.jA,RdA.jq r]; rfl
mutual
theorem RdV.jg{H H':Hp}(s:Same H H'):∀ {v:V} {d:PyData},RdV H v d→RdV H' v d
 | _,_,.non=>.non
 | _,_,.bl b=>.bl b
 | _,_,.int i=>.int i
 | _,_,.str x=>.str x
 | _,_,.tup e q=>.tup (s _ _ e) (RdA.jg s q)
 | _,_,.lst e q=>.lst (s _ _ e) (RdA.jg s q)
 | _,_,.dct e q=>.dct (s _ _ e) (RdA.jg s q)
theorem RdA.jg{H H':Hp}(s:Same H H'):∀ {vs:List V} {ds:List PyData},RdA H vs ds→RdA H' vs ds
 | _,_,.nil=>.nil
 | _,_,.cons q r=>.cons (RdV.jg s q) (RdA.jg s r)
end
mutual
theorem RdV.dp{H:Hp}:∀(t:T) {v:V},RdV H v (toD t)→Dp H t v
 | .non,v,h=>by
  rw [toD] at h
  cases h
  rw [Dp]
 | .int i,v,h=>by
  rw [toD] at h
  cases h
  rw [Dp]
 | .str x,v,h=>by
  rw [toD] at h
  cases h
  rw [Dp]
 | .tup ts,v,h=>by
  rw [toD] at h
  obtain ⟨a,xs,rfl,e,q⟩:=h.jW
  exact L2.Dp.tup e (RdA.dp ts q)
theorem RdA.dp{H:Hp}:∀(ts:List T) {vs:List V},RdA H vs (mJ ts)→DpL H ts vs
 | [],vs,h=>by
  rw [mJ] at h
  cases h
  exact .nil
 | t::ts,vs,h=>by
  rw [mJ] at h
  cases h with
  | cons q r=>exact .cons (RdV.dp t q) (RdA.dp ts r)
end
def Asc(x:Str):Prop:=x.cps.all (· < 128)=true
theorem Asc.of{x:Str}(h:∀ c∈x.cps.toList,c < 128):Asc x:=Array.all_eq_true_iff_forall_mem.mpr fun c hc=>decide_eq_true (h c (Array.mem_toList_iff.mpr hc))
theorem Lw.asc{x:Str}(h:Lw x):Asc x:=.of fun c hc=>Nat.lt_of_le_of_lt (Ku c (h c hc)).2 (by decide)
mutual
def gd:PyData→Prop
 | .none | .bool _=>True
 | .int i=>(0≤i∧i < 1000000000)∨i=-1∨i=-3
 | .str x=>x.length≤4000∧Asc x
 | .list xs | .tuple xs=>gdA xs
 | .dict kvs=>gdK kvs
def gdA:List PyData→Prop
 | []=>True
 | d::ds=>gd d∧gdA ds
def gdK:List (PyData × PyData)→Prop
 | []=>True
 | (k,v)::r=>gd k∧gd v∧gdK r
end
mutual
def wt:PyData→Nat
 | .none | .bool _ | .int _=>1
 | .str x=>x.length+1
 | .list xs | .tuple xs=>1+wtA xs
 | .dict kvs=>1+wtK kvs
def wtA:List PyData→Nat
 | []=>0
 | d::ds=>wt d+wtA ds
def wtK:List (PyData × PyData)→Nat
 | []=>0
 | (k,v)::r=>wt k+wt v+wtK r
end
theorem Cm:∀ {ds:List PyData},gdA ds↔∀ d∈ds,gd d
 | []=>by simp [gdA]
 | d::ds=>by
  rw [gdA,Cm]
  simp
structure Th (d:PyData):Prop where
 g:gd d
 w:wt d≤1900
 dp:d.depth≤50
 nl:d.hasDict=true→noL d=true
end L2
end
section
set_option autoImplicit false
namespace HT
open PySem PySem.Spec PyProof.Rows
section
variable {prog:Program}{w:World}{A:Around}{E:Value→Shared→Prop}{s:Shared}
end
end HT
namespace L2
open PySem PySem.Spec PyProof.Rows
section
variable {X:Cx}
end
end L2
end
section
set_option autoImplicit false
namespace PySem.SeqAt
open AutoSeq1 (wpAny_loadPart')
open MeetsSeq
theorem m5(b:Str)(u:Tok)(l:Addr)(dd:Option Addr)(es:Array DictEntry)(ep:Nat)(sl:Array (Option Value)) :
  Meets (Builtin.«str.__eq__» ⟨[.str b u,.ref l],[]⟩) (fun _ R s=>s.heap.get? l=some { cls:=.type "dict",dict:=dd,data:=.dict es ep,slots:=sl }∧R (.ok (.ret .notImplemented)) s):=
 .of_wp fun prog w A R s h=>by obtain ⟨hp,g,d,tk,os⟩:=s; obtain ⟨hl,h⟩:=h; wp_walk using wpAny_loadPart' hl,wpAny_load hl; exact⟨_,rfl,h⟩
theorem ni(l:Addr)(dd:Option Addr)(es:Array DictEntry)(ep:Nat)(sl:Array (Option Value))(b:Str)(u:Tok) :
  Meets (Builtin.«dict.__eq__» ⟨[.ref l,.str b u],[]⟩) (fun _ R s=>s.heap.get? l=some { cls:=.type "dict",dict:=dd,data:=.dict es ep,slots:=sl }∧R (.ok (.ret .notImplemented)) s):=
 .of_wp fun prog w A R s h=>by
  obtain ⟨hp,g,d,tk,os⟩:=s
  obtain ⟨hl,h⟩:=h
  have f1:=F.sub_str_dict
  wp_walk using wpAny_loadPart' hl,wpAny_load hl
  exact⟨_,rfl,h⟩
theorem RcAt.str_dict{A:Around}{s:Shared}{l:Addr}{dd:Option Addr}{es:Array DictEntry}{ep:Nat}{sl:Array (Option Value)}(b:Str)(u:Tok)(ho:s.heap.get? l=some { cls:=.type "dict",dict:=dd,data:=.dict es ep,slots:=sl })(hu:A.units < cLine):RcAt A s (.str b u) (.ref l) false:=fun prog w E Q h=>by
 exact rc_eq_decline_or (k:=false) (typeIs_str s b u) ⟨_,ho,rfl⟩ (by decide) F.sub_dict_str F.slot_str_eq F.slot_dict_eq_refl
  (fun _ hq=>call_meets F.slot_str_eq (typeIs_str s b u) F.entry_str_eq (F.args_str_eq_2 _ _) (m5 b u l dd es ep sl) ⟨ho,hq⟩)
  (fun _ hq=>call_meets F.slot_dict_eq_refl ⟨_,ho,rfl⟩ F.entry_dict_eq (F.args_dict_eq_2 _ _) (ni l dd es ep sl b u) ⟨ho,hq⟩)
  (fun _ hq=>wpAny_of_eq (rfl:isSame (.str b u) (.ref l)=pure false) hq) (.inr hu) h
theorem EqAt.str_dict{A:Around}{s:Shared}{l:Addr}{dd:Option Addr}{es:Array DictEntry}{ep:Nat}{sl:Array (Option Value)}(b:Str)(u:Tok)(ho:s.heap.get? l=some { cls:=.type "dict",dict:=dd,data:=.dict es ep,slots:=sl })(hu:A.units < cLine):EqAt A s (.str b u) (.ref l) false:=fun prog w E Q h=>by
 unfold eqBool
 refine wpAny_holding ?_
 refine wpAny_ite_split (fun hab=>absurd (eq_of_beq hab) nofun) (fun _=>?_)
 exact wpAny_bind (RcAt.str_dict b u ho hu prog w E _ (wpAny_truthy_bool h))
end PySem.SeqAt
namespace L2
open PySem PySem.Spec PyProof.Rows
section
variable {X:Cx}
def Oi(K:PySem.W.Frag)(neg:Bool):R2:=fun x y H Q=>∃(p:Addr) (ns:List Str) (d:PyData),y=.ref p∧SqL K H p (ns.map V.str)∧RdV H x d∧Q (.bl (if neg then !dcd (∃ z,d=.str z∧z∈ns) else dcd (∃ z,d=.str z∧z∈ns))) H
theorem lJ:∀ {ns:List Str} {us:List Value},Vals (ns.map V.str) us→∀ u∈us,∃ n∈ns,∃ t,u=.str n t
 | [],_,.nil,u,hu=>nomatch hu
 | n::ns,_,.cons r t,u,hu=>by
  rcases List.mem_cons.mp hu with rfl | hu
  ·obtain ⟨tk,e⟩:=r
   exact⟨n,List.mem_cons_self,tk,e⟩
  ·obtain ⟨m,hm,q⟩:=lJ t u hu
   exact⟨m,List.mem_cons_of_mem _ hm,q⟩
theorem Ec(hu:X.A.units+10 < cLine):OpR X (compareOp .NotIn) (Oi X.K true):=by
 intro pins s σ H x y v u Q I rx ry h
 obtain ⟨p,ns,d,rfl,hq,rd,q⟩:=h
 cases ry
 have flat:∀ fx:mH x=true,(inV x (ns.map V.str)=dcd (∃ z,d=.str z∧z∈ns))→wpAny (model X.prog X.w) X.A (compareOp .NotIn v (.ref p)) (EP X pins σ Q) X.xe s:=fun fx e=>by
  refine jH pins s σ H x (.ref p) v (.ref p) Q I rx rfl ⟨p,_,rfl,.inl hq,fx,gW ns,?_⟩
  rw [if_pos rfl,e]
  exact q
 have no:∀ x,(∀ z,x≠V.str z)→inV x (ns.map V.str)=false:=fun x hx=>by
  unfold inV
  rw [List.any_eq_false]
  intro y hy
  obtain ⟨n,_,rfl⟩:=List.mem_map.mp hy
  cases x <;> first | exact Bool.false_ne_true | (exact absurd rfl (hx _))
 have noR:(∀ u∈([]:List Value),False)→(∀ its:List Value,Vals (ns.map V.str) its→∀ w∈its,SeqAt.EqAt X.A.in1 s w v false)→(∀ z,d≠.str z)→wpAny (model X.prog X.w) X.A (compareOp .NotIn v (.ref p)) (EP X pins σ Q) X.xe s:=fun _ he hd=>by
  obtain ⟨its,r,pl,hz⟩:=I.list hq
  refine SeqAt.notIn_listAt (fun _=>false) pl.isList (fun w hw=>he its r w (by simpa using hw)) ⟨.bl _,H,I,rfl,?_⟩
  rw [cR (fun⟨z,e,_⟩=>hd z e),if_pos rfl] at q
  have e:its.toArray.any (fun _=>false)=false:=by
   rw [List.any_toArray]
   exact List.any_eq_false.mpr fun _ _=>Bool.false_ne_true
  rw [e]
  exact q
 have hu1:X.A.in1.units < cLine:=by show X.A.units+1 < cLine; omega
 cases rd with
 | non=>exact flat rfl (by rw [no .non (fun z h=>nomatch h),cR (fun⟨z,e,_⟩=>nomatch e)])
 | bl b=>exact flat rfl (by rw [no (.bl b) (fun z h=>nomatch h),cR (fun⟨z,e,_⟩=>nomatch e)])
 | int i=>exact flat rfl (by rw [no (.int i) (fun z h=>nomatch h),cR (fun⟨z,e,_⟩=>nomatch e)])
 | str z=>
  refine flat rfl ?_
  rw [iw]
  by_cases h:z∈ns
  ·rw [decide_eq_true h,iR ⟨z,rfl,h⟩]
  ·rw [decide_eq_false h,cR (fun⟨z',e,h'⟩=>by injection e with e; exact h (e ▸ h'))]
 | tup e _=>
  obtain rfl:v=.ref _:=rx
  obtain ⟨its2,_,pt,_⟩:=I.tuple (SqT.of (K:=X.K) e)
  refine noR (fun _ h=>nomatch h) (fun its r w hw=>?_) (fun z=>nofun)
  obtain ⟨n,_,t,rfl⟩:=lJ r w hw
  exact SeqAt.EqAt.str_tuple n t pt hu1
 | lst e _=>
  obtain rfl:v=.ref _:=rx
  obtain ⟨its2,_,pt,_⟩:=I.list (SqL.of (K:=X.K) e)
  refine noR (fun _ h=>nomatch h) (fun its r w hw=>?_) (fun z=>nofun)
  obtain ⟨n,_,t,rfl⟩:=lJ r w hw
  exact SeqAt.EqAt.str_list n t pt.isList hu1
 | dct e _=>
  obtain rfl:v=.ref _:=rx
  obtain ⟨_,hs,vs,kv,o,es,ep,ho,hx,hd,ko,pr,nd⟩:=I.hok _ _ e
  refine noR (fun _ h=>nomatch h) (fun its r w hw=>?_) (fun z=>nofun)
  obtain ⟨n,_,t,rfl⟩:=lJ r w hw
  obtain ⟨oc,od,oda,osl⟩:=o
  have h1:=hx.1
  dsimp only at h1 hd
  subst h1 hd
  exact SeqAt.EqAt.str_dict n t ho hu1
end
end L2
end
section
set_option autoImplicit false
namespace K12
open PySem L2
def top(i:Nat):Stmt:=PySem.Challenge.pw_warmrows_k12_no_kinds_and_tables_of_fami.main.body.getD i (.Pass ⟨0,0,0,0⟩)
structure Adr where
 iV:Addr × FuncData
 cL:Addr × FuncData
 iB:Addr × FuncData
 cQ:Addr × FuncData
 gM:Addr × FuncData
 cu:Addr × FuncData
 kinds_of:Addr × FuncData
 gG:Addr × FuncData
 bL:Addr × FuncData
 iZ:Addr × FuncData
 cJ:Addr × FuncData
 cM:Addr × FuncData
 jD:Addr × FuncData
 fP:Addr × FuncData
 fG:Addr × FuncData
 fL:Addr × FuncData
 jK:Addr × FuncData
 jf:Addr × FuncData
 gR:Addr × FuncData
 iM:Addr × FuncData
 cO:Addr × FuncData
 cN:Addr × FuncData
 jP:Addr × FuncData
 gK:Addr × FuncData
 lQ:Addr × FuncData
 iG:Addr × FuncData
 uF:Addr × FuncData
 dX:Addr × FuncData
 found:Addr × FuncData
 behind:Addr × FuncData
 fH:Addr × FuncData
 dN:Addr × FuncData
 fO:Addr × FuncData
 dR:Addr × FuncData
 aL:Addr × FuncData
 fY:Addr × FuncData
 cg:Addr × FuncData
 bU:Addr × FuncData
 eE:Addr × FuncData
 cZ:Addr × FuncData
 eF:Addr × FuncData
 iQ:Addr × FuncData
 fM:Addr × FuncData
 fU:Addr × FuncData
 gP:Addr × FuncData
 gO:Addr × FuncData
 dF:Addr × FuncData
 dI:Addr × FuncData
 law:Addr × FuncData
 jk:Addr
 bG:Addr
 jd:Addr
 gQ:Addr
 je:Addr
 iT:Addr
 jG:Addr
 iU:Addr
 fJ:Addr
structure Defs (K:PySem.W.Frag) (mg:Str→Option Value) (t:Adr):Prop where
 iV:Fnd K mg "is_whole" (top 14) ["thing"] t.iV.1 t.iV.2
 cL:Fnd K mg "is_tuple_of" (top 15) ["thing","many"] t.cL.1 t.cL.2
 iB:Fnd K mg "is_name" (top 16) ["thing"] t.iB.1 t.iB.2
 cQ:Fnd K mg "is_kind" (top 17) ["thing","kinds"] t.cQ.1 t.cQ.2
 gM:Fnd K mg "are_kinds" (top 18) ["thing","kinds"] t.gM.1 t.gM.2
 cu:Fnd K mg "check_kind" (top 19) ["kind","kinds"] t.cu.1 t.cu.2
 kinds_of:Fnd K mg "kinds_of" (top 20) ["rows"] t.kinds_of.1 t.kinds_of.2
 gG:Fnd K mg "is_family" (top 21) ["thing"] t.gG.1 t.gG.2
 bL:Fnd K mg "elders_first" (top 22) ["family"] t.bL.1 t.bL.2
 iZ:Fnd K mg "order_of" (top 24) ["family","kind"] t.iZ.1 t.iZ.2
 cJ:Fnd K mg "tell_orders" (top 25) ["family"] t.cJ.1 t.cJ.2
 cM:Fnd K mg "quarrel_among" (top 26) ["kinds","told"] t.cM.1 t.cM.2
 jD:Fnd K mg "rows_by" (top 27) ["elders","told"] t.jD.1 t.jD.2
 fP:Fnd K mg "merge_rows" (top 28) ["kind","rows"] t.fP.1 t.fP.2
 fG:Fnd K mg "first_free" (top 29) ["left"] t.fG.1 t.fG.2
 fL:Fnd K mg "ring_among" (top 30) ["left"] t.fL.1 t.fL.2
 jK:Fnd K mg "hold_of" (top 31) ["name","left"] t.jK.1 t.jK.2
 jf:Fnd K mg "is_table" (top 35) ["thing"] t.jf.1 t.jf.2
 gR:Fnd K mg "family_of" (top 36) ["table"] t.gR.1 t.gR.2
 iM:Fnd K mg "is_order" (top 37) ["thing","told"] t.iM.1 t.iM.2
 cO:Fnd K mg "has_good_rest" (top 38) ["row"] t.cO.1 t.cO.2
 cN:Fnd K mg "are_few_names" (top 39) ["thing"] t.cN.1 t.cN.2
 jP:Fnd K mg "is_body_number" (top 40) ["thing"] t.jP.1 t.jP.2
 gK:Fnd K mg "are_deeds" (top 41) ["thing"] t.gK.1 t.gK.2
 lQ:Fnd K mg "is_deed" (top 42) ["thing"] t.lQ.1 t.lQ.2
 iG:Fnd K mg "row_at" (top 43) ["table","kind"] t.iG.1 t.iG.2
 uF:Fnd K mg "own_body" (top 44) ["row","deed"] t.uF.1 t.uF.2
 dX:Fnd K mg "look_along" (top 45) ["table","kinds","deed"] t.dX.1 t.dX.2
 found:Fnd K mg "found" (top 46) ["table","kind","deed"] t.found.1 t.found.2
 behind:Fnd K mg "behind" (top 47) ["table","kind","home","deed"] t.behind.1 t.behind.2
 fH:Fnd K mg "new_fields" (top 48) ["table","kind"] t.fH.1 t.fH.2
 dN:Fnd K mg "_law_cell" (top 50) ["_law_script","_law_k"] t.dN.1 t.dN.2
 fO:Fnd K mg "_law_cells" (top 51) ["_law_script","_law_first","_law_least","_law_most"] t.fO.1 t.fO.2
 dR:Fnd K mg "_law_purse" (top 52) ["_law_cell_here"] t.dR.1 t.dR.2
 aL:Fnd K mg "_law_take" (top 53) ["_law_purse_here","_law_many"] t.aL.1 t.aL.2
 fY:Fnd K mg "_law_word" (top 54) ["_law_purse_here","_law_used"] t.fY.1 t.fY.2
 cg:Fnd K mg "_law_names" (top 55) ["_law_purse_here","_law_many","_law_used"] t.cg.1 t.cg.2
 bU:Fnd K mg "_law_some" (top 56) ["_law_purse_here","_law_menu","_law_most"] t.bU.1 t.bU.2
 eE:Fnd K mg "_law_family" (top 57) ["_law_purse_here","_law_most"] t.eE.1 t.eE.2
 cZ:Fnd K mg "_law_merge" (top 58) ["_law_kind","_law_rows"] t.cZ.1 t.cZ.2
 eF:Fnd K mg "_law_elders" (top 59) ["_law_purse_here","_law_names_here","_law_shape","_law_orders"] t.eF.1 t.eF.2
 iQ:Fnd K mg "_law_own" (top 60) ["_law_purse_here","_law_deeds"] t.iQ.1 t.iQ.2
 fM:Fnd K mg "_law_table" (top 61) ["_law_purse_here","_law_many","_law_deeds","_law_fields"] t.fM.1 t.fM.2
 fU:Fnd K mg "_law_odd" (top 62) ["_law_purse_here"] t.fU.1 t.fU.2
 gP:Fnd K mg "_law_made" (top 63) ["_law_purse_here"] t.gP.1 t.gP.2
 gO:Fnd K mg "_law_look" (top 64) ["_law_door","_law_table_here","_law_kind","_law_home","_law_deed"] t.gO.1 t.gO.2
 dF:Fnd K mg "_law_refused" (top 65) ["_law_door","_law_table_here","_law_kind","_law_home","_law_deed"] t.dF.1 t.dF.2
 dI:Fnd K mg "_law_no_kind" (top 66) ["_law_purse_here","_law_table_here"] t.dI.1 t.dI.2
 law:Fnd K mg "law" (top 67) ["_law_script"] t.law.1 t.law.2
 LC:mg "abs" = none
 lu:mg "all" = none
 JN:mg "any" = none
 Fj:mg "bool" = none
 Fz:mg "dict" = none
 mL:mg "enumerate" = none
 Lh:mg "int" = none
 bh:mg "isinstance" = none
 d7:mg "len" = none
 zp:mg "list" = none
 Cq:mg "max" = none
 JQ:mg "min" = none
 lN:mg "range" = none
 yX:mg "reversed" = none
 Gx:mg "set" = none
 uH:mg "sorted" = none
 yp:mg "str" = none
 bQ:mg "tuple" = none
 Lk:mg "zip" = none
 wZ:mg "ValueError" = none
structure wF (K:PySem.W.Frag) (mg:Str→Option Value) (t:Adr):Prop where
 nk:MJ K mg "NoKind" t.bG
 zP:mg "RowError" = some (.ref t.jk)
 Em:mg "NoOrder" = some (.ref t.jd)
 Ab:mg "NoChange" = some (.ref t.gQ)
 CT:mg "NoShape" = some (.ref t.je)
 Dc:mg "NoField" = some (.ref t.iT)
 Gs:mg "NoText" = some (.ref t.jG)
 Ea:mg "NoLimit" = some (.ref t.iU)
 yF:mg "NoWarming" = some (.ref t.fJ)
 x_k:PySem.W.exmOne K (.ref t.bG) (.ref t.jk)=some true
 v_k:PySem.W.kitOne K (.ref t.bG) (.type "ValueError")=some true
 Fl:PySem.W.kitOne K (.ref t.bG) (.ref t.bG)=some true
 a_k:PySem.W.kitAny K (.ref t.bG) [.ref t.jd,.ref t.gQ,.ref t.je,.ref t.iT,.ref t.jG,.ref t.iU,.ref t.fJ]=some false
structure Glb (mg:Str→Option Value):Prop where
 Dv:∃ tk,mg "LETTERS" = some (.str abc tk)
 tO:∃ tk,mg "MOST_LETTERS" = some (.int 6 tk)
 wY:∃ tk,mg "MOST_KINDS" = some (.int 7 tk)
 vN:∃ tk,mg "MOST_NAMES" = some (.int 3 tk)
 Jw:∃ tk,mg "MOST_BODY" = some (.int 99 tk)
theorem xX:aW ["thing"] ["thing"] (aq (top 14)):=⟨rfl,rfl,rfl,by decide +kernel,rfl,by decide +kernel,by decide +kernel⟩
theorem ur:aW ["thing","many"] ["thing","many"] (aq (top 15)):=⟨rfl,rfl,rfl,by decide +kernel,rfl,by decide +kernel,by decide +kernel⟩
theorem zL:aW ["thing"] ["thing"] (aq (top 16)):=⟨rfl,rfl,rfl,by decide +kernel,rfl,by decide +kernel,by decide +kernel⟩
theorem sO:aW ["thing","kinds"] ["thing","kinds"] (aq (top 17)):=⟨rfl,rfl,rfl,by decide +kernel,rfl,by decide +kernel,by decide +kernel⟩
theorem wI:aW ["thing","kinds"] ["thing","kinds"] (aq (top 18)):=⟨rfl,rfl,rfl,by decide +kernel,rfl,by decide +kernel,by decide +kernel⟩
theorem oJ:aW ["kind","kinds"] ["kind","kinds"] (aq (top 19)):=⟨rfl,rfl,rfl,by decide +kernel,rfl,by decide +kernel,by decide +kernel⟩
theorem rA:aW ["rows"] ["rows"] (aq (top 20)):=⟨rfl,rfl,rfl,by decide +kernel,rfl,by decide +kernel,by decide +kernel⟩
theorem qd:aW ["thing","kinds"] ["thing"] (aq (top 21)):=⟨rfl,rfl,rfl,by decide +kernel,rfl,by decide +kernel,by decide +kernel⟩
theorem bC:aW ["family","placed","waiting","ready","kind"] ["family"] (aq (top 22)):=⟨rfl,rfl,rfl,by decide +kernel,rfl,by decide +kernel,by decide +kernel⟩
theorem xW:aW ["family","kind"] ["family","kind"] (aq (top 24)):=⟨rfl,rfl,rfl,by decide +kernel,rfl,by decide +kernel,by decide +kernel⟩
theorem gw:aW ["family","elders_of","told","kind","quarrel"] ["family"] (aq (top 25)):=⟨rfl,rfl,rfl,by decide +kernel,rfl,by decide +kernel,by decide +kernel⟩
theorem lH:aW ["kinds","told","kind"] ["kinds","told"] (aq (top 26)):=⟨rfl,rfl,rfl,by decide +kernel,rfl,by decide +kernel,by decide +kernel⟩
theorem Aa:aW ["elders","told"] ["elders","told"] (aq (top 27)):=⟨rfl,rfl,rfl,by decide +kernel,rfl,by decide +kernel,by decide +kernel⟩
theorem iy:aW ["kind","rows","order","left","first"] ["kind","rows"] (aq (top 28)):=⟨rfl,rfl,rfl,by decide +kernel,rfl,by decide +kernel,by decide +kernel⟩
theorem iz:aW ["left","held","row","name"] ["left"] (aq (top 29)):=⟨rfl,rfl,rfl,by decide +kernel,rfl,by decide +kernel,by decide +kernel⟩
theorem iu:aW ["left","name","holds","ring"] ["left"] (aq (top 30)):=⟨rfl,rfl,rfl,by decide +kernel,rfl,by decide +kernel,by decide +kernel⟩
theorem uw:aW ["name","left","number"] ["name","left"] (aq (top 31)):=⟨rfl,rfl,rfl,by decide +kernel,rfl,by decide +kernel,by decide +kernel⟩
theorem mQ:aW ["thing","family","told"] ["thing"] (aq (top 35)):=⟨rfl,rfl,rfl,by decide +kernel,rfl,by decide +kernel,by decide +kernel⟩
theorem wR:aW ["table"] ["table"] (aq (top 36)):=⟨rfl,rfl,rfl,by decide +kernel,rfl,by decide +kernel,by decide +kernel⟩
theorem yq:aW ["thing","told"] ["thing","told"] (aq (top 37)):=⟨rfl,rfl,rfl,by decide +kernel,rfl,by decide +kernel,by decide +kernel⟩
theorem qz:aW ["row"] ["row"] (aq (top 38)):=⟨rfl,rfl,rfl,by decide +kernel,rfl,by decide +kernel,by decide +kernel⟩
theorem qN:aW ["thing"] ["thing"] (aq (top 39)):=⟨rfl,rfl,rfl,by decide +kernel,rfl,by decide +kernel,by decide +kernel⟩
theorem wU:aW ["thing"] ["thing"] (aq (top 41)):=⟨rfl,rfl,rfl,by decide +kernel,rfl,by decide +kernel,by decide +kernel⟩
theorem zB:aW ["thing"] ["thing"] (aq (top 42)):=⟨rfl,rfl,rfl,by decide +kernel,rfl,by decide +kernel,by decide +kernel⟩
theorem Df:aW ["table","kind"] ["table","kind"] (aq (top 43)):=⟨rfl,rfl,rfl,by decide +kernel,rfl,by decide +kernel,by decide +kernel⟩
theorem oN:aW ["table","kinds","deed","home","body"] ["table","kinds","deed"] (aq (top 45)):=⟨rfl,rfl,rfl,by decide +kernel,rfl,by decide +kernel,by decide +kernel⟩
theorem Gd:aW ["table","kind","deed"] ["table","kind","deed"] (aq (top 46)):=⟨rfl,rfl,rfl,by decide +kernel,rfl,by decide +kernel,by decide +kernel⟩
theorem u9:aW ["table","kind","home","deed","order"] ["table","kind","home","deed"] (aq (top 47)):=⟨rfl,rfl,rfl,by decide +kernel,rfl,by decide +kernel,by decide +kernel⟩
theorem oO:aW ["table","kind","fields","name","field"] ["table","kind"] (aq (top 48)):=⟨rfl,rfl,rfl,by decide +kernel,rfl,by decide +kernel,by decide +kernel⟩
theorem jE:aW ["_law_script","_law_k","_law_state","_law_cell_here"] ["_law_script","_law_k"] (aq (top 50)):=⟨rfl,rfl,rfl,by decide +kernel,rfl,by decide +kernel,by decide +kernel⟩
theorem oA:aW ["_law_script","_law_first","_law_least","_law_most","_law_many"] ["_law_script","_law_first","_law_least","_law_most"] (aq (top 51)):=⟨rfl,rfl,rfl,by decide +kernel,rfl,by decide +kernel,by decide +kernel⟩
theorem kE:aW ["_law_cell_here","_law_digits"] ["_law_cell_here"] (aq (top 52)):=⟨rfl,rfl,rfl,by decide +kernel,rfl,by decide +kernel,by decide +kernel⟩
theorem mC:aW ["_law_purse_here","_law_many","_law_state","_law_taken"] ["_law_purse_here","_law_many"] (aq (top 53)):=⟨rfl,rfl,rfl,by decide +kernel,rfl,by decide +kernel,by decide +kernel⟩
theorem iK:aW ["_law_purse_here","_law_used","_law_word_here","_law_k","_law_first"] ["_law_purse_here","_law_used"] (aq (top 54)):=⟨rfl,rfl,rfl,by decide +kernel,rfl,by decide +kernel,by decide +kernel⟩
theorem bV:aW ["_law_purse_here","_law_many","_law_used","_law_pick","_law_word_here","_law_place","_law_first","_law_names_here","_law_k","_law_sign","_law_near"] ["_law_purse_here","_law_many","_law_used"] (aq (top 55)):=⟨rfl,rfl,rfl,by decide +kernel,rfl,by decide +kernel,by decide +kernel⟩
theorem jF:aW ["_law_purse_here","_law_menu","_law_most","_law_some_here","_law_k","_law_one"] ["_law_purse_here","_law_menu","_law_most"] (aq (top 56)):=⟨rfl,rfl,rfl,by decide +kernel,rfl,by decide +kernel,by decide +kernel⟩
theorem bW:aW ["_law_purse_here","_law_most","_law_shape","_law_names_here","_law_family_here","_law_k","_law_kind","_law_elders_here","_law_places"] ["_law_purse_here","_law_most"] (aq (top 57)):=⟨rfl,rfl,rfl,by decide +kernel,rfl,by decide +kernel,by decide +kernel⟩
theorem fZ:aW ["_law_kind","_law_rows","_law_order","_law_good"] ["_law_kind","_law_rows"] (aq (top 58)):=⟨rfl,rfl,rfl,by decide +kernel,rfl,by decide +kernel,by decide +kernel⟩
theorem jM:aW ["_law_purse_here","_law_names_here","_law_shape","_law_orders","_law_elders_here"] ["_law_purse_here","_law_names_here","_law_shape","_law_orders"] (aq (top 59)):=⟨rfl,rfl,rfl,by decide +kernel,rfl,by decide +kernel,by decide +kernel⟩
theorem qW:aW ["_law_purse_here","_law_deeds","_law_some_here"] ["_law_purse_here","_law_deeds"] (aq (top 60)):=⟨rfl,rfl,rfl,by decide +kernel,rfl,by decide +kernel,by decide +kernel⟩
theorem cH:aW ["_law_purse_here","_law_many","_law_deeds","_law_fields","_law_shape","_law_names_here","_law_rows","_law_orders","_law_k","_law_kind","_law_elders_here","_law_number","_law_places"] ["_law_purse_here","_law_many","_law_deeds","_law_fields"] (aq (top 61)):=⟨rfl,rfl,rfl,by decide +kernel,rfl,by decide +kernel,by decide +kernel⟩
theorem iI:aW ["_law_purse_here","_law_menu","_law_pick","_law_deep","_law_k"] ["_law_purse_here"] (aq (top 62)):=⟨rfl,rfl,rfl,by decide +kernel,rfl,by decide +kernel,by decide +kernel⟩
theorem dB:aW ["_law_purse_here","_law_rows","_law_good","_law_family_here","_law_kind","_law_elders_here","_law_told"] ["_law_purse_here"] (aq (top 63)):=⟨rfl,rfl,rfl,by decide +kernel,rfl,by decide +kernel,by decide +kernel⟩
theorem vZ:aW ["_law_door","_law_table_here","_law_kind","_law_home","_law_deed"] ["_law_door","_law_table_here","_law_kind","_law_home","_law_deed"] (aq (top 64)):=⟨rfl,rfl,rfl,by decide +kernel,rfl,by decide +kernel,by decide +kernel⟩
theorem fV:aW ["_law_door","_law_table_here","_law_kind","_law_home","_law_deed","_law_clean","error"] ["_law_door","_law_table_here","_law_kind","_law_home","_law_deed"] (aq (top 65)):=⟨rfl,rfl,rfl,by decide +kernel,rfl,by decide +kernel,by decide +kernel⟩
theorem fQ:aW ["_law_purse_here","_law_table_here","_law_pick","_law_row","_law_at","_law_sign"] ["_law_purse_here","_law_table_here"] (aq (top 66)):=⟨rfl,rfl,rfl,by decide +kernel,rfl,by decide +kernel,by decide +kernel⟩
theorem jl:aW ["_law_script","_law_purse_here","_law_many","_law_deeds","_law_table_here","_law_kinds","_law_cell_here","_law_door","_law_pick","_law_kind","_law_home","_law_deed"] ["_law_script"] (aq (top 67)):=⟨rfl,rfl,rfl,by decide +kernel,rfl,by decide +kernel,by decide +kernel⟩
end K12
end
section
set_option autoImplicit false
namespace K12
open PySem PyProof.Rows L2
section
variable {P:Program}{w:World}{K:PySem.W.Frag}{mg:Str→Option Value}{base:Heap}{t:Adr}
def vV:Sp:=fun vs H Q _=>∃(x:Str) (rl:Addr) (us:List V) (rows:List (List Str)),vs=[.str x,.ref rl]∧H rl=some (.lst us)∧jQ H us rows∧tot rows≤1000∧rows.length≤1000∧
 ∀(v:V) (r:Option (List Str)) H',Mg (full rows) r→NZ H' x r v→Same H H'→Q v H'
theorem xO(D:Defs K mg t):aU P w K mg base CX0 1 t.cZ.1 t.cZ.2 ["_law_kind","_law_rows"] vV:=by
 have hz:sizeLine=16777216:=sizeLine_eq
 refine D.cZ.fn.ok fZ (fun vs H Q E h=>?_) (fun cdv A outer s H vs Q E hr h=>?_)
 ·obtain ⟨x,rl,us,rows,rfl,_⟩:=h
  rfl
 ·obtain ⟨x,rl,us,rows,rfl,hrl,rt,htot,hlen,k⟩:=h
  have hul:us.length=rows.length:=Paired.length rt
  refine⟨_,(aC (aP (i:=2) fZ.nd rfl (Or.inl rfl) (cD (aj (pv 0) au)))
   (aC (aP (i:=1) fZ.nd rfl (Or.inr rfl) (bH rfl (aM.of ["_law_row"] [] ["_law_row"] (aq (top 58)) ["_law_kind","_law_rows","_law_order","_law_good"] rfl rfl (by decide +kernel)) ⟨fun _ _ _ _ _=>(aQ (i:=0) (show List.Nodup [("_law_row" : Str)] by decide +kernel) rfl (Or.inl (lookup_relabel_local rfl)) (.inr (lookup_relabel_local rfl))),fun _ _ _ _ _=>(gJ (bF yP (aK (uJ (K:=K) rfl) (by rfl) D.d7 cF (aj (pv 0) au)) aG (bK _))),fun _ _ _ _ _=>(bB (uQ (K:=K) rfl) (by rfl) D.zp vM (aj (pv 0) au))⟩ (eZ (pv 1))))
   (aC (lg PassesOwn.never (bF (Gf rfl hr.yW) (pv 1) (cD au) (bK _))
   (aC (aP (i:=3) fZ.nd rfl (Or.inr rfl) (bH rfl (aM.of ["_law_row"] [1] ["_law_row","_law_rows"] (aq (top 58)) ["_law_kind","_law_rows","_law_order","_law_good"] rfl rfl (by decide +kernel)) ⟨fun _ _ _ _ _=>(aQ (i:=0) (show List.Nodup [("_law_row" : Str),("_law_rows" : Str)] by decide +kernel) rfl (Or.inr (jC rfl)) (.inl rfl)),fun _ _ _ _ _=>(gJ (cW (cT (aK (Ad (K:=K) rfl rfl) (by rfl) D.JN G7 (aj (bH rfl (aM.of2 ["_law_other"] [0] ["_law_other","_law_row"] ["_law_row","_law_rows"] rfl rfl (by decide +kernel)) ⟨fun _ _ _ _ _=>(aQ (i:=0) (show List.Nodup [("_law_other" : Str),("_law_row" : Str)] by decide +kernel) rfl (Or.inl (lookup_relabel_local rfl)) (.inr (lookup_relabel_local rfl))),fun _ _ _ _ _=>bN,fun _ _ _ _ _=>(gY (Ci (K:=K) rfl) (aZ (jL (K:=K) rfl) (pv 1) aG (fun _ _=>rfl)) (bZ (El (K:=K) rfl) (pv 0) (cI aG) dh) (by with_unfolding_all rfl))⟩ (vf (K:=K) rfl (pv 1))) au))))),fun _ _ _ _ _=>(aZ (jL (K:=K) rfl) (pv 0) aG (fun _ _=>rfl))⟩ (eZ (pv 1))))
   (aC (cC (bF (Ld rfl hr.yW) (pv 3) (cD au) (bK _))
   (aH (aR mW))
   bx)
   (aC (jo (qR PySem.F.plainAttrs_list PySem.F.slot_list_append PySem.F.type_list_append gF (pv 2) (aj (aZ bT (pv 3) aG (fun _ _=>rfl)) au)))
   (aC (aP (i:=1) fZ.nd rfl (Or.inr rfl) (bH rfl (aM.of ["_law_row"] [3] ["_law_row","_law_good"] (aq (top 58)) ["_law_kind","_law_rows","_law_order","_law_good"] rfl rfl (by decide +kernel)) ⟨fun _ _ _ _ _=>(aQ (i:=0) (show List.Nodup [("_law_row" : Str),("_law_good" : Str)] by decide +kernel) rfl (Or.inl (lookup_relabel_local rfl)) (.inr (lookup_relabel_local rfl))),fun _ _ _ _ _=>bN,fun _ _ _ _ _=>(bH rfl (aM.of2 ["_law_one"] [1] ["_law_one","_law_good"] ["_law_row","_law_good"] rfl rfl (by decide +kernel)) ⟨fun _ _ _ _ _=>(aQ (i:=0) (show List.Nodup [("_law_one" : Str),("_law_good" : Str)] by decide +kernel) rfl (Or.inl (lookup_relabel_local rfl)) (.inr (lookup_relabel_local rfl))),fun _ _ _ _ _=>(gJ (bF Hr (pv 0) (aZ (jL (K:=K) rfl) (pv 1) aG (fun _ _=>rfl)) (bK _))),fun _ _ _ _ _=>(pv 0)⟩ (vf (K:=K) rfl (pv 0)))⟩ (eZ (pv 1))))
   (aH (aP (i:=1) fZ.nd rfl (Or.inr rfl) (bH rfl (aM.of ["_law_row"] [] ["_law_row"] (aq (top 58)) ["_law_kind","_law_rows","_law_order","_law_good"] rfl rfl (by decide +kernel)) ⟨fun _ _ _ _ _=>(aQ (i:=0) (show List.Nodup [("_law_row" : Str)] by decide +kernel) rfl (Or.inl (lookup_relabel_local rfl)) (.inr (lookup_relabel_local rfl))),fun _ _ _ _ _=>(gJ (bF (Gf (K:=K) rfl hr.yW) (pv 0) (cD au) (bK _))),fun _ _ _ _ _=>(pv 0)⟩ (eZ (pv 1))))))))))
   (aH (aR (bB bI (by rfl) D.bQ bJ (aj (pv 2) au))))))),?_⟩
  refine⟨_,rfl,by show 1≤sizeLine; decide,fun ol hol=>?_⟩
  have s0:Same H (upd H ol (.lst [.str x])):=Same.new hol
  refine⟨_,rfl,rl,rfl,⟨_,SqL.of (s0 rl _ hrl)⟩,fun D1 hD1=>?_⟩
  have olD1:ol≠D1:=aB ak hD1
  have hD1H:H D1=none:=by rw [aA olD1.symm] at hD1; exact hD1
  refine bw (n:=us.length) (fun i ys H2=>H2 D1=some (.lst ys)∧mG H2 D1 ol ys (full (rows.take i))∧H2 ol=some (.lst [.str x])∧Same H H2)
   ⟨ak,.nil,by rw [aA olD1,ak],s0.trans (Same.new hD1)⟩ ?_ ?_
  ·rintro ys H2 ⟨hD2,rl2,hol2,sm2⟩
   rw [List.take_of_length_le (by omega)] at rl2
   refine⟨⟨_,SqL.of (sm2 rl _ hrl),Nat.le_refl _⟩,?_⟩
   refine⟨fun m σ H3=>∃(zs:List V) (rows3:List (List Str)) (os:List Str) (r3:Addr) (v3:Option V),σ=[some (.str x),some (.ref r3),some (.ref ol),v3]∧H3 r3=some (.lst zs)∧oH H3 ol zs rows3∧r3≠ol∧full rows3=rows3∧H3 ol=some (.lst ((x::os).map V.str))∧m=tot rows3∧os.length+tot rows3≤1000∧
    (∀ r,Mg rows3 r→Mg (full rows) (r.map (os++·)))∧Same H H3,⟨_,ys,full rows,[],D1,_,rfl,hD2,rl2.x,olD1.symm,?_,hol2,rfl,by rw [pR]; show 0+_≤_; omega,fun r h=>?_,sm2⟩,?_⟩
   ·unfold full
    rw [List.filter_filter]
    simp
   ·have:r.map (([]:List Str)++·)=r:=by cases r <;> rfl
    rw [this]
    exact h
   rintro m σ H3 ⟨zs,rows3,os,r3,v3,rfl,hr3,rl3,r3o,hf3,hol3,rfl,hb3,mg3,sm3⟩
   have hzl:zs.length=rows3.length:=Paired.length rl3
   have hrl3:rows3.length≤tot rows3:=by have:=m9 rows3; rwa [hf3] at this
   refine⟨_,rfl,Nat.zero_le _,fun e0 he0=>⟨r3,e0,zs,rfl,rfl,SqL.of (by rw [aA (aB hr3 he0)]; exact hr3),SqL.of ak,_,rfl,?_⟩⟩
   have s4:Same H3 (upd H3 e0 (.lst [])):=Same.new he0
   cases hzs:zs with
   | nil=>
    subst hzs
    have e3:rows3=[]:=by
     cases rows3 with
     | nil=>rfl
     | cons _ _=>rw [List.length_nil,List.length_cons] at hzl; omega
    subst e3
    refine fj ⟨_,rfl,ol,_,rfl,.inl ⟨SqL.of (s4 ol _ hol3),fun q hq=>?_⟩⟩
    refine k (.ref q) (some os) _ ?_ ⟨q,rfl,ak⟩ ((sm3.trans s4).trans (Same.new hq))
    have:=mg3 _ .nil
    simpa using this
   | cons z0 zr=>
    have hne:rows3≠[]:=fun e=>by rw [e,hzs] at hzl; simp at hzl
    rw [← hzs]
    have hb:(!zs.isEmpty)=true:=by rw [hzs]; rfl
    rw [hb]
    clear hzs hb z0 zr
    refine dZ ⟨fun σ' H'=>∃ m',m' < tot rows3∧∃(zs:List V) (rows3:List (List Str)) (os:List Str) (r3:Addr) (v3:Option V),σ'=[some (.str x),some (.ref r3),some (.ref ol),v3]∧H' r3=some (.lst zs)∧oH H' ol zs rows3∧r3≠ol∧full rows3=rows3∧H' ol=some (.lst ((x::os).map V.str))∧m'=tot rows3∧os.length+tot rows3≤1000∧
     (∀ r,Mg rows3 r→Mg (full rows) (r.map (os++·)))∧Same H H',fun σ' H' h=>h,?_⟩
    have hnz:∀ r∈rows3,∃ y r',r=y::r':=fun r hr=>by
     rw [← hf3] at hr
     have:=(List.mem_filter.mp hr).2
     cases r with
     | nil=>cases this
     | cons y r'=>exact⟨y,r',rfl⟩
    generalize upd H3 e0 (.lst [])=H4 at s4
    have rl4:=rl3.mono s4
    have hr4:=s4 r3 _ hr3
    refine⟨_,rfl,r3,rfl,⟨_,SqL.of hr4⟩,fun D2 hD2=>?_⟩
    refine bw (n:=zs.length) (fun i ys H5=>ys=((rows3.take i).flatMap (freeOf rows3)).map V.str∧H5 D2=some (.lst ys)∧Same H4 H5) ⟨rfl,ak,Same.new hD2⟩ ?_ ?_
    ·rintro ys' H5 ⟨rfl,hD5,sm5⟩
     rw [List.take_of_length_le (by omega)] at hD5
     refine⟨⟨_,SqL.of (sm5 r3 _ hr4),Nat.le_refl _⟩,?_⟩
     have hD5:H5 D2=some (.lst ((frees rows3).map V.str)):=hD5
     refine⟨_,rfl,Nat.zero_le _,fun e1 he1=>⟨D2,e1,_,rfl,rfl,SqL.of (by rw [aA (aB hD5 he1)]; exact hD5),SqL.of ak,_,rfl,?_⟩⟩
     have s6:Same H5 (upd H5 e1 (.lst [])):=Same.new he1
     generalize upd H5 e1 (.lst [])=H6 at s6
     have sm6:Same H4 H6:=sm5.trans s6
     have hD6:=s6 D2 _ hD5
     cases hfr:frees rows3 with
     | nil=>
      refine dZ ?_
      have:=mg3 none (.stuck hne hfr)
      exact k .non none H6 this rfl ((sm3.trans s4).trans sm6)
     | cons x1 more=>
      rw [hfr] at hD6
      refine fj ?_
      have hx1:x1∈frees rows3:=by rw [hfr]; exact List.mem_cons_self
      obtain ⟨r1,hr1,hh1⟩:=nT hx1
      have hx1r:x1∈r1:=by
       cases r1 with
       | nil=>cases hh1
       | cons y r'=>
        cases hh1
        exact List.mem_cons_self
      have hol6:=sm6 ol _ (s4 ol _ hol3)
      have hr6:=sm6 r3 _ hr4
      refine⟨_,rfl,.inl ⟨rfl,_,SqL.of hol6⟩,_,rfl,D2,_,_,_,rfl,rfl,SqL.of hD6,at0 x1 more,ol,_,.str x1,rfl,rfl,hol6,by rw [List.length_map,List.length_cons]; omega,?_⟩
      have eol:(x::os).map V.str++[V.str x1]=(x::(os++[x1])).map V.str:=by rw [List.map_cons,List.map_cons,List.map_append]; rfl
      rw [eol]
      have oD:ol≠D2:=fun e=>by
       have h1:=hD2
       rw [← e,s4 ol _ hol3] at h1
       cases h1
      have kp7:∀ b u,b≠ol→H6 b=some u→(upd H6 ol (.lst ((x::(os++[x1])).map V.str))) b=some u:=fun b u hb e=>by rw [aA hb]; exact e
      have sm7:Same H (upd H6 ol (.lst ((x::(os++[x1])).map V.str))):=fun b u e=>kp7 b u (aB e hol) (sm6 b u (s4 b u (sm3 b u e)))
      have rl7:∀ i (hi:i < zs.length),∃(a:Addr) (hr:i < rows3.length),zs[i]?=some (.ref a)∧(upd H6 ol (.lst ((x::(os++[x1])).map V.str))) a=some (.lst (rows3[i].map V.str)):=fun i hi=>by
       obtain ⟨a,hr',e,n,q⟩:=(rl4.mono sm6).get hi
       exact⟨a,hr',e,kp7 a _ n q⟩
      have hol7:(upd H6 ol (.lst ((x::(os++[x1])).map V.str))) ol=some (.lst ((x::(os++[x1])).map V.str)):=ak
      have hr7:=kp7 r3 _ r3o hr6
      have hD7:=kp7 D2 _ oD.symm hD6
      generalize upd H6 ol (.lst ((x::(os++[x1])).map V.str))=H7 at kp7 sm7 rl7 hol7 hr7 hD7
      have hlt:=oV (x:=x1) ⟨r1,hr1,hx1r⟩
      refine⟨_,rfl,r3,rfl,⟨_,SqL.of hr7⟩,fun D4 hD4=>?_⟩
      refine bw (n:=zs.length) (fun i ys H8=>H8 D4=some (.lst ys)∧mG H8 D4 ol ys ((rows3.take i).map (bO x1))∧Same H7 H8) ⟨ak,.nil,Same.new hD4⟩ ?_ ?_
      ·rintro ys8 H8 ⟨hD8,ry8,sm8⟩
       rw [List.take_of_length_le (by omega)] at ry8
       refine⟨⟨_,SqL.of (sm8 r3 _ hr7),Nat.le_refl _⟩,?_⟩
       have hy8:ys8.length=rows3.length:=by rw [Paired.length ry8,List.length_map]
       refine⟨_,rfl,D4,rfl,⟨_,SqL.of hD8⟩,fun D6 hD6'=>?_⟩
       have rx8:=ry8.x
       refine bw (n:=ys8.length) (fun i ys H9=>H9 D6=some (.lst ys)∧mG H9 D6 ol ys (full ((rows3.map (bO x1)).take i))∧Same H8 H9) ⟨ak,.nil,Same.new hD6'⟩ ?_ ?_
       ·rintro ys9 H9 ⟨hD9,ry9,sm9⟩
        rw [List.take_of_length_le (by rw [List.length_map]; omega)] at ry9
        refine⟨⟨_,SqL.of (sm9 D4 _ hD8),Nat.le_refl _⟩,?_⟩
        have sm89:=sm8.trans sm9
        refine⟨tot (full (rows3.map (bO x1))),by rw [pR]; exact hlt,ys9,full (rows3.map (bO x1)),os++[x1],D6,_,rfl,hD9,ry9.x,?_,?_,sm89 ol _ hol7,rfl,?_,fun r h=>?_,sm7.trans sm89⟩
        ·intro e
         rw [e] at hD9
         rw [sm89 ol _ hol7] at hD9
         injection hD9 with hD9
         injection hD9 with hD9
         cases ys9 with
         | nil=>cases hD9
         | cons y9 _=>
          obtain ⟨a9,_,e9,_⟩:=ry9.x.get (i:=0) (by simp)
          injection hD9 with h9 _
          rw [← h9] at e9
          cases e9
        ·unfold full
         rw [List.filter_filter]
         simp
        ·rw [pR,List.length_append,List.length_singleton]
         omega
        ·have h1:=mg3 _ (.step hfr h)
         rw [Option.map_map] at h1
         have:((fun x=>os++x) ∘ fun x=>x1::x)=fun x=>os++[x1]++x:=by
          funext z
          simp
         rw [this] at h1
         exact h1
       ·rintro i ys9 H9 hi ⟨hD9,ry9,sm9⟩
        obtain ⟨a,hir,ea,_,ha⟩:=(rx8.mono sm9).get hi
        refine⟨⟨_,_,SqL.of (sm9 D4 _ hD8),ea⟩,?_⟩
        rintro yv H10 ⟨rfl,yy⟩ σo ho
        obtain ⟨oo,rfl⟩:=own1 ho
        have ey:=yy _ (SqL.of (sm9 D4 _ hD8))
        rw [ea] at ey
        cases ey
        have hys:ys9.length≤1000:=by
         rw [Paired.length ry9]
         refine Nat.le_trans (List.length_filter_le _ _) ?_
         rw [List.length_take,List.length_map]
         omega
        refine⟨⟨[_],rfl,rfl⟩,_,rfl,Nat.zero_le _,fun e2 he2=>⟨a,e2,_,rfl,rfl,SqL.of (by rw [aA (aB ha he2)]; exact ha),SqL.of ak,_,rfl,?_⟩⟩
        have s10:Same H10 (upd H10 e2 (.lst [])):=Same.new he2
        have hb:(!(((rows3.map (bO x1))[i]).map V.str).isEmpty)=!((rows3.map (bO x1))[i]).isEmpty:=by
         cases (rows3.map (bO x1))[i] <;> rfl
        rw [hb]
        cases he:((rows3.map (bO x1))[i]).isEmpty with
        | true=>
         refine fj (aX hi ⟨s10 D6 _ hD9,?_,sm9.trans s10⟩)
         rw [take_snoc hir,nR,if_pos he,List.append_nil]
         exact ry9.mono s10
        | false=>
         have aD6:a≠D6:=fun e=>by
          have:=hD6'
          obtain ⟨a',_,ea',_,ha'⟩:=rx8.get hi
          rw [ea] at ea'
          cases ea'
          rw [← e,ha'] at this
          cases this
         have ao:a≠ol:=by
          obtain ⟨a',_,ea',n',_⟩:=rx8.get hi
          rw [ea] at ea'
          cases ea'
          exact n'
         refine dZ ⟨_,rfl,by omega,s10 D6 _ hD9,aX hi ⟨ak,?_,fun b u e=>?_⟩⟩
         ·rw [take_snoc hir,nR,if_neg (by rw [he]; exact Bool.false_ne_true)]
          exact eX (ry9.grow s10) ⟨a,rfl,aD6,ao,by rw [aA aD6]; exact s10 a _ ha⟩
         ·rw [aA (aB e hD6')]
          exact s10 b _ (sm9 b _ e)
      ·rintro i ys8 H8 hi ⟨hD8,ry8,sm8⟩
       obtain ⟨a,hir,ea,ha⟩:=rl7 i hi
       have ha8:=sm8 a _ ha
       refine⟨⟨_,_,SqL.of (sm8 r3 _ hr7),ea⟩,?_⟩
       rintro yv H9 ⟨rfl,yy⟩ σo ho
       obtain ⟨oo,rfl⟩:=own1 ho
       have ey:=yy _ (SqL.of (sm8 r3 _ hr7))
       rw [ea] at ey
       cases ey
       have hys:ys8.length≤1000:=by
        rw [Paired.length ry8,List.length_map,List.length_take]
        omega
       refine⟨⟨[_],rfl,rfl⟩,cV ⟨_,rfl,a,rfl,⟨_,SqL.of ha8⟩,fun D5 hD5'=>?_⟩⟩
       have s9:∀ o,Same H9 (upd H9 D5 o):=fun o=>Same.new hD5'
       have D54:D5≠D4:=fun e=>by rw [e,hD8] at hD5'; cases hD5'
       have D5o:D5≠ol:=fun e=>by rw [e,sm8 ol _ hol7] at hD5'; cases hD5'
       have hrl1:(rows3[i]).length≤1000:=by
        have:=tW (List.getElem_mem hir)
        omega
       refine bw (n:=((rows3[i]).map V.str).length) (fun j ys5 H10=>ys5=(bO x1 ((rows3[i]).take j)).map V.str∧H10=upd H9 D5 (.lst ys5)) ⟨rfl,rfl⟩ ?_ ?_
       ·rintro ys5 H10 ⟨rfl,rfl⟩
        rw [List.take_of_length_le (by rw [List.length_map]; exact Nat.le_refl _)]
        refine⟨⟨_,SqL.of (s9 _ a _ ha8),Nat.le_refl _⟩,by omega,s9 _ D4 _ hD8,aX hi ⟨ak,?_,fun b u e=>?_⟩⟩
        ·rw [take_snoc hir,List.map_append]
         exact eX (ry8.grow (s9 _)) ⟨D5,rfl,D54,D5o,by rw [aA D54,ak]⟩
        ·rw [aA (aB e hD4)]
         exact s9 _ b _ (sm8 b _ e)
       ·rintro j ys5 H10 hj ⟨rfl,rfl⟩
        have hj':j < (rows3[i]).length:=by rw [List.length_map] at hj; exact hj
        have ej:((rows3[i]).map V.str)[j]?=some (.str (rows3[i])[j]):=by rw [List.getElem?_map,List.getElem?_eq_getElem hj']; rfl
        refine⟨⟨_,_,SqL.of (s9 _ a _ ha8),ej⟩,?_⟩
        rintro y5 H11 ⟨rfl,yy⟩ σo5 ho5
        obtain ⟨o5,rfl⟩:=own1 ho5
        have ey:=yy _ (SqL.of (s9 _ a _ ha8))
        rw [ej] at ey
        cases ey
        have eout:bO x1 ((rows3[i]).take (j+1))=bO x1 ((rows3[i]).take j)++(if decide ((rows3[i])[j]≠x1)=true then [(rows3[i])[j]] else []):=by
         unfold bO
         rw [take_snoc hj',List.filter_append]
         congr 1
         rw [List.filter_cons]
         rfl
        have hl5:((bO x1 ((rows3[i]).take j)).map V.str).length≤1000:=by
         rw [List.length_map]
         have h1:=wH x1 ((rows3[i]).take j)
         rw [List.length_take] at h1
         omega
        refine⟨⟨[_],rfl,rfl⟩,_,rfl,_,rfl,D2,_,_,_,rfl,rfl,SqL.of (s9 _ D2 _ (sm8 D2 _ hD7)),at0 x1 more,rfl,_,rfl,jJ (fun hb=>?_) (fun hb=>?_)⟩
        ·have hb:(rows3[i])[j]≠x1:=by
          intro e
          rw [e] at hb
          simp at hb
         refine⟨_,rfl,by omega,ak,aX hj ⟨?_,by rw [bR]⟩⟩
         rw [eout,if_pos (decide_eq_true hb),List.map_append]
         rfl
        ·have hb:(rows3[i])[j]=x1:=Classical.byContradiction fun e=>hb (by
          show (!decide (V.str (rows3[i])[j]=V.str x1))=true
          rw [decide_eq_false (by intro z; injection z with z; exact e z)]
          rfl)
         refine aX hj ⟨?_,rfl⟩
         rw [eout,if_neg (by simpa using hb),List.append_nil]
    ·rintro i ys' H5 hi ⟨rfl,hD5,sm5⟩
     obtain ⟨a,hir,ea,_,ha⟩:=(rl4.mono sm5).get hi
     obtain ⟨y0,r0,er0⟩:=hnz rows3[i] (List.getElem_mem hir)
     rw [er0] at ha
     refine⟨⟨_,_,SqL.of (sm5 r3 _ hr4),ea⟩,?_⟩
     rintro yv H6 ⟨rfl,yy⟩ σo ho
     obtain ⟨oo,rfl⟩:=own1 ho
     have ey:=yy _ (SqL.of (sm5 r3 _ hr4))
     rw [ea] at ey
     cases ey
     refine⟨⟨[_],rfl,rfl⟩,_,rfl,r3,rfl,⟨_,SqL.of (sm5 r3 _ hr4)⟩,fun D3 hD3=>?_⟩
     refine bw (n:=zs.length) (fun i3 bs H7=>bs=((rows3.take i3).map fun o=>decide (y0∈o.drop 1)).map V.bl∧H7 D3=some (.lst bs)∧Same H6 H7) ⟨rfl,ak,Same.new hD3⟩ ?_ ?_
     ·rintro bs H7 ⟨rfl,hD7,sm7⟩
      rw [List.take_of_length_le (by omega)] at hD7
      refine⟨⟨_,SqL.of (sm7 r3 _ (sm5 r3 _ hr4)),Nat.le_refl _⟩,D3,_,rfl,SqL.of hD7,_,rfl,?_⟩
      have eany:(rows3.map fun o=>decide (y0∈o.drop 1)).any id=cG rows3 y0:=by
       unfold cG
       rw [List.any_map]
       rfl
      rw [eany]
      have efr:((rows3.take (i+1)).flatMap (freeOf rows3))=((rows3.take i).flatMap (freeOf rows3))++(if cG rows3 y0=true then [] else [y0]):=by
       rw [take_snoc hir,List.flatMap_append,List.flatMap_singleton,er0]
       rfl
      have hlen:(((rows3.take i).flatMap (freeOf rows3)).map V.str).length≤1000:=by
       rw [List.length_map]
       have h1:=xG rows3 (rows3.take i)
       rw [List.length_take] at h1
       omega
      cases hh:cG rows3 y0 with
      | true=>
       refine fj (aX hi ⟨?_,sm7 D2 _ hD5,sm5.trans sm7⟩)
       rw [efr,hh,if_pos rfl,List.append_nil]
      | false=>
       refine dZ ⟨_,rfl,a,_,_,_,rfl,rfl,SqL.of (sm7 a _ ha),at0 y0 r0,by omega,sm7 D2 _ hD5,aX hi ⟨?_,ak,fun b u e=>?_⟩⟩
       ·rw [efr,hh,if_neg Bool.false_ne_true,List.map_append]
        rfl
       ·rw [aA (aB e hD2)]
        exact sm7 b _ (sm5 b _ e)
     ·rintro i3 bs H7 hi3 ⟨rfl,hD7,sm7⟩
      obtain ⟨a3,hir3,ea3,_,ha3⟩:=((rl4.mono sm5).mono sm7).get hi3
      refine⟨⟨_,_,SqL.of (sm7 r3 _ (sm5 r3 _ hr4)),ea3⟩,?_⟩
      rintro y3 H8 ⟨rfl,yy⟩ σo3 ho3
      obtain ⟨o3,rfl⟩:=own1 ho3
      have ey:=yy _ (SqL.of (sm7 r3 _ (sm5 r3 _ hr4)))
      rw [ea3] at ey
      cases ey
      refine⟨⟨[_],rfl,rfl⟩,cV ⟨_,rfl,a,_,_,_,rfl,rfl,SqL.of (sm7 a _ ha),at0 y0 r0,_,rfl,_,rfl,a3,_,rfl,SqL.of ha3,fun q hq=>⟨q,_,rfl,.inl (SqL.of ak),rfl,by rw [Ja]; exact gW _,by rw [List.length_map,List.length_map,List.length_take]; omega,by rw [aA (aB hD7 hq)]; exact hD7,aX hi3 ⟨?_,ak,fun b u e=>?_⟩⟩⟩⟩
      ·show _++[V.bl (inV (.str y0) (gb ((rows3[i3]).map V.str) (some 1) none))]=_
       rw [Ja,iw,take_snoc hir3,List.map_append,List.map_append]
       rfl
      ·rw [aA (aB e hD3),aA (aB (sm7 b _ e) hq)]
       exact sm7 b _ e
  ·rintro i ys H2 hi ⟨hD2,rl2,hol2,sm2⟩
   obtain ⟨a,hir,ea,ha⟩:=(rt.mono (Same.tups sm2)).get hi
   refine⟨⟨_,_,SqL.of (sm2 rl _ hrl),ea⟩,?_⟩
   rintro y H3 ⟨rfl,yy⟩ σo ho
   obtain ⟨o,rfl⟩:=own1 ho
   have ey:=yy _ (SqL.of (sm2 rl _ hrl))
   rw [ea] at ey
   cases ey
   have hys:ys.length≤1000:=by
    rw [Paired.length rl2]
    have:=m9 (rows.take i)
    refine Nat.le_trans (List.length_filter_le _ _) ?_
    rw [List.length_take]
    omega
   refine⟨⟨[_],rfl,rfl⟩,_,rfl,a,_,rfl,.inr (SqT.of ha),_,_,rfl,rfl,_,rfl,jJ (fun hb=>?_) (fun hb=>?_)⟩
   ·refine⟨_,rfl,a,_,rfl,.inr (SqT.of ha),fun l hl=>?_⟩
    have sl:∀ o,Same H3 (upd H3 l o):=fun o=>Same.new hl
    have lD:l≠D1:=fun e=>by rw [e,hD2] at hl; cases hl
    have lo:l≠ol:=fun e=>by rw [e,hol2] at hl; cases hl
    refine⟨by omega,sl _ D1 _ hD2,aX hi ⟨ak,?_,?_,?_⟩⟩
    ·have hne:¬ (rows[i]).isEmpty=true:=fun e=>by
      have hb:decide ((0:Int) < (((rows[i]).map V.str).length:Int))=true:=hb
      have:=of_decide_eq_true hb
      rw [List.isEmpty_iff.mp e] at this
      simp at this
     rw [take_snoc hir,nR,if_neg hne]
     exact eX (rl2.grow (sl _)) ⟨l,rfl,lD,lo,by rw [aA lD,ak]⟩
    ·rw [aA olD1]
     exact sl _ ol _ hol2
    ·intro b o' e
     rw [aA (aB e hD1H)]
     exact sl _ b _ (sm2 b _ e)
   ·have he:(rows[i]).isEmpty=true:=by
     have hb:¬ decide ((0:Int) < (((rows[i]).map V.str).length:Int))=true:=hb
     rw [decide_eq_true_iff,List.length_map] at hb
     exact List.isEmpty_iff_length_eq_zero.mpr (by omega)
    refine aX hi ⟨hD2,?_,hol2,sm2⟩
    rw [take_snoc hir,nR,if_pos he,List.append_nil]
    exact rl2
end
end K12
end
section
set_option autoImplicit false
namespace K12
open PySem PyProof.Rows L2
section
variable {P:Program}{w:World}{K:PySem.W.Frag}{mg:Str→Option Value}{base:Heap}{t:Adr}
def jB:Sp:=fun vs H Q _=>∃(p:Addr) (n:Int),vs=[.ref p,.int n]∧Pu H p∧0 < n∧n < 1606938044258990275541962092341162602522202993782792835301376∧∀(r a b c:Int),0≤r→r < n→Q (.int r) (upd H p (.lst [.int a,.int b,.int c]))
theorem jc(D:Defs K mg t):aU P w K mg base CX0 1 t.aL.1 t.aL.2 ["_law_purse_here","_law_many"] jB:=by
 refine D.aL.fn.ok mC (fun vs H Q E h=>?_) (fun cdv A outer s H vs Q E hr h=>?_)
 ·obtain ⟨p,n,rfl,_⟩:=h
  rfl
 ·obtain ⟨p,n,rfl,⟨a,b,c,hp⟩,h0,h1,k⟩:=h
  refine⟨_,(aC (wK (bD fu (aZ bT (pv 0) aG (fun _ _=>rfl)) aG) (zN (pv 0) aG set_list))
   (aC (aP (i:=2) mC.nd rfl (Or.inl rfl) (aZ bT (pv 0) aG (fun _ _=>rfl)))
   (aC (wK (bD oW (bD fu (bD lU (pv 2) (bD fu (bD oW (pv 2) aG) aG)) (bD lU aG (aZ bT (pv 0) aG (fun _ _=>rfl)))) aG) (zN (pv 0) aG set_list))
   (aC (cC (bF yP (aZ bT (pv 0) aG (fun _ _=>rfl)) aG (bK _))
   (aC (aP (i:=3) mC.nd rfl (Or.inl rfl) (bD oW (aZ bT (pv 0) aG (fun _ _=>rfl)) (pv 1)))
   (aC (wK (bD Gq (aZ bT (pv 0) aG (fun _ _=>rfl)) (pv 1)) (zN (pv 0) aG set_list))
   (aH (aR (pv 3)))))
   bx)
   (aH (aR (bD oW (bD Ib (aZ bT (pv 0) aG (fun _ _=>rfl)) aG) (pv 1)))))))),?_⟩
  refine⟨_,rfl,p,_,_,_,rfl,rfl,SqL.of hp,rfl,_,_,rfl,rfl,_,rfl,p,_,_,2,rfl,rfl,hp,rfl,?_⟩
  refine⟨_,rfl,p,_,_,_,rfl,rfl,SqL.of ak,rfl,?_⟩
  refine⟨_,rfl,_,rfl,_,_,rfl,rfl,(by show (0:Int) < 46337; decide),_,_,rfl,rfl,_,_,rfl,rfl,.inr ⟨?_,?_⟩,_,rfl,p,_,_,_,rfl,rfl,SqL.of ak,rfl,_,_,rfl,rfl,.inl ⟨by decide,by decide⟩,_,_,rfl,rfl,_,_,rfl,rfl,
   (by show (0:Int) < 2147483587; decide),_,rfl,p,_,_,0,rfl,rfl,ak,rfl,?_⟩
  ·have:=Int.emod_nonneg a (show (46337:Int)≠0 by decide)
   omega
  ·have:=Int.emod_lt_of_pos a (show (0:Int) < 46337 by decide)
   omega
  rw [bR]
  refine⟨_,rfl,p,_,_,_,rfl,rfl,SqL.of ak,rfl,_,_,rfl,rfl,_,rfl,jJ (fun hb=>?_) (fun hb=>?_)⟩
  ·refine⟨_,rfl,p,_,_,_,rfl,rfl,SqL.of ak,rfl,_,rfl,_,_,rfl,rfl,h0,_,rfl,p,_,_,_,rfl,rfl,SqL.of ak,rfl,_,rfl,_,_,rfl,rfl,⟨h0,h1⟩,_,rfl,p,_,_,1,rfl,rfl,ak,rfl,_,rfl,?_⟩
   rw [bR]
   exact k _ _ _ _ (Int.emod_nonneg _ (by omega)) (Int.emod_lt_of_pos _ h0)
  ·refine⟨_,rfl,p,_,_,_,rfl,rfl,SqL.of ak,rfl,_,_,rfl,rfl,⟨by decide,by decide⟩,_,rfl,_,_,rfl,rfl,h0,?_⟩
   exact k _ _ _ _ (Int.emod_nonneg _ (by omega)) (Int.emod_lt_of_pos _ h0)
def Bg:Sp:=fun vs H Q _=>∃(n:Int),vs=[.int n]∧∀(p:Addr) (a b c:Int),H p=none→Q (.ref p) (upd H p (.lst [.int a,.int b,.int c]))
theorem Gi(D:Defs K mg t):aU P w K mg base CX0 1 t.dR.1 t.dR.2 ["_law_cell_here"] Bg:=by
 refine D.dR.fn.ok kE (fun vs H Q E h=>?_) (fun cdv A outer s H vs Q E hr h=>?_)
 ·obtain ⟨n,rfl,_⟩:=h
  rfl
 ·obtain ⟨n,rfl,k⟩:=h
  refine⟨_,(aC (aP (i:=1) kE.nd rfl (Or.inl rfl) aG)
   (lB (cC (PW.pt (mK (bF qX (pv 0) aG (bK _)) (jT (bF Jy (pv 0) (bD Gw aG aG) (bK _)))))
   (aH (aP (i:=1) kE.nd rfl (Or.inl rfl) (aK Gu (by rfl) D.LC Kq (aj (pv 0) au))))
   bx)
   (aH (aR (cD (aj (bD oW (pv 0) aG) (aj (pv 1) (aj aG au)))))))),?_⟩
  refine⟨fun σ' H'=>∃ d:Int,σ'=[some (.int n),some (.int d)]∧H'=H,?_,?_⟩
  ·refine⟨_,rfl,_,_,rfl,rfl,_,rfl,jJ (fun hb=>?_) (fun hb=>?_)⟩
   ·exact dZ ⟨_,rfl,_,rfl,_,rfl,rfl⟩
   ·refine⟨_,rfl,_,_,rfl,rfl,⟨by decide,by decide,by decide⟩,_,_,rfl,rfl,_,rfl,jJ (fun hc=>?_) (fun hc=>?_)⟩
    ·exact⟨_,rfl,_,rfl,_,rfl,rfl⟩
    ·exact⟨_,rfl,rfl⟩
  ·rintro σ' H' ⟨d,rfl,rfl⟩
   exact⟨_,rfl,_,_,rfl,rfl,(by show (0:Int) < 2147483587; decide),_,rfl,(by show 3≤sizeLine; decide),fun p hp=>k p _ _ _ hp⟩
def Ae(K:PySem.W.Frag):Sp:=fun vs H Q _=>∃(a:Addr) (ns:List Int) (k:Int),vs=[.ref a,.int k]∧SqL K H a (ns.map V.int)∧ns.length≤63∧0≤k∧k≤1000∧∀(n:Int) H',Same H H'→Q (.int n) H'
theorem Bv(D:Defs K mg t):aU P w K mg base CX0 1 t.dN.1 t.dN.2 ["_law_script","_law_k"] (Ae K):=by
 refine D.dN.fn.ok jE (fun vs H Q E h=>?_) (fun cdv A outer s H vs Q E hr h=>?_)
 ·obtain ⟨a,ns,k,rfl,_⟩:=h
  rfl
 ·obtain ⟨a,ns,k,rfl,hS,hl,h0,h1,q⟩:=h
  refine⟨_,(aC (cC (bF qX (pv 1) (aK aY (by rfl) D.d7 cF (aj (pv 0) au)) (bK _))
   (aH (aR (aZ bT (pv 0) (pv 1) (fun _ _=>rfl))))
   bx)
   (aC (aP (i:=2) jE.nd rfl (Or.inl rfl) (bD lU (bD lU aG (bD fu (pv 1) aG)) (bD fu (pv 1) aG)))
   (aC (gZ PassesOwn.never rfl (eZ (bZ j8 (pv 0) dh (cI aG))) (aQ (i:=3) jE.nd rfl (Or.inl rfl))
   (aH (aP (i:=2) jE.nd rfl (Or.inl rfl) (bD oW (bD fu (bD lU (pv 2) aG) (pv 3)) aG))))
   (aH (aR (pv 2)))))),?_⟩
  refine⟨_,rfl,_,rfl,a,_,rfl,.inl hS,_,_,rfl,rfl,_,rfl,jJ (fun hb=>?_) (fun hb=>?_)⟩
  ·have hk:k < (ns.map V.int).length:=of_decide_eq_true hb
   obtain ⟨v,e,m,_⟩:=oX h0 hk
   obtain ⟨z,_,rfl⟩:=List.mem_map.mp m
   exact⟨_,rfl,_,rfl,a,_,_,_,rfl,rfl,hS,e,q z H (Same.refl H)⟩
  ·refine⟨_,rfl,_,_,rfl,rfl,_,_,rfl,rfl,.inl ⟨by decide,by decide⟩,_,rfl,_,_,rfl,rfl,_,_,rfl,rfl,.inr ⟨by omega,by omega⟩,?_⟩
   refine⟨_,rfl,_,rfl,a,_,rfl,hS,fun p hp=>⟨p,rfl,⟨_,SqL.of ak⟩,mO (K:=K) (a:=p) (xs:=gb (ns.map V.int) none (some 4)) (fun i σ H2=>∃(st:Int) (v:Option V),σ=[some (.ref a),some (.int k),some (.int st),v]∧H2=upd H p (.lst (gb (ns.map V.int) none (some 4))))
    ⟨_,_,rfl,rfl⟩ (fun i σ H2 _ ⟨_,_,_,e⟩=>by rw [e]; exact SqL.of ak) ?_ ?_⟩⟩
   ·rintro i x σ H2 hi ⟨st,v,rfl,rfl⟩
    have m:x∈ns.map V.int:=List.mem_of_mem_drop (List.mem_of_mem_take (List.mem_of_getElem? hi))
    obtain ⟨z,_,rfl⟩:=List.mem_map.mp m
    exact⟨_,rfl,_,_,rfl,rfl,.inr ⟨by decide,by decide⟩,_,rfl,_,_,rfl,rfl,_,_,rfl,rfl,(by show (0:Int) < 2147483587; decide),_,_,rfl,rfl⟩
   ·rintro σ H2 ⟨st,v,rfl,rfl⟩
    exact⟨_,rfl,q st _ (Same.new hp)⟩
end
end K12
end
section
set_option autoImplicit false
namespace K12
open PySem PyProof.Rows L2
section
variable {P:Program}{w:World}{K:PySem.W.Frag}{mg:Str→Option Value}{base:Heap}{t:Adr}
def Fi:Sp:=fun vs H Q _=>∃(p u:Addr) (us:List Str),vs=[.ref p,.ref u]∧Pu H p∧H u=some (.lst (us.map V.str))∧us.length≤25∧∀(x:Str) H',1≤x.length→x.length≤6→Lw x→¬ x∈us→Off p H H'→Pu H' p→Q (.str x) H'
theorem Jq(D:Defs K mg t):aU P w K mg base CX0 2 t.fY.1 t.fY.2 ["_law_purse_here","_law_used"] Fi:=by
 have G__law_take:aU P w K mg base CX0 1 t.aL.1 t.aL.2 _ jB:=jc D
 have hz:sizeLine=16777216:=sizeLine_eq
 refine D.fY.fn.ok iK (fun vs H Q E h=>?_) (fun cdv A outer s H vs Q E hr h=>?_)
 ·obtain ⟨p,u,us,rfl,_⟩:=h
  rfl
 ·obtain ⟨p,u,us,rfl,hp,hu,hl,k⟩:=h
  have up:u≠p:=hp.ne hu
  refine⟨_,(aC (aP (i:=2) iK.nd rfl (Or.inr rfl) dg)
   (aC (gZ PassesOwn.never rfl (jm rfl D.lN (aj (bD fu aG (aJ D.aL G__law_take (hr.mono (by omega)) (by rfl) (aj (pv 0) (aj aG au)))) au)) (aQ (i:=3) iK.nd rfl (Or.inl rfl))
   (aH (aP (i:=2) iK.nd rfl (Or.inr rfl) (bD fK (pv 2) (aZ zR dg (aJ D.aL G__law_take (hr.mono (by omega)) (by rfl) (aj (pv 0) (aj aG au))) (fun _ _=>rfl))))))
   (aC (cC (bF jH (pv 2) (pv 1) (by with_unfolding_all rfl))
   (aH (aR (pv 2)))
   bx)
   (aC (mj (i:=4) rfl iK.nd rfl (Or.inl rfl) (aM.of ["_law_a"] [1,2] ["_law_a","_law_used","_law_word_here"] (aq (top 54)) ["_law_purse_here","_law_used","_law_word_here","_law_k","_law_first"] rfl rfl (by decide +kernel)) ⟨fun _ _ _ _ _=>(aQ (i:=0) (show List.Nodup [("_law_a" : Str),("_law_used" : Str),("_law_word_here" : Str)] by decide +kernel) rfl (Or.inl (lookup_relabel_local rfl)) (.inr (lookup_relabel_local rfl))),fun _ _ _ _ _=>(gJ (bF (zY (K:=K) rfl) (bD fK (pv 0) (bZ lW (pv 2) dh (cI aG))) (pv 1) (by with_unfolding_all rfl))),fun _ _ _ _ _=>(pv 0)⟩ (Hj dg))
   (aH (aR (bD fK (aZ bT (pv 4) aG (fun _ _=>rfl)) (bZ lW (pv 2) dh (cI aG))))))))),?_⟩
  refine⟨_,rfl,p,6,rfl,hp,by decide,by decide,fun r2 a2 b2 c2 g0 g1=>⟨_,_,rfl,rfl,_,rfl,by omega,by omega,?_⟩⟩
  refine nG (lo:=0) (n:=(1+r2).toNat) (fun i σ H2=>∃(x:Str) (v:Option V),σ=[some (.ref p),some (.ref u),some (.str x),v,none]∧x.length=i∧Lw x∧Off p H H2∧Pu H2 p)
   ⟨_,_,rfl,by decide,Lw.nil,Off.upd,Pu.upd⟩ ?_ ?_
  ·rintro i σ H2 hi ⟨x,v,rfl,hx,xl,o2,p2⟩
   refine⟨_,rfl,_,rfl,p,26,rfl,p2,by decide,by decide,fun r3 a3 b3 c3 f0 f1=>?_⟩
   obtain ⟨cc,ec,_,_⟩:=oX (xs:=abc.cps.toList) f0 (by rw [Array.length_toList,pL]; exact f1)
   refine⟨abc,_,cc,rfl,rfl,by decide +kernel,ec,_,_,rfl,rfl,?_,_,_,rfl,?_,xl.app (Lw.one (tZ ec)),o2.trans Off.upd,Pu.upd⟩
   ·show x.length+1≤sizeLine
    omega
   ·rw [gD]
    show x.length+1=i+1
    omega
  ·rintro σ' H' ⟨x,v,rfl,hx,xl,oh,ph⟩
   have hx1:1≤x.length:=by omega
   have hx6:x.length≤6:=by omega
   have hu':H' u=some (.lst (us.map V.str)):=oh u _ up hu
   refine⟨_,rfl,_,rfl,u,_,rfl,.inl (SqL.of hu'),rfl,gW us,_,rfl,jJ (fun hb=>?_) (fun hb=>?_)⟩
   ·refine⟨_,rfl,k x H' hx1 (by omega) xl ?_ oh ph⟩
    intro hm
    have hb:(!inV (.str x) (us.map V.str))=true:=hb
    rw [iw,decide_eq_true hm] at hb
    cases hb
   ·have s5:(Txt.slice x none (some 5)).length≤5:=KD x
    refine⟨_,rfl,by decide +kernel,fun Dd hD=>?_⟩
    have uD:u≠Dd:=aB hu' hD
    have pD:p≠Dd:=by
     obtain ⟨a,b,c,e⟩:=ph
     exact aB e hD
    refine bw (n:=26) (fun i ys H2=>ys=((letters.take i).filter fun c=>decide (¬ (c++Txt.slice x none (some 5))∈us)).map V.str∧H2=upd H' Dd (.lst ys)) ⟨rfl,rfl⟩ ?_ ?_
    ·rintro ys H2 ⟨rfl,rfl⟩
     refine⟨by show abc.cps.size≤26; rw [pL]; exact Nat.le_refl _,?_⟩
     rw [show letters.take 26=letters from List.take_of_length_le (by rw [qT]; exact Nat.le_refl _)]
     obtain ⟨c,hc,hn⟩:=xH hl (Txt.slice x none (some 5))
     have hmem:c∈letters.filter fun c=>decide (¬ (c++Txt.slice x none (some 5))∈us):=List.mem_filter.mpr ⟨hc,decide_eq_true hn⟩
     obtain ⟨d,rest,ed⟩:=List.exists_cons_of_ne_nil (List.ne_nil_of_mem hmem)
     have hd:d∈letters.filter fun c=>decide (¬ (c++Txt.slice x none (some 5))∈us):=by rw [ed]; exact List.mem_cons_self
     obtain ⟨hd1,hd2⟩:=List.mem_filter.mp hd
     refine⟨_,rfl,Dd,_,_,.str d,rfl,rfl,SqL.of ak,by rw [ed]; exact aV (j:=0) rfl,_,rfl,_,rfl,x,rfl,by omega,_,_,rfl,rfl,?_,?_⟩
     ·rw [ju d hd1]
      omega
     ·refine k _ _ (by rw [gD,ju d hd1]; omega) ?_ ((Lw.letter hd1).app (xl.slice _ _)) (of_decide_eq_true hd2) (oh.trans (Off.new hD)) ?_
      ·rw [gD,ju d hd1]
       omega
      ·obtain ⟨a,b,c,e⟩:=ph
       exact⟨a,b,c,by rw [aA pD]; exact e⟩
    ·rintro i ys H2 hi ⟨rfl,rfl⟩
     refine⟨by show i < abc.cps.size; rw [pL]; exact hi,?_⟩
     rintro y H3 ⟨rfl,c,ec,rfl⟩ σo ho
     obtain ⟨o,rfl⟩:=own1 ho
     have el:letters[i]?=some ⟨#[c]⟩:=by
      have ec':abc.cps[i]?=some c:=ec
      unfold letters
      rw [List.getElem?_map,Array.getElem?_toList,ec']
      rfl
     have et:letters.take (i+1)=letters.take i++[⟨#[c]⟩]:=by
      rw [List.take_succ,el]
      rfl
     have hlen:(((letters.take i).filter fun c=>decide (¬ (c++Txt.slice x none (some 5))∈us)).map V.str).length≤26:=by
      rw [List.length_map]
      refine Nat.le_trans (List.length_filter_le _ _) ?_
      rw [List.length_take]
      omega
     refine⟨⟨[_],rfl,rfl⟩,_,rfl,_,rfl,_,rfl,x,rfl,by omega,_,_,rfl,rfl,(by show 1+_≤sizeLine; omega),_,rfl,u,_,rfl,.inl (SqL.of (by rw [aA uD]; exact hu')),rfl,gW us,_,rfl,jJ (fun hb=>?_) (fun hb=>?_)⟩
     ·have hb:(!inV (.str (⟨#[c]⟩++Txt.slice x none (some 5))) (us.map V.str))=true:=hb
      rw [iw] at hb
      have hn:¬ ((⟨#[c]⟩:Str)++Txt.slice x none (some 5))∈us:=by simpa using hb
      refine⟨_,rfl,by omega,ak,aX hi ⟨?_,by rw [bR]⟩⟩
      rw [et,List.filter_append,List.map_append]
      congr 1
      rw [List.filter_cons,if_pos (decide_eq_true hn)]
      rfl
     ·have hb:¬ (!inV (.str (⟨#[c]⟩++Txt.slice x none (some 5))) (us.map V.str))=true:=hb
      rw [iw] at hb
      have hn:((⟨#[c]⟩:Str)++Txt.slice x none (some 5))∈us:=by simpa using hb
      refine aX hi ⟨?_,rfl⟩
      rw [et,List.filter_append]
      rw [show List.filter (fun c=>decide (¬ (c++Txt.slice x none (some 5))∈us)) [(⟨#[c]⟩:Str)]=[] by rw [List.filter_cons,if_neg (by simpa using hn)]; rfl,List.append_nil]
end
end K12
end
section
set_option autoImplicit false
namespace K12
open PySem PyProof.Rows L2
section
variable {P:Program}{w:World}{K:PySem.W.Frag}{mg:Str→Option Value}{base:Heap}{t:Adr}
theorem zm(x:Str){n:Int}(h:1≤n):(jy x n).length≤x.length * n.toNat:=by
 unfold jy
 rw [if_neg (by omega)]
 split
 ·have:1≤n.toNat:=by omega
  exact Nat.le_mul_of_pos_right _ (by omega)
 ·show (List.foldl (fun x1 x2=>x1++x2) #[] (List.replicate n.toNat x.cps)).size≤_
  rw [size_rep,Array.size_empty,Nat.mul_comm,Nat.zero_add]
  exact Nat.le_refl _
def rO:Sp:=fun vs H Q _=>∃(p u:Addr) (us:List Str) (n:Int),vs=[.ref p,.int n,.ref u]∧Pu H p∧H u=some (.lst (us.map V.str))∧0≤n∧us.length+n.toNat≤25∧
 ∀(l:Addr) (ns:List Str) H',H l=none→ns.length=n.toNat→ns.Nodup→(∀ x∈ns,¬ x∈us∧Nm x)→H' l=some (.lst (ns.map V.str))→Off p H H'→Pu H' p→Q (.ref l) H'
theorem rE{α:Type}{l:List α}{x:α}(h:l.Nodup)(hx:¬ x∈l):(l++[x]).Nodup:=by
 rw [List.nodup_append]
 refine⟨h,by simp,fun a ha b hb e=>?_⟩
 have:b=x:=by simpa using hb
 rw [e,this] at ha
 exact hx ha
theorem uz(D:Defs K mg t):aU P w K mg base CX0 3 t.cg.1 t.cg.2 ["_law_purse_here","_law_many","_law_used"] rO:=by
 have G__law_take:aU P w K mg base CX0 1 t.aL.1 t.aL.2 _ jB:=jc D
 have G__law_word:aU P w K mg base CX0 2 t.fY.1 t.fY.2 _ Fi:=Jq D
 have hz:sizeLine=16777216:=sizeLine_eq
 refine D.cg.fn.ok bV (fun vs H Q E h=>?_) (fun cdv A outer s H vs Q E hr h=>?_)
 ·obtain ⟨p,u,us,n,rfl,_⟩:=h
  rfl
 ·obtain ⟨p,u,us,n,rfl,hp,hu,h0,h1,k⟩:=h
  have up:u≠p:=hp.ne hu
  refine⟨_,(aC (aP (i:=3) bV.nd rfl (Or.inl rfl) (aJ D.aL G__law_take (hr.mono (by omega)) (by rfl) (aj (pv 0) (aj aG au))))
   (aC (aP (i:=4) bV.nd rfl (Or.inl rfl) (aJ D.fY G__law_word (hr.mono (by omega)) (by rfl) (aj (pv 0) (aj (pv 2) au))))
   (aC (aP (i:=5) bV.nd rfl (Or.inl rfl) (aJ D.aL G__law_take (hr.mono (by omega)) (by rfl) (aj (pv 0) (aj (aK lX (by rfl) D.d7 cF (aj (pv 4) au)) au))))
   (aC (aP (i:=6) bV.nd rfl (Or.inl rfl) (aJ D.aL G__law_take (hr.mono (by omega)) (by rfl) (aj (pv 0) (aj aG au))))
   (aC (aP (i:=7) bV.nd rfl (Or.inl rfl) (cD au))
   (aC (gZ PassesOwn.never rfl (jm rfl D.lN (aj (pv 1) au)) (aQ (i:=8) bV.nd rfl (Or.inl rfl))
   (aC (aP (i:=9) bV.nd rfl (Or.inl rfl) (aZ zR dg (bD oW (bD fu (pv 6) (bD lU aG (pv 8))) aG) (fun _ _=>rfl)))
   (aC (aP (i:=10) bV.nd rfl (Or.inl rfl) (bD fK (bD fK (bZ lW (pv 4) dh (cI (pv 5))) (pv 9)) (bZ lW (pv 4) (cI (bD fu (pv 5) aG)) dh)))
   (lB (cC (bF j9 (pv 3) aG (bK _))
   (aH (aP (i:=10) bV.nd rfl (Or.inl rfl) (bZ lW (bD Ig (pv 4) aG) dh (cI (aK (vq rfl) (by rfl) D.JQ Gn (aj aG (aj (bD fu (pv 8) aG) au)))))))
   bx)
   (lB (cC (PW.pt (mK (bF yP (pv 3) aG (bK _)) (jT (bF ql (pv 10) (bD wj (pv 2) (pv 7)) (by with_unfolding_all rfl)))))
   (aH (aP (i:=10) bV.nd rfl (Or.inl rfl) (aJ D.fY G__law_word (hr.mono (by omega)) (by rfl) (aj (pv 0) (aj (bD wj (pv 2) (pv 7)) au)))))
   bx)
   (aH (jo (qR PySem.F.plainAttrs_list PySem.F.slot_list_append PySem.F.type_list_append gF (pv 7) (aj (pv 10) au)))))))))
   (aH (aR (pv 7))))))))),?_⟩
  refine⟨_,rfl,p,4,rfl,hp,by decide,by decide,fun pick a1 b1 c1 l1 u1=>?_⟩
  refine⟨_,rfl,_,rfl,p,u,us,rfl,Pu.upd,by rw [aA up]; exact hu,by omega,fun x H1 hx1 hx7 xl _ o1 p1=>?_⟩
  have o1:Off p H H1:=Off.upd.trans o1
  refine⟨_,rfl,_,rfl,x,rfl,by omega,p,_,rfl,p1,by omega,by omega,fun place a2 b2 c2 l2 u2=>?_⟩
  refine⟨_,rfl,p,26,rfl,Pu.upd,by decide,by decide,fun first a3 b3 c3 l3 u3=>?_⟩
  rw [bR]
  have o3:Off p H (upd H1 p (.lst [.int a3,.int b3,.int c3])):=o1.trans Off.upd
  refine⟨Nat.zero_le _,fun l hl=>?_⟩
  have hlH:H l=none:=by
   by_cases e:l=p
   ·rw [e,ak] at hl
    cases hl
   ·cases q:H l with
    | none=>rfl
    | some o=>
     rw [o3 l o e q] at hl
     cases hl
  have pl:p≠l:=hp.neN hlH
  have ul:u≠l:=aB hu hlH
  refine⟨_,rfl,n,rfl,by omega,by omega,nG (lo:=0) (n:=n.toNat) (fun i σ H2=>∃(ns:List Str) (v8 v9 v10:Option V),σ=[some (.ref p),some (.int n),some (.ref u),some (.int pick),some (.str x),some (.int place),some (.int first),some (.ref l),v8,v9,v10]∧
   ns.length=i∧ns.Nodup∧(∀ x∈ns,¬ x∈us∧Nm x)∧H2 l=some (.lst (ns.map V.str))∧Off p H H2∧Pu H2 p)
   ⟨[],_,_,_,rfl,rfl,List.nodup_nil,by simp,ak,o3.trans (Off.new hl),Pu.upd.aA pl⟩ ?_ ?_⟩
  ·rintro i σ H2 hi ⟨ns,v8,v9,v10,rfl,hns,nd,nu,hl2,o2,p2⟩
   have hu2:H2 u=some (.lst (us.map V.str)):=o2 u _ up hu
   have m0:=Int.emod_nonneg (first+7 * (0+(i:Int))) (show (26:Int)≠0 by decide)
   have m1:=Int.emod_lt_of_pos (first+7 * (0+(i:Int))) (show (0:Int) < 26 by decide)
   obtain ⟨cc,ec,_,_⟩:=oX (xs:=abc.cps.toList) m0 (by rw [Array.length_toList,pL]; exact m1)
   refine⟨_,rfl,_,rfl,_,_,rfl,rfl,.inl ⟨by decide,by decide⟩,_,_,rfl,rfl,_,_,rfl,rfl,(by show (0:Int) < 26; decide),abc,_,cc,rfl,rfl,by decide +kernel,ec,?_⟩
   have q1:=nM x none (some place)
   have q2:=nM x (some (place+1)) none
   refine⟨_,rfl,_,rfl,_,rfl,x,rfl,by omega,_,rfl,_,_,rfl,rfl,(by show (Txt.slice x none (some place)).length+1≤sizeLine; omega),_,rfl,_,rfl,_,_,rfl,rfl,_,rfl,x,rfl,by omega,_,_,rfl,rfl,?_,?_⟩
   ·rw [gD]
    show (Txt.slice x none (some place)).length+1+_≤sizeLine
    omega
   refine⟨fun σ' H'=>∃(y:Str) (v8 v9:Option V),σ'=[some (.ref p),some (.int n),some (.ref u),some (.int pick),some (.str x),some (.int place),some (.int first),some (.ref l),some (.int (0+(i:Int))),v9,some (.str y)]∧H'=H2∧Nm y,?_,?_⟩
   ·refine⟨_,rfl,rfl,_,rfl,jJ (fun hb=>?_) (fun hb=>?_)⟩
    ·have q3:=zm x (n:=6) (by decide)
     refine⟨_,rfl,x,6,rfl,rfl,by decide,by decide,by omega,_,rfl,_,_,rfl,rfl,_,_,rfl,_,rfl,_,rfl,by show (jy x 6).length≤sizeLine; have:(6:Int).toNat=6:=rfl; rw [this] at q3; omega,_,none,_,rfl,rfl,?_⟩
     exact Ln ⟨hx1,hx7,xl⟩ i
    ·exact⟨_,none,_,rfl,rfl,M5 ⟨hx1,hx7,xl⟩ l2 u2 (tZ ec)⟩
   ·rintro σ' H' ⟨y,v8',v9',rfl,rfl,hyl⟩
    refine⟨fun σ' H''=>∃(y:Str) (v9:Option V),σ'=[some (.ref p),some (.int n),some (.ref u),some (.int pick),some (.str x),some (.int place),some (.int first),some (.ref l),some (.int (0+(i:Int))),v9,some (.str y)]∧(¬ y∈us∧Nm y)∧¬ y∈ns∧Off p H' H''∧Pu H'' p,?_,?_⟩
    ·have cl:(us.map V.str).length+(ns.map V.str).length≤sizeLine:=by rw [List.length_map,List.length_map]; omega
     have fresh:∀(q:Addr) (H0:Hp),Off p H' H0→Pu H0 p→H0 q=none→∀(y:Str) (H3:Hp),¬ y∈us++ns→Off p (upd H0 q (.lst (us.map V.str++ns.map V.str))) H3→Pu H3 p→¬ y∈us∧¬ y∈ns∧Off p H' H3∧Pu H3 p:=fun q H0 o0 p0 hq y H3 hy o3 p3=>
      ⟨fun h=>hy (List.mem_append_left _ h),fun h=>hy (List.mem_append_right _ h),(o0.trans (Off.new hq)).trans o3,p3⟩
     refine⟨_,rfl,_,_,rfl,rfl,_,rfl,jJ (fun hb=>?_) (fun hb=>?_)⟩
     ·refine dZ ⟨_,rfl,_,rfl,_,rfl,u,l,_,_,rfl,rfl,hu2,hl2,cl,fun q hq=>⟨p,q,us++ns,rfl,p2.aA (p2.neN hq),by rw [ak,List.map_append],by rw [List.length_append]; omega,fun y' H3 hy1 hy7 yl hy o3 p3=>?_⟩⟩
      obtain ⟨f1,f2,f3,f4⟩:=fresh q H' (Off.refl p H') p2 hq y' H3 hy o3 p3
      exact⟨y',_,rfl,⟨f1,hy1,hy7,yl⟩,f2,f3,f4⟩
     ·refine⟨_,rfl,_,rfl,_,rfl,u,l,_,_,rfl,rfl,hu2,hl2,cl,fun q hq=>⟨q,_,rfl,.inl (SqL.of ak),rfl,?_,_,rfl,jJ (fun hc=>?_) (fun hc=>?_)⟩⟩
      ·rw [List.all_append,gW,gW]
       rfl
      ·have uq:u≠q:=aB hu2 hq
       have lq:l≠q:=aB hl2 hq
       refine⟨_,rfl,_,rfl,_,rfl,u,l,_,_,rfl,rfl,by rw [aA uq]; exact hu2,by rw [aA lq]; exact hl2,cl,fun q2 hq2=>⟨p,q2,us++ns,rfl,(p2.aA (p2.neN hq)).aA ((p2.aA (p2.neN hq)).neN hq2),by rw [ak,List.map_append],by rw [List.length_append]; omega,fun y' H3 hy1 hy7 yl hy o3 p3=>?_⟩⟩
       obtain ⟨f1,f2,f3,f4⟩:=fresh q2 _ (Off.new hq) (p2.aA (p2.neN hq)) hq2 y' H3 hy o3 p3
       exact⟨y',_,rfl,⟨f1,hy1,hy7,yl⟩,f2,f3,f4⟩
      ·have hc:¬ inV (.str y) (us.map V.str++ns.map V.str)=true:=hc
       rw [← List.map_append,iw] at hc
       have hc:¬ y∈us++ns:=fun h=>hc (decide_eq_true h)
       exact⟨y,_,rfl,⟨fun h=>hc (List.mem_append_left _ h),hyl⟩,fun h=>hc (List.mem_append_right _ h),Off.new hq,p2.aA (p2.neN hq)⟩
    ·rintro σ'' H3 ⟨y',v9'',rfl,y1,y2,o3,p3⟩
     have hl3:H3 l=some (.lst (ns.map V.str)):=o3 l _ pl.symm hl2
     refine⟨_,rfl,.inl ⟨rfl,_,SqL.of hl3⟩,_,rfl,l,ns.map V.str,.str y',rfl,rfl,hl3,by rw [List.length_map]; omega,ns++[y'],_,_,_,rfl,by rw [List.length_append,hns]; rfl,rE nd y2,?_,by rw [ak,List.map_append]; rfl,?_,p3.aA pl⟩
     ·intro z hz
      rcases List.mem_append.mp hz with h | h
      ·exact nu z h
      ·rw [List.mem_singleton.mp h]
       exact y1
     ·intro b o hb e
      rw [aA (aB e hlH)]
      exact o3 b o hb (o2 b o hb e)
  ·rintro σ H2 ⟨ns,v8,v9,v10,rfl,hns,nd,nu,hl2,o2,p2⟩
   exact⟨_,rfl,k l ns H2 hlH hns nd nu hl2 o2 p2⟩
end
end K12
end
section
set_option autoImplicit false
namespace K12
open PySem PyProof.Rows L2
section
variable {P:Program}{w:World}{K:PySem.W.Frag}{mg:Str→Option Value}{base:Heap}{t:Adr}
def um:Sp:=fun vs H Q _=>∃(p m:Addr) (ns:List Str) (n:Nat),vs=[.ref p,.ref m,.int n]∧Pu H p∧H m=some (.lst (ns.map V.str))∧n≤100∧ns.length≤100∧
 ∀(q:Addr) (es:List Str) H',H' q=some (.tup (es.map V.str))→(∀ x∈es,x∈ns)→es.Nodup→es.length≤n→Off p H H'→Pu H' p→Q (.ref q) H'
theorem rM(D:Defs K mg t):aU P w K mg base CX0 2 t.bU.1 t.bU.2 ["_law_purse_here","_law_menu","_law_most"] um:=by
 have G__law_take:aU P w K mg base CX0 1 t.aL.1 t.aL.2 _ jB:=jc D
 have hz:sizeLine=16777216:=sizeLine_eq
 refine D.bU.fn.ok jF (fun vs H Q E h=>?_) (fun cdv A outer s H vs Q E hr h=>?_)
 ·obtain ⟨p,m,ns,n,rfl,_⟩:=h
  rfl
 ·obtain ⟨p,m,ns,n,rfl,hp,hm,hn,hl,k⟩:=h
  have mp:m≠p:=hp.ne hm
  refine⟨_,(aC (aP (i:=3) jF.nd rfl (Or.inl rfl) (cD au))
   (aC (cC (bF j9 (aK aY (by rfl) D.d7 cF (aj (pv 1) au)) aG (bK _))
   (aH (aR (cY au)))
   bx)
   (aC (gZ PassesOwn.never rfl (jm rfl D.lN (aj (aJ D.aL G__law_take (hr.mono (by omega)) (by rfl) (aj (pv 0) (aj (bD fu (pv 2) aG) au))) au)) (aQ (i:=4) jF.nd rfl (Or.inl rfl))
   (aC (aP (i:=5) jF.nd rfl (Or.inl rfl) (aZ bT (pv 1) (aJ D.aL G__law_take (hr.mono (by omega)) (by rfl) (aj (pv 0) (aj (aK aY (by rfl) D.d7 cF (aj (pv 1) au)) au))) (fun _ _=>rfl)))
   (aH (cC (bF jH (pv 5) (pv 3) (by with_unfolding_all rfl))
   (aH (jo (qR PySem.F.plainAttrs_list PySem.F.slot_list_append PySem.F.type_list_append gF (pv 3) (aj (pv 5) au))))
   bx))))
   (aH (aR (bB bI (by rfl) D.bQ bJ (aj (pv 3) au))))))),?_⟩
  refine⟨Nat.zero_le _,fun l hll=>?_⟩
  have pl:p≠l:=hp.neN hll
  have ml:m≠l:=aB hm hll
  refine⟨_,rfl,m,_,rfl,.inl (SqL.of (by rw [aA ml]; exact hm)),rfl,_,rfl,jJ (fun hb=>?_) (fun hb=>?_)⟩
  ·exact⟨Nat.zero_le _,fun q hq=>k q [] _ ak (by simp) List.nodup_nil (Nat.zero_le _) ((Off.new hll).trans (Off.new hq)) ((hp.aA pl).aA ((hp.aA pl).neN hq))⟩
  ·have hpos:0 < ns.length:=by
    have hb:¬ decide (V.int ((ns.map V.str).length:Int)=V.int 0)=true:=hb
    rcases Nat.eq_zero_or_pos ns.length with h | h
    ·exfalso
     apply hb
     rw [List.length_map,h]
     exact decide_eq_true rfl
    ·exact h
   refine⟨_,rfl,_,rfl,_,_,rfl,rfl,p,_,rfl,hp.aA pl,by omega,by omega,fun r a1 b1 c1 l1 u1=>⟨r,rfl,by omega,by omega,?_⟩⟩
   refine nG (lo:=0) (n:=r.toNat) (fun i σ H2=>∃(es:List Str) (v4 v5:Option V),σ=[some (.ref p),some (.ref m),some (.int n),some (.ref l),v4,v5]∧es.length≤i∧es.Nodup∧(∀ x∈es,x∈ns)∧H2 l=some (.lst (es.map V.str))∧Off p H H2∧Pu H2 p)
    ⟨[],_,_,rfl,Nat.le_refl _,List.nodup_nil,by simp,by rw [aA pl.symm,ak]; rfl,(Off.new hll).trans Off.upd,Pu.upd⟩ ?_ ?_
   ·rintro i σ H2 hi ⟨es,v4,v5,rfl,he,nd,sub,hl2,o2,p2⟩
    have hm2:H2 m=some (.lst (ns.map V.str)):=o2 m _ mp hm
    refine⟨_,rfl,_,rfl,_,rfl,m,_,rfl,.inl (SqL.of hm2),p,_,rfl,p2,by rw [List.length_map]; omega,by rw [List.length_map]; omega,fun r2 a2 b2 c2 l2 u2=>?_⟩
    rw [List.length_map] at u2
    obtain ⟨x,ex,mx,_⟩:=su (ns:=ns) l2 u2
    refine⟨m,_,_,_,rfl,rfl,SqL.of (by rw [aA mp]; exact hm2),ex,?_⟩
    have lp:l≠p:=pl.symm
    refine⟨_,rfl,_,rfl,l,_,rfl,.inl (SqL.of (by rw [aA lp]; exact hl2)),rfl,gW es,_,rfl,jJ (fun hc=>?_) (fun hc=>?_)⟩
    ·have hc:(!inV (.str x) (es.map V.str))=true:=hc
     rw [iw] at hc
     have hx:¬ x∈es:=by simpa using hc
     refine⟨_,rfl,.inl ⟨rfl,_,SqL.of (by rw [aA lp]; exact hl2)⟩,_,rfl,l,es.map V.str,.str x,rfl,rfl,by rw [aA lp]; exact hl2,by rw [List.length_map]; omega,es++[x],_,_,rfl,by rw [List.length_append]; exact Nat.succ_le_succ he,rE nd hx,?_,by rw [ak,List.map_append]; rfl,?_,Pu.upd.aA pl⟩
     ·intro z hz
      rcases List.mem_append.mp hz with h | h
      ·exact sub z h
      ·rw [List.mem_singleton.mp h]
       exact mx
     ·intro b o hb e
      rw [aA (aB e hll),aA hb]
      exact o2 b o hb e
    ·exact⟨es,_,_,rfl,Nat.le_succ_of_le he,nd,sub,by rw [aA lp]; exact hl2,o2.trans Off.upd,Pu.upd⟩
   ·rintro σ H2 ⟨es,v4,v5,rfl,he,nd,sub,hl2,o2,p2⟩
    refine⟨_,rfl,l,_,rfl,.inl ⟨SqL.of hl2,fun q hq=>?_⟩⟩
    exact k q es _ ak sub nd (by omega) (o2.trans (Off.new hq)) (p2.aA (p2.neN hq))
end
end K12
end
section
set_option autoImplicit false
namespace K12
open PySem PyProof.Rows L2
abbrev Fam:=List (Str × List Str)
def jY(r:Str × List Str):T:=.tup [.str r.1,.tup (r.2.map T.str)]
def qP(f:Fam):T:=.tup (f.map jY)
abbrev nms(f:Fam):List Str:=f.map (·.1)
structure fX (f:Fam):Prop where
 nd:(nms f).Nodup
 sub:∀ r∈f,∀ e∈r.2,e∈nms f
 len:f.length≤7
 pos:0 < f.length
 el:∀ r∈f,r.2.length≤7
 K6:∀ r∈f,r.2.Nodup
 Dl:∃ top:List Str,top.Nodup∧(∀ x,x∈top↔x∈nms f)∧∀ r∈f,∃ j,top[j]?=some r.1∧∀ e∈r.2,e∈top.take j
 lw:∀ x∈nms f,Nm x
theorem fX.perm{f g:Fam}(h:fX f)(p:g.Perm f):fX g where
 lw:=fun x hx=>h.lw x ((p.map (·.1)).mem_iff.mp hx)
 nd:=(p.map (·.1)).nodup_iff.mpr h.nd
 sub:=fun r hr e he=>(p.map (·.1)).mem_iff.mpr (h.sub r (p.mem_iff.mp hr) e he)
 len:=by rw [p.length_eq]; exact h.len
 pos:=by rw [p.length_eq]; exact h.pos
 el:=fun r hr=>h.el r (p.mem_iff.mp hr)
 K6:=fun r hr=>h.K6 r (p.mem_iff.mp hr)
 Dl:=by
  obtain ⟨top,h0,h1,h2⟩:=h.Dl
  exact⟨top,h0,fun x=>(h1 x).trans (p.map (·.1)).mem_iff.symm,fun r hr=>h2 r (p.mem_iff.mp hr)⟩
theorem uc{ns:List Str}(ndn:ns.Nodup)(lo:Option Int)(i:Nat):∃ ms:List Str,gb (ns.map V.str) lo (some (i:Int))=ms.map V.str∧(∀ x∈ms,x∈ns.take i)∧ms.length≤ns.length∧ms.Nodup:=by
 unfold gb
 rw [List.length_map]
 have e:HT.sIx ns.length ns.length (some (i:Int))=min i ns.length:=HT.rP ns.length ns.length i
 rw [e]
 refine⟨(ns.drop (HT.sIx ns.length 0 lo)).take (min i ns.length - HT.sIx ns.length 0 lo),?_,?_,?_,ndn.sublist ((List.take_sublist _ _).trans (List.drop_sublist _ _))⟩
 ·rw [List.map_take,List.map_drop]
 ·intro x hx
  rw [← List.drop_take] at hx
  have h:=List.mem_of_mem_drop hx
  have e2:ns.take (min i ns.length)=ns.take i:=by
   rcases Nat.le_total i ns.length with h' | h'
   ·rw [Nat.min_eq_left h']
   ·rw [Nat.min_eq_right h',List.take_of_length_le (Nat.le_refl _),List.take_of_length_le h']
  rw [e2] at h
  exact h
 ·rw [List.length_take,List.length_drop]
  omega
theorem Dp.row{H:Hp}{q e:Addr}{x:Str}{es:List Str}(hq:H q=some (.tup [.str x,.ref e]))(he:H e=some (.tup (es.map V.str))):Dp H (jY (x,es)) (.ref q):=
 L2.Dp.tup hq (.cons (L2.Dp.str x) (.cons (L2.Dp.tup he (DpL.strs es)) .nil))
theorem Dp.qK{H:Hp}{r:Str × List Str}{v:V}(d:Dp H (jY r) v):∃ q e,v=.ref q∧H q=some (.tup [.str r.1,.ref e])∧H e=some (.tup (r.2.map V.str)):=by
 obtain ⟨q,xs,rfl,hq,dl⟩:=L2.Dp.cA d
 obtain ⟨x1,r1,rfl,d1,dl⟩:=dl.cases
 obtain ⟨x2,r2,rfl,d2,dl3⟩:=dl.cases
 have e1:=L2.Dp.jA d1
 have e3:=dl3.jV
 obtain ⟨e,ys,rfl,he,dl2⟩:=L2.Dp.cA d2
 subst e1 e3
 rw [DpL.jq dl2] at he
 exact⟨q,e,rfl,hq,he⟩
theorem Paired.perm{α β:Type}{F:α→β→Prop}:∀ {us ws:List α},us.Perm ws→∀ {xs:List β},Paired F ws xs→∃ ys,ys.Perm xs∧Paired F us ys:=by
 intro us ws h
 induction h with
 | nil=>exact fun {xs} r=>⟨xs,.refl _,r⟩
 | cons a _ ih=>
  intro xs r
  cases r with
  | cons q t=>
   obtain ⟨ys,p,r'⟩:=ih t
   exact⟨_::ys,p.cons _,.cons q r'⟩
 | swap a b l=>
  intro xs r
  cases r with
  | cons q t=>
   cases t with
   | cons q' t'=>exact⟨_,.swap _ _ _,.cons q' (.cons q t')⟩
 | trans _ _ i1 i2=>
  intro xs r
  obtain ⟨ys,p,r'⟩:=i2 r
  obtain ⟨zs,p',r''⟩:=i1 r'
  exact⟨zs,p'.trans p,r''⟩
def Eld(sf:V→L2.St)(ns:List Str)(p:Addr)(H2:Hp):L2.St→Hp→Prop:=fun σ' H'=>∃(q:Addr) (es:List Str),σ'=sf (.ref q)∧H' q=some (.tup (es.map V.str))∧(∀ x∈es,x∈ns)∧(es.length≤7∧es.Nodup)∧L2.Off p H2 H'∧Pu H' p
end K12
end
section
set_option autoImplicit false
namespace K12
open PySem PyProof.Rows L2
section
variable {P:Program}{w:World}{K:PySem.W.Frag}{mg:Str→Option Value}{base:Heap}{t:Adr}
def AtJ(H:Hp)(y:V)(j:Nat):Prop:=∃(q:Addr) (i:Int),y=.ref q∧H q=some (.tup [.int i,.int j])
def xu:Sp:=fun vs H Q _=>∃(p:Addr) (n:Nat),vs=[.ref p,.int n]∧Pu H p∧1≤n∧n≤7∧∀(v:V) (f:Fam) H',Dp H' (qP f) v→fX f→f.length≤n→Off p H H'→Pu H' p→Q v H'
theorem DR(D:Defs K mg t):aU P w K mg base CX0 4 t.eE.1 t.eE.2 ["_law_purse_here","_law_most"] xu:=by
 have G__law_take:aU P w K mg base CX0 1 t.aL.1 t.aL.2 _ jB:=jc D
 have G__law_names:aU P w K mg base CX0 3 t.cg.1 t.cg.2 _ rO:=uz D
 have G__law_some:aU P w K mg base CX0 2 t.bU.1 t.bU.2 _ um:=rM D
 have hz:sizeLine=16777216:=sizeLine_eq
 refine D.eE.fn.ok bW (fun vs H Q E h=>?_) (fun cdv A outer s H vs Q E hr h=>?_)
 ·obtain ⟨p,n,rfl,_⟩:=h
  rfl
 ·obtain ⟨p,n,rfl,hp,hn1,hn7,k⟩:=h
  refine⟨_,(aC (aP (i:=2) bW.nd rfl (Or.inl rfl) (aJ D.aL G__law_take (hr.mono (by omega)) (by rfl) (aj (pv 0) (aj aG au))))
   (aC (aP (i:=3) bW.nd rfl (Or.inl rfl) (aJ D.cg G__law_names (hr.mono (by omega)) (by rfl) (aj (pv 0) (aj (bD fu aG (aJ D.aL G__law_take (hr.mono (by omega)) (by rfl) (aj (pv 0) (aj (pv 1) au)))) (aj (cD au) au)))))
   (aC (aP (i:=4) bW.nd rfl (Or.inr rfl) (cD au))
   (aC (gZ PassesOwn.never rfl (pY rfl D.mL (aj (pv 3) au)) (sX rfl (cB (aQ (i:=5) bW.nd rfl (Or.inl rfl)) (cB (aQ (i:=6) bW.nd rfl (Or.inl rfl)) jr)))
   (aC (aP (i:=7) bW.nd rfl (Or.inl rfl) (aJ D.bU G__law_some (hr.mono (by omega)) (by rfl) (aj (pv 0) (aj (bZ j8 (pv 3) dh (cI (pv 5))) (aj aG au)))))
   (lB (cC (bF j9 (pv 2) aG (bK _))
   (aH (aP (i:=7) bW.nd rfl (Or.inl rfl) (bB bI (by rfl) D.bQ bJ (aj (bZ j8 (pv 3) (cI (aK (nJ rfl) (by rfl) D.Cq wQ (aj aG (aj (bD lY (pv 5) aG) au)))) (cI (pv 5))) au))))
   bx)
   (lB (cC (bF j9 (pv 2) aG (bK _))
   (aH (aP (i:=7) bW.nd rfl (Or.inl rfl) (bB bI (by rfl) D.bQ bJ (aj (zj (bZ j8 (pv 3) (cI (aK (nJ rfl) (by rfl) D.Cq wQ (aj aG (aj (bD lY (pv 5) aG) au)))) (cI (pv 5))) (bD lY aG (bD lU aG (aJ D.aL G__law_take (hr.mono (by omega)) (by rfl) (aj (pv 0) (aj aG au)))))) au))))
   bx)
   (aH (jo (qR PySem.F.plainAttrs_list PySem.F.slot_list_append PySem.F.type_list_append gF (pv 4) (aj (cY (aj (pv 6) (aj (pv 7) au))) au))))))))
   (aC (aP (i:=8) bW.nd rfl (Or.inl rfl) (aK (qZ false) (by rfl) D.uH qL (aj (bH rfl (aM.of ["_law_k"] [0] ["_law_k","_law_purse_here"] (aq (top 57)) ["_law_purse_here","_law_most","_law_shape","_law_names_here","_law_family_here","_law_k","_law_kind","_law_elders_here","_law_places"] rfl rfl (by decide +kernel)) ⟨fun _ _ _ _ _=>(aQ (i:=0) (show List.Nodup [("_law_k" : Str),("_law_purse_here" : Str)] by decide +kernel) rfl (Or.inl (lookup_relabel_local rfl)) (.inr (lookup_relabel_local rfl))),fun _ _ _ _ _=>bN,fun _ _ _ _ _=>(cY (aj (aJ D.aL G__law_take (hr.mono (by omega)) (by rfl) (aj (pv 1) (aj aG au))) (aj (pv 0) au)))⟩ (jm rfl D.lN (aj (aK aY (by rfl) D.d7 cF (aj (pv 4) au)) au))) au)))
   (aH (aR (bB bI (by rfl) D.bQ bJ (aj (bH rfl (aM.of ["_law_number","_law_k"] [4] ["_law_number","_law_k","_law_family_here"] (aq (top 57)) ["_law_purse_here","_law_most","_law_shape","_law_names_here","_law_family_here","_law_k","_law_kind","_law_elders_here","_law_places"] rfl rfl (by decide +kernel)) ⟨fun _ _ _ _ _=>(kO (K:=K) (n:=2) rfl rfl (cB (aQ (i:=0) (show List.Nodup [("_law_number" : Str),("_law_k" : Str),("_law_family_here" : Str)] by decide +kernel) rfl (Or.inl (lookup_relabel_local rfl)) (.inr (lookup_relabel_local rfl))) (cB (aQ (i:=1) (show List.Nodup [("_law_number" : Str),("_law_k" : Str),("_law_family_here" : Str)] by decide +kernel) rfl (Or.inl (lookup_relabel_local rfl)) (.inr (lookup_relabel_local rfl))) jr))),fun _ _ _ _ _=>bN,fun _ _ _ _ _=>(aZ (jL (K:=K) rfl) (pv 2) (pv 1) (fun _ _=>rfl))⟩ (eZ (pv 8))) au))))))))),?_⟩
  refine⟨_,rfl,p,6,rfl,hp,by decide,by decide,fun sh a1 b1 c1 l1 u1=>?_⟩
  refine⟨_,rfl,_,rfl,_,rfl,p,n,rfl,Pu.upd,by omega,by omega,fun r a2 b2 c2 l2 u2=>⟨_,_,rfl,rfl,Nat.zero_le _,fun u hu=>?_⟩⟩
  rw [bR] at hu ⊢
  have pu:p≠u:=Pu.upd.neN hu
  have hu0:H u=none:=by rw [aA pu.symm] at hu; exact hu
  refine⟨p,u,[],1+r,rfl,Pu.upd.aA pu,ak,by omega,by show 0+_≤25; omega,fun l ns H1 hl hns nd nwd hl1 o1 p1=>?_⟩
  have o1:Off p H H1:=(Off.upd.trans (Off.new hu)).trans o1
  have lp:l≠p:=p1.ne hl1
  have hlH:H l=none:=by
   rw [aA (show l≠u from fun e=>by rw [e,ak] at hl; cases hl),aA lp] at hl
   exact hl
  have hns7:ns.length≤7:=by omega
  refine⟨Nat.zero_le _,fun fa hfa=>?_⟩
  have pf:p≠fa:=p1.neN hfa
  have lf:l≠fa:=aB hl1 hfa
  have hfH:H fa=none:=by
   cases q:H fa with
   | none=>rfl
   | some o=>
    rw [o1 fa o pf.symm q] at hfa
    cases hfa
  refine⟨_,rfl,l,_,rfl,SqL.of (by rw [aA lf]; exact hl1),xR (K:=K) (a:=l) (xs:=ns.map V.str) (fun i σ H2=>∃(rows:Fam) (ys:List V) (v5 v6 v7:Option V),σ=[some (.ref p),some (.int n),some (.int sh),some (.ref l),some (.ref fa),v5,v6,v7,none]∧
   nms rows=ns.take i∧(∀ r∈rows,(∃ j,ns[j]?=some r.1∧∀ e∈r.2,e∈ns.take j)∧r.2.length≤7∧r.2.Nodup)∧H2 fa=some (.lst ys)∧DpL H2 (rows.map jY) ys∧H2 l=some (.lst (ns.map V.str))∧Off p H H2∧Pu H2 p)
   ⟨[],[],_,_,_,rfl,rfl,by simp,ak,.nil,by rw [aA lf]; exact hl1,o1.trans (Off.new hfa),p1.aA pf⟩ (fun i σ H2 _ ⟨_,_,_,_,_,_,_,_,_,_,e,_⟩=>SqL.of e) ?_ ?_⟩
  ·rintro i x σ H2 q0 hi ⟨rows,ys,v5,v6,v7,rfl,hrn,hrs,hf2,dl,hl2,o2,p2⟩ hq0
   have hil:i < ns.length:=by
    have:=(List.getElem?_eq_some_iff.mp hi).1
    rwa [List.length_map] at this
   have ex:x=.str ns[i]:=by
    rw [List.getElem?_map,List.getElem?_eq_getElem hil] at hi
    exact(Option.some.inj hi).symm
   subst ex
   have fp2:fa≠p:=pf.symm
   refine⟨q0,_,rfl,SqT.of ak,rfl,_,_,rfl,_,_,rfl,rfl,?_⟩
   have s0:Same H2 (upd H2 q0 (.tup [.int i,.str ns[i]])):=Same.new hq0
   obtain ⟨ms,em,subm,lenm,ndm⟩:=uc nd none i
   refine⟨_,rfl,_,rfl,_,rfl,_,rfl,l,_,rfl,SqL.of (s0 l _ hl2),fun m hm=>?_⟩
   have s1:=s0.trans (Same.new (o:=.lst (gb (ns.map V.str) none (some (i:Int)))) hm)
   refine⟨p,m,ms,4,rfl,p2.same s1,by rw [ak,em],by decide,by omega,fun q es H4 hq sub nde len o4 p4=>?_⟩
   have o4:Off p H2 H4:=s1.off.trans o4
   refine⟨Eld (fun v=>[some (.ref p),some (.int n),some (.int sh),some (.ref l),some (.ref fa),some (.int i),some (.str ns[i]),some v,none]) (ns.take i) p H2,?_,?_⟩
   ·refine⟨_,rfl,rfl,_,rfl,jJ (fun hb=>?_) (fun hb=>⟨q,es,rfl,hq,fun x hx=>subm x (sub x hx),⟨by omega,nde⟩,o4,p4⟩)⟩
    refine⟨_,rfl,_,rfl,_,_,rfl,rfl,_,_,rfl,_,rfl,_,rfl,_,rfl,l,_,rfl,SqL.of (o4 l _ lp hl2),fun m2 hm2=>⟨m2,_,rfl,.inl ⟨SqL.of ak,fun q2 hq2=>?_⟩⟩⟩
    obtain ⟨ms2,em2,sub2,len2,nd2⟩:=uc nd (some (if (i:Int) - 1 > 0 then (i:Int) - 1 else 0)) i
    have p5:=p4.aA (o:=.lst (gb (ns.map V.str) (some (if (i:Int) - 1 > 0 then (i:Int) - 1 else 0)) (some (i:Int)))) (p4.neN hm2)
    exact⟨q2,ms2,rfl,by rw [ak,em2],sub2,⟨by omega,nd2⟩,o4.trans ((Off.new hm2).trans (Off.new hq2)),p5.aA (p5.neN hq2)⟩
   ·rintro σ' H5 ⟨q5,es5,rfl,hq5,sub5,len5,o5,p5⟩
    refine⟨Eld (fun v=>[some (.ref p),some (.int n),some (.int sh),some (.ref l),some (.ref fa),some (.int i),some (.str ns[i]),some v,none]) (ns.take i) p H2,?_,?_⟩
    ·refine⟨_,rfl,rfl,_,rfl,jJ (fun hb=>?_) (fun hb=>⟨q5,es5,rfl,hq5,sub5,len5,o5,p5⟩)⟩
     refine⟨_,rfl,_,rfl,_,_,rfl,rfl,_,_,rfl,_,rfl,_,rfl,_,rfl,l,_,rfl,SqL.of (o5 l _ lp hl2),fun m2 hm2=>?_⟩
     obtain ⟨ms2,em2,sub2,len2,nd2⟩:=uc nd (some (if (i:Int) - 3 > 0 then (i:Int) - 3 else 0)) i
     have p6:=p5.aA (o:=.lst (gb (ns.map V.str) (some (if (i:Int) - 3 > 0 then (i:Int) - 3 else 0)) (some (i:Int)))) (p5.neN hm2)
     refine⟨_,rfl,p,2,rfl,p6,by decide,by decide,fun r7 a7 b7 c7 l7 u7=>⟨_,_,rfl,rfl,.inl ⟨by decide,by decide⟩,_,_,rfl,rfl,m2,_,_,rfl,rfl,SqL.of (by rw [aA (p5.neN hm2).symm,ak]),?_⟩⟩
     have o7:Off p H2 (upd (upd H5 m2 (.lst (gb (ns.map V.str) (some (if (i:Int) - 3 > 0 then (i:Int) - 3 else 0)) (some (i:Int))))) p (.lst [.int a7,.int b7,.int c7])):=o5.trans ((Off.new hm2).trans Off.upd)
     rcases (by omega:r7=0∨r7=1) with rfl | rfl
     ·refine .inl ⟨by decide,fun q6 hq6=>⟨q6,_,rfl,.inl ⟨SqL.of ak,fun q8 hq8=>?_⟩⟩⟩
      have p8:=(Pu.upd (H:=upd H5 m2 (.lst (gb (ns.map V.str) (some (if (i:Int) - 3 > 0 then (i:Int) - 3 else 0)) (some (i:Int))))) (p:=p) (a:=a7) (b:=b7) (c:=c7)).aA (o:=.lst (gb (ns.map V.str) (some (if (i:Int) - 3 > 0 then (i:Int) - 3 else 0)) (some (i:Int)))) (Pu.upd.neN hq6)
      exact⟨q8,ms2,rfl,by rw [ak,em2],sub2,⟨by omega,nd2⟩,o7.trans ((Off.new hq6).trans (Off.new hq8)),p8.aA (p8.neN hq8)⟩
     ·refine .inr ⟨by decide,fun q6 hq6=>⟨q6,_,rfl,.inl ⟨SqL.of ak,fun q8 hq8=>?_⟩⟩⟩
      have p8:=(Pu.upd (H:=upd H5 m2 (.lst (gb (ns.map V.str) (some (if (i:Int) - 3 > 0 then (i:Int) - 3 else 0)) (some (i:Int))))) (p:=p) (a:=a7) (b:=b7) (c:=c7)).aA (o:=.lst (gb (ns.map V.str) (some (if (i:Int) - 3 > 0 then (i:Int) - 3 else 0)) (some (i:Int))).reverse) (Pu.upd.neN hq6)
      exact⟨q8,ms2.reverse,rfl,by rw [ak,em2,List.map_reverse],fun x hx=>sub2 x (List.mem_reverse.mp hx),⟨by rw [List.length_reverse]; omega,(List.reverse_perm ms2).nodup_iff.mpr nd2⟩,o7.trans ((Off.new hq6).trans (Off.new hq8)),p8.aA (p8.neN hq8)⟩
    ·rintro σ' H7 ⟨q7,es7,rfl,hq7,sub7,len7,o7,p7⟩
     have hf7:H7 fa=some (.lst ys):=o7 fa _ fp2 hf2
     have hyl:ys.length=i:=by
      have e1:=dl.length
      rw [List.length_map] at e1
      have e2:=congrArg List.length hrn
      rw [List.length_map,List.length_take] at e2
      omega
     refine⟨_,rfl,.inl ⟨rfl,_,SqL.of hf7⟩,_,rfl,_,rfl,by show 2≤sizeLine; decide,fun q8 hq8=>⟨fa,ys,.ref q8,rfl,rfl,by rw [aA (aB hf7 hq8)]; exact hf7,by omega,?_⟩⟩
     have tu:gn H7 (upd (upd H7 q8 (.tup [.str ns[i],.ref q7])) fa (.lst (ys++[.ref q8]))):=fun c zs e=>by
      rw [aA (eU e hf7 (fun z=>nomatch z)),aA (aB e hq8)]
      exact e
     have tu0:gn H2 H7:=fun c zs e=>by
      obtain ⟨a,b,cc,ep⟩:=p2
      exact o7 c _ (eU e ep (fun z=>nomatch z)) e
     have q8f:q8≠fa:=fun e=>by
      rw [e,hf7] at hq8
      cases hq8
     refine⟨rows++[(ns[i],es7)],ys++[.ref q8],_,_,_,rfl,?_,?_,ak,?_,?_,?_,?_⟩
     ·show List.map (·.1) (rows++[(ns[i],es7)])=_
      rw [List.map_append]
      show nms rows++[ns[i]]=_
      rw [hrn,List.take_succ,List.getElem?_eq_getElem hil]
      rfl
     ·intro r hr'
      rcases List.mem_append.mp hr' with h | h
      ·exact hrs r h
      ·rw [List.mem_singleton.mp h]
       exact⟨⟨i,List.getElem?_eq_getElem hil,sub7⟩,len7⟩
     ·rw [List.map_append]
      refine((dl.mono (tu0.trans tu)).append (.cons (K12.Dp.row (e:=q7) ?_ (tu q7 _ hq7)) .nil))
      rw [aA q8f,ak]
     ·have h7:H7 l=some (.lst (ns.map V.str)):=o7 l _ lp hl2
      rw [aA lf,aA (aB h7 hq8)]
      exact h7
     ·intro b o hb e
      rw [aA (aB e hfH)]
      exact(Off.new hq8:L2.Off p _ _) b o hb (o7 b o hb (o2 b o hb e))
     ·exact(p7.aA (p7.neN hq8)).aA pf
  ·rintro σ H2 ⟨rows,ys,v5,v6,v7,rfl,hrn,hrs,hf2,dl,hl2,o2,p2⟩
   have hrn:nms rows=ns:=by rw [hrn,List.length_map,List.take_of_length_le (Nat.le_refl _)]
   have hrl:rows.length=ns.length:=by rw [← hrn]; exact(List.length_map _).symm
   have good:fX rows:=⟨by rw [hrn]; exact nd,fun r hr e he=>by obtain ⟨⟨j,_,h⟩,_⟩:=hrs r hr; rw [hrn]; exact List.mem_of_mem_take (h e he),by omega,by omega,fun r hr=>(hrs r hr).2.1,fun r hr=>(hrs r hr).2.2,⟨ns,nd,fun x=>by rw [hrn],fun r hr=>(hrs r hr).1⟩,fun x hx=>(nwd x (by rw [← hrn]; exact hx)).2⟩
   have hyl:ys.length=rows.length:=by have:=dl.length; rwa [List.length_map] at this
   refine⟨_,rfl,fa,_,rfl,.inl (SqL.of hf2),_,rfl,by omega,by omega,fun Dd hD=>?_⟩
   have pD:p≠Dd:=p2.neN hD
   have fD:fa≠Dd:=aB hf2 hD
   have hDH:H Dd=none:=by
    cases q:H Dd with
    | none=>rfl
    | some o=>
     rw [o2 Dd o pD.symm q] at hD
     cases hD
   have fp2:fa≠p:=pf.symm
   refine bw (n:=((ys.length:Nat):Int).toNat) (fun i zs H3=>Paired (AtJ H3) zs (List.range i)∧H3 Dd=some (.lst zs)∧H3 fa=some (.lst ys)∧DpL H3 (rows.map jY) ys∧Off p H H3∧Pu H3 p)
    ⟨.nil,ak,by rw [aA fD]; exact hf2,dl.mono (Same.tups (Same.new hD)),o2.trans (Off.new hD),p2.aA pD⟩ ?_ ?_
   ·rintro zs H3 ⟨pz,hD3,hf3,dl3,o3,p3⟩
    have hzl:zs.length=ys.length:=by have:=Paired.length pz; rw [List.length_range] at this; omega
    refine⟨Nat.le_refl _,Dd,zs,rfl,SqL.of hD3,by omega,?_,fun d qs pq hd=>?_⟩
    ·intro z hz'
     obtain ⟨i,hi,rfl⟩:=List.getElem_of_mem hz'
     obtain ⟨q,j,e,hq⟩:=eV pz i hi (by rw [← Paired.length pz]; exact hi)
     exact⟨q,j,_,e,hq,by unfold Ip; rw [if_neg Bool.false_ne_true]; exact⟨_,rfl⟩⟩
    obtain ⟨js,pj,pqj⟩:=K12.Paired.perm pq pz
    have pd:p≠d:=p3.neN hd
    have fd:fa≠d:=aB hf3 hd
    have hql:qs.length=ys.length:=by rw [pq.length_eq]; exact hzl
    have hjl:js.length=qs.length:=(Paired.length pqj).symm
    have hjm:∀ j∈js,j < rows.length:=fun j hj=>by
     have:=List.mem_range.mp (pj.mem_iff.mp hj)
     omega
    refine⟨_,rfl,d,rfl,⟨_,SqL.of ak⟩,fun D2 hD2=>?_⟩
    have dD2:d≠D2:=aB ak hD2
    have s4:Same H3 (upd H3 d (.lst qs)):=Same.new hd
    have fD2:fa≠D2:=aB (s4 fa _ hf3) hD2
    have p4:Pu (upd H3 d (.lst qs)) p:=p3.same s4
    have s5:∀ o,Same H3 (upd (upd H3 d (.lst qs)) D2 o):=fun o=>s4.trans (Same.new hD2)
    refine bw (n:=qs.length) (fun i ws H5=>ws=(js.take i).map (fun j=>ys.getD j .non)∧H5=upd (upd H3 d (.lst qs)) D2 (.lst ws)) ⟨rfl,rfl⟩ ?_ ?_
    ·rintro ws H5 ⟨rfl,rfl⟩
     rw [List.take_of_length_le (by omega)]
     refine⟨⟨_,SqL.of (by rw [aA dD2,ak]),Nat.le_refl _⟩,D2,_,rfl,.inl ⟨SqL.of ak,fun q hq=>?_⟩⟩
     have s6:=(s5 (.lst (js.map fun j=>ys.getD j .non))).trans (Same.new (o:=.tup (js.map fun j=>ys.getD j .non)) hq)
     refine k (.ref q) (js.map fun j=>rows.getD j ("",[])) _ (L2.Dp.tup ak ?_) (good.perm ?_) (by rw [List.length_map]; omega) (o3.trans s6.off) (p3.same s6)
     ·have key:∀ js:List Nat,(∀ j∈js,j < rows.length)→DpL H3 ((js.map fun j=>rows.getD j ("",[])).map jY) (js.map fun j=>ys.getD j .non):=by
       intro js
       induction js with
       | nil=>exact fun _=>.nil
       | cons j js ih=>
        intro h
        have hj:j < rows.length:=h j List.mem_cons_self
        obtain ⟨y,ey,dy⟩:=dl3.get (i:=j) (t:=jY rows[j]) (by rw [List.getElem?_map,List.getElem?_eq_getElem hj]; rfl)
        have e1:rows.getD j ("",[])=rows[j]:=by simp [hj]
        have e2:ys.getD j .non=y:=by rw [List.getD_eq_getElem?_getD,ey]; rfl
        rw [List.map_cons,List.map_cons,List.map_cons,e1,e2]
        exact .cons dy (ih fun j' h'=>h j' (List.mem_cons_of_mem _ h'))
      exact(key js hjm).mono (Same.tups s6)
     ·have:=pj.map fun j=>rows.getD j ("",[])
      have e3:(List.range ((ys.length:Nat):Int).toNat).map (fun j=>rows.getD j ("",[]))=rows:=by
       apply List.ext_getElem (by rw [List.length_map,List.length_range]; omega)
       intro i a b
       simp [b]
      rw [e3] at this
      exact this
    ·rintro i ws H5 hi ⟨rfl,rfl⟩
     have ei:qs[i]?=some qs[i]:=List.getElem?_eq_getElem hi
     have hd5:(upd (upd H3 d (.lst qs)) D2 (.lst ((js.take i).map fun j=>ys.getD j .non))) d=some (.lst qs):=by rw [aA dD2,ak]
     refine⟨⟨_,_,SqL.of hd5,ei⟩,?_⟩
     rintro y H6 ⟨rfl,yy⟩ σo ho
     obtain ⟨o,o',rfl⟩:=FT ho
     have ey:=yy _ (SqL.of hd5)
     rw [ei] at ey
     have ey:=(Option.some.inj ey).symm
     have hij:i < js.length:=by omega
     obtain ⟨q',r',e,hq'⟩:=eV pqj i hi hij
     rw [e] at ey
     subst ey
     have hj:=hjm js[i] (List.getElem_mem hij)
     have ey:ys[js[i]]?=some ys[js[i]]:=List.getElem?_eq_getElem (by omega)
     refine⟨q',_,rfl,SqT.of (s5 _ q' _ hq'),rfl,_,_,rfl,_,_,rfl,rfl,⟨[_,_],rfl,rfl⟩,cV ⟨_,rfl,_,rfl,fa,ys,_,_,rfl,rfl,SqL.of (s5 _ fa _ hf3),aV ey,by rw [List.length_map,List.length_take]; omega,ak,aX hi ⟨?_,by rw [bR]⟩⟩⟩
     rw [List.take_succ,List.getElem?_eq_getElem hij,List.map_append]
     congr 1
     show [ys[js[i]]]=[ys.getD js[i] .non]
     rw [List.getD_eq_getElem?_getD,ey]
     rfl
   ·rintro i zs H3 hi ⟨pz,hD3,hf3,dl3,o3,p3⟩
    refine⟨hi,?_⟩
    rintro x H4 ⟨rfl,rfl⟩ σo ho
    obtain ⟨o,rfl⟩:=own1 ho
    have hzl:zs.length=i:=by have:=Paired.length pz; rwa [List.length_range] at this
    refine⟨⟨[_],rfl,rfl⟩,cV ⟨_,rfl,p,997,rfl,p3,by decide,by decide,fun r a4 b4 c4 l4 u4=>⟨_,rfl,by show 2≤sizeLine; decide,fun q hq=>?_⟩⟩⟩
    have qD:q≠Dd:=by
     intro e
     rw [e,aA pD.symm,hD3] at hq
     cases hq
    have qp:q≠p:=fun e=>by
     rw [e,ak] at hq
     cases hq
    rw [aA qp] at hq
    have tu:∀ o,gn H4 (upd (upd (upd H4 p (.lst [.int a4,.int b4,.int c4])) q (.tup [.int r,.int (0+(i:Int))])) Dd (.lst o)):=fun o c zs' e=>by
     obtain ⟨a,b,cc,ep⟩:=p3
     rw [aA (eU e hD3 (fun z=>nomatch z)),aA (aB e hq),aA (eU e ep (fun z=>nomatch z))]
     exact e
    refine⟨by omega,by rw [aA qD.symm,aA pD.symm]; exact hD3,aX hi ⟨?_,ak,?_,dl3.mono (tu _),?_,?_⟩⟩
    ·rw [List.range_succ]
     have key:∀ {as:List V} {bs:List Nat} {y:V} {j:Nat} {F:V→Nat→Prop},Paired F as bs→F y j→Paired F (as++[y]) (bs++[j]):=by
      intro as bs y j F h hy
      induction h with
      | nil=>exact .cons hy .nil
      | cons a _ ih=>exact .cons a ih
     refine key (Paired.oZ pz fun y j ⟨q',r',e,hq'⟩=>⟨q',r',e,tu _ q' _ hq'⟩) ⟨q,r,rfl,?_⟩
     rw [aA qD,ak]
     simp
    ·rw [aA fD,aA (aB hf3 hq),aA fp2]
     exact hf3
    ·intro b o hb e
     rw [aA (aB e hDH),aA (fun z=>by rw [← z] at hq; rw [o3 b o hb e] at hq; cases hq),aA hb]
     exact o3 b o hb e
    ·exact(Pu.upd.aA qp.symm).aA pD
end
end K12
end
section
set_option autoImplicit false
namespace K12
open PySem L2
noncomputable def qM (rows:List (List Str)):Option (List Str):=open Classical in if h:∃ r,Mg rows r then Classical.choose h else none
theorem vH{rows:List (List Str)}{r:Option (List Str)}(h:Mg rows r):qM rows=r:=by
 unfold qM
 rw [dif_pos ⟨r,h⟩]
 exact Mg.det (Classical.choose_spec (⟨r,h⟩:∃ r,Mg rows r)) h
def Dt(f:Fam)(x:Str):List Str:=((f.find? fun r=>decide (r.1=x)).map (·.2)).getD []
theorem qe:∀ {f:Fam},(nms f).Nodup→∀ r∈f,Dt f r.1=r.2
 | [],_,_,h=>nomatch h
 | r0::f,nd,r,hr=>by
  have nd':(r0.1::nms f).Nodup:=nd
  obtain ⟨n1,n2⟩:=List.nodup_cons.mp nd'
  unfold Dt
  rw [List.find?_cons]
  rcases List.mem_cons.mp hr with rfl | h
  ·rw [decide_eq_true rfl]
   rfl
  ·have ne:¬ r0.1=r.1:=fun e=>n1 (e ▸ List.mem_map.mpr ⟨r,h,rfl⟩)
   rw [decide_eq_false ne]
   exact qe n2 r h
def d9(g:Str→Option (List Str))(es:List Str):List (List Str):=es.map (fun e=>(g e).getD [])++[es]
noncomputable def m6 (f:Fam):Nat→Str→Option (List Str)
 | 0,_=>none
 | n+1,x=>if (Dt f x).all (fun e=>(m6 f n e).isSome)=true then (qM (full (d9 (m6 f n) (Dt f x)))).map (x::·) else none
variable {f:Fam}
theorem vY{l:List Str}(h:l.Nodup){i j:Nat}{x:Str}(a:l[i]?=some x)(b:l[j]?=some x):i=j:=by
 obtain ⟨h1,e1⟩:=List.getElem?_eq_some_iff.mp a
 obtain ⟨h2,e2⟩:=List.getElem?_eq_some_iff.mp b
 exact(List.getElem_inj h).mp (e1.trans e2.symm)
theorem kh{l:List Str}{j:Nat}{x:Str}(h:x∈l.take j):∃ i,i < j∧l[i]?=some x:=by
 obtain ⟨i,hi,e⟩:=List.getElem_of_mem h
 rw [List.length_take] at hi
 refine⟨i,by omega,?_⟩
 rw [← e,List.getElem_take]
 exact List.getElem?_eq_getElem (by omega)
theorem FQ(G:fX f){top:List Str}(t0:top.Nodup)(t1:∀ x,x∈top↔x∈nms f)(t2:∀ r∈f,∃ j,top[j]?=some r.1∧∀ e∈r.2,e∈top.take j) :
  ∀(j:Nat) (x:Str),top[j]?=some x→∀ n m,j < n→j < m→m6 f n x=m6 f m x:=by
 intro j
 induction j using Nat.strongRecOn with
 | ind j ih=>
  intro x hx n m hn hm
  obtain ⟨n,rfl⟩:∃ n',n=n'+1:=⟨n - 1,by omega⟩
  obtain ⟨m,rfl⟩:∃ m',m=m'+1:=⟨m - 1,by omega⟩
  have hxn:x∈nms f:=(t1 x).mp (List.mem_of_getElem? hx)
  obtain ⟨r,hr,rfl⟩:=List.mem_map.mp hxn
  have ee:=qe G.nd r hr
  obtain ⟨j',h1,h2⟩:=t2 r hr
  have ej:=vY t0 hx h1
  subst ej
  have same:∀ e∈r.2,m6 f n e=m6 f m e:=fun e he=>by
   obtain ⟨i,hi,ei⟩:=kh (h2 e he)
   exact ih i hi e ei n m (by omega) (by omega)
  unfold m6
  rw [ee]
  have c1:r.2.all (fun e=>(m6 f n e).isSome)=r.2.all (fun e=>(m6 f m e).isSome):=by
   apply Bool.eq_iff_iff.mpr
   rw [List.all_eq_true,List.all_eq_true]
   exact⟨fun h e he=>by rw [← same e he]; exact h e he,fun h e he=>by rw [same e he]; exact h e he⟩
  have c2:d9 (m6 f n) r.2=d9 (m6 f m) r.2:=by
   unfold d9
   congr 1
   exact List.map_congr_left fun e he=>by rw [same e he]
  rw [c1,c2]
noncomputable def cX (f:Fam):Str→Option (List Str):=m6 f 8
theorem zU(G:fX f){r:Str × List Str}(hr:r∈f):cX f r.1=if r.2.all (fun e=>(cX f e).isSome)=true then (qM (full (d9 (cX f) r.2))).map (r.1::·) else none:=by
 obtain ⟨top,t0,t1,t2⟩:=G.Dl
 have tl:top.length≤7:=by
  have h1:=dO t0 (m:=nms f) fun x hx=>(t1 x).mp hx
  have h2:(nms f).length=f.length:=List.length_map _
  have:=G.len
  omega
 have same:∀ e∈r.2,m6 f 7 e=cX f e:=fun e he=>by
  obtain ⟨j,h1,h2⟩:=t2 r hr
  obtain ⟨i,hi,ei⟩:=kh (h2 e he)
  have hil:=(List.getElem?_eq_some_iff.mp ei).1
  exact FQ G t0 t1 t2 i e ei 7 8 (by omega) (by omega)
 show m6 f 8 r.1=_
 unfold m6
 rw [qe G.nd r hr]
 have c1:r.2.all (fun e=>(m6 f 7 e).isSome)=r.2.all (fun e=>(cX f e).isSome):=by
  apply Bool.eq_iff_iff.mpr
  rw [List.all_eq_true,List.all_eq_true]
  exact⟨fun h e he=>by rw [← same e he]; exact h e he,fun h e he=>by rw [same e he]; exact h e he⟩
 have c2:d9 (m6 f 7) r.2=d9 (cX f) r.2:=by
  unfold d9
  congr 1
  exact List.map_congr_left fun e he=>by rw [same e he]
 rw [c1,c2]
end K12
end
section
set_option autoImplicit false
namespace K12
open PySem L2
def Jr(f:Fam)(a b:Str):Prop:=∃ r∈f,r.1=a∧b∈r.2
inductive Reach (f:Fam):Str→Str→Prop where
 | one {a b:Str}:Jr f a b→Reach f a b
 | step {a b c:Str}:Jr f a b→Reach f b c→Reach f a c
def zx(f:Fam):Nat→Str→Str→Prop
 | 0,_,_=>False
 | k+1,a,b=>Jr f a b∨∃ c,Jr f a c∧zx f k c b
variable {f:Fam}
structure OJ (f:Fam) (m i:Nat) (cs:Str→List Str):Prop where
 sound:∀ x∈nms f,∀ y∈cs x,Reach f x y
 low:∀ x∈nms f,∀ y,zx f m x y→y∈cs x
 high:∀ x∈(nms f).take i,(∀ y,zx f (m+m) x y→y∈cs x)∧∃ p:Str→Bool,cs x=(nms f).filter p
 len:∀ x∈nms f,(cs x).length≤7
def Oz(f:Fam)(cs:Str→List Str)(x:Str):List Str:=(nms f).filter fun o=>((cs x).map cs++[cs x]).any fun way=>decide (o∈way)
noncomputable def above (f:Fam) (x:Str):List Str:=(nms f).filter fun o=>dcd (Reach f x o)
noncomputable def below (f:Fam) (x:Str):List Str:=(nms f).filter fun o=>dcd (Reach f o x)
end K12
end
section
set_option autoImplicit false
namespace K12
open PySem PyProof.Rows L2
theorem lA{κ:Type}[DecidableEq κ]:∀ {kvs:List (κ × V)} {k:κ},(dM kvs k).isSome=true↔k∈kvs.map (·.1)
 | [],k=>by simp [dM]
 | p::kvs,k=>by
  by_cases e:p.1=k
  ·rw [eG e]
   simp [e]
  ·rw [eO e,lA]
   have:¬ k=p.1:=fun z=>e z.symm
   simp [this]
def gH(rs:List Str):List (Key × V):=rs.map fun y=>(.inr y,.bl true)
theorem iY(rs:List Str)(x:Str):(dM (gH rs) (.inr x)).isSome=true↔x∈rs:=by
 rw [lA]
 unfold gH
 rw [List.map_map,List.mem_map]
 constructor
 ·rintro ⟨y,hy,e⟩
  have e:(Sum.inr y:Key)=Sum.inr x:=e
  injection e with e
  exact e ▸ hy
 ·exact fun h=>⟨x,h,rfl⟩
theorem tG{rs:List Str}{x:Str}(h:¬ x∈rs):putK (gH rs) (.inr x) (.bl true)=gH (rs++[x]):=by
 have hn:dM (gH rs) (.inr x)=none:=by
  cases q:dM (gH rs) (.inr x) with
  | none=>rfl
  | some y=>exact absurd ((iY rs x).mp (by rw [q]; rfl)) h
 rw [tU _ hn]
 unfold gH
 rw [List.map_append]
 rfl
theorem Ep{rs:List Str}{x:Str}(h:x∈rs):putK (gH rs) (.inr x) (.bl true)=gH rs:=by
 unfold putK
 rw [if_pos (by rw [lF]; exact(iY rs x).mpr h)]
 unfold gH
 rw [List.map_map]
 apply List.map_congr_left
 intro y _
 show (if (Sum.inr y:Key)=Sum.inr x then (Sum.inr y,V.bl true) else (Sum.inr y,V.bl true))=_
 split <;> rfl
theorem FW(rs:List Str)(x:Str):∃ rs',putK (gH rs) (.inr x) (.bl true)=gH rs'∧(∀ y,y∈rs'↔y∈rs∨y=x)∧rs'.length≤rs.length+1:=by
 by_cases h:x∈rs
 ·exact⟨rs,Ep h,fun y=>⟨.inl,fun z=>z.elim id fun e=>e ▸ h⟩,Nat.le_succ _⟩
 ·refine⟨rs++[x],tG h,fun y=>?_,by rw [List.length_append]; exact Nat.le_refl _⟩
  rw [List.mem_append,List.mem_singleton]
section
variable {P:Program}{w:World}{K:PySem.W.Frag}{mg:Str→Option Value}{base:Heap}{t:Adr}
def yt(H:Hp)(v:V)(r:List Str):Prop:=∃ a,v=.ref a∧(H a=some (.lst (r.map V.str))∨(H a=some (.tup (r.map V.str))∧r≠[]))
def mD(H:Hp)(vs:List V)(rows:List (List Str)):Prop:=Paired (yt H) vs rows
theorem mD.mono{H H':Hp}{vs:List V}{rows:List (List Str)}(h:mD H vs rows)(s:Same H H'):mD H' vs rows:=Paired.oZ h fun v r ⟨a,e,q⟩=>⟨a,e,q.elim (fun z=>.inl (s a _ z)) fun z=>.inr ⟨s a _ z.1,z.2⟩⟩
theorem mD.get{H:Hp}{vs:List V}{rows:List (List Str)}(h:mD H vs rows){i:Nat}{v:V}(e:vs[i]?=some v):∃(hr:i < rows.length),yt H v rows[i]:=by
 have hi:=(List.getElem?_eq_some_iff.mp e).1
 have hr:i < rows.length:=by rw [← Paired.length h]; exact hi
 have q:=eV h i hi hr
 rw [List.getElem?_eq_getElem hi] at e
 cases e
 exact⟨hr,q⟩
theorem yt.cut{K:PySem.W.Frag}{H:Hp}{v:V}{r:List Str}(h:yt H v r){Q:VK}(q:∀(p:Addr) H',gB H' (.ref p) ((r.drop 1).map V.str)→Same H H'→Q (.ref p) H'):Ko K v (some 1) none H Q∨Ie K v (some 1) none H Q:=by
 obtain ⟨a,rfl,h⟩:=h
 rcases h with h | ⟨h,hne⟩
 ·refine .inr ⟨a,_,rfl,SqL.of h,fun p hp=>q p _ ⟨p,rfl,.inl (by rw [ak,Ja])⟩ (Same.new hp)⟩
 ·refine .inl ⟨a,_,rfl,SqT.of h,fun z=>?_,fun p hp=>q p _ ⟨p,rfl,.inr (by rw [ak,Ja])⟩ (Same.new hp)⟩
  have e1:HT.sIx (r.map V.str).length 0 (some 1)=min 1 (r.map V.str).length:=HT.rP _ 0 1
  rw [e1,List.length_map] at z
  cases r with
  | nil=>exact hne rfl
  | cons y r=>simp at z
theorem yt.at0{K:PySem.W.Frag}{H:Hp}{v:V}{y:Str}{r:List Str}(h:yt H v (y::r)){Q:VK}(q:Q (.str y) H):Jg K v (.int 0) H Q∨IW K v (.int 0) H Q:=by
 obtain ⟨a,rfl,h⟩:=h
 rcases h with h | ⟨h,_⟩
 ·exact .inr ⟨a,_,0,_,rfl,rfl,SqL.of h,L2.at0 y r,q⟩
 ·exact .inl ⟨a,_,0,_,rfl,rfl,SqT.of h,L2.at0 y r,q⟩
theorem yt.tru{K:PySem.W.Frag}{H:Hp}{v:V}{r:List Str}(h:yt H v r):Ju K v H (!r.isEmpty):=by
 obtain ⟨a,rfl,h⟩:=h
 have e:(!(r.map V.str).isEmpty)=!r.isEmpty:=by cases r <;> rfl
 rcases h with h | ⟨h,_⟩
 ·exact .inl ⟨_,SqL.of h,e.symm⟩
 ·exact .inr (.inl ⟨_,SqT.of h,e.symm⟩)
theorem FN(rows:List (List Str))(k:Nat):tot (rows.take k)≤tot rows:=by
 have e:tot rows=tot (rows.take k)+tot (rows.drop k):=by
  unfold tot
  rw [← List.sum_append,← List.map_append,List.take_append_drop]
 omega
def Mh(l:List Str):V:=match l with
 | []=>.non
 | x::_=>.str x
def BJ:Sp:=fun vs H Q _=>∃(l:Addr) (us:List V) (rows:List (List Str)),vs=[.ref l]∧gB H (.ref l) us∧mD H us rows∧tot rows≤2000∧rows.length≤1000∧∀ H',Same H H'→Q (Mh (frees rows)) H'
theorem Fo(D:Defs K mg t):aU P w K mg base CX0 1 t.fG.1 t.fG.2 ["left"] BJ:=by
 have hz:sizeLine=16777216:=sizeLine_eq
 refine D.fG.fn.ok iz (fun vs H Q E h=>?_) (fun cdv A outer s H vs Q E hr h=>?_)
 ·obtain ⟨l,us,rows,rfl,_⟩:=h
  rfl
 ·obtain ⟨l,us,rows,rfl,hl,hrows,htot,hlen,k⟩:=h
  have hul:us.length=rows.length:=Paired.length hrows
  refine⟨_,(aC (aP (i:=1) iz.nd rfl (Or.inl rfl) jt)
   (aC (gZ PassesOwn.never rfl (qQ (K:=K) (pv 0) rfl) (aQ (i:=2) iz.nd rfl (Or.inl rfl))
   (aH (gZ PassesOwn.never rfl (qQ (K:=K) (bZ (BR (K:=K) rfl) (pv 2) (cI aG) dh) rfl) (aQ (i:=3) iz.nd rfl (Or.inl rfl))
   (aH (lM (fB hr) (pv 1) (pv 3) gk rfl)))))
   (aC (gZ PassesOwn.never rfl (qQ (K:=K) (pv 0) rfl) (aQ (i:=2) iz.nd rfl (Or.inl rfl))
   (aH (cC (PW.pt (Gm (qb (pv 2) (by intro _; rfl)) (Bx (wg (nF (fB hr) (aZ (pJ (K:=K) rfl) (pv 2) aG (fun _ _=>rfl)) (pv 1))))))
   (aH (aR (aZ (pJ (K:=K) rfl) (pv 2) aG (fun _ _=>rfl))))
   bx)))
   (aH (aR mW))))),?_⟩
  intro hd hhd
  have s0:∀ o,Same H (upd H hd o):=fun o=>Same.new hhd
  have kl:∀ {H2:Hp},Same H H2→∀ o,(upd H hd (.dK [])) l=some o→H2 l=some o:=fun {H2} s o e=>by
   obtain ⟨p,ep,h⟩:=hl
   cases ep
   have hlh:l≠hd:=by
    rcases h with h | h
    ·exact aB h hhd
    ·exact aB h hhd
   rw [aA hlh] at e
   exact s l o e
  refine⟨_,rfl,l,rfl,vO (K:=K) (hl.same (s0 _)) (fun i σ H2=>∃(rs:List Str) (v2 v3:Option V),σ=[some (.ref l),some (.ref hd),v2,v3]∧H2 hd=some (.dK (gH rs))∧(∀ y,y∈rs↔∃ o∈rows.take i,y∈o.drop 1)∧rs.length≤tot (rows.take i)∧Same H H2)
   ⟨[],_,_,rfl,ak,by simp,Nat.zero_le _,s0 _⟩ (fun i σ H2 _ ⟨_,_,_,_,_,_,_,s⟩=>kl s) ?_ ?_⟩
  ·rintro i x σ H2 hi ⟨rs,v2,v3,rfl,hh2,mem,rl,sm⟩
   obtain ⟨hir,ha⟩:=(hrows.mono sm).get hi
   have hri:(rows[i]).length+tot (rows.take i)=tot (rows.take (i+1)):=by
    rw [take_snoc hir]
    unfold tot
    rw [List.map_append,List.sum_append]
    simp
    omega
   have htl:tot (rows.take (i+1))≤tot rows:=by
    exact FN rows (i+1)
   refine⟨_,rfl,_,rfl,ha.cut fun p H3 hp s3=>⟨p,rfl,?_⟩⟩
   have sm3:Same H H3:=sm.trans s3
   refine vO (K:=K) hp (fun j σ H4=>∃ (rs':List Str) (v3:Option V),σ=[some (.ref l),some (.ref hd),some x,v3]∧H4 hd=some (.dK (gH rs'))∧(∀ y,y∈rs'↔y∈rs∨y∈((rows[i]).drop 1).take j)∧rs'.length≤rs.length+j∧∀ b u,b≠hd→H3 b=some u→H4 b=some u)
    ⟨rs,_,rfl,s3 hd _ hh2,by simp,Nat.le_refl _,fun b u _ e=>e⟩ ?_ ?_ ?_
   ·rintro j σ H4 _ ⟨rs',v3,rfl,hh4,_,_,kp⟩ o e
    refine kp p o (fun z=>?_) e
    rw [z] at hp
    obtain ⟨q,eq,h⟩:=hp
    cases eq
    rw [s3 hd _ hh2] at h
    rcases h with h | h <;> cases h
   ·rintro j y σ H4 hj ⟨rs',v3,rfl,hh4,mem',rl',kp⟩
    have hjl:j < ((rows[i]).drop 1).length:=by
     have:=(List.getElem?_eq_some_iff.mp hj).1
     rwa [List.length_map] at this
    have ey:y=.str ((rows[i]).drop 1)[j]:=by
     rw [List.getElem?_map,List.getElem?_eq_getElem hjl] at hj
     exact(Option.some.inj hj).symm
    subst ey
    obtain ⟨rs2,e2,m2,l2⟩:=FW rs' ((rows[i]).drop 1)[j]
    have hjl':=hjl
    rw [List.length_drop] at hjl'
    refine⟨_,rfl,_,rfl,hd,_,rfl,sV.k (k:=.inr ((rows[i]).drop 1)[j]) hh4 (by unfold gH; rw [List.length_map]; omega),rs2,_,rfl,by rw [ak,e2],fun z=>?_,by omega,fun b u hb e=>by rw [aA hb]; exact kp b u hb e⟩
    rw [m2,mem',take_snoc hjl,List.mem_append,List.mem_singleton]
    constructor
    ·rintro ((h | h) | h)
     ·exact .inl h
     ·exact .inr (.inl h)
     ·exact .inr (.inr h)
    ·rintro (h | h | h)
     ·exact .inl (.inl h)
     ·exact .inl (.inr h)
     ·exact .inr h
   ·rintro σ H4 ⟨rs',v3,rfl,hh4,mem',rl',kp⟩
    rw [List.length_map,List.length_drop] at rl'
    refine⟨rs',_,_,rfl,hh4,fun y=>?_,by omega,fun b u e=>kp b u (aB e hhd) (sm3 b u e)⟩
    have et:((rows[i]).drop 1).take (((rows[i]).drop 1).map V.str).length=(rows[i]).drop 1:=List.take_of_length_le (by rw [List.length_map]; exact Nat.le_refl _)
    rw [mem',et,mem,take_snoc hir]
    constructor
    ·rintro (⟨o,h1,h2⟩ | h)
     ·exact⟨o,List.mem_append_left _ h1,h2⟩
     ·exact⟨rows[i],List.mem_append_right _ List.mem_cons_self,h⟩
    ·rintro ⟨o,h1,h2⟩
     rcases List.mem_append.mp h1 with h | h
     ·exact .inl ⟨o,h,h2⟩
     ·rw [List.mem_singleton.mp h] at h2
      exact .inr h2
  ·rintro σ H2 ⟨rs,v2,v3,rfl,hh2,mem,rl,sm⟩
   rw [List.take_of_length_le (by omega)] at mem
   have held:∀ y,(dM (gH rs) (.inr y)).isSome=cG rows y:=fun y=>by
    apply Bool.eq_iff_iff.mpr
    rw [iY,mem]
    unfold cG
    rw [List.any_eq_true]
    exact⟨fun⟨o,h1,h2⟩=>⟨o,h1,decide_eq_true h2⟩,fun⟨o,h1,h2⟩=>⟨o,h1,of_decide_eq_true h2⟩⟩
   refine⟨_,rfl,l,rfl,vO (K:=K) (hl.same sm) (fun i σ H3=>∃(v2 v3:Option V),σ=[some (.ref l),some (.ref hd),v2,v3]∧(rows.take i).flatMap (freeOf rows)=[]∧H3=H2)
    ⟨_,_,rfl,rfl,rfl⟩ (fun i σ H3 _ ⟨_,_,_,_,e⟩ o h=>by rw [e]; exact h) ?_ ?_⟩
   ·rintro i x σ H3 hi ⟨v2',v3',rfl,hnone,rfl⟩
    obtain ⟨hir,ha⟩:=(hrows.mono sm).get hi
    have hfl:frees rows=(rows.take i).flatMap (freeOf rows)++(freeOf rows rows[i]++(rows.drop (i+1)).flatMap (freeOf rows)):=by
     unfold frees
     have e:rows=rows.take i++(rows[i]::rows.drop (i+1)):=by
      rw [List.getElem_cons_drop,List.take_append_drop]
     conv=>lhs; rw [e]
     rw [List.flatMap_append,List.flatMap_cons]
     rw [← e]
    refine⟨_,rfl,_,ha.tru,?_⟩
    cases hre:rows[i] with
    | nil=>
     refine fj (fj ⟨_,_,rfl,?_,rfl⟩)
     rw [take_snoc hir,List.flatMap_append,hnone,hre]
     rfl
    | cons y r=>
     rw [hre] at ha hfl
     refine dZ ⟨_,rfl,ha.at0 ⟨_,rfl,hd,_,rfl,lO.k (k:=.inr y) hh2,_,rfl,?_⟩⟩
     rw [held y]
     have ef:freeOf rows (y::r)=if cG rows y=true then [] else [y]:=rfl
     cases hh:cG rows y with
     | true=>
      refine fj ⟨_,_,rfl,?_,rfl⟩
      rw [take_snoc hir,List.flatMap_append,hnone,hre,List.flatMap_singleton,ef,hh,if_pos rfl]
      rfl
     | false=>
      refine dZ ⟨_,rfl,ha.at0 ?_⟩
      have:=k H3 sm
      rw [hfl,hnone,ef,hh,if_neg Bool.false_ne_true] at this
      exact this
   ·rintro σ H3 ⟨v2',v3',rfl,hnone,rfl⟩
    rw [List.take_of_length_le (by omega)] at hnone
    have hnone:frees rows=[]:=hnone
    have:=k H3 sm
    rw [hnone] at this
    exact this
end
end K12
end
section
set_option autoImplicit false
namespace K12
open PySem PyProof.Rows L2
def m8(rows:List (List Str))(y:Str):List Nat:=(List.range rows.length).filter fun i=>decide (y∈(rows.getD i []).drop 1)
section
variable {P:Program}{w:World}{K:PySem.W.Frag}{mg:Str→Option Value}{base:Heap}{t:Adr}
def Fq:Sp:=fun vs H Q _=>∃(y:Str) (l:Addr) (us:List V) (rows:List (List Str)),vs=[.str y,.ref l]∧gB H (.ref l) us∧mD H us rows∧rows.length≤1000∧cG rows y=true∧
 ∀(q:Addr) (x:Str) (n:Nat) (r:List Str) H',rows[n]?=some (x::r)→y∈r→(∀ m o,m < n→rows[m]?=some o→¬ y∈o.drop 1)→H' q=some (.tup [.str x,.str y,.int n])→Same H H'→Q (.ref q) H'
theorem Jk(D:Defs K mg t):aU P w K mg base CX0 1 t.jK.1 t.jK.2 ["name","left"] Fq:=by
 have hz:sizeLine=16777216:=sizeLine_eq
 refine D.jK.fn.ok uw (fun vs H Q E h=>?_) (fun cdv A outer s H vs Q E hr h=>?_)
 ·obtain ⟨y,l,us,rows,rfl,_⟩:=h
  rfl
 ·obtain ⟨y,l,us,rows,rfl,hl,hrows,hlen,held,k⟩:=h
  have hul:us.length=rows.length:=Paired.length hrows
  refine⟨_,(aC (aP (i:=2) uw.nd rfl (Or.inl rfl) (aZ bT (bH rfl (aM.of ["at","row"] [0] ["at","row","name"] (aq (top 31)) ["name","left","number"] rfl rfl (by decide +kernel)) ⟨fun _ _ _ _ _=>(kO (K:=K) (n:=2) rfl rfl (cB (aQ (i:=0) (show List.Nodup [("at" : Str),("row" : Str),("name" : Str)] by decide +kernel) rfl (Or.inl (lookup_relabel_local rfl)) (.inr (lookup_relabel_local rfl))) (cB (aQ (i:=1) (show List.Nodup [("at" : Str),("row" : Str),("name" : Str)] by decide +kernel) rfl (Or.inl (lookup_relabel_local rfl)) (.inr (lookup_relabel_local rfl))) jr))),fun _ _ _ _ _=>(gJ (bF (Ci (K:=K) rfl) (pv 2) (bZ (BR (K:=K) rfl) (pv 1) (cI aG) dh) (by with_unfolding_all rfl))),fun _ _ _ _ _=>(pv 0)⟩ (Eu (K:=K) rfl rfl D.mL (aj (pv 1) au))) aG (fun _ _=>rfl)))
   (aH (aR (cY (aj (aZ (pJ (K:=K) rfl) (aZ (pJ (K:=K) rfl) (pv 1) (pv 2) (fun _ _=>rfl)) aG (fun _ _=>rfl)) (aj (pv 0) (aj (pv 2) au))))))),?_⟩
  refine⟨_,rfl,l,rfl,yV (K:=K) hl (fun D i ys H2=>ys=((List.range i).filter fun j=>decide (y∈(rows.getD j []).drop 1)).map (fun j=>V.int (j:Nat))∧H2 D=some (.lst ys)∧Same H H2)
   (fun D hD=>⟨rfl,ak,Same.new hD⟩) (fun D i ys H2 hD ⟨_,_,sm⟩ o e=>sm l o e) ?_ ?_⟩
  ·rintro D' ys H2 hD ⟨rfl,hD2,sm⟩
   rw [hul] at hD2
   have hne:m8 rows y≠[]:=by
    obtain ⟨o,ho,hy⟩:=List.any_eq_true.mp held
    obtain ⟨i,hi,rfl⟩:=List.getElem_of_mem ho
    refine List.ne_nil_of_mem (a:=i) (List.mem_filter.mpr ⟨List.mem_range.mpr hi,?_⟩)
    simp [hi]
    simpa using hy
   obtain ⟨n,more,en⟩:=List.exists_cons_of_ne_nil hne
   have hn:n∈m8 rows y:=by rw [en]; exact List.mem_cons_self
   obtain ⟨hn1,hn2⟩:=List.mem_filter.mp hn
   have hnl:=List.mem_range.mp hn1
   have hn2:=of_decide_eq_true hn2
   have egd:rows.getD n []=rows[n]:=by simp [hnl]
   rw [egd] at hn2
   have hD2:H2 D'=some (.lst ((m8 rows y).map fun j=>V.int (j:Nat))):=hD2
   rw [en] at hD2
   refine⟨D',_,_,.int n,rfl,rfl,SqL.of hD2,aV (j:=0) rfl,?_⟩
   have eun:us[n]?=some us[n]:=List.getElem?_eq_getElem (by omega)
   obtain ⟨hnr,ha⟩:=(hrows.mono sm).get eun
   cases hrn:rows[n] with
   | nil=>rw [hrn] at hn2; cases hn2
   | cons x r=>
    rw [hrn] at ha hn2
    have min:∀ m o,m < n→rows[m]?=some o→¬ y∈o.drop 1:=fun m o hm em hy=>by
     have hml:=(List.getElem?_eq_some_iff.mp em).1
     have hmem:m∈m8 rows y:=List.mem_filter.mpr ⟨List.mem_range.mpr hml,decide_eq_true (by rw [List.getD_eq_getElem?_getD,em]; exact hy)⟩
     have srt:(m8 rows y).Pairwise (· < ·):=List.Pairwise.sublist (List.filter_sublist) List.pairwise_lt_range
     rw [en] at srt hmem
     rcases List.mem_cons.mp hmem with h | h
     ·omega
     ·have:=(List.pairwise_cons.mp srt).1 m h
      omega
    have last:∀(q:Addr),H2 q=none→Q (.ref q) (upd H2 q (.tup [.str x,.str y,.int n])):=fun q hq=>k q x n r _ (by rw [List.getElem?_eq_getElem hnl,hrn]) hn2 min ak (sm.trans (Same.new hq))
    refine⟨_,rfl,_,rfl,?_⟩
    obtain ⟨p',e',h'⟩:=hl.same sm
    cases e'
    rcases h' with h' | h'
    ·exact .inr ⟨l,us,_,_,rfl,rfl,SqL.of h',aV eun,ha.at0 ⟨_,rfl,_,rfl,by show 3≤sizeLine; decide,last⟩⟩
    ·exact .inl ⟨l,us,_,_,rfl,rfl,SqT.of h',aV eun,ha.at0 ⟨_,rfl,_,rfl,by show 3≤sizeLine; decide,last⟩⟩
  ·rintro D' i x ys H2 p hD hi ex ⟨rfl,hD2,sm⟩ hp σo ho
   obtain ⟨oo,oo',rfl⟩:=FT ho
   have s3:Same H2 (upd H2 p (.tup [.int i,x])):=Same.new hp
   obtain ⟨hir,ha⟩:=(hrows.mono (sm.trans s3)).get ex
   have egd:rows.getD i []=rows[i]:=by simp [hir]
   have ers:(List.range (i+1)).filter (fun j=>decide (y∈(rows.getD j []).drop 1))=(List.range i).filter (fun j=>decide (y∈(rows.getD j []).drop 1))++(if decide (y∈(rows[i]).drop 1)=true then [i] else []):=by
    rw [List.range_succ,List.filter_append,List.filter_cons,egd]
    rfl
   have hyl:(((List.range i).filter fun j=>decide (y∈(rows.getD j []).drop 1)).map (fun j=>V.int (j:Nat))).length≤1000:=by
    rw [List.length_map]
    refine Nat.le_trans (List.length_filter_le _ _) ?_
    rw [List.length_range]
    omega
   refine⟨p,_,rfl,SqT.of ak,rfl,_,_,rfl,_,_,rfl,rfl,⟨[_,_],rfl,rfl⟩,_,rfl,_,rfl,_,rfl,ha.cut fun q H4 hq s4=>?_⟩
   have hq':SqL K H4 q (((rows[i]).drop 1).map V.str)∨SqT K H4 q (((rows[i]).drop 1).map V.str):=by
    obtain ⟨q',e,h⟩:=hq
    cases e
    exact h.elim (fun z=>.inl (SqL.of z)) fun z=>.inr (SqT.of z)
   refine⟨q,_,rfl,hq',rfl,gW _,_,rfl,jJ (fun hb=>?_) (fun hb=>?_)⟩
   ·have hb:inV (.str y) (((rows[i]).drop 1).map V.str)=true:=hb
    rw [iw] at hb
    refine⟨_,rfl,by omega,s4 D' _ (s3 D' _ hD2),aX hi ⟨?_,ak,fun b u e=>?_⟩⟩
    ·rw [ers,if_pos hb,List.map_append]
     rfl
    ·rw [aA (aB e hD)]
     exact s4 b _ (s3 b _ (sm b _ e))
   ·have hb:¬ inV (.str y) (((rows[i]).drop 1).map V.str)=true:=hb
    rw [iw] at hb
    refine aX hi ⟨?_,s4 D' _ (s3 D' _ hD2),(sm.trans s3).trans s4⟩
    rw [ers,if_neg hb,List.append_nil]
end
end K12
end
section
set_option autoImplicit false
namespace K12
open PySem PyProof.Rows L2
def nA(ns:List Str)(ad:Str→Addr):List (Key × V):=ns.map fun x=>(.inr x,.ref (ad x))
theorem yw{ns:List Str}{ad:Str→Addr}{x:Str}(h:x∈ns):dM (nA ns ad) (.inr x)=some (.ref (ad x)):=by
 induction ns with
 | nil=>cases h
 | cons y ns ih=>
  by_cases e:y=x
  ·subst e
   exact eG (p:=((.inr y:Key),V.ref (ad y))) rfl
  ·show dM ((.inr y,V.ref (ad y))::nA ns ad) (.inr x)=_
   rw [eO (p:=((.inr y:Key),V.ref (ad y))) (by intro z; injection z with z; exact e z)]
   rcases List.mem_cons.mp h with z | z
   ·exact absurd z.symm e
   ·exact ih z
def zV{α:Type}(g:Str→α)(x:Str)(v:α):Str→α:=fun y=>if y=x then v else g y
theorem kZ{α:Type}{g:Str→α}{x:Str}{v:α}:zV g x v x=v:=if_pos rfl
theorem rD{α:Type}{g:Str→α}{x y:Str}{v:α}(h:y≠x):zV g x v y=g y:=if_neg h
theorem Ds{ns:List Str}{ad:Str→Addr}{x:Str}{l:Addr}(h:¬ x∈ns):putK (nA ns ad) (.inr x) (.ref l)=nA (ns++[x]) (zV ad x l):=by
 have hn:dM (nA ns ad) (.inr x)=none:=by
  cases q:dM (nA ns ad) (.inr x) with
  | none=>rfl
  | some y=>
   exfalso
   have h1:(dM (nA ns ad) (.inr x)).isSome=true:=by rw [q]; rfl
   rw [lA] at h1
   unfold nA at h1
   rw [List.map_map,List.mem_map] at h1
   obtain ⟨z,hz,e⟩:=h1
   have e:(Sum.inr z:Key)=Sum.inr x:=e
   injection e with e
   exact h (e ▸ hz)
 rw [tU _ hn]
 unfold nA
 rw [List.map_append]
 congr 1
 ·apply List.map_congr_left
  intro y hy
  have ne:y≠x:=fun e=>by rw [e] at hy; exact h hy
  rw [rD ne]
 ·show _=[(Sum.inr x,V.ref (zV ad x l x))]
  rw [kZ]
theorem xZ(ns:List Str)(ad:Str→Addr)(x:Str):(dM (nA ns ad) (.inr x)).isSome=true↔x∈ns:=by
 rw [lA]
 unfold nA
 rw [List.map_map,List.mem_map]
 constructor
 ·rintro ⟨y,hy,e⟩
  have e:(Sum.inr y:Key)=Sum.inr x:=e
  injection e with e
  exact e ▸ hy
 ·exact fun h=>⟨x,h,rfl⟩
def d8(rows:List (List Str)):List Str:=rows.filterMap List.head?
theorem rZ{rows:List (List Str)}{x:Str}{r:List Str}(h:(x::r)∈rows):x∈d8 rows:=List.mem_filterMap.mpr ⟨_,h,rfl⟩
theorem CK{rows:List (List Str)}{x:Str}(h:x∈d8 rows):∃ r,(x::r)∈rows:=by
 obtain ⟨o,ho,e⟩:=List.mem_filterMap.mp h
 cases o with
 | nil=>cases e
 | cons y r=>
  cases e
  exact⟨r,ho⟩
theorem xg{rows:List (List Str)}(h:frees rows=[]){x:Str}(hx:x∈d8 rows):cG rows x=true:=by
 obtain ⟨r,hr⟩:=CK hx
 cases q:cG rows x with
 | true=>rfl
 | false=>
  have:x∈frees rows:=List.mem_flatMap.mpr ⟨_,hr,by show x∈(if cG rows x=true then [] else [x]); rw [q,if_neg Bool.false_ne_true]; exact List.mem_cons_self⟩
  rw [h] at this
  cases this
structure Chain (H:Hp) (rows:List (List Str)) (c:List Str) (nx:Str→Str) (ad:Str→Addr) (name:Str):Prop where
 nd:c.Nodup
 fr:∀ z∈c,z∈d8 rows
 nf:name∈d8 rows
 st:∀(i:Nat) z,c[i]?=some z→c[i+1]?=some (nx z)∨(i+1=c.length∧nx z=name)
 at':∀ z∈c,∃ n:Nat,H (ad z)=some (.tup [.str (nx z),.str z,.int n])
section
variable {P:Program}{w:World}{K:PySem.W.Frag}{mg:Str→Option Value}{base:Heap}{t:Adr}
def G6:Sp:=fun vs H Q _=>∃(l:Addr) (us:List V) (rows:List (List Str)),vs=[.ref l]∧gB H (.ref l) us∧mD H us rows∧rows.length≤1000∧frees rows=[]∧d8 rows≠[]∧
 ∀(q:Addr) (ts:List V) H',H' q=some (.tup ts)→Same H H'→Q (.ref q) H'
theorem Jp(D:Defs K mg t):aU P w K mg base CX0 2 t.fL.1 t.fL.2 ["left"] G6:=by
 have G_hold_of:aU P w K mg base CX0 1 t.jK.1 t.jK.2 _ Fq:=Jk D
 have hz:sizeLine=16777216:=sizeLine_eq
 refine D.fL.fn.ok iu (fun vs H Q E h=>?_) (fun cdv A outer s H vs Q E hr h=>?_)
 ·obtain ⟨l,us,rows,rfl,_⟩:=h
  rfl
 ·obtain ⟨l,us,rows,rfl,hl,hrows,hlen,hfree,hfr,k⟩:=h
  have hul:us.length=rows.length:=Paired.length hrows
  refine⟨_,(aC (aP (i:=1) iu.nd rfl (Or.inl rfl) (aZ bT (bH rfl (aM.of ["row"] [] ["row"] (aq (top 30)) ["left","name","holds","ring"] rfl rfl (by decide +kernel)) ⟨fun _ _ _ _ _=>(aQ (i:=0) (show List.Nodup [("row" : Str)] by decide +kernel) rfl (Or.inl (lookup_relabel_local rfl)) (.inr (lookup_relabel_local rfl))),fun _ _ _ _ _=>(gJ (zK (K:=K) rfl (pv 0) (by intro _; rfl))),fun _ _ _ _ _=>(aZ (pJ (K:=K) rfl) (pv 0) aG (fun _ _=>rfl))⟩ (qQ (K:=K) (pv 0) rfl)) aG (fun _ _=>rfl)))
   (aC (aP (i:=2) iu.nd rfl (Or.inl rfl) jt)
   (aC (lg PassesOwn.never (wg (nF (fB hr) (pv 1) (pv 2)))
   (aC (lM (fB hr) (pv 2) (pv 1) (aJ D.jK G_hold_of (hr.mono (by omega)) (by rfl) (aj (pv 1) (aj (pv 0) au))) rfl)
   (aH (aP (i:=1) iu.nd rfl (Or.inl rfl) (aZ dG (gU (fB hr) (pv 2) (pv 1) (fun _ _=>rfl)) aG (fun _ _=>rfl))))))
   (aC (aP (i:=3) iu.nd rfl (Or.inl rfl) (cD (aj (gU (fB hr) (pv 2) (pv 1) (fun _ _=>rfl)) au)))
   (aC (lg PassesOwn.never (bF Hr (aZ dG (aZ bT (pv 3) (Bm wB aG) (fun _ _=>rfl)) aG (fun _ _=>rfl)) (pv 1) (bK _))
   (aH (jo (qR PySem.F.plainAttrs_list PySem.F.slot_list_append PySem.F.type_list_append gF (pv 3) (aj (gU (fB hr) (pv 2) (aZ dG (aZ bT (pv 3) (Bm wB aG) (fun _ _=>rfl)) aG (fun _ _=>rfl)) (fun _ _=>rfl)) au)))))
   (aH (aR (bB bI (by rfl) D.bQ bJ (aj (zj (pv 3) (Bm wB aG)) au))))))))),?_⟩
  refine⟨_,rfl,l,rfl,ug (K:=K) hl (fun D i ys H2=>ys=(d8 (rows.take i)).map V.str∧H2=upd H D (.lst ys))
   (fun D hD=>⟨rfl,rfl⟩) (fun D i ys H2 hD ⟨_,e2⟩ o e=>by rw [e2,aA (aB e hD)]; exact e) ?_ ?_⟩
  ·rintro D1 ys H2 hD1 ⟨rfl,rfl⟩
   rw [List.take_of_length_le (by omega)]
   obtain ⟨x0,more,ef⟩:=List.exists_cons_of_ne_nil hfr
   refine⟨D1,_,_,.str x0,rfl,rfl,SqL.of ak,by rw [ef]; exact L2.at0 x0 more,?_⟩
   intro hd hhd
   have s1:∀ o,Same H (upd H D1 o):=fun o=>Same.new hD1
   have s2:=(s1 (.lst ((d8 rows).map V.str))).trans (Same.new (o:=.dK []) hhd)
   have hhdH:H hd=none:=by
    cases q:H hd with
    | none=>rfl
    | some o=>
     rw [s1 _ hd o q] at hhd
     cases hhd
   have hh3:(upd (upd H D1 (.lst ((d8 rows).map V.str))) hd (.dK [])) hd=some (.dK []):=ak
   generalize upd (upd H D1 (.lst ((d8 rows).map V.str))) hd (.dK [])=H3 at s2 hh3
   have hx0:x0∈d8 rows:=by rw [ef]; exact List.mem_cons_self
   have fl1:(d8 rows).length≤1000:=Nat.le_trans (List.length_filterMap_le _ _) hlen
   refine⟨fun m σ H4=>∃(c:List Str) (nx:Str→Str) (ad:Str→Addr) (name:Str) (v3:Option V),σ=[some (.ref l),some (.str name),some (.ref hd),v3]∧Chain H4 rows c nx ad name∧H4 hd=some (.dK (nA c ad))∧m+c.length=(d8 rows).length∧Same H H4,?_,?_⟩
   ·refine⟨(d8 rows).length,[],fun z=>z,fun _=>0,x0,_,rfl,⟨List.nodup_nil,by simp,hx0,by intro i z h; simp at h,by simp⟩,hh3,rfl,s2⟩
   ·rintro m σ H4 ⟨c,nx,ad,name,v3,rfl,ch,hh4,hm,sm4⟩
    refine⟨_,rfl,_,rfl,hd,_,rfl,lO.k (k:=.inr name) hh4,_,rfl,?_⟩
    cases hin:(dM (nA c ad) (.inr name)).isSome with
    | false=>
     have hnc:¬ name∈c:=fun h=>by rw [(xZ c ad name).mpr h] at hin; cases hin
     have hcl:c.length < (d8 rows).length:=by
      have:=dO (rE ch.nd hnc) (m:=d8 rows) fun z hz'=>by
       rcases List.mem_append.mp hz' with h | h
       ·exact ch.fr z h
       ·rw [List.mem_singleton.mp h]
        exact ch.nf
      rw [List.length_append,List.length_singleton] at this
      omega
     refine dZ ⟨fun σ' H'=>∃ m',m' < m∧∃(c:List Str) (nx:Str→Str) (ad:Str→Addr) (name:Str) (v3:Option V),σ'=[some (.ref l),some (.str name),some (.ref hd),v3]∧Chain H' rows c nx ad name∧H' hd=some (.dK (nA c ad))∧m'+c.length=(d8 rows).length∧Same H H',fun σ' H' h=>h,?_⟩
     refine⟨_,rfl,_,rfl,name,l,us,rows,rfl,hl.same sm4,hrows.mono sm4,hlen,xg hfree ch.nf,fun q x n r H5 er hy _ hq s5=>?_⟩
     have hh5:=s5 hd _ hh4
     refine⟨_,rfl,_,rfl,hd,_,rfl,sV.k (k:=.inr name) hh5 (by unfold nA; rw [List.length_map]; omega),?_⟩
     rw [Ds hnc]
     have qh:q≠hd:=eU hq hh5 (fun z=>nomatch z)
     have kp6:∀ b u,b≠hd→H5 b=some u→(upd H5 hd (.dK (nA (c++[name]) (zV ad name q)))) b=some u:=fun b u hb e=>by rw [aA hb]; exact e
     have hmem:name∈c++[name]:=List.mem_append_right _ List.mem_cons_self
     refine⟨_,rfl,_,rfl,hd,.ref q,rfl,.inl ⟨_,.inr name,.inl ak,rfl,by rw [yw hmem,kZ]⟩,q,_,_,_,rfl,rfl,SqT.of (kp6 q _ qh hq),rfl,?_⟩
     refine⟨m - 1,by omega,c++[name],zV nx name x,zV ad name q,x,_,rfl,⟨rE ch.nd hnc,?_,rZ (List.mem_of_getElem? er),?_,?_⟩,ak,by rw [List.length_append,List.length_singleton]; omega,fun b u e=>kp6 b u (aB e hhdH) (s5 b u (sm4 b u e))⟩
     ·intro z hz'
      rcases List.mem_append.mp hz' with h | h
      ·exact ch.fr z h
      ·rw [List.mem_singleton.mp h]
       exact ch.nf
     ·intro i z ez
      by_cases hic:i < c.length
      ·rw [List.getElem?_append_left hic] at ez
       have zn:z≠name:=fun e=>hnc (e ▸ List.mem_of_getElem? ez)
       rw [rD zn]
       left
       rcases ch.st i z ez with h | ⟨h1,h2⟩
       ·have:=(List.getElem?_eq_some_iff.mp h).1
        rw [List.getElem?_append_left this]
        exact h
       ·rw [h2,h1,List.getElem?_append_right (Nat.le_refl _),Nat.sub_self]
        rfl
      ·have hi2:=(List.getElem?_eq_some_iff.mp ez).1
       rw [List.length_append,List.length_singleton] at hi2
       have ei:i=c.length:=by omega
       subst ei
       rw [List.getElem?_append_right (Nat.le_refl _),Nat.sub_self] at ez
       have ez:z=name:=by simpa using ez.symm
       subst ez
       right
       exact⟨by rw [List.length_append]; rfl,kZ⟩
     ·intro z hz'
      by_cases zn:z=name
      ·subst zn
       exact⟨n,by rw [kZ,kZ]; exact kp6 q _ qh hq⟩
      ·rw [rD zn,rD zn]
       rcases List.mem_append.mp hz' with h | h
       ·obtain ⟨n',hn'⟩:=ch.at' z h
        have h5:=s5 _ _ hn'
        exact⟨n',kp6 _ _ (eU h5 hh5 (fun z=>nomatch z)) h5⟩
       ·exact absurd (List.mem_singleton.mp h) zn
    | true=>
     have hnc:name∈c:=(xZ c ad name).mp hin
     refine fj ?_
     have getd:∀ {H5:Hp} {z:Str},z∈c→H5 hd=some (.dK (nA c ad))→lO H5 hd (.str z) (some (.ref (ad z))):=fun {H5 z} hz' h=>.inl ⟨_,.inr z,.inl h,rfl,(yw hz').symm⟩
     refine⟨_,rfl,_,rfl,hd,.ref (ad name),rfl,getd hnc hh4,by show 1≤sizeLine; decide,fun rg hrg=>?_⟩
     have s5:∀ o,Same H4 (upd H4 rg o):=fun o=>Same.new hrg
     obtain ⟨j0,hj0,ej0⟩:=List.getElem_of_mem hnc
     have cl1:c.length≤1000:=by omega
     refine⟨fun m σ H5=>∃(zs:List Str) (i:Nat) (z:Str),σ=[some (.ref l),some (.str name),some (.ref hd),some (.ref rg)]∧H5 rg=some (.lst ((zs++[z]).map fun z=>V.ref (ad z)))∧zs.length≤i∧c[i]?=some z∧m+i=c.length∧(∀ b u,b≠rg→H4 b=some u→H5 b=some u),?_,?_⟩
     ·exact⟨c.length - j0,[],j0,name,rfl,ak,Nat.zero_le _,by rw [List.getElem?_eq_getElem hj0,ej0],by omega,fun b u hb e=>by rw [aA hb]; exact e⟩
     ·rintro m2 σ H5 ⟨zs,i,z,rfl,hrg5,hzi,ez,hm2,kp5⟩
      have hzc:z∈c:=List.mem_of_getElem? ez
      have hil:=(List.getElem?_eq_some_iff.mp ez).1
      obtain ⟨n,hn⟩:=ch.at' z hzc
      have az:ad z≠rg:=aB hn hrg
      have hn5:=kp5 _ _ az hn
      have hhr:hd≠rg:=aB hh4 hrg
      have hh5:=kp5 hd _ hhr hh4
      have elast:atI ((zs++[z]).map fun z=>V.ref (ad z)) (-1)=some (.ref (ad z)):=by
       rw [List.map_append]
       exact EY _ _
      refine⟨_,rfl,_,rfl,rg,_,_,_,rfl,rfl,SqL.of hrg5,elast,ad z,_,_,_,rfl,rfl,SqT.of hn5,rfl,_,rfl,rfl,_,rfl,jJ (fun hb=>?_) (fun hb=>?_)⟩
      ·have hne:nx z≠name:=fun e=>by
        rw [e] at hb
        simp at hb
       have ez2:c[i+1]?=some (nx z):=by
        rcases ch.st i z ez with h | ⟨_,h⟩
        ·exact h
        ·exact absurd h hne
       have hi1:=(List.getElem?_eq_some_iff.mp ez2).1
       refine⟨fun σ' H'=>∃ m',m' < m2∧∃(zs:List Str) (i:Nat) (z:Str),σ'=[some (.ref l),some (.str name),some (.ref hd),some (.ref rg)]∧H' rg=some (.lst ((zs++[z]).map fun z=>V.ref (ad z)))∧zs.length≤i∧c[i]?=some z∧m'+i=c.length∧(∀ b u,b≠rg→H4 b=some u→H' b=some u),fun σ' H' h=>h,?_⟩
       refine⟨_,rfl,.inl ⟨rfl,_,SqL.of hrg5⟩,_,rfl,_,rfl,_,rfl,rg,_,_,_,rfl,rfl,SqL.of hrg5,elast,ad z,_,_,_,rfl,rfl,SqT.of hn5,rfl,hd,.ref (ad (nx z)),rfl,getd (List.mem_of_getElem? ez2) hh5,rg,_,.ref (ad (nx z)),rfl,rfl,hrg5,by rw [List.length_map,List.length_append,List.length_singleton]; omega,?_⟩
       refine⟨m2 - 1,by omega,zs++[z],i+1,nx z,rfl,?_,by rw [List.length_append,List.length_singleton]; omega,ez2,by omega,fun b u hb' e=>by rw [aA hb']; exact kp5 b u hb' e⟩
       rw [ak,List.map_append (l₁:=zs++[z])]
       rfl
      ·refine⟨_,rfl,_,rfl,rg,_,_,rfl,rfl,SqL.of hrg5,.inr ⟨rfl,fun q6 hq6=>⟨q6,_,rfl,.inl ⟨SqL.of ak,fun q8 hq8=>?_⟩⟩⟩⟩
       refine k q8 _ _ ak fun b u e=>?_
       have e4:=sm4 b u e
       have e5:=kp5 b u (aB e4 hrg) e4
       have e6:(upd H5 q6 (.lst ((zs++[z]).map fun z=>V.ref (ad z)).reverse)) b=some u:=by rw [aA (aB e5 hq6)]; exact e5
       rw [aA (aB e6 hq8)]
       exact e6
  ·rintro D1 i x ys H2 hD hi ex ⟨rfl,rfl⟩ σo ho
   obtain ⟨oo,rfl⟩:=own1 ho
   have s1:∀ o,Same H (upd H D1 o):=fun o=>Same.new hD
   obtain ⟨hir,ha⟩:=(hrows.mono (s1 _)).get ex
   have hyl:((d8 (rows.take i)).map V.str).length≤1000:=by
    rw [List.length_map]
    refine Nat.le_trans (List.length_filterMap_le _ _) ?_
    rw [List.length_take]
    omega
   refine⟨⟨[_],rfl,rfl⟩,_,rfl,_,ha.tru,?_⟩
   have efr:d8 (rows.take (i+1))=d8 (rows.take i)++(rows[i]).head?.toList:=by
    unfold d8
    rw [take_snoc hir,List.filterMap_append]
    congr 1
   cases hre:rows[i] with
   | nil=>
    refine fj (aX hi ⟨?_,rfl⟩)
    rw [efr,hre]
    simp
   | cons y r=>
    rw [hre] at ha
    refine dZ ⟨_,rfl,ha.at0 ⟨by omega,ak,aX hi ⟨?_,by rw [bR]⟩⟩⟩
    rw [efr,hre,List.map_append]
    rfl
end
end K12
end
section
set_option autoImplicit false
namespace K12
open PySem PyProof.Rows L2
theorem Di(rows:List (List Str))(x:Str):cG (full rows) x=cG rows x:=by
 unfold cG full
 apply Bool.eq_iff_iff.mpr
 rw [List.any_eq_true,List.any_eq_true]
 constructor
 ·rintro ⟨o,h1,h2⟩
  exact⟨o,(List.mem_filter.mp h1).1,h2⟩
 ·rintro ⟨o,h1,h2⟩
  refine⟨o,List.mem_filter.mpr ⟨h1,?_⟩,h2⟩
  cases o with
  | nil=>have:=of_decide_eq_true h2; cases this
  | cons _ _=>rfl
theorem sU(rows:List (List Str)):frees (full rows)=frees rows:=by
 have key:∀(R S:List (List Str)),(∀ x,cG S x=cG R x)→∀ rs:List (List Str),(full rs).flatMap (freeOf S)=rs.flatMap (freeOf R):=by
  intro R S h rs
  induction rs with
  | nil=>rfl
  | cons r rs ih=>
   unfold full at ih ⊢
   rw [List.filter_cons,List.flatMap_cons]
   cases r with
   | nil=>
    simp only [List.isEmpty_nil,Bool.not_true,Bool.false_eq_true,if_false]
    rw [ih]
    rfl
   | cons y r=>
    simp only [List.isEmpty_cons,Bool.not_false,if_true]
    rw [List.flatMap_cons,ih]
    congr 1
    show (if cG S y=true then [] else [y])=(if cG R y=true then [] else [y])
    rw [h y]
 exact key rows (full rows) (Di rows) rows
theorem ou(x:Str):∀ rows:List (List Str),full ((full rows).map (bO x))=full (rows.map (bO x))
 | []=>rfl
 | r::rows=>by
  have ih:=ou x rows
  unfold full at ih ⊢
  rw [List.filter_cons,List.map_cons,List.filter_cons]
  cases r with
  | nil=>
   simp only [List.isEmpty_nil,Bool.not_true,Bool.false_eq_true,if_false]
   rw [ih]
   rfl
  | cons y r=>
   simp only [List.isEmpty_cons,Bool.not_false,if_true,List.map_cons]
   rw [List.filter_cons,ih]
section
variable {P:Program}{w:World}{K:PySem.W.Frag}{mg:Str→Option Value}{base:Heap}{t:Adr}
def GR(H:Hp)(x:Str)(r:Option (List Str))(q:Addr):Prop:=match r with
 | some os=>∃ qo,H q=some (.tup [.str "order",.ref qo])∧H qo=some (.tup ((x::os).map V.str))
 | none=>∃ a rg,H q=some (.tup [.str "quarrel",.str a,.ref rg])
def Cr:Sp:=fun vs H Q _=>∃(x:Str) (l:Addr) (us:List V) (rows:List (List Str)),vs=[.str x,.ref l]∧H l=some (.tup us)∧jQ H us rows∧((∀ r∈rows,r≠[])∨∀ r∈rows,r=[])∧tot rows≤1000∧rows.length≤1000∧
 ∀(q:Addr) (r:Option (List Str)) H',Mg (full rows) r→GR H' x r q→Same H H'→Q (.ref q) H'
theorem Er(D:Defs K mg t):aU P w K mg base CX0 3 t.fP.1 t.fP.2 ["kind","rows"] Cr:=by
 have G_first_free:aU P w K mg base CX0 1 t.fG.1 t.fG.2 _ BJ:=Fo D
 have G_ring_among:aU P w K mg base CX0 2 t.fL.1 t.fL.2 _ G6:=Jp D
 have hz:sizeLine=16777216:=sizeLine_eq
 refine D.fP.fn.ok iy (fun vs H Q E h=>?_) (fun cdv A outer s H vs Q E hr h=>?_)
 ·obtain ⟨x,l,us,rows,rfl,_⟩:=h
  rfl
 ·obtain ⟨x,l,us,rows,rfl,hl,hrt,hcase,htot,hlen,k⟩:=h
  refine⟨_,(aC (aP (i:=2) iy.nd rfl (Or.inl rfl) (cD (aj (pv 0) au)))
   (aC (aP (i:=3) iy.nd rfl (Or.inl rfl) (pv 1))
   (aC (lg PassesOwn.never (cT (aK (Eh rfl) (by rfl) D.JN G7 (aj (pv 3) au)))
   (aC (aP (i:=4) iy.nd rfl (Or.inr rfl) (aJ D.fG G_first_free (hr.mono (by omega)) (by rfl) (aj (pv 3) au)))
   (aC (cC (bF zE (pv 4) mW (bK _))
   (aH (aR (cY (aj dg (aj (pv 0) (aj (aJ D.fL G_ring_among (hr.mono (by omega)) (by rfl) (aj (pv 3) au)) au))))))
   bx)
   (aC (jo (qR PySem.F.plainAttrs_list PySem.F.slot_list_append PySem.F.type_list_append gF (pv 2) (aj (pv 4) au)))
   (aH (mj (i:=3) rfl iy.nd rfl (Or.inl rfl) (aM.of ["row"] [4] ["row","first"] (aq (top 28)) ["kind","rows","order","left","first"] rfl rfl (by decide +kernel)) ⟨fun _ _ _ _ _=>(aQ (i:=0) (show List.Nodup [("row" : Str),("first" : Str)] by decide +kernel) rfl (Or.inl (lookup_relabel_local rfl)) (.inr (lookup_relabel_local rfl))),fun _ _ _ _ _=>bN,fun _ _ _ _ _=>(bH rfl (aM.of2 ["name"] [1] ["name","first"] ["row","first"] rfl rfl (by decide +kernel)) ⟨fun _ _ _ _ _=>(aQ (i:=0) (show List.Nodup [("name" : Str),("first" : Str)] by decide +kernel) rfl (Or.inl (lookup_relabel_local rfl)) (.inr (lookup_relabel_local rfl))),fun _ _ _ _ _=>(gJ (bF Hr (pv 0) (pv 1) (bK _))),fun _ _ _ _ _=>(pv 0)⟩ (qQ (K:=K) (pv 0) rfl))⟩ (qQ (K:=K) (pv 3) rfl)))))))
   (aH (aR (cY (aj dg (aj (bB bI (by rfl) D.bQ bJ (aj (pv 2) au)) au)))))))),?_⟩
  refine⟨_,rfl,by show 1≤sizeLine; decide,fun ol hol=>?_⟩
  have s0:Same H (upd H ol (.lst [.str x])):=Same.new hol
  have hol0:(upd H ol (.lst [.str x])) ol=some (.lst [.str x]):=ak
  generalize upd H ol (.lst [.str x])=H1 at s0 hol0
  refine⟨_,rfl,?_⟩
  refine⟨fun m σ H2=>∃(us2:List V) (rows2:List (List Str)) (os:List Str) (l2:Addr) (v4:Option V),σ=[some (.str x),some (.ref l),some (.ref ol),some (.ref l2),v4]∧gB H2 (.ref l2) us2∧l2≠ol∧Paired (fun(v:V) (r:List Str)=>∃ a,v=.ref a∧a≠ol∧(H2 a=some (.lst (r.map V.str))∨H2 a=some (.tup (r.map V.str)))) us2 rows2∧(mD H2 us2 rows2∨∀ r∈rows2,r=[])∧
   H2 ol=some (.lst ((x::os).map V.str))∧m=tot rows2∧os.length+tot rows2≤1000∧rows2.length=rows.length∧(∀ r,Mg (full rows2) r→Mg (full rows) (r.map (os++·)))∧Same H H2,?_,?_⟩
  ·refine⟨_,us,rows,[],l,_,rfl,⟨l,rfl,.inr (s0 l _ hl)⟩,aB hl hol,Paired.oZ hrt fun v r ⟨a,e,h⟩=>⟨a,e,aB h hol,.inr (s0 a _ h)⟩,?_,hol0,rfl,by show 0+_≤_; omega,rfl,fun r h=>?_,s0⟩
   ·rcases hcase with h | h
    ·left
     have key:∀ {us:List V} {rows:List (List Str)},jQ H us rows→(∀ r∈rows,r≠[])→mD H1 us rows:=by
      intro us rows hh
      induction hh with
      | nil=>exact fun _=>.nil
      | cons q _ ih=>
       intro h
       obtain ⟨a,e,h'⟩:=q
       exact .cons ⟨a,e,.inr ⟨s0 a _ h',h _ List.mem_cons_self⟩⟩ (ih fun r hr=>h r (List.mem_cons_of_mem _ hr))
     exact key hrt h
    ·exact .inr h
   ·have:r.map (([]:List Str)++·)=r:=by cases r <;> rfl
    rw [this]
    exact h
  ·rintro m σ H2 ⟨us2,rows2,os,l2,v4,rfl,hl2,l2o,pr,hc2,hol2,rfl,hb2,hrl,mg2,sm2⟩
   have hul:us2.length=rows2.length:=Paired.length pr
   obtain ⟨l2',el2,hl2'⟩:=id hl2
   cases el2
   refine⟨_,rfl,l2,us2,rows2.map (fun r=>!r.isEmpty),rfl,hl2',by rw [List.length_map,hul],fun i hi hj=>?_,_,rfl,?_⟩
   ·have hir:i < rows2.length:=by omega
    obtain ⟨a,e,_,h⟩:=eV pr i hi hir
    refine⟨(rows2[i]).map V.str,⟨a,e,h⟩,?_⟩
    rw [List.getElem_map]
    cases rows2[i] <;> rfl
   have eany:(rows2.map fun r=>!r.isEmpty).any id=!(full rows2).isEmpty:=by
    rw [List.any_map]
    apply Bool.eq_iff_iff.mpr
    rw [List.any_eq_true]
    constructor
    ·rintro ⟨r,h1,h2⟩
     have:r∈full rows2:=List.mem_filter.mpr ⟨h1,h2⟩
     cases hf:full rows2 with
     | nil=>rw [hf] at this; cases this
     | cons _ _=>rfl
    ·intro h
     cases hf:full rows2 with
     | nil=>rw [hf] at h; cases h
     | cons r _=>
      have:r∈full rows2:=by rw [hf]; exact List.mem_cons_self
      obtain ⟨h1,h2⟩:=List.mem_filter.mp this
      exact⟨r,h1,h2⟩
   rw [eany]
   cases hf:full rows2 with
   | nil=>
    refine fj ⟨_,rfl,ol,_,rfl,.inl ⟨SqL.of hol2,fun qo hqo=>⟨by show 2≤sizeLine; decide,fun q hq=>?_⟩⟩⟩
    have h1:=mg2 (some []) (by rw [hf]; exact .nil)
    have s3:=(Same.new (o:=.tup ((x::os).map V.str)) hqo).trans (Same.new (o:=.tup [.str "order",.ref qo]) hq)
    refine k q (some os) _ (by simpa using h1) ⟨qo,ak,?_⟩ (sm2.trans s3)
    rw [aA (aB ak hq),ak]
   | cons r0 rr=>
    have hfne:full rows2≠[]:=by rw [hf]; exact List.cons_ne_nil _ _
    have hrn:mD H2 us2 rows2:=by
     rcases hc2 with h | h
     ·exact h
     ·exfalso
      have:r0∈full rows2:=by rw [hf]; exact List.mem_cons_self
      obtain ⟨h1,h2⟩:=List.mem_filter.mp this
      rw [h r0 h1] at h2
      cases h2
    refine dZ ⟨fun σ' H'=>∃ m',m' < tot rows2∧∃(us2:List V) (rows2:List (List Str)) (os:List Str) (l2:Addr) (v4:Option V),σ'=[some (.str x),some (.ref l),some (.ref ol),some (.ref l2),v4]∧gB H' (.ref l2) us2∧l2≠ol∧Paired (fun(v:V) (r:List Str)=>∃ a,v=.ref a∧a≠ol∧(H' a=some (.lst (r.map V.str))∨H' a=some (.tup (r.map V.str)))) us2 rows2∧(mD H' us2 rows2∨∀ r∈rows2,r=[])∧
     H' ol=some (.lst ((x::os).map V.str))∧m'=tot rows2∧os.length+tot rows2≤1000∧rows2.length=rows.length∧(∀ r,Mg (full rows2) r→Mg (full rows) (r.map (os++·)))∧Same H H',fun σ' H' h=>h,?_⟩
    refine⟨_,rfl,l2,us2,rows2,rfl,hl2,hrn,by omega,by omega,fun H3 s3=>?_⟩
    cases hfr:frees rows2 with
    | nil=>
     refine⟨_,rfl,rfl,_,rfl,dZ ?_⟩
     have hfronts:d8 rows2≠[]:=by
      have:r0∈full rows2:=by rw [hf]; exact List.mem_cons_self
      obtain ⟨h1,h2⟩:=List.mem_filter.mp this
      cases r0 with
      | nil=>cases h2
      | cons y r=>exact List.ne_nil_of_mem (rZ h1)
     refine⟨_,rfl,_,rfl,l2,us2,rows2,rfl,hl2.same s3,hrn.mono s3,by omega,hfr,hfronts,fun rg ts H4 hrg s4=>⟨by show 3≤sizeLine; decide,fun q hq=>?_⟩⟩
     refine k q none _ (mg2 none (.stuck hfne (by rw [sU]; exact hfr))) ⟨x,rg,ak⟩ (((sm2.trans s3).trans s4).trans (Same.new hq))
    | cons x1 more=>
     refine⟨_,rfl,rfl,_,rfl,fj ?_⟩
     have hx1:x1∈frees rows2:=by rw [hfr]; exact List.mem_cons_self
     obtain ⟨r1,hr1,hh1⟩:=nT hx1
     have hx1r:x1∈r1:=by
      cases r1 with
      | nil=>cases hh1
      | cons y r'=>
       cases hh1
       exact List.mem_cons_self
     have hlt:=oV (x:=x1) ⟨r1,hr1,hx1r⟩
     have hol3:=s3 ol _ hol2
     refine⟨_,rfl,.inl ⟨rfl,_,SqL.of hol3⟩,_,rfl,ol,_,.str x1,rfl,rfl,hol3,by rw [List.length_map,List.length_cons]; omega,?_⟩
     have eol:(x::os).map V.str++[V.str x1]=(x::(os++[x1])).map V.str:=by rw [List.map_cons,List.map_cons,List.map_append]; rfl
     rw [eol]
     have kp4:∀ b u,b≠ol→H3 b=some u→(upd H3 ol (.lst ((x::(os++[x1])).map V.str))) b=some u:=fun b u hb e=>by rw [aA hb]; exact e
     have hol4:(upd H3 ol (.lst ((x::(os++[x1])).map V.str))) ol=some (.lst ((x::(os++[x1])).map V.str)):=ak
     generalize upd H3 ol (.lst ((x::(os++[x1])).map V.str))=H4 at kp4 hol4
     have sm4:Same H H4:=fun b u e=>kp4 b u (aB e hol) (s3 b u (sm2 b u e))
     have hl4:gB H4 (.ref l2) us2:=⟨l2,rfl,hl2'.elim (fun z=>.inl (kp4 l2 _ l2o (s3 l2 _ z))) fun z=>.inr (kp4 l2 _ l2o (s3 l2 _ z))⟩
     have row4:∀(i:Nat) (v:V),us2[i]?=some v→∃(hir:i < rows2.length) (a:Addr),v=.ref a∧gB H4 (.ref a) ((rows2[i]).map V.str):=fun i v e=>by
      have hi:=(List.getElem?_eq_some_iff.mp e).1
      have hir:i < rows2.length:=by omega
      obtain ⟨a,ea,ao,h⟩:=eV pr i hi hir
      rw [List.getElem?_eq_getElem hi] at e
      cases e
      exact⟨hir,a,ea,a,rfl,h.elim (fun z=>.inl (kp4 a _ ao (s3 a _ z))) fun z=>.inr (kp4 a _ ao (s3 a _ z))⟩
     refine⟨_,rfl,l2,rfl,ug (K:=K) hl4 (fun D i ys H5=>H5 D=some (.lst ys)∧mG H5 D ol ys ((rows2.take i).map (bO x1))∧Same H4 H5)
      (fun D hD=>⟨ak,.nil,Same.new hD⟩) (fun D i ys H5 hD ⟨_,_,sm⟩ o e=>sm l2 o e) ?_ ?_⟩
     ·rintro D1 ys H5 hD1 ⟨hD5,ry5,sm5⟩
      rw [List.take_of_length_le (by omega)] at ry5
      have D1o:D1≠ol:=fun e=>by rw [e,hol4] at hD1; cases hD1
      refine⟨tot (rows2.map (bO x1)),hlt,ys,rows2.map (bO x1),os++[x1],D1,_,rfl,⟨D1,rfl,.inl hD5⟩,D1o,Paired.oZ ry5 fun v r ⟨a,e,_,n,q⟩=>⟨a,e,n,.inl q⟩,.inl (Paired.oZ ry5 fun v r ⟨a,e,_,n,q⟩=>⟨a,e,.inl q⟩),sm5 ol _ hol4,rfl,?_,by rw [List.length_map]; exact hrl,fun r h=>?_,sm4.trans sm5⟩
      ·rw [List.length_append,List.length_singleton]
       omega
      ·have h1:=mg2 _ (.step (by rw [sU]; exact hfr) (by rw [ou]; exact h))
       rw [Option.map_map] at h1
       have:((fun x=>os++x) ∘ fun x=>x1::x)=fun x=>os++[x1]++x:=by
        funext z
        simp
       rw [this] at h1
       exact h1
     ·rintro D1 i v ys H5 hD1 hi ev ⟨hD5,ry5,sm5⟩ σo ho
      obtain ⟨oo,rfl⟩:=own1 ho
      obtain ⟨hir,a,rfl,ha⟩:=row4 i v ev
      have ha5:=ha.same sm5
      have hyl:ys.length≤1000:=by
       rw [Paired.length ry5,List.length_map,List.length_take]
       omega
      refine⟨⟨[_],rfl,rfl⟩,cV ⟨_,rfl,a,rfl,ug (K:=K) ha5 (fun D j ys5 H6=>ys5=(bO x1 ((rows2[i]).take j)).map V.str∧H6=upd H5 D (.lst ys5))
       (fun D hD=>⟨rfl,rfl⟩) (fun D j ys5 H6 hD ⟨_,e6⟩ o e=>by rw [e6,aA (aB e hD)]; exact e) ?_ ?_⟩⟩
      ·rintro D5 ys5 H6 hD5' ⟨rfl,rfl⟩
       rw [List.take_of_length_le (by rw [List.length_map]; exact Nat.le_refl _)]
       have s6:∀ o,Same H5 (upd H5 D5 o):=fun o=>Same.new hD5'
       have D51:D5≠D1:=fun e=>by rw [e,hD5] at hD5'; cases hD5'
       have D5o:D5≠ol:=fun e=>by rw [e,sm5 ol _ hol4] at hD5'; cases hD5'
       refine⟨by omega,s6 _ D1 _ hD5,aX hi ⟨ak,?_,fun b u e=>?_⟩⟩
       ·rw [take_snoc hir,List.map_append]
        exact eX (ry5.grow (s6 _)) ⟨D5,rfl,D51,D5o,by rw [aA D51,ak]⟩
       ·rw [aA (aB e hD1)]
        exact s6 _ b _ (sm5 b _ e)
      ·rintro D5 j y ys5 H6 hD5' hj ey ⟨rfl,rfl⟩ σo5 ho5
       obtain ⟨o5,rfl⟩:=own1 ho5
       have hj':j < (rows2[i]).length:=by rw [List.length_map] at hj; exact hj
       rw [List.getElem?_map,List.getElem?_eq_getElem hj'] at ey
       cases ey
       have eout:bO x1 ((rows2[i]).take (j+1))=bO x1 ((rows2[i]).take j)++(if decide ((rows2[i])[j]≠x1)=true then [(rows2[i])[j]] else []):=by
        unfold bO
        rw [take_snoc hj',List.filter_append]
        congr 1
        rw [List.filter_cons]
        rfl
       have hri:=tW (List.getElem_mem hir)
       have hl5:((bO x1 ((rows2[i]).take j)).map V.str).length≤1000:=by
        rw [List.length_map]
        have h1:=wH x1 ((rows2[i]).take j)
        rw [List.length_take] at h1
        omega
       refine⟨⟨[_],rfl,rfl⟩,_,rfl,_,rfl,rfl,_,rfl,jJ (fun hb=>?_) (fun hb=>?_)⟩
       ·have hb:(rows2[i])[j]≠x1:=fun e=>by
         have hb:(!decide (V.str (rows2[i])[j]=V.str x1))=true:=hb
         rw [e,decide_eq_true rfl] at hb
         cases hb
        refine⟨_,rfl,by omega,ak,aX hj ⟨?_,by rw [bR]⟩⟩
        rw [eout,if_pos (decide_eq_true hb),List.map_append]
        rfl
       ·have hb:(rows2[i])[j]=x1:=Classical.byContradiction fun e=>hb (by
         show (!decide (V.str (rows2[i])[j]=V.str x1))=true
         rw [decide_eq_false (by intro z; injection z with z; exact e z)]
         rfl)
        refine aX hj ⟨?_,rfl⟩
        rw [eout,if_neg (by simpa using hb),List.append_nil]
end
end K12
end
section
set_option autoImplicit false
namespace K12
open PySem PyProof.Rows L2
def pA(H:Hp)(f:Fam)(x:Str)(q:Addr):Prop:=(∃ o qo,cX f x=some o∧H q=some (.tup [.str "order",.ref qo])∧H qo=some (.tup (o.map V.str)))∨(cX f x=none∧∃ a rg,H q=some (.tup [.str "quarrel",.str a,.ref rg]))
def qj(H:Hp)(kvs:List (Key × V))(f:Fam)(S:Str→Prop):Prop:=∀ x,S x→∃ q,dM kvs (.inr x)=some (.ref q)∧pA H f x q
theorem pA.mono{H H':Hp}{f:Fam}{x:Str}{q:Addr}(h:pA H f x q)(s:gn H H'):pA H' f x q:=by
 rcases h with ⟨o,qo,h1,h2,h3⟩ | ⟨h1,a,rg,h2⟩
 ·exact .inl ⟨o,qo,h1,s q _ h2,s qo _ h3⟩
 ·exact .inr ⟨h1,a,rg,s q _ h2⟩
section
variable {P:Program}{w:World}{K:PySem.W.Frag}{mg:Str→Option Value}{base:Heap}{t:Adr}
def vh:Sp:=fun vs H Q _=>∃(e d:Addr) (es:List Str) (kvs:List (Key × V)) (f:Fam),vs=[.ref e,.ref d]∧H e=some (.tup (es.map V.str))∧Rd H d (.dK kvs)∧qj H kvs f (·∈es)∧
 ((∀ x∈es,(cX f x).isSome=true)→Q .non H)∧(¬ (∀ x∈es,(cX f x).isSome=true)→∀ (q a rg),H q=some (.tup [.str "quarrel",.str a,.ref rg])→Q (.ref q) H)
theorem Am:¬ ("order" : Str) = "quarrel" := by decide +kernel
theorem zW(D:Defs K mg t):aU P w K mg base CX0 1 t.cM.1 t.cM.2 ["kinds","told"] vh:=by
 refine D.cM.fn.ok lH (fun vs H Q E h=>?_) (fun cdv A outer s H vs Q E hr h=>?_)
 ·obtain ⟨e,d,es,kvs,f,rfl,_⟩:=h
  rfl
 ·obtain ⟨e,d,es,kvs,f,rfl,he,hd,told,k1,k2⟩:=h
  refine⟨_,(aC (gZ PassesOwn.never rfl (eY (pv 0)) (aQ (i:=2) lH.nd rfl (Or.inl rfl))
   (aH (cC (bF j9 (aZ dG (gU (fB hr) (pv 1) (pv 2) (fun _ _=>rfl)) aG (fun _ _=>rfl)) dg (bK _))
   (aH (aR (gU (fB hr) (pv 1) (pv 2) (fun _ _=>rfl))))
   bx)))
   (aH (aR mW))),?_⟩
  refine⟨_,rfl,e,rfl,⟨_,SqT.of he⟩,rH (K:=K) (a:=e) (xs:=es.map V.str) (fun i σ H2=>∃ v2:Option V,σ=[some (.ref e),some (.ref d),v2]∧H2=H∧∀ x∈es.take i,(cX f x).isSome=true)
   ⟨_,rfl,rfl,by simp⟩ (fun i σ H2 _ ⟨_,_,e2,_⟩=>by rw [e2]; exact SqT.of he) ?_ ?_⟩
  ·rintro i v σ H2 hi ⟨v2,rfl,rfl,all⟩
   have hil:i < es.length:=by
    have:=(List.getElem?_eq_some_iff.mp hi).1
    rwa [List.length_map] at this
   have ev:v=.str es[i]:=by
    rw [List.getElem?_map,List.getElem?_eq_getElem hil] at hi
    exact(Option.some.inj hi).symm
   subst ev
   have hm:es[i]∈es:=List.getElem_mem hil
   obtain ⟨q,hv,ht⟩:=told es[i] hm
   have gd:lO H2 d (.str es[i]) (some (.ref q)):=.inl ⟨kvs,.inr es[i],hd,rfl,hv.symm⟩
   rcases ht with ⟨o,qo,h1,h2,h3⟩ | ⟨h1,a,rg,h2⟩
   ·refine⟨_,rfl,_,rfl,d,.ref q,rfl,gd,q,_,_,_,rfl,rfl,SqT.of h2,rfl,rfl,_,rfl,jz (by rw [decide_eq_false (by intro h; injection h with h; exact Am h)]; exact Bool.false_ne_true) ?_⟩
    refine⟨_,rfl,rfl,fun x hx=>?_⟩
    rw [take_snoc hil] at hx
    rcases List.mem_append.mp hx with h | h
    ·exact all x h
    ·rw [List.mem_singleton.mp h,h1]
     rfl
   ·refine⟨_,rfl,_,rfl,d,.ref q,rfl,gd,q,_,_,_,rfl,rfl,SqT.of h2,rfl,rfl,_,rfl,jR (decide_eq_true rfl) ?_⟩
    refine⟨_,rfl,_,rfl,d,.ref q,rfl,gd,k2 (fun h=>?_) q a rg h2⟩
    have:=h es[i] hm
    rw [h1] at this
    cases this
  ·rintro σ H2 ⟨v2,rfl,rfl,all⟩
   rw [List.length_map,List.take_of_length_le (Nat.le_refl _)] at all
   exact k1 all
def xV:Sp:=fun vs H Q _=>∃(e d:Addr) (es:List Str) (kvs:List (Key × V)) (f:Fam),vs=[.ref e,.ref d]∧H e=some (.tup (es.map V.str))∧Rd H d (.dK kvs)∧qj H kvs f (·∈es)∧(∀ x∈es,(cX f x).isSome=true)∧es.length≤1000∧
 ∀(q:Addr) (us:List V) H',H' q=some (.tup us)→jQ H' us (d9 (cX f) es)→Same H H'→Q (.ref q) H'
theorem DP(D:Defs K mg t):aU P w K mg base CX0 1 t.jD.1 t.jD.2 ["elders","told"] xV:=by
 have hz:sizeLine=16777216:=sizeLine_eq
 refine D.jD.fn.ok Aa (fun vs H Q E h=>?_) (fun cdv A outer s H vs Q E hr h=>?_)
 ·obtain ⟨e,d,es,kvs,f,rfl,_⟩:=h
  rfl
 ·obtain ⟨e,d,es,kvs,f,rfl,he,hd,told,all,hlen,k⟩:=h
  refine⟨_,(aH (aR (bD G3 (bB bI (by rfl) D.bQ bJ (aj (bH rfl (aM.of ["elder"] [1] ["elder","told"] (aq (top 27)) ["elders","told"] rfl rfl (by decide +kernel)) ⟨fun _ _ _ _ _=>(aQ (i:=0) (show List.Nodup [("elder" : Str),("told" : Str)] by decide +kernel) rfl (Or.inl (lookup_relabel_local rfl)) (.inr (lookup_relabel_local rfl))),fun _ _ _ _ _=>bN,fun _ _ _ _ _=>(aZ (dW (K:=K) rfl) (gU (fB hr) (pv 1) (pv 0) (fun _ _=>rfl)) aG (fun _ _=>rfl))⟩ (eY (pv 0))) au)) (cY (aj (pv 0) au))))),?_⟩
  refine⟨_,rfl,e,rfl,⟨_,SqT.of he⟩,fun D1 hD1=>?_⟩
  have s1:∀ o,Same H (upd H D1 o):=fun o=>Same.new hD1
  refine bw (n:=(es.map V.str).length) (fun i ys H2=>jQ H ys ((es.take i).map fun x=>(cX f x).getD [])∧H2=upd H D1 (.lst ys)) ⟨.nil,rfl⟩ ?_ ?_
  ·rintro ys H2 ⟨rt,rfl⟩
   rw [List.length_map,List.take_of_length_le (Nat.le_refl _)] at rt
   refine⟨⟨_,SqT.of (s1 _ e _ he),Nat.le_refl _⟩,D1,_,rfl,.inl ⟨SqL.of ak,fun q1 hq1=>?_⟩⟩
   have s2:=(s1 (.lst ys)).trans (Same.new (o:=.tup ys) hq1)
   have hyl:ys.length=es.length:=by rw [Paired.length rt,List.length_map]
   refine⟨_,rfl,by show 1≤sizeLine; decide,fun q2 hq2=>?_⟩
   have s3:=s2.trans (Same.new (o:=.tup [.ref e]) hq2)
   have h1:(upd (upd (upd H D1 (.lst ys)) q1 (.tup ys)) q2 (.tup [.ref e])) q1=some (.tup ys):=by rw [aA (aB ak hq2),ak]
   have last:∀ (H':Hp),Same H H'→jQ H' (ys++[.ref e]) (d9 (cX f) es):=fun H' s=>eX (rt.mono (Same.tups s)) ⟨e,rfl,s e _ he⟩
   cases ys with
   | nil=>
    refine .inr ⟨q1,q2,[.ref e],rfl,rfl,h1,ak,?_⟩
    exact k q2 _ _ ak (last _ s3) s3
   | cons y0 yr=>
    refine .inl ⟨q1,q2,y0::yr,[.ref e],rfl,rfl,SqT.of h1,SqT.of ak,List.cons_ne_nil _ _,by rw [hyl]; show es.length+1≤sizeLine; omega,(fun h=>absurd h (List.cons_ne_nil _ _)),fun _ q3 hq3=>?_⟩
    have s4:=s3.trans (Same.new (o:=.tup (y0::yr++[.ref e])) hq3)
    exact k q3 _ _ ak (last _ s4) s4
  ·rintro i ys H2 hi ⟨rt,rfl⟩
   have hi':i < es.length:=by rw [List.length_map] at hi; exact hi
   have ei:(es.map V.str)[i]?=some (.str es[i]):=by rw [List.getElem?_map,List.getElem?_eq_getElem hi']; rfl
   refine⟨⟨_,_,SqT.of (s1 _ e _ he),ei⟩,?_⟩
   rintro v H3 ⟨rfl,yy⟩ σo ho
   obtain ⟨oo,rfl⟩:=own1 ho
   have ev:=yy _ (SqT.of (s1 _ e _ he))
   rw [ei] at ev
   cases ev
   have hm:es[i]∈es:=List.getElem_mem hi'
   obtain ⟨q,hv,ht⟩:=told es[i] hm
   have hd1:Rd (upd H D1 (.lst ys)) d (.dK kvs):=by
    rcases hd with h | ⟨o,h⟩
    ·exact .inl (s1 _ d _ h)
    ·exact .inr ⟨o,s1 _ d _ h⟩
   rcases ht with ⟨o,qo,h1,h2,h3⟩ | ⟨h1,_⟩
   ·refine⟨⟨[_],rfl,rfl⟩,cV ⟨_,rfl,_,rfl,d,.ref q,rfl,.inl ⟨kvs,.inr es[i],hd1,rfl,hv.symm⟩,q,_,_,_,rfl,rfl,SqT.of (s1 _ q _ h2),rfl,by rw [Paired.length rt,List.length_map,List.length_take]; omega,ak,aX hi ⟨?_,by rw [bR]⟩⟩⟩
    rw [take_snoc hi',List.map_append]
    refine eX rt ⟨qo,rfl,?_⟩
    show H qo=some (.tup (((cX f es[i]).getD []).map V.str))
    rw [h1]
    exact h3
   ·have:=all es[i] hm
    rw [h1] at this
    cases this
end
end K12
end
section
set_option autoImplicit false
namespace L2
open PySem PyProof.Rows
theorem rR{X:Cx}{K:PySem.W.Frag}(h:X.K=K)(hc:X.calm=true):dU X (.builtin "all") (fun xs H Q=>∃(p:Addr) (bs:List Bool),xs=[.ref p]∧SqL K H p (bs.map V.bl)∧Q (.bl (bs.all id)) H):=by subst h; exact fW hc
end L2
namespace K12
open PySem PyProof.Rows L2
structure jX (f:Fam) (pl:List Str):Prop where
 nd:pl.Nodup
 sub:∀ x∈pl,x∈nms f
 el:∀(j:Nat) (r:Str × List Str),r∈f→pl[j]?=some r.1→∀ e∈r.2,e∈pl.take j
theorem Aq{f:Fam}(G:fX f)(pl:List Str){r:Str × List Str}(hr:r∈f)(hn:¬ r.1∈pl):∃ r'∈f,¬ r'.1∈pl∧∀ e∈r'.2,e∈pl:=by
 obtain ⟨top,t0,t1,t2⟩:=G.Dl
 have key:∀(j:Nat) (r:Str × List Str),r∈f→top[j]?=some r.1→¬ r.1∈pl→∃ r'∈f,¬ r'.1∈pl∧∀ e∈r'.2,e∈pl:=by
  intro j
  induction j using Nat.strongRecOn with
  | ind j ih=>
   intro r hr hj hn
   by_cases hall:∀ e∈r.2,e∈pl
   ·exact⟨r,hr,hn,hall⟩
   ·have ⟨e,he⟩:=Classical.not_forall.mp hall
    have he1:e∈r.2:=Classical.byContradiction fun z=>he fun y=>absurd y z
    have he2:¬ e∈pl:=fun z=>he fun _=>z
    obtain ⟨j',h1,h2⟩:=t2 r hr
    have ej:=vY t0 hj h1
    subst ej
    obtain ⟨i,hi,ei⟩:=kh (h2 e he1)
    obtain ⟨r2,hr2,er2⟩:=List.mem_map.mp (G.sub r hr e he1)
    have er2:r2.1=e:=er2
    exact ih i hi r2 hr2 (by rw [er2]; exact ei) (by rw [er2]; exact he2)
 obtain ⟨j,h1,_⟩:=t2 r hr
 exact key j r hr h1 hn
def aN(f:Fam)(pl:List Str):Fam:=f.filter fun r=>decide (¬ r.1∈pl)
def aO(f:Fam)(pl:List Str):List Str:=((aN f pl).filter fun r=>r.2.all fun e=>decide (e∈pl)).map (·.1)
theorem jX.more{f:Fam}(G:fX f){pl:List Str}(T:jX f pl):jX f (pl++aO f pl):=by
 have mem:∀ x,x∈aO f pl→∃ r∈f,r.1=x∧¬ x∈pl∧∀ e∈r.2,e∈pl:=fun x hx=>by
  obtain ⟨r,hr,rfl⟩:=List.mem_map.mp hx
  obtain ⟨h1,h2⟩:=List.mem_filter.mp hr
  obtain ⟨h3,h4⟩:=List.mem_filter.mp h1
  exact⟨r,h3,rfl,of_decide_eq_true h4,fun e he=>of_decide_eq_true (List.all_eq_true.mp h2 e he)⟩
 have ndr:(aO f pl).Nodup:=by
  have:(aO f pl).Sublist (nms f):=List.Sublist.map _ (List.Sublist.trans List.filter_sublist List.filter_sublist)
  exact G.nd.sublist this
 refine⟨?_,fun x hx=>?_,fun j r hr ej e he=>?_⟩
 ·rw [List.nodup_append]
  refine⟨T.nd,ndr,fun a ha b hb e=>?_⟩
  obtain ⟨_,_,_,h,_⟩:=mem b hb
  exact h (e ▸ ha)
 ·rcases List.mem_append.mp hx with h | h
  ·exact T.sub x h
  ·obtain ⟨r,hr,e,_⟩:=mem x h
   rw [← e]
   exact List.mem_map.mpr ⟨r,hr,rfl⟩
 ·by_cases hj:j < pl.length
  ·rw [List.getElem?_append_left hj] at ej
   have:=T.el j r hr ej e he
   rw [List.take_append_of_le_length (by omega)]
   exact this
  ·rw [List.getElem?_append_right (by omega)] at ej
   obtain ⟨r',hr',e',_,h⟩:=mem r.1 (List.mem_of_getElem? ej)
   have er:Dt f r'.1=r'.2:=qe G.nd r' hr'
   have er2:Dt f r.1=r.2:=qe G.nd r hr
   rw [e',er2] at er
   have hp:e∈pl:=h e (er ▸ he)
   rw [List.take_append]
   exact List.mem_append_left _ (by rw [List.take_of_length_le (by omega)]; exact hp)
section
variable {P:Program}{w:World}{K:PySem.W.Frag}{mg:Str→Option Value}{base:Heap}{t:Adr}
def nC:Sp:=fun vs H Q _=>∃(v:V) (f:Fam),vs=[v]∧Dp H (qP f) v∧fX f∧∀(q:Addr) (pl:List Str) H',H' q=some (.tup (pl.map V.str))→jX f pl→(∀ x∈nms f,x∈pl)→Same H H'→Q (.ref q) H'
theorem qC(D:Defs K mg t):aU P w K mg base CX0 1 t.bL.1 t.bL.2 ["family"] nC:=by
 have hz:sizeLine=16777216:=sizeLine_eq
 refine D.bL.fn.ok bC (fun vs H Q E h=>?_) (fun cdv A outer s H vs Q E hr h=>?_)
 ·obtain ⟨v,f,rfl,_⟩:=h
  rfl
 ·obtain ⟨v,f,rfl,dv,gf,k⟩:=h
  obtain ⟨a,xs,rfl,ha,dl⟩:=L2.Dp.cA dv
  have hxl:xs.length=f.length:=by have:=dl.length; rwa [List.length_map] at this
  have f7:=gf.len
  refine⟨_,(aC (aP (i:=1) bC.nd rfl (Or.inr rfl) jt)
   (aC (aP (i:=2) bC.nd rfl (Or.inl rfl) (bB lR (by rfl) D.zp vM (aj (pv 0) au)))
   (aC (aP (i:=3) bC.nd rfl (Or.inl rfl) (pv 2))
   (aC (lg PassesOwn.never (qb (pv 3) (by intro _; rfl))
   (aC (mj (i:=3) rfl bC.nd rfl (Or.inl rfl) (aM.of ["kind","elders"] [1] ["kind","elders","placed"] (aq (top 22)) ["family","placed","waiting","ready","kind"] rfl rfl (by decide +kernel)) ⟨fun _ _ _ _ _=>(kO (K:=K) (n:=2) rfl rfl (cB (aQ (i:=0) (show List.Nodup [("kind" : Str),("elders" : Str),("placed" : Str)] by decide +kernel) rfl (Or.inl (lookup_relabel_local rfl)) (.inr (lookup_relabel_local rfl))) (cB (aQ (i:=1) (show List.Nodup [("kind" : Str),("elders" : Str),("placed" : Str)] by decide +kernel) rfl (Or.inl (lookup_relabel_local rfl)) (.inr (lookup_relabel_local rfl))) jr))),fun _ _ _ _ _=>(gJ (cT (aK (rR (K:=K) rfl rfl) (by rfl) D.lu ji (aj (bH rfl (aM.of2 ["elder"] [2] ["elder","placed"] ["kind","elders","placed"] rfl rfl (by decide +kernel)) ⟨fun _ _ _ _ _=>(aQ (i:=0) (show List.Nodup [("elder" : Str),("placed" : Str)] by decide +kernel) rfl (Or.inl (lookup_relabel_local rfl)) (.inr (lookup_relabel_local rfl))),fun _ _ _ _ _=>bN,fun _ _ _ _ _=>(Ar (Ah (fB hr) (pv 0) (pv 1)))⟩ (yL (K:=K) rfl (pv 1))) au)))),fun _ _ _ _ _=>(pv 0)⟩ (eZ (pv 2)))
   (aC (gZ PassesOwn.never rfl (eZ (pv 3)) (aQ (i:=4) bC.nd rfl (Or.inl rfl))
   (aH (lM (fB hr) (pv 1) (pv 4) gk rfl)))
   (aH (mj (i:=2) rfl bC.nd rfl (Or.inl rfl) (aM.of ["pair"] [1] ["pair","placed"] (aq (top 22)) ["family","placed","waiting","ready","kind"] rfl rfl (by decide +kernel)) ⟨fun _ _ _ _ _=>(aQ (i:=0) (show List.Nodup [("pair" : Str),("placed" : Str)] by decide +kernel) rfl (Or.inl (lookup_relabel_local rfl)) (.inr (lookup_relabel_local rfl))),fun _ _ _ _ _=>(gJ (wg (nF (fB hr) (aZ (dW (K:=K) rfl) (pv 0) aG (fun _ _=>rfl)) (pv 1)))),fun _ _ _ _ _=>(pv 0)⟩ (eZ (pv 2)))))))
   (aH (aR (bB (nD rfl) (by rfl) D.bQ bJ (aj (pv 1) au)))))))),?_⟩
  intro pd hpd
  have s1:Same H (upd H pd (.dK [])):=Same.new hpd
  have hpd1:(upd H pd (.dK [])) pd=some (.dK (gH [])):=ak
  generalize upd H pd (.dK [])=H1 at s1 hpd1
  refine⟨_,rfl,a,_,rfl,.inr (SqT.of (s1 a _ ha)),fun w0 hw0=>?_⟩
  have s2:Same H1 (upd H1 w0 (.lst xs)):=Same.new hw0
  refine⟨_,rfl,?_⟩
  refine⟨fun m σ H2=>∃(pl:List Str) (wl rl:Addr) (ws rs:List V) (v4:Option V),σ=[some (.ref a),some (.ref pd),some (.ref wl),some (.ref rl),v4]∧H2 pd=some (.dK (gH pl))∧jX f pl∧H2 wl=some (.lst ws)∧DpL H2 ((aN f pl).map jY) ws∧H2 rl=some (.lst rs)∧(rs=[]→aN f pl=[])∧m=2 * (aN f pl).length+(if rs.isEmpty=true then 0 else 1)∧Same H H2,?_,?_⟩
  ·have e0:aN f []=f:=by
    unfold aN
    rw [List.filter_eq_self]
    simp
   refine⟨_,[],w0,w0,xs,xs,_,rfl,s2 pd _ hpd1,⟨List.nodup_nil,by simp,by intro j r _ h; simp at h⟩,ak,?_,ak,fun h=>?_,rfl,s1.trans s2⟩
   ·rw [e0]
    exact dl.mono (Same.tups (s1.trans s2))
   ·rw [e0]
    rw [h] at hxl
    exact List.eq_nil_of_length_eq_zero hxl.symm
  ·rintro m σ H2 ⟨pl,wl,rl,ws,rs,v4,rfl,hpd2,T,hw2,dw,hr2,hex,rfl,sm2⟩
   refine⟨_,rfl,_,.inl ⟨_,SqL.of hr2,rfl⟩,?_⟩
   cases hrs:rs with
   | nil=>
    refine fj ⟨_,rfl,pd,_,rfl,.inl hpd2,fun q hq=>?_⟩
    have ek:(gH pl).map (fun kv=>kV kv.1)=pl.map V.str:=by
     unfold gH
     rw [List.map_map]
     rfl
    rw [ek]
    refine k q pl _ ak T (fun x hx=>?_) (sm2.trans (Same.new hq))
    have h0:=hex hrs
    apply Classical.byContradiction
    intro hn
    obtain ⟨r,hr',rfl⟩:=List.mem_map.mp hx
    have:r∈aN f pl:=List.mem_filter.mpr ⟨hr',decide_eq_true hn⟩
    rw [h0] at this
    cases this
   | cons r0 rr=>
    have hem:(!(r0::rr).isEmpty)=true:=rfl
    rw [hem]
    refine dZ ⟨fun σ' H'=>∃ m',m' < 2 * (aN f pl).length+1∧∃(pl:List Str) (wl rl:Addr) (ws rs:List V) (v4:Option V),σ'=[some (.ref a),some (.ref pd),some (.ref wl),some (.ref rl),v4]∧H' pd=some (.dK (gH pl))∧jX f pl∧H' wl=some (.lst ws)∧DpL H' ((aN f pl).map jY) ws∧H' rl=some (.lst rs)∧(rs=[]→aN f pl=[])∧m'=2 * (aN f pl).length+(if rs.isEmpty=true then 0 else 1)∧Same H H',fun σ' H' h=>h,?_⟩
    have hwl:ws.length=(aN f pl).length:=by have:=dw.length; rwa [List.length_map] at this
    have hl7:(aN f pl).length≤7:=Nat.le_trans (List.length_filter_le _ _) f7
    have pwne:∀ {H3:Hp},Same H2 H3→True:=fun _=>trivial
    refine⟨_,rfl,wl,rfl,⟨_,SqL.of hw2⟩,fun D1 hD1=>?_⟩
    refine bw (n:=ws.length) (fun i ys H3=>ys=((((aN f pl).take i).filter fun r=>r.2.all fun e=>decide (e∈pl)).map (·.1)).map V.str∧H3 D1=some (.lst ys)∧Same H2 H3) ⟨rfl,ak,Same.new hD1⟩ ?_ ?_
    ·rintro ys H3 ⟨rfl,hD3,sm3⟩
     rw [List.take_of_length_le (by omega)] at hD3
     have hD3:H3 D1=some (.lst ((aO f pl).map V.str)):=hD3
     refine⟨⟨_,SqL.of (sm3 wl _ hw2),Nat.le_refl _⟩,?_⟩
     have hwD:wl≠D1:=aB hw2 hD1
     have pdD:pd≠D1:=aB hpd2 hD1
     have hrdy:(aO f pl).length≤7:=by
      unfold aO
      rw [List.length_map]
      exact Nat.le_trans (List.length_filter_le _ _) hl7
     have Tm:=T.more gf
     have plx:pl.length≤7:=by
      have h1:=dO T.nd (m:=nms f) T.sub
      have h2:(nms f).length=f.length:=List.length_map _
      omega
     have newk:∀(i:Nat) (hi:i < (aO f pl).length),¬ (aO f pl)[i]∈pl++(aO f pl).take i:=fun i hi h=>by
      have nd:=Tm.nd
      have e:pl++aO f pl=(pl++(aO f pl).take i)++((aO f pl)[i]::(aO f pl).drop (i+1)):=by
       rw [List.append_assoc,List.getElem_cons_drop,List.take_append_drop]
      rw [e,List.nodup_append] at nd
      exact nd.2.2 _ h _ List.mem_cons_self rfl
     refine⟨_,rfl,D1,rfl,⟨_,SqL.of hD3⟩,mO (K:=K) (a:=D1) (xs:=(aO f pl).map V.str) (fun i σ H4=>∃ v4:Option V,σ=[some (.ref a),some (.ref pd),some (.ref wl),some (.ref D1),v4]∧H4 pd=some (.dK (gH (pl++(aO f pl).take i)))∧∀ b u,b≠pd→H3 b=some u→H4 b=some u)
      ⟨_,rfl,by rw [List.take_zero,List.append_nil]; exact sm3 pd _ hpd2,fun b u _ e=>e⟩ (fun i σ H4 _ ⟨_,_,_,kp⟩=>SqL.of (kp D1 _ pdD.symm hD3)) ?_ ?_⟩
     ·rintro i x σ H4 hi ⟨v4',rfl,hpd4,kp4⟩
      have hil:i < (aO f pl).length:=by
       have:=(List.getElem?_eq_some_iff.mp hi).1
       rwa [List.length_map] at this
      have ex:x=.str (aO f pl)[i]:=by
       rw [List.getElem?_map,List.getElem?_eq_getElem hil] at hi
       exact(Option.some.inj hi).symm
      subst ex
      refine⟨_,rfl,_,rfl,pd,_,rfl,sV.k (k:=.inr (aO f pl)[i]) hpd4 (by unfold gH; rw [List.length_map,List.length_append,List.length_take]; omega),?_⟩
      rw [tG (newk i hil)]
      exact⟨_,rfl,by rw [ak,take_snoc hil,List.append_assoc],fun b u hb e=>by rw [aA hb]; exact kp4 b u hb e⟩
     ·rintro σ H4 ⟨v4',rfl,hpd4,kp4⟩
      rw [List.length_map,List.take_of_length_le (Nat.le_refl _)] at hpd4
      have wpd:wl≠pd:=eU hw2 hpd2 (fun z=>nomatch z)
      have hw4:=kp4 wl _ wpd (sm3 wl _ hw2)
      have tu4:gn H2 H4:=fun c zs e=>kp4 c _ (eU e hpd2 (fun z=>nomatch z)) (sm3 c _ e)
      have sm4:Same H H4:=fun b u e=>kp4 b u (aB e hpd) (sm3 b u (sm2 b u e))
      have dw4:=dw.mono tu4
      refine⟨_,rfl,wl,rfl,⟨_,SqL.of hw4⟩,fun D2 hD2=>?_⟩
      refine bw (n:=ws.length) (fun i ys H5=>H5 D2=some (.lst ys)∧DpL H4 ((((aN f pl).take i).filter fun r=>decide (¬ r.1∈pl++aO f pl)).map jY) ys∧Same H4 H5) ⟨ak,.nil,Same.new hD2⟩ ?_ ?_
      ·rintro ys H5 ⟨hD5,dy,sm5⟩
       rw [List.take_of_length_le (by omega)] at dy
       refine⟨⟨_,SqL.of (sm5 wl _ hw4),Nat.le_refl _⟩,?_⟩
       have el:(aN f pl).filter (fun r=>decide (¬ r.1∈pl++aO f pl))=aN f (pl++aO f pl):=by
        unfold aN
        rw [List.filter_filter]
        apply List.filter_congr
        intro r _
        by_cases h1:r.1∈pl
        ·simp [h1]
        ·simp [h1]
       rw [el] at dy
       have hle:(aN f (pl++aO f pl)).length≤(aN f pl).length:=by rw [← el]; exact List.length_filter_le _ _
       have hmm:2 * (aN f (pl++aO f pl)).length+(if ((aO f pl).map V.str).isEmpty=true then 0 else 1) < 2 * (aN f pl).length+1:=by
        cases hrd:aO f pl with
        | nil=>
         rw [hrd] at hle
         simp
        | cons x0 xr=>
         have:(aN f (pl++aO f pl)).length < (aN f pl).length:=by
          rw [← el]
          have hx0:x0∈aO f pl:=by rw [hrd]; exact List.mem_cons_self
          obtain ⟨r,hr',e⟩:=List.mem_map.mp hx0
          have hrl:=(List.mem_filter.mp hr').1
          refine Nat.lt_of_le_of_ne (List.length_filter_le _ _) fun e2=>?_
          have:=List.length_filter_eq_length_iff.mp e2 r hrl
          have:=of_decide_eq_true this
          exact this (List.mem_append_right _ (by show r.1∈_; rw [show r.1=x0 from e]; exact hx0))
         rw [hrd] at this
         simp
         omega
       refine⟨_,hmm,pl++aO f pl,D2,D1,ys,(aO f pl).map V.str,_,rfl,sm5 pd _ hpd4,Tm,hD5,dy.mono (Same.tups sm5),sm5 D1 _ (kp4 D1 _ pdD.symm hD3),fun h=>?_,rfl,sm4.trans sm5⟩
       have hrd:aO f pl=[]:=List.map_eq_nil_iff.mp h
       apply Classical.byContradiction
       intro hne
       obtain ⟨r,hr'⟩:=List.exists_mem_of_ne_nil _ hne
       obtain ⟨h1,h2⟩:=List.mem_filter.mp hr'
       have h2:=of_decide_eq_true h2
       have h2':¬ r.1∈pl:=fun z=>h2 (List.mem_append_left _ z)
       obtain ⟨r',hr1,hr2',hr3⟩:=Aq gf pl h1 h2'
       have:r'.1∈aO f pl:=List.mem_map.mpr ⟨r',List.mem_filter.mpr ⟨List.mem_filter.mpr ⟨hr1,decide_eq_true hr2'⟩,List.all_eq_true.mpr fun e he=>decide_eq_true (hr3 e he)⟩,rfl⟩
       rw [hrd] at this
       cases this
      ·rintro i ys H5 hi ⟨hD5,dy,sm5⟩
       have hif:i < (aN f pl).length:=by omega
       obtain ⟨y,ey,dyy⟩:=dw4.get (i:=i) (t:=jY (aN f pl)[i]) (by rw [List.getElem?_map,List.getElem?_eq_getElem hif]; rfl)
       obtain ⟨q,e,rfl,hq,he⟩:=K12.Dp.qK dyy
       refine⟨⟨_,_,SqL.of (sm5 wl _ hw4),ey⟩,?_⟩
       rintro z H6 ⟨rfl,yy⟩ σo ho
       obtain ⟨oo,rfl⟩:=own1 ho
       have ez:=yy _ (SqL.of (sm5 wl _ hw4))
       rw [ey] at ez
       cases ez
       have hyl:ys.length≤7:=by
        rw [dy.length,List.length_map]
        refine Nat.le_trans (List.length_filter_le _ _) ?_
        rw [List.length_take]
        omega
       have efl:((aN f pl).take (i+1)).filter (fun r=>decide (¬ r.1∈pl++aO f pl))=((aN f pl).take i).filter (fun r=>decide (¬ r.1∈pl++aO f pl))++(if decide (¬ ((aN f pl)[i]).1∈pl++aO f pl)=true then [(aN f pl)[i]] else []):=by
        rw [take_snoc hif,List.filter_append]
        congr 1
        rw [List.filter_cons]
        rfl
       refine⟨⟨[_],rfl,rfl⟩,_,rfl,q,_,_,_,rfl,rfl,SqT.of (sm5 q _ hq),rfl,_,rfl,pd,_,rfl,lO.k (k:=.inr ((aN f pl)[i]).1) (sm5 pd _ hpd4),_,rfl,?_⟩
       cases hin:(dM (gH (pl++aO f pl)) (.inr ((aN f pl)[i]).1)).isSome with
       | true=>
        have hm:=(iY _ _).mp hin
        refine fj (aX hi ⟨hD5,?_,sm5⟩)
        rw [efl,if_neg (fun h=>(of_decide_eq_true h) hm),List.append_nil]
        exact dy
       | false=>
        have hm:¬ ((aN f pl)[i]).1∈pl++aO f pl:=fun h=>by rw [(iY _ _).mpr h] at hin; cases hin
        refine dZ ⟨_,rfl,by omega,hD5,aX hi ⟨ak,?_,fun b u e'=>?_⟩⟩
        ·rw [efl,if_pos (decide_eq_true hm),List.map_append]
         exact dy.append (.cons dyy .nil)
        ·rw [aA (aB e' hD2)]
         exact sm5 b _ e'
    ·rintro i ys H3 hi ⟨rfl,hD3,sm3⟩
     have hif:i < (aN f pl).length:=by omega
     obtain ⟨y,ey,dyy⟩:=(dw.mono (Same.tups sm3)).get (i:=i) (t:=jY (aN f pl)[i]) (by rw [List.getElem?_map,List.getElem?_eq_getElem hif]; rfl)
     obtain ⟨q,e,rfl,hq,he⟩:=K12.Dp.qK dyy
     refine⟨⟨_,_,SqL.of (sm3 wl _ hw2),ey⟩,?_⟩
     rintro z H4 ⟨rfl,yy⟩ σo ho
     obtain ⟨oo,oo',rfl⟩:=FT ho
     have ez:=yy _ (SqL.of (sm3 wl _ hw2))
     rw [ey] at ez
     cases ez
     have hyl:(((((aN f pl).take i).filter fun r=>r.2.all fun e=>decide (e∈pl)).map (·.1)).map V.str).length≤7:=by
      rw [List.length_map,List.length_map]
      refine Nat.le_trans (List.length_filter_le _ _) ?_
      rw [List.length_take]
      omega
     have efl:((aN f pl).take (i+1)).filter (fun r=>r.2.all fun e=>decide (e∈pl))=((aN f pl).take i).filter (fun r=>r.2.all fun e=>decide (e∈pl))++(if (((aN f pl)[i]).2.all fun e=>decide (e∈pl))=true then [(aN f pl)[i]] else []):=by
      rw [take_snoc hif,List.filter_append]
      congr 1
      rw [List.filter_cons]
      rfl
     refine⟨q,_,rfl,SqT.of hq,rfl,_,_,rfl,_,_,rfl,rfl,⟨[_,_],rfl,rfl⟩,_,rfl,e,rfl,⟨_,SqT.of he⟩,fun D3 hD3'=>?_⟩
     have s5:∀ o,Same H4 (upd H4 D3 o):=fun o=>Same.new hD3'
     have el7:=gf.el _ (List.mem_filter.mp (List.getElem_mem hif)).1
     refine bw (n:=(((aN f pl)[i]).2.map V.str).length) (fun j bs H5=>bs=((((aN f pl)[i]).2.take j).map fun e=>decide (e∈pl)).map V.bl∧H5=upd H4 D3 (.lst bs)) ⟨rfl,rfl⟩ ?_ ?_
     ·rintro bs H5 ⟨rfl,rfl⟩
      rw [List.take_of_length_le (by rw [List.length_map]; exact Nat.le_refl _)]
      refine⟨⟨_,SqT.of (s5 _ e _ he),Nat.le_refl _⟩,D3,_,rfl,SqL.of ak,_,rfl,?_⟩
      have eall:((((aN f pl)[i]).2.map fun e=>decide (e∈pl)).all id)=((aN f pl)[i]).2.all fun e=>decide (e∈pl):=by
       rw [List.all_map]
       rfl
      rw [eall]
      cases hall:(((aN f pl)[i]).2.all fun e=>decide (e∈pl)) with
      | true=>
       refine dZ ⟨_,rfl,by omega,s5 _ D1 _ hD3,aX hi ⟨?_,ak,fun b u e'=>?_⟩⟩
       ·rw [efl,hall,if_pos rfl,List.map_append,List.map_append]
        rfl
       ·rw [aA (aB e' hD1)]
        exact s5 _ b _ (sm3 b _ e')
      | false=>
       refine fj (aX hi ⟨?_,s5 _ D1 _ hD3,sm3.trans (s5 _)⟩)
       rw [efl,hall,if_neg Bool.false_ne_true,List.append_nil]
     ·rintro j bs H5 hj ⟨rfl,rfl⟩
      have hj':j < ((aN f pl)[i]).2.length:=by rw [List.length_map] at hj; exact hj
      have ej:(((aN f pl)[i]).2.map V.str)[j]?=some (.str ((aN f pl)[i]).2[j]):=by rw [List.getElem?_map,List.getElem?_eq_getElem hj']; rfl
      refine⟨⟨_,_,SqT.of (s5 _ e _ he),ej⟩,?_⟩
      rintro y5 H6 ⟨rfl,yy⟩ σo5 ho5
      obtain ⟨o5,rfl⟩:=own1 ho5
      have ey5:=yy _ (SqT.of (s5 _ e _ he))
      rw [ej] at ey5
      cases ey5
      refine⟨⟨[_],rfl,rfl⟩,cV ⟨_,rfl,_,rfl,pd,_,rfl,lO.k (k:=.inr ((aN f pl)[i]).2[j]) (s5 _ pd _ (sm3 pd _ hpd2)),by rw [List.length_map,List.length_map,List.length_take]; omega,ak,aX hj ⟨?_,by rw [bR]⟩⟩⟩
      rw [take_snoc hj',List.map_append,List.map_append]
      congr 1
      show [V.bl (dM (gH pl) (.inr ((aN f pl)[i]).2[j])).isSome]=[V.bl (decide (((aN f pl)[i]).2[j]∈pl))]
      congr 2
      apply Bool.eq_iff_iff.mpr
      rw [iY,decide_eq_true_iff]
end
end K12
end
section
set_option autoImplicit false
namespace K12
open PySem PyProof.Rows L2
theorem Mg.ux{rows:List (List Str)}{r:Option (List Str)}(h:Mg rows r):∀ os,r=some os→(∀ y∈os,∃ q∈rows,y∈q)∧os.Nodup:=by
 induction h with
 | nil=>
  intro os e
  cases e
  exact⟨by simp,List.nodup_nil⟩
 | stuck _ _=>
  intro os e
  cases e
 | @step rows x more r hf _ ih=>
  intro os e
  cases r with
  | none=>cases e
  | some os'=>
   cases e
   obtain ⟨h1,h2⟩:=ih os' rfl
   have back:∀ y∈os',y≠x∧∃ q∈rows,y∈q:=fun y hy=>by
    obtain ⟨q,hq,hyq⟩:=h1 y hy
    obtain ⟨hq1,_⟩:=List.mem_filter.mp hq
    obtain ⟨q0,hq0,rfl⟩:=List.mem_map.mp hq1
    obtain ⟨a,b⟩:=List.mem_filter.mp hyq
    exact⟨of_decide_eq_true b,q0,hq0,a⟩
   refine⟨fun y hy=>?_,List.nodup_cons.mpr ⟨fun h=>(back x h).1 rfl,h2⟩⟩
   rcases List.mem_cons.mp hy with rfl | h
   ·obtain ⟨q,hq,hh⟩:=nT (by rw [hf]; exact List.mem_cons_self)
    refine⟨q,hq,?_⟩
    cases q with
    | nil=>cases hh
    | cons z q=>
     cases hh
     exact List.mem_cons_self
   ·exact(back y h).2
theorem vA{f:Fam}(G:fX f):∀ x∈nms f,∀ o,cX f x=some o→o≠[]∧(∀ y∈o,y∈nms f)∧o.length≤8:=by
 obtain ⟨top,t0,t1,t2⟩:=G.Dl
 have key:∀(j:Nat) (x:Str),top[j]?=some x→∀ o,cX f x=some o→o≠[]∧(∀ y∈o,y∈nms f)∧o.length≤8:=by
  intro j
  induction j using Nat.strongRecOn with
  | ind j ih=>
   intro x hx o ho
   have hxn:x∈nms f:=(t1 x).mp (List.mem_of_getElem? hx)
   obtain ⟨r,hr,rfl⟩:=List.mem_map.mp hxn
   rw [zU G hr] at ho
   split at ho
   ·rename_i hall
    obtain ⟨j',h1,h2⟩:=t2 r hr
    have ej:=vY t0 hx h1
    subst ej
    cases hm:qM (full (d9 (cX f) r.2)) with
    | none=>rw [hm] at ho; cases ho
    | some os=>
     rw [hm] at ho
     cases ho
     have hM:∃ q,Mg (full (d9 (cX f) r.2)) q:=by
      apply Classical.byContradiction
      intro hn
      unfold qM at hm
      rw [dif_neg hn] at hm
      cases hm
     obtain ⟨q,hq⟩:=hM
     have eq:=vH hq
     rw [hm] at eq
     subst eq
     obtain ⟨h3,h4⟩:=Mg.ux hq os rfl
     have sub:∀ y∈os,y∈nms f:=fun y hy=>by
      obtain ⟨q,hq',hyq⟩:=h3 y hy
      have hq':=(List.mem_filter.mp hq').1
      unfold d9 at hq'
      rcases List.mem_append.mp hq' with h | h
      ·obtain ⟨e,he,rfl⟩:=List.mem_map.mp h
       obtain ⟨i,hi,ei⟩:=kh (h2 e he)
       have hs:=List.all_eq_true.mp hall e he
       obtain ⟨oe,hoe⟩:=Option.isSome_iff_exists.mp hs
       rw [hoe] at hyq
       exact(ih i hi e ei oe hoe).2.1 y hyq
      ·rw [List.mem_singleton.mp h] at hyq
       exact G.sub r hr y hyq
     refine⟨List.cons_ne_nil _ _,fun y hy=>?_,?_⟩
     ·rcases List.mem_cons.mp hy with rfl | h
      ·exact hxn
      ·exact sub y h
     ·have h5:=dO h4 (m:=nms f) sub
      have h6:(nms f).length=f.length:=List.length_map _
      have:=G.len
      rw [List.length_cons]
      omega
   ·cases ho
 intro x hx
 obtain ⟨j,hj,e⟩:=List.getElem_of_mem ((t1 x).mpr hx)
 exact key j x (by rw [List.getElem?_eq_getElem hj,e])
def mF(H:Hp)(kvs:List (Key × V))(f:Fam):Prop:=Paired (fun(kv:Key × V) (r:Str × List Str)=>kv.1=.inr r.1∧∃ e,kv.2=.ref e∧H e=some (.tup (r.2.map V.str))) kvs f
theorem mF.keys{H:Hp}{kvs:List (Key × V)}{f:Fam}(h:mF H kvs f):kvs.map (·.1)=(nms f).map Sum.inr:=by
 induction h with
 | nil=>rfl
 | cons r _ ih=>exact congr (congrArg List.cons r.1) ih
theorem mF.get{H:Hp}:∀ {kvs:List (Key × V)} {f:Fam},mF H kvs f→(nms f).Nodup→∀ r∈f,∃ e,dM kvs (.inr r.1)=some (.ref e)∧H e=some (.tup (r.2.map V.str))
 | _,_,.nil,_,r,hr=>nomatch hr
 | (k,v)::kvs,r0::f,.cons q t,nd,r,hr=>by
  have nd':(r0.1::nms f).Nodup:=nd
  obtain ⟨n1,n2⟩:=List.nodup_cons.mp nd'
  obtain ⟨e1,e,e2,e3⟩:=q
  rcases List.mem_cons.mp hr with rfl | h
  ·exact⟨e,by rw [eG (p:=(k,v)) e1]; exact congrArg some e2,e3⟩
  ·obtain ⟨e',h1,h2⟩:=mF.get t n2 r h
   refine⟨e',?_,h2⟩
   rw [eO (p:=(k,v)),h1]
   intro z
   have z:k=Sum.inr r.1:=z
   have e1:k=Sum.inr r0.1:=e1
   rw [e1] at z
   injection z with z
   exact n1 (z ▸ List.mem_map.mpr ⟨r,h,rfl⟩)
theorem mF.has{H:Hp}{kvs:List (Key × V)}{f:Fam}(h:mF H kvs f)(x:Str):(dM kvs (.inr x)).isSome=true↔x∈nms f:=by
 rw [lA,h.keys,List.mem_map]
 constructor
 ·rintro ⟨y,hy,e⟩
  injection e with e
  exact e ▸ hy
 ·exact fun h=>⟨x,h,rfl⟩
theorem uT:∀(more acc:List (Key × V)),((acc++more).map (·.1)).Nodup→dH acc more=acc++more
 | [],acc,_=>by rw [List.append_nil]; rfl
 | (k,v)::more,acc,nd=>by
  have hn:dM acc k=none:=by
   cases q:dM acc k with
   | none=>rfl
   | some y=>
    exfalso
    have h1:(dM acc k).isSome=true:=by rw [q]; rfl
    rw [lA] at h1
    have h2:=h1
    rw [List.map_append,List.map_cons] at nd
    exact(List.nodup_append.mp nd).2.2 k h2 k List.mem_cons_self rfl
  show dH (putK acc k v) more=_
  rw [tU v hn,uT more (acc++[(k,v)]) (by rw [List.append_assoc]; exact nd),List.append_assoc]
  rfl
theorem uZ{H:Hp}{f:Fam}{xs:List V}(dl:DpL H (f.map jY) xs):∃ kvs,wz H xs kvs∧mF H kvs f:=by
 induction f generalizing xs with
 | nil=>
  rw [dl.jV]
  exact⟨[],⟨rfl,fun i kv h=>by simp at h⟩,.nil⟩
 | cons r f ih=>
  obtain ⟨x,rest,rfl,d,dl'⟩:=dl.cases
  obtain ⟨kvs,h1,h2⟩:=ih dl'
  obtain ⟨q,e,rfl,hq,he⟩:=K12.Dp.qK d
  refine⟨(.inr r.1,.ref e)::kvs,⟨by rw [List.length_cons,List.length_cons,h1.1],fun i kv h=>?_⟩,.cons ⟨rfl,e,rfl,he⟩ h2⟩
  cases i with
  | zero=>
   cases h
   exact⟨q,rfl,hq⟩
  | succ i=>exact h1.2 i kv h
theorem mF.len{H:Hp}{kvs:List (Key × V)}{f:Fam}(h:mF H kvs f):kvs.length=f.length:=Paired.length h
theorem mF.merge{H:Hp}{kvs:List (Key × V)}{f:Fam}(h:mF H kvs f)(nd:(nms f).Nodup):dH [] kvs=kvs:=by
 refine uT kvs [] ?_
 rw [List.nil_append,h.keys]
 exact qm (fun a _ b _ e=>by injection e) nd
section
variable {P:Program}{w:World}{K:PySem.W.Frag}{mg:Str→Option Value}{base:Heap}{t:Adr}
def sS:Sp:=fun vs H Q _=>∃(x:Str) (d:Addr) (kvs:List (Key × V)),vs=[.str x,.ref d]∧Rd H d (.dK kvs)∧Q (.bl (dM kvs (.inr x)).isSome) H
theorem Dk(D:Defs K mg t):aU P w K mg base CX0 1 t.cQ.1 t.cQ.2 ["thing","kinds"] sS:=by
 refine D.cQ.fn.ok sO (fun vs H Q E h=>?_) (fun cdv A outer s H vs Q E hr h=>?_)
 ·obtain ⟨x,d,kvs,rfl,_⟩:=h
  rfl
 ·obtain ⟨x,d,kvs,rfl,hd,k⟩:=h
  refine⟨_,(aH (aR (iW (aK bM (by rfl) D.bh bf (aj (pv 0) (aj (dY (v:=V.ty "str") rfl D.yp tQ rfl) au))) (jx (Ar (Ah (fB hr) (pv 0) (pv 1))))))),?_⟩
  exact⟨_,rfl,_,_,_,true,rfl,.str x,gA K "str",_,rfl,dZ ⟨_,rfl,_,rfl,d,_,rfl,.inl ⟨kvs,.inr x,hd,rfl,rfl⟩,k⟩⟩
def wV:Sp:=fun vs H Q _=>∃(x:Str) (d:Addr) (kvs:List (Key × V)),vs=[.str x,.ref d]∧Rd H d (.dK kvs)∧(dM kvs (.inr x)).isSome=true∧Q .non H
theorem Es(D:Defs K mg t):aU P w K mg base CX0 2 t.cu.1 t.cu.2 ["kind","kinds"] wV:=by
 have G_is_kind:aU P w K mg base CX0 1 t.cQ.1 t.cQ.2 _ sS:=Dk D
 refine D.cu.fn.ok oJ (fun vs H Q E h=>?_) (fun cdv A outer s H vs Q E hr h=>?_)
 ·obtain ⟨x,d,kvs,rfl,_⟩:=h
  rfl
 ·obtain ⟨x,d,kvs,rfl,hd,hx,k⟩:=h
  refine⟨_,(aH (cC (cW (cT (aJ D.cQ G_is_kind (hr.mono (by omega)) (by rfl) (aj (pv 0) (aj (pv 1) au)))))
   (aH GJ)
   bx)),?_⟩
  refine⟨_,rfl,_,rfl,x,d,kvs,rfl,hd,_,rfl,?_⟩
  rw [hx]
  exact fj k
end
end K12
end
section
set_option autoImplicit false
namespace K12
open PySem PyProof.Rows L2
theorem Ai{f:Fam}(G:fX f){r:Str × List Str}(hr:r∈f)(hall:∀ x∈r.2,(cX f x).isSome=true):tot (d9 (cX f) r.2)≤100∧(d9 (cX f) r.2).length≤8∧((∀ q∈d9 (cX f) r.2,q≠[])∨∀ q∈d9 (cX f) r.2,q=[]):=by
 have e7:=G.el r hr
 have ord:∀ x∈r.2,∃ o,cX f x=some o∧o≠[]∧o.length≤8:=fun x hx=>by
  obtain ⟨o,ho⟩:=Option.isSome_iff_exists.mp (hall x hx)
  obtain ⟨h1,_,h3⟩:=vA G x (G.sub r hr x hx) o ho
  exact⟨o,ho,h1,h3⟩
 have tl:∀ es:List Str,(∀ x∈es,x∈r.2)→tot (es.map fun e=>(cX f e).getD [])≤8 * es.length:=by
  intro es
  induction es with
  | nil=>exact fun _=>Nat.le_refl _
  | cons x es ih=>
   intro h
   rw [List.map_cons,gC,List.length_cons]
   obtain ⟨o,ho,_,h3⟩:=ord x (h x List.mem_cons_self)
   have:=ih fun y hy=>h y (List.mem_cons_of_mem _ hy)
   have:((cX f x).getD []).length≤8:=by rw [ho]; exact h3
   omega
 have ta:tot (d9 (cX f) r.2)=tot (r.2.map fun e=>(cX f e).getD [])+r.2.length:=by
  unfold d9 tot
  rw [List.map_append,List.sum_append]
  simp
 refine⟨?_,?_,?_⟩
 ·rw [ta]
  have:=tl r.2 fun _ h=>h
  omega
 ·unfold d9
  rw [List.length_append,List.length_map,List.length_singleton]
  omega
 ·cases hes:r.2 with
  | nil=>
   right
   intro q hq
   exact List.mem_singleton.mp hq
  | cons x0 xr=>
   left
   intro q hq
   rw [← hes] at hq
   rcases List.mem_append.mp hq with h | h
   ·obtain ⟨x,hx,rfl⟩:=List.mem_map.mp h
    obtain ⟨o,ho,h1,_⟩:=ord x hx
    rw [ho]
    exact h1
   ·rw [List.mem_singleton.mp h,hes]
    exact List.cons_ne_nil _ _
theorem GR.f{H:Hp}{f:Fam}(G:fX f){r:Str × List Str}(hr:r∈f)(hall:∀ x∈r.2,(cX f x).isSome=true){q:Addr}{m:Option (List Str)}(hm:Mg (full (d9 (cX f) r.2)) m)(h:GR H r.1 m q):pA H f r.1 q:=by
 have e:=zU G hr
 rw [if_pos (List.all_eq_true.mpr hall),vH hm] at e
 cases m with
 | none=>
  obtain ⟨a,rg,h⟩:=h
  exact .inr ⟨e,a,rg,h⟩
 | some os=>
  obtain ⟨qo,h1,h2⟩:=h
  exact .inl ⟨r.1::os,qo,e,h1,h2⟩
section
variable {P:Program}{w:World}{K:PySem.W.Frag}{mg:Str→Option Value}{base:Heap}{t:Adr}
def zT:Sp:=fun vs H Q _=>∃(v:V) (f:Fam),vs=[v]∧Dp H (qP f) v∧fX f∧∀(d:Addr) (kvs:List (Key × V)) H',H d=none→H' d=some (.dK kvs)→qj H' kvs f (·∈nms f)→Same H H'→Q (.ref d) H'
theorem Cz(D:Defs K mg t):aU P w K mg base CX0 4 t.cJ.1 t.cJ.2 ["family"] zT:=by
 have G_elders_first:aU P w K mg base CX0 1 t.bL.1 t.bL.2 _ nC:=qC D
 have G_quarrel_among:aU P w K mg base CX0 1 t.cM.1 t.cM.2 _ vh:=zW D
 have G_rows_by:aU P w K mg base CX0 1 t.jD.1 t.jD.2 _ xV:=DP D
 have G_merge_rows:aU P w K mg base CX0 3 t.fP.1 t.fP.2 _ Cr:=Er D
 have hz:sizeLine=16777216:=sizeLine_eq
 refine D.cJ.fn.ok gw (fun vs H Q E h=>?_) (fun cdv A outer s H vs Q E hr h=>?_)
 ·obtain ⟨v,f,rfl,_⟩:=h
  rfl
 ·obtain ⟨v,f,rfl,dv,gf,k⟩:=h
  obtain ⟨a,xs,rfl,ha,dl⟩:=L2.Dp.cA dv
  obtain ⟨kvs0,hpr,el⟩:=uZ dl
  have hkl:kvs0.length=f.length:=el.len
  have f7:=gf.len
  refine⟨_,(aC (aP (i:=1) gw.nd rfl (Or.inl rfl) (bB (tK rfl) (by rfl) D.Fz Bp (aj (pv 0) au)))
   (aC (aP (i:=2) gw.nd rfl (Or.inl rfl) jt)
   (aC (gZ PassesOwn.never rfl (eY (aJ D.bL G_elders_first (hr.mono (by omega)) (by rfl) (aj (pv 0) au))) (aQ (i:=3) gw.nd rfl (Or.inl rfl))
   (aC (aP (i:=4) gw.nd rfl (Or.inl rfl) (aJ D.cM G_quarrel_among (hr.mono (by omega)) (by rfl) (aj (gU (fB hr) (pv 1) (pv 3) (fun _ _=>rfl)) (aj (pv 2) au))))
   (aH (cC (bF zE (pv 4) mW (bK _))
   (aH (lM (fB hr) (pv 2) (pv 3) (aJ D.fP G_merge_rows (hr.mono (by omega)) (by rfl) (aj (pv 3) (aj (aJ D.jD G_rows_by (hr.mono (by omega)) (by rfl) (aj (gU (fB hr) (pv 1) (pv 3) (fun _ _=>rfl)) (aj (pv 2) au))) au))) rfl))
   (aH (lM (fB hr) (pv 2) (pv 3) (pv 4) rfl))))))
   (aH (aR (pv 2)))))),?_⟩
  refine⟨_,rfl,a,xs,kvs0,rfl,ha,hpr,by omega,fun d hd=>?_⟩
  rw [el.merge gf.nd]
  have s1:Same H (upd H d (.dK kvs0)):=Same.new hd
  have hd1:(upd H d (.dK kvs0)) d=some (.dK kvs0):=ak
  generalize upd H d (.dK kvs0)=H1 at s1 hd1
  intro td htd
  have s2:Same H1 (upd H1 td (.dK [])):=Same.new htd
  have htd2:(upd H1 td (.dK [])) td=some (.dK []):=ak
  have htdH:H td=none:=by
   cases q:H td with
   | none=>rfl
   | some o=>
    rw [s1 td o q] at htd
    cases htd
  have dtd:d≠td:=aB hd1 htd
  have htd1:=htd
  generalize upd H1 td (.dK [])=H2 at s2 htd2
  refine⟨_,rfl,.ref a,f,rfl,dv.mono (Same.tups (s1.trans s2)),gf,fun q pl H3 hq T allp s3=>⟨q,rfl,⟨_,SqT.of hq⟩,?_⟩⟩
  have hd3:=s3 d _ (s2 d _ hd1)
  have htd3:=s3 td _ htd2
  have qtd:q≠td:=eU hq htd3 (fun z=>nomatch z)
  have sm3:Same H H3:=(s1.trans s2).trans s3
  refine rH (K:=K) (a:=q) (xs:=pl.map V.str) (fun i σ H4=>∃(kvs:List (Key × V)) (v3 v4:Option V),σ=[some (.ref a),some (.ref d),some (.ref td),v3,v4]∧H4 td=some (.dK kvs)∧kvs.length≤i∧qj H4 kvs f (·∈pl.take i)∧∀ b u,b≠td→H3 b=some u→H4 b=some u)
   ⟨[],_,_,rfl,htd3,Nat.le_refl _,by intro x hx; simp at hx,fun b u _ e=>e⟩ (fun i σ H4 _ ⟨_,_,_,_,_,_,_,kp⟩=>SqT.of (kp q _ qtd hq)) ?_ ?_
  ·rintro i x σ H4 hi ⟨kvs,v3,v4,rfl,htd4,kl,told,kp4⟩
   have hil:i < pl.length:=by
    have:=(List.getElem?_eq_some_iff.mp hi).1
    rwa [List.length_map] at this
   have ex:x=.str pl[i]:=by
    rw [List.getElem?_map,List.getElem?_eq_getElem hil] at hi
    exact(Option.some.inj hi).symm
   subst ex
   obtain ⟨r,hr',er⟩:=List.mem_map.mp (T.sub _ (List.getElem_mem hil))
   have er:r.1=pl[i]:=er
   rw [← er]
   have hesub:∀ e∈r.2,e∈pl.take i:=T.el i r hr' (by rw [List.getElem?_eq_getElem hil,er])
   have sm4:Same H H4:=fun b u e=>kp4 b u (aB e htdH) (sm3 b u e)
   have hd4:=kp4 d _ dtd hd3
   obtain ⟨e,he1,he2⟩:=el.get gf.nd r hr'
   have he4:=sm4 e _ he2
   have gd:∀ {H5:Hp},H5 d=some (.dK kvs0)→lO H5 d (.str r.1) (some (.ref e)):=fun {H5} h=>.inl ⟨kvs0,.inr r.1,.inl h,rfl,he1.symm⟩
   have plx:pl.length≤7:=by
    have h1:=dO T.nd (m:=nms f) T.sub
    have h2:(nms f).length=f.length:=List.length_map _
    omega
   have toldE:qj H4 kvs f (·∈r.2):=fun y hy=>told y (hesub y hy)
   have store:∀(q5:Addr) (H5:Hp) (v4:Option V),Same H4 H5→pA H5 f r.1 q5→∃ (kvs':List (Key × V)) (v3' v4':Option V),([some (.ref a),some (.ref d),some (.ref td),some (.str r.1),v4]:L2.St)=[some (.ref a),some (.ref d),some (.ref td),v3',v4']∧(upd H5 td (.dK (putK kvs (.inr r.1) (.ref q5)))) td=some (.dK kvs')∧kvs'.length≤i+1∧qj (upd H5 td (.dK (putK kvs (.inr r.1) (.ref q5)))) kvs' f (·∈pl.take (i+1))∧∀ b u,b≠td→H3 b=some u→(upd H5 td (.dK (putK kvs (.inr r.1) (.ref q5)))) b=some u:=fun q5 H5 v4 s5 ht=>by
    have tu:gn H5 (upd H5 td (.dK (putK kvs (.inr r.1) (.ref q5)))):=fun c zs e'=>by
     rw [aA (eU e' (s5 td _ htd4) (fun z=>nomatch z))]
     exact e'
    refine⟨_,_,_,rfl,ak,?_,fun y hy=>?_,fun b u hb e'=>by rw [aA hb]; exact s5 b _ (kp4 b u hb e')⟩
    ·have:=iH kvs (.inr r.1) (.ref q5)
     omega
    ·rw [tD]
     by_cases hyr:y=r.1
     ·subst hyr
      exact⟨q5,if_pos rfl,ht.mono tu⟩
     ·rw [take_snoc hil] at hy
      rcases List.mem_append.mp hy with h | h
      ·obtain ⟨q6,h1,h2⟩:=told y h
       exact⟨q6,by rw [if_neg (by intro z; injection z with z; exact hyr z)]; exact h1,(h2.mono (Same.tups s5)).mono tu⟩
      ·exact absurd ((List.mem_singleton.mp h).trans er.symm) hyr
   refine⟨_,rfl,_,rfl,d,.ref e,rfl,gd hd4,_,rfl,e,td,r.2,kvs,f,rfl,he4,.inl htd4,toldE,fun hall=>?_,fun hnot q5 a5 rg5 hq5=>?_⟩
   ·refine⟨_,rfl,rfl,_,rfl,jR (decide_eq_true rfl) ?_⟩
    obtain ⟨t1,t2,t3⟩:=Ai gf hr' hall
    refine⟨_,rfl,_,rfl,_,rfl,d,.ref e,rfl,gd hd4,_,rfl,e,td,r.2,kvs,f,rfl,he4,.inl htd4,toldE,hall,by have:=gf.el r hr'; omega,fun q5 us5 H5 hq5 rt5 s5=>?_⟩
    refine⟨r.1,q5,us5,d9 (cX f) r.2,rfl,hq5,rt5,t3,by omega,by omega,fun q6 m H6 hm ht s6=>?_⟩
    refine⟨_,rfl,_,rfl,td,_,rfl,sV.k (k:=.inr r.1) ((s5.trans s6) td _ htd4) (by omega),?_⟩
    exact store q6 H6 _ (s5.trans s6) (ht.f gf hr' hall hm)
   ·refine⟨_,rfl,rfl,_,rfl,jz (by rw [decide_eq_false (by intro z; cases z)]; exact Bool.false_ne_true) ?_⟩
    refine⟨_,rfl,_,rfl,_,rfl,td,_,rfl,sV.k (k:=.inr r.1) htd4 (by omega),?_⟩
    refine store q5 H4 _ (Same.refl H4) (.inr ⟨?_,a5,rg5,hq5⟩)
    rw [zU gf hr',if_neg (fun h=>hnot (List.all_eq_true.mp h))]
  ·rintro σ H4 ⟨kvs,v3,v4,rfl,htd4,kl,told,kp4⟩
   rw [List.length_map,List.take_of_length_le (Nat.le_refl _)] at told
   exact⟨_,rfl,k td kvs H4 htdH htd4 (fun x hx=>told x (allp x hx)) fun b u e=>kp4 b u (aB e htdH) (sm3 b u e)⟩
end
end K12
end
section
set_option autoImplicit false
namespace K12
open PySem PyProof.Rows L2
section
variable {P:Program}{w:World}{K:PySem.W.Frag}{mg:Str→Option Value}{base:Heap}{t:Adr}
def Ca:Sp:=fun vs H Q _=>∃(v:V) (x:Str) (f:Fam),vs=[v,.str x]∧Dp H (qP f) v∧fX f∧x∈nms f∧∀(q:Addr) H',pA H' f x q→Same H H'→Q (.ref q) H'
theorem FP(D:Defs K mg t):aU P w K mg base CX0 5 t.iZ.1 t.iZ.2 ["family","kind"] Ca:=by
 have G_check_kind:aU P w K mg base CX0 2 t.cu.1 t.cu.2 _ wV:=Es D
 have G_tell_orders:aU P w K mg base CX0 4 t.cJ.1 t.cJ.2 _ zT:=Cz D
 refine D.iZ.fn.ok xW (fun vs H Q E h=>?_) (fun cdv A outer s H vs Q E hr h=>?_)
 ·obtain ⟨v,x,f,rfl,_⟩:=h
  rfl
 ·obtain ⟨v,x,f,rfl,dv,gf,hx,k⟩:=h
  obtain ⟨a,xs,rfl,ha,dl⟩:=L2.Dp.cA dv
  obtain ⟨kvs0,hpr,el⟩:=uZ dl
  have hkl:kvs0.length=f.length:=el.len
  have f7:=gf.len
  refine⟨_,(aC (jo (aJ D.cu G_check_kind (hr.mono (by omega)) (by rfl) (aj (pv 1) (aj (bB (tK rfl) (by rfl) D.Fz Bp (aj (pv 0) au)) au))))
   (aH (aR (gU (fB hr) (aJ D.cJ G_tell_orders (hr.mono (by omega)) (by rfl) (aj (pv 0) au)) (pv 1) (fun _ _=>rfl))))),?_⟩
  refine⟨_,rfl,_,rfl,a,xs,kvs0,rfl,ha,hpr,by omega,fun d hd=>?_⟩
  rw [el.merge gf.nd]
  have s1:Same H (upd H d (.dK kvs0)):=Same.new hd
  refine⟨x,d,kvs0,rfl,.inl ak,(el.has x).mpr hx,?_⟩
  refine⟨_,rfl,.ref a,f,rfl,dv.mono (Same.tups s1),gf,fun td kvs H2 _ htd told s2=>?_⟩
  obtain ⟨q,h1,h2⟩:=told x hx
  exact⟨_,rfl,td,.ref q,rfl,.inl ⟨kvs,.inr x,.inl htd,rfl,h1.symm⟩,k q H2 h2 (s1.trans s2)⟩
end
end K12
end
section
set_option autoImplicit false
namespace K12
open PySem PyProof.Rows L2
def N6(K:PySem.W.Frag)(H:Hp)(v:V):Prop:=∃ n:String,nU K H v (.type n)∧PySem.W.kitOne K (.type n) (.type "str")=some false
def SOr(K:PySem.W.Frag)(H:Hp)(v:V):Prop:=(∃ x,v=.str x)∨N6 K H v
section
variable {P:Program}{w:World}{K:PySem.W.Frag}{mg:Str→Option Value}{base:Heap}{t:Adr}
end
end K12
end
section
set_option autoImplicit false
namespace K12.E
open PySem PyProof.Rows L2
def NmD(d:PyData):Prop:=∃ x,d=.str x∧Nm x
def mU(r:Str × List Str):PyData:=.tuple [.str r.1,.tuple (r.2.map .str)]
theorem Dh(es:List Str):mJ (es.map T.str)=es.map PyData.str:=by
 rw [pW,List.map_map]
 apply List.map_congr_left
 intro x _
 show toD (.str x)=_
 rw [toD]
theorem Je(r:Str × List Str):toD (jY r)=mU r:=by
 unfold jY mU
 rw [toD,mJ,mJ,mJ,toD,toD,Dh]
theorem pQ(f:Fam):toD (qP f)=.tuple (f.map mU):=by
 unfold qP
 rw [toD,pW,List.map_map]
 congr 1
 apply List.map_congr_left
 intro r _
 exact Je r
inductive Pl (f:Fam):Str→Prop
 | mk {r:Str × List Str}:r∈f→(∀ e∈r.2,Pl f e)→Pl f r.1
def Hh(r:Str × List Str):Prop:=Nm r.1∧(∀ e∈r.2,Nm e)∧r.2.Nodup
def IsF(d:PyData):Prop:=∃ f:Fam,d=.tuple (f.map mU)∧1≤f.length∧f.length≤7∧(∀ r∈f,Hh r)∧(nms f).Nodup∧∀ x∈nms f,Pl f x
theorem FJ{r q:Str × List Str}(h:mU r=mU q):r=q:=by
 unfold mU at h
 injection h with h
 injection h with h1 h2
 injection h1 with h1
 injection h2 with h2 _
 injection h2 with h2
 have e:=List.map_inj_right (f:=PyData.str) (fun a b e=>by injection e) |>.mp h2
 exact Prod.ext h1 e
theorem Fx{f g:Fam}(h:PyData.tuple (f.map mU)=.tuple (g.map mU)):f=g:=by
 injection h with h
 exact List.map_inj_right (f:=mU) (fun a b e=>FJ e) |>.mp h
section
variable {P:Program}{w:World}{K:PySem.W.Frag}{mg:Str→Option Value}{base:Heap}{t:Adr}
def wO:Sp:=fun vs H Q _=>∃(v:V) (d:PyData) (n:Nat),vs=[v,.int n]∧RdV H v d∧Q (.bl (dcd (∃ ds,d=.tuple ds∧ds.length=n))) H
theorem yK(D:Defs K mg t):aU P w K mg base CX0 1 t.cL.1 t.cL.2 ["thing","many"] wO:=by
 refine D.cL.fn.ok ur (fun vs H Q E h=>?_) (fun cdv A outer s H vs Q E hr h=>?_)
 ·obtain ⟨v,d,n,rfl,_⟩:=h
  rfl
 ·obtain ⟨v,d,n,rfl,rd,k⟩:=h
  refine⟨_,(aH (aR (iW (aK bM (by rfl) D.bh bf (aj (pv 0) (aj (dY (v:=V.ty "tuple") rfl D.bQ bJ rfl) au))) (jx (gY j9 (aK aY (by rfl) D.d7 cF (aj (pv 0) au)) (pv 1) (bK _)))))),?_⟩
  refine⟨_,rfl,_,_,_,xT d,rfl,rd.ty,Hl K d,_,rfl,?_⟩
  cases hb:xT d with
  | true=>
   obtain ⟨ds,rfl⟩:=Af hb
   obtain ⟨a,xs,rfl,ha,rl⟩:=rd.jW
   have hl:=rl.length
   refine dZ ⟨_,rfl,a,_,rfl,.inr (SqT.of ha),_,rfl,rfl,?_⟩
   by_cases e:ds.length=n
   ·rw [iR ⟨ds,rfl,e⟩] at k
    rw [decide_eq_true (by rw [hl,e])]
    exact k
   ·rw [cR (fun⟨es,e1,e2⟩=>by injection e1 with e1; exact e (by rw [e1]; exact e2))] at k
    rw [decide_eq_false (fun z=>by injection z with z; omega)]
    exact k
  | false=>
   rw [cR (fun⟨es,e1,_⟩=>by rw [e1] at hb; cases hb)] at k
   exact fj k
theorem yx(x:Str):(x.cps.toList.map fun c=>decide (c∈abc.cps.toList)).all id=dcd (Lw x):=by
 refine oY ?_
 rw [List.all_map,List.all_eq_true]
 exact⟨fun h c hc=>of_decide_eq_true (h c hc),fun h c hc=>decide_eq_true (h c hc)⟩
def Al:Sp:=fun vs H Q _=>∃(v:V) (d:PyData),vs=[v]∧RdV H v d∧gd d∧∀ H',Same H H'→Q (.bl (dcd (NmD d))) H'
theorem Bd(D:Defs K mg t)(GL:Glb mg):aU P w K mg base CX0 1 t.iB.1 t.iB.2 ["thing"] Al:=by
 obtain ⟨tk1,hLET⟩:=GL.Dv
 obtain ⟨tk2,hMOL⟩:=GL.tO
 have hz:sizeLine=16777216:=sizeLine_eq
 refine D.iB.fn.ok zL (fun vs H Q E h=>?_) (fun cdv A outer s H vs Q E hr h=>?_)
 ·obtain ⟨v,d,rfl,_⟩:=h
  rfl
 ·obtain ⟨v,d,rfl,rd,g,k⟩:=h
  refine⟨_,(aC (cC (PW.pt (mK (cW (cT (aK bM (by rfl) D.bh bf (aj (pv 0) (aj (dY (v:=V.ty "str") rfl D.yp tQ rfl) au))))) (jT (cW (xU Bh Bh aG (aK lX (by rfl) D.d7 cF (aj (pv 0) au)) (iC (v:=V.int 6) (by rfl) hMOL ⟨_,rfl⟩))))))
   (aH (aR gk))
   bx)
   (aH (aR (aK (fW rfl) (by rfl) D.lu ji (aj (bH rfl (aM.of ["sign"] [] ["sign"] (aq (top 16)) ["thing"] rfl rfl (by decide +kernel)) ⟨fun _ _ _ _ _=>(aQ (i:=0) (show List.Nodup [("sign" : Str)] by decide +kernel) rfl (Or.inl (lookup_relabel_local rfl)) (.inr (lookup_relabel_local rfl))),fun _ _ _ _ _=>bN,fun _ _ _ _ _=>(gY JV (pv 0) (iC (v:=V.str abc) (by rfl) hLET ⟨_,rfl⟩) (by with_unfolding_all rfl))⟩ (Hj (pv 0))) au))))),?_⟩
  refine⟨_,rfl,_,_,_,CJ d,rfl,rd.ty,JF K d,_,rfl,?_⟩
  cases hb:CJ d with
  | false=>
   have kf:=k H (Same.refl H)
   rw [cR (fun⟨x,e,_⟩=>by rw [e] at hb; cases hb)] at kf
   exact dZ (dZ kf)
  | true=>
   obtain ⟨x,rfl⟩:=Gb hb
   obtain rfl:=rd.jA
   rw [gd] at g
   have nf:¬ (1≤x.length∧x.length≤6)→Q (.bl false) H:=fun h=>by
    have kf:=k H (Same.refl H)
    rw [cR (fun⟨y,e,n1,n2,_⟩=>by injection e with e; rw [← e] at n1 n2; exact h ⟨n1,n2⟩)] at kf
    exact kf
   refine fj ⟨_,rfl,x,rfl,by omega,_,_,rfl,rfl,_,rfl,?_⟩
   by_cases h1:1≤x.length
   ·refine jR (decide_eq_true (by omega)) ⟨_,_,rfl,rfl,_,rfl,?_⟩
    by_cases h6:x.length≤6
    ·refine jz (by rw [decide_eq_true (show (x.length:Int)≤6 by omega)]; exact Bool.false_ne_true) ?_
     refine⟨_,rfl,x,rfl,g.2,fun Dd hD=>?_⟩
     refine bw (n:=x.length) (fun i ys H2=>ys=((x.cps.toList.take i).map fun c=>decide (c∈abc.cps.toList)).map V.bl∧H2=upd H Dd (.lst ys)) ⟨rfl,rfl⟩ ?_ ?_
     ·rintro ys H2 ⟨rfl,rfl⟩
      rw [List.take_of_length_le (by rw [Array.length_toList]; exact Nat.le_refl _)]
      refine⟨Nat.le_refl _,Dd,_,rfl,SqL.of ak,?_⟩
      rw [yx]
      have kf:=k _ (Same.new (o:=.lst ((x.cps.toList.map fun c=>decide (c∈abc.cps.toList)).map V.bl)) hD)
      rw [qG (q:=Lw x) ⟨fun⟨y,e,_,_,n3⟩=>by injection e with e; rw [e]; exact n3,fun l=>⟨x,rfl,h1,h6,l⟩⟩] at kf
      exact kf
     ·rintro i ys H2 hi ⟨rfl,rfl⟩
      refine⟨hi,?_⟩
      rintro y H3 ⟨rfl,c,ec,rfl⟩ σo ho
      obtain ⟨o,rfl⟩:=own1 ho
      have ec':x.cps[i]?=some c:=ec
      refine⟨⟨[_],rfl,rfl⟩,cV ⟨_,rfl,c,abc,rfl,rfl,by rw [List.length_map,List.length_map,List.length_take]; omega,ak,aX hi ⟨?_,by rw [bR]⟩⟩⟩
      rw [List.take_succ,Array.getElem?_toList,ec',List.map_append,List.map_append]
      rfl
    ·refine jR (by rw [decide_eq_false (show ¬ (x.length:Int)≤6 by omega)]; rfl) (nf fun h=>h6 h.2)
   ·refine jz (by rw [decide_eq_false (show ¬ (1:Int)≤(x.length:Int) by omega)]; exact Bool.false_ne_true) ?_
    exact⟨_,rfl,dZ (nf fun h=>h1 h.1)⟩
def wX:Sp:=fun vs H Q _=>∃(v:V) (d:PyData) (a:Addr) (ks:List Str),vs=[v,.ref a]∧RdV H v d∧H a=some (.tup (ks.map V.str))∧Q (.bl (dcd (∃ x,d=.str x∧x∈ks))) H
theorem wL(D:Defs K mg t):aU P w K mg base CX0 1 t.cQ.1 t.cQ.2 ["thing","kinds"] wX:=by
 refine D.cQ.fn.ok sO (fun vs H Q E h=>?_) (fun cdv A outer s H vs Q E hr h=>?_)
 ·obtain ⟨v,d,a,ks,rfl,_⟩:=h
  rfl
 ·obtain ⟨v,d,a,ks,rfl,rd,ha,k⟩:=h
  refine⟨_,(aH (aR (iW (aK bM (by rfl) D.bh bf (aj (pv 0) (aj (dY (v:=V.ty "str") rfl D.yp tQ rfl) au))) (jx (gY ql (pv 0) (pv 1) (by with_unfolding_all rfl)))))),?_⟩
  refine⟨_,rfl,_,_,_,CJ d,rfl,rd.ty,JF K d,_,rfl,?_⟩
  cases hb:CJ d with
  | true=>
   obtain ⟨x,rfl⟩:=Gb hb
   obtain rfl:=rd.jA
   refine dZ ⟨_,rfl,_,rfl,a,_,rfl,.inr (SqT.of ha),rfl,gW ks,?_⟩
   show Q (.bl (inV (.str x) (ks.map V.str))) H
   rw [iw]
   have e:dcd (∃ y,PyData.str x=.str y∧y∈ks)=decide (x∈ks):=by
    by_cases h:x∈ks
    ·rw [iR ⟨x,rfl,h⟩,decide_eq_true h]
    ·rw [cR (fun⟨y,e,hy⟩=>by injection e with e; exact h (e ▸ hy)),decide_eq_false h]
   rw [e] at k
   exact k
  | false=>
   rw [cR (fun⟨x,e,_⟩=>by rw [e] at hb; cases hb)] at k
   exact fj k
end
end K12.E
end
section
set_option autoImplicit false
namespace K12.E
open PySem PyProof.Rows L2
structure Rws (f:Fam):Prop where
 nd:(nms f).Nodup
 len:f.length≤8
 el:∀ r∈f,r.2.length≤1900
theorem Hq{f:Fam}(nd:(nms f).Nodup){r q:Str × List Str}(hr:r∈f)(hq:q∈f)(e:r.1=q.1):r=q:=by
 induction f with
 | nil=>cases hr
 | cons a f ih=>
  have nd':(a.1::nms f).Nodup:=nd
  obtain ⟨n1,n2⟩:=List.nodup_cons.mp nd'
  rcases List.mem_cons.mp hr with rfl | hr' <;> rcases List.mem_cons.mp hq with rfl | hq'
  ·rfl
  ·exact absurd (List.mem_map.mpr ⟨q,hq',e.symm⟩) n1
  ·exact absurd (List.mem_map.mpr ⟨r,hr',e⟩) n1
  ·exact ih n2 hr' hq'
structure jX (f:Fam) (pl:List Str):Prop where
 nd:pl.Nodup
 sub:∀ x∈pl,x∈nms f
 el:∀ x∈pl,Pl f x
def aN(f:Fam)(pl:List Str):Fam:=f.filter fun r=>decide (¬ r.1∈pl)
def aO(f:Fam)(pl:List Str):List Str:=((aN f pl).filter fun r=>r.2.all fun e=>decide (e∈pl)).map (·.1)
theorem nQ{f:Fam}{pl:List Str}{x:Str}:x∈aO f pl↔∃ r∈f,r.1=x∧¬ x∈pl∧∀ e∈r.2,e∈pl:=by
 constructor
 ·intro hx
  obtain ⟨r,hr,rfl⟩:=List.mem_map.mp hx
  obtain ⟨h1,h2⟩:=List.mem_filter.mp hr
  obtain ⟨h3,h4⟩:=List.mem_filter.mp h1
  exact⟨r,h3,rfl,of_decide_eq_true h4,fun e he=>of_decide_eq_true (List.all_eq_true.mp h2 e he)⟩
 ·rintro ⟨r,hr,rfl,h1,h2⟩
  exact List.mem_map.mpr ⟨r,List.mem_filter.mpr ⟨List.mem_filter.mpr ⟨hr,decide_eq_true h1⟩,List.all_eq_true.mpr fun e he=>decide_eq_true (h2 e he)⟩,rfl⟩
theorem jX.more{f:Fam}(nd:(nms f).Nodup){pl:List Str}(T:jX f pl):jX f (pl++aO f pl):=by
 have ndr:(aO f pl).Nodup:=by
  have:(aO f pl).Sublist (nms f):=List.Sublist.map _ (List.Sublist.trans List.filter_sublist List.filter_sublist)
  exact nd.sublist this
 refine⟨?_,fun x hx=>?_,fun x hx=>?_⟩
 ·rw [List.nodup_append]
  refine⟨T.nd,ndr,fun a ha b hb e=>?_⟩
  obtain ⟨_,_,_,h,_⟩:=nQ.mp hb
  exact h (e ▸ ha)
 ·rcases List.mem_append.mp hx with h | h
  ·exact T.sub x h
  ·obtain ⟨r,hr,e,_⟩:=nQ.mp h
   rw [← e]
   exact List.mem_map.mpr ⟨r,hr,rfl⟩
 ·rcases List.mem_append.mp hx with h | h
  ·exact T.el x h
  ·obtain ⟨r,hr,rfl,_,h2⟩:=nQ.mp h
   exact .mk hr fun e he=>T.el e (h2 e he)
theorem jX.nil(f:Fam):jX f []:=⟨List.nodup_nil,(fun x hx=>nomatch hx),(fun x hx=>nomatch hx)⟩
theorem jX.len{f:Fam}{pl:List Str}(T:jX f pl):pl.length≤f.length:=by
 have h1:=dO T.nd (m:=nms f) T.sub
 have h2:(nms f).length=f.length:=List.length_map _
 omega
theorem jX.full{f:Fam}{pl:List Str}(T:jX f pl)(h0:aO f pl=[]):∀ {x:Str},Pl f x→x∈pl:=by
 intro x hx
 induction hx with
 | mk hr _ ih=>
  apply Classical.byContradiction
  intro hn
  have:=nQ.mpr ⟨_,hr,rfl,hn,ih⟩
  rw [h0] at this
  cases this
theorem Ax{l m:List Str}(nd:l.Nodup)(hl:l.length=m.length)(sub:∀ x∈l,x∈m):∀ x∈m,x∈l:=by
 intro x hx
 apply Classical.byContradiction
 intro hn
 have h1:=dO (l:=x::l) (m:=m) (List.nodup_cons.mpr ⟨hn,nd⟩) (fun y hy=>(List.mem_cons.mp hy).elim (fun e=>e ▸ hx) (sub y))
 rw [List.length_cons] at h1
 omega
theorem jX.all{f:Fam}{pl:List Str}(nd:(nms f).Nodup)(T:jX f pl)(h0:aO f pl=[]∨f.length≤pl.length):pl.length=f.length↔∀ x∈nms f,Pl f x:=by
 have h2:(nms f).length=f.length:=List.length_map _
 constructor
 ·intro e x hx
  exact T.el x (Ax T.nd (by omega) T.sub x hx)
 ·intro h
  rcases h0 with h0 | h0
  ·have:=dO nd (m:=pl) fun x hx=>T.full h0 (h x hx)
   have:=T.len
   omega
  ·have:=T.len
   omega
section
variable {P:Program}{w:World}{K:PySem.W.Frag}{mg:Str→Option Value}{base:Heap}{t:Adr}
def nC:Sp:=fun vs H Q _=>∃(v:V) (f:Fam),vs=[v]∧Dp H (qP f) v∧Rws f∧∀(q:Addr) (pl:List Str) H',H' q=some (.tup (pl.map V.str))→jX f pl→aO f pl=[]→Same H H'→Q (.ref q) H'
theorem qC(D:Defs K mg t):aU P w K mg base CX0 1 t.bL.1 t.bL.2 ["family"] nC:=by
 have hz:sizeLine=16777216:=sizeLine_eq
 refine D.bL.fn.ok bC (fun vs H Q E h=>?_) (fun cdv A outer s H vs Q E hr h=>?_)
 ·obtain ⟨v,f,rfl,_⟩:=h
  rfl
 ·obtain ⟨v,f,rfl,dv,gf,k⟩:=h
  obtain ⟨a,xs,rfl,ha,dl⟩:=L2.Dp.cA dv
  have hxl:xs.length=f.length:=by have:=dl.length; rwa [List.length_map] at this
  have f7:=gf.len
  refine⟨_,(aC (aP (i:=1) bC.nd rfl (Or.inr rfl) jt)
   (aC (aP (i:=2) bC.nd rfl (Or.inl rfl) (bB lR (by rfl) D.zp vM (aj (pv 0) au)))
   (aC (aP (i:=3) bC.nd rfl (Or.inl rfl) (pv 2))
   (aC (lg PassesOwn.never (qb (pv 3) (by intro _; rfl))
   (aC (mj (i:=3) rfl bC.nd rfl (Or.inl rfl) (aM.of ["kind","elders"] [1] ["kind","elders","placed"] (aq (top 22)) ["family","placed","waiting","ready","kind"] rfl rfl (by decide +kernel)) ⟨fun _ _ _ _ _=>(kO (K:=K) (n:=2) rfl rfl (cB (aQ (i:=0) (show List.Nodup [("kind" : Str),("elders" : Str),("placed" : Str)] by decide +kernel) rfl (Or.inl (lookup_relabel_local rfl)) (.inr (lookup_relabel_local rfl))) (cB (aQ (i:=1) (show List.Nodup [("kind" : Str),("elders" : Str),("placed" : Str)] by decide +kernel) rfl (Or.inl (lookup_relabel_local rfl)) (.inr (lookup_relabel_local rfl))) jr))),fun _ _ _ _ _=>(gJ (cT (aK (rR (K:=K) rfl rfl) (by rfl) D.lu ji (aj (bH rfl (aM.of2 ["elder"] [2] ["elder","placed"] ["kind","elders","placed"] rfl rfl (by decide +kernel)) ⟨fun _ _ _ _ _=>(aQ (i:=0) (show List.Nodup [("elder" : Str),("placed" : Str)] by decide +kernel) rfl (Or.inl (lookup_relabel_local rfl)) (.inr (lookup_relabel_local rfl))),fun _ _ _ _ _=>bN,fun _ _ _ _ _=>(Ar (Ah (fB hr) (pv 0) (pv 1)))⟩ (yL (K:=K) rfl (pv 1))) au)))),fun _ _ _ _ _=>(pv 0)⟩ (eZ (pv 2)))
   (aC (gZ PassesOwn.never rfl (eZ (pv 3)) (aQ (i:=4) bC.nd rfl (Or.inl rfl))
   (aH (lM (fB hr) (pv 1) (pv 4) gk rfl)))
   (aH (mj (i:=2) rfl bC.nd rfl (Or.inl rfl) (aM.of ["pair"] [1] ["pair","placed"] (aq (top 22)) ["family","placed","waiting","ready","kind"] rfl rfl (by decide +kernel)) ⟨fun _ _ _ _ _=>(aQ (i:=0) (show List.Nodup [("pair" : Str),("placed" : Str)] by decide +kernel) rfl (Or.inl (lookup_relabel_local rfl)) (.inr (lookup_relabel_local rfl))),fun _ _ _ _ _=>(gJ (wg (nF (fB hr) (aZ (dW (K:=K) rfl) (pv 0) aG (fun _ _=>rfl)) (pv 1)))),fun _ _ _ _ _=>(pv 0)⟩ (eZ (pv 2)))))))
   (aH (aR (bB (nD rfl) (by rfl) D.bQ bJ (aj (pv 1) au)))))))),?_⟩
  intro pd hpd
  have s1:Same H (upd H pd (.dK [])):=Same.new hpd
  have hpd1:(upd H pd (.dK [])) pd=some (.dK (gH [])):=ak
  generalize upd H pd (.dK [])=H1 at s1 hpd1
  refine⟨_,rfl,a,_,rfl,.inr (SqT.of (s1 a _ ha)),fun w0 hw0=>?_⟩
  have s2:Same H1 (upd H1 w0 (.lst xs)):=Same.new hw0
  refine⟨_,rfl,?_⟩
  refine⟨fun m σ H2=>∃(pl:List Str) (wl rl:Addr) (ws rs:List V) (v4:Option V),σ=[some (.ref a),some (.ref pd),some (.ref wl),some (.ref rl),v4]∧H2 pd=some (.dK (gH pl))∧jX f pl∧H2 wl=some (.lst ws)∧DpL H2 ((aN f pl).map jY) ws∧H2 rl=some (.lst rs)∧(rs=[]→aO f pl=[])∧m=2 * (aN f pl).length+(if rs.isEmpty=true then 0 else 1)∧Same H H2,?_,?_⟩
  ·have e0:aN f []=f:=by
    unfold aN
    rw [List.filter_eq_self]
    simp
   refine⟨_,[],w0,w0,xs,xs,_,rfl,s2 pd _ hpd1,jX.nil f,ak,?_,ak,fun h=>?_,rfl,s1.trans s2⟩
   ·rw [e0]
    exact dl.mono (Same.tups (s1.trans s2))
   ·rw [h] at hxl
    rw [List.eq_nil_of_length_eq_zero hxl.symm]
    rfl
  ·rintro m σ H2 ⟨pl,wl,rl,ws,rs,v4,rfl,hpd2,T,hw2,dw,hr2,hex,rfl,sm2⟩
   refine⟨_,rfl,_,.inl ⟨_,SqL.of hr2,rfl⟩,?_⟩
   cases hrs:rs with
   | nil=>
    refine fj ⟨_,rfl,pd,_,rfl,.inl hpd2,fun q hq=>?_⟩
    have ek:(gH pl).map (fun kv=>kV kv.1)=pl.map V.str:=by
     unfold gH
     rw [List.map_map]
     rfl
    rw [ek]
    exact k q pl _ ak T (hex hrs) (sm2.trans (Same.new hq))
   | cons r0 rr=>
    have hem:(!(r0::rr).isEmpty)=true:=rfl
    rw [hem]
    refine dZ ⟨fun σ' H'=>∃ m',m' < 2 * (aN f pl).length+1∧∃(pl:List Str) (wl rl:Addr) (ws rs:List V) (v4:Option V),σ'=[some (.ref a),some (.ref pd),some (.ref wl),some (.ref rl),v4]∧H' pd=some (.dK (gH pl))∧jX f pl∧H' wl=some (.lst ws)∧DpL H' ((aN f pl).map jY) ws∧H' rl=some (.lst rs)∧(rs=[]→aO f pl=[])∧m'=2 * (aN f pl).length+(if rs.isEmpty=true then 0 else 1)∧Same H H',fun σ' H' h=>h,?_⟩
    have hwl:ws.length=(aN f pl).length:=by have:=dw.length; rwa [List.length_map] at this
    have hl7:(aN f pl).length≤8:=Nat.le_trans (List.length_filter_le _ _) f7
    have pwne:∀ {H3:Hp},Same H2 H3→True:=fun _=>trivial
    refine⟨_,rfl,wl,rfl,⟨_,SqL.of hw2⟩,fun D1 hD1=>?_⟩
    refine bw (n:=ws.length) (fun i ys H3=>ys=((((aN f pl).take i).filter fun r=>r.2.all fun e=>decide (e∈pl)).map (·.1)).map V.str∧H3 D1=some (.lst ys)∧Same H2 H3) ⟨rfl,ak,Same.new hD1⟩ ?_ ?_
    ·rintro ys H3 ⟨rfl,hD3,sm3⟩
     rw [List.take_of_length_le (by omega)] at hD3
     have hD3:H3 D1=some (.lst ((aO f pl).map V.str)):=hD3
     refine⟨⟨_,SqL.of (sm3 wl _ hw2),Nat.le_refl _⟩,?_⟩
     have hwD:wl≠D1:=aB hw2 hD1
     have pdD:pd≠D1:=aB hpd2 hD1
     have hrdy:(aO f pl).length≤8:=by
      unfold aO
      rw [List.length_map]
      exact Nat.le_trans (List.length_filter_le _ _) hl7
     have Tm:=T.more gf.nd
     have plx:pl.length≤8:=Nat.le_trans T.len f7
     have newk:∀(i:Nat) (hi:i < (aO f pl).length),¬ (aO f pl)[i]∈pl++(aO f pl).take i:=fun i hi h=>by
      have nd:=Tm.nd
      have e:pl++aO f pl=(pl++(aO f pl).take i)++((aO f pl)[i]::(aO f pl).drop (i+1)):=by
       rw [List.append_assoc,List.getElem_cons_drop,List.take_append_drop]
      rw [e,List.nodup_append] at nd
      exact nd.2.2 _ h _ List.mem_cons_self rfl
     refine⟨_,rfl,D1,rfl,⟨_,SqL.of hD3⟩,mO (K:=K) (a:=D1) (xs:=(aO f pl).map V.str) (fun i σ H4=>∃ v4:Option V,σ=[some (.ref a),some (.ref pd),some (.ref wl),some (.ref D1),v4]∧H4 pd=some (.dK (gH (pl++(aO f pl).take i)))∧∀ b u,b≠pd→H3 b=some u→H4 b=some u)
      ⟨_,rfl,by rw [List.take_zero,List.append_nil]; exact sm3 pd _ hpd2,fun b u _ e=>e⟩ (fun i σ H4 _ ⟨_,_,_,kp⟩=>SqL.of (kp D1 _ pdD.symm hD3)) ?_ ?_⟩
     ·rintro i x σ H4 hi ⟨v4',rfl,hpd4,kp4⟩
      have hil:i < (aO f pl).length:=by
       have:=(List.getElem?_eq_some_iff.mp hi).1
       rwa [List.length_map] at this
      have ex:x=.str (aO f pl)[i]:=by
       rw [List.getElem?_map,List.getElem?_eq_getElem hil] at hi
       exact(Option.some.inj hi).symm
      subst ex
      refine⟨_,rfl,_,rfl,pd,_,rfl,sV.k (k:=.inr (aO f pl)[i]) hpd4 (by unfold gH; rw [List.length_map,List.length_append,List.length_take]; omega),?_⟩
      rw [tG (newk i hil)]
      exact⟨_,rfl,by rw [ak,take_snoc hil,List.append_assoc],fun b u hb e=>by rw [aA hb]; exact kp4 b u hb e⟩
     ·rintro σ H4 ⟨v4',rfl,hpd4,kp4⟩
      rw [List.length_map,List.take_of_length_le (Nat.le_refl _)] at hpd4
      have wpd:wl≠pd:=eU hw2 hpd2 (fun z=>nomatch z)
      have hw4:=kp4 wl _ wpd (sm3 wl _ hw2)
      have tu4:gn H2 H4:=fun c zs e=>kp4 c _ (eU e hpd2 (fun z=>nomatch z)) (sm3 c _ e)
      have sm4:Same H H4:=fun b u e=>kp4 b u (aB e hpd) (sm3 b u (sm2 b u e))
      have dw4:=dw.mono tu4
      refine⟨_,rfl,wl,rfl,⟨_,SqL.of hw4⟩,fun D2 hD2=>?_⟩
      refine bw (n:=ws.length) (fun i ys H5=>H5 D2=some (.lst ys)∧DpL H4 ((((aN f pl).take i).filter fun r=>decide (¬ r.1∈pl++aO f pl)).map jY) ys∧Same H4 H5) ⟨ak,.nil,Same.new hD2⟩ ?_ ?_
      ·rintro ys H5 ⟨hD5,dy,sm5⟩
       rw [List.take_of_length_le (by omega)] at dy
       refine⟨⟨_,SqL.of (sm5 wl _ hw4),Nat.le_refl _⟩,?_⟩
       have el:(aN f pl).filter (fun r=>decide (¬ r.1∈pl++aO f pl))=aN f (pl++aO f pl):=by
        unfold aN
        rw [List.filter_filter]
        apply List.filter_congr
        intro r _
        by_cases h1:r.1∈pl
        ·simp [h1]
        ·simp [h1]
       rw [el] at dy
       have hle:(aN f (pl++aO f pl)).length≤(aN f pl).length:=by rw [← el]; exact List.length_filter_le _ _
       have hmm:2 * (aN f (pl++aO f pl)).length+(if ((aO f pl).map V.str).isEmpty=true then 0 else 1) < 2 * (aN f pl).length+1:=by
        cases hrd:aO f pl with
        | nil=>
         rw [hrd] at hle
         simp
        | cons x0 xr=>
         have:(aN f (pl++aO f pl)).length < (aN f pl).length:=by
          rw [← el]
          have hx0:x0∈aO f pl:=by rw [hrd]; exact List.mem_cons_self
          obtain ⟨r,hr',e⟩:=List.mem_map.mp hx0
          have hrl:=(List.mem_filter.mp hr').1
          refine Nat.lt_of_le_of_ne (List.length_filter_le _ _) fun e2=>?_
          have:=List.length_filter_eq_length_iff.mp e2 r hrl
          have:=of_decide_eq_true this
          exact this (List.mem_append_right _ (by show r.1∈_; rw [show r.1=x0 from e]; exact hx0))
         rw [hrd] at this
         simp
         omega
       refine⟨_,hmm,pl++aO f pl,D2,D1,ys,(aO f pl).map V.str,_,rfl,sm5 pd _ hpd4,Tm,hD5,dy.mono (Same.tups sm5),sm5 D1 _ (kp4 D1 _ pdD.symm hD3),fun h=>?_,rfl,sm4.trans sm5⟩
       have hrd:aO f pl=[]:=List.map_eq_nil_iff.mp h
       rw [hrd,List.append_nil]
       exact hrd
      ·rintro i ys H5 hi ⟨hD5,dy,sm5⟩
       have hif:i < (aN f pl).length:=by omega
       obtain ⟨y,ey,dyy⟩:=dw4.get (i:=i) (t:=jY (aN f pl)[i]) (by rw [List.getElem?_map,List.getElem?_eq_getElem hif]; rfl)
       obtain ⟨q,e,rfl,hq,he⟩:=K12.Dp.qK dyy
       refine⟨⟨_,_,SqL.of (sm5 wl _ hw4),ey⟩,?_⟩
       rintro z H6 ⟨rfl,yy⟩ σo ho
       obtain ⟨oo,rfl⟩:=own1 ho
       have ez:=yy _ (SqL.of (sm5 wl _ hw4))
       rw [ey] at ez
       cases ez
       have hyl:ys.length≤8:=by
        rw [dy.length,List.length_map]
        refine Nat.le_trans (List.length_filter_le _ _) ?_
        rw [List.length_take]
        omega
       have efl:((aN f pl).take (i+1)).filter (fun r=>decide (¬ r.1∈pl++aO f pl))=((aN f pl).take i).filter (fun r=>decide (¬ r.1∈pl++aO f pl))++(if decide (¬ ((aN f pl)[i]).1∈pl++aO f pl)=true then [(aN f pl)[i]] else []):=by
        rw [take_snoc hif,List.filter_append]
        congr 1
        rw [List.filter_cons]
        rfl
       refine⟨⟨[_],rfl,rfl⟩,_,rfl,q,_,_,_,rfl,rfl,SqT.of (sm5 q _ hq),rfl,_,rfl,pd,_,rfl,lO.k (k:=.inr ((aN f pl)[i]).1) (sm5 pd _ hpd4),_,rfl,?_⟩
       cases hin:(dM (gH (pl++aO f pl)) (.inr ((aN f pl)[i]).1)).isSome with
       | true=>
        have hm:=(iY _ _).mp hin
        refine fj (aX hi ⟨hD5,?_,sm5⟩)
        rw [efl,if_neg (fun h=>(of_decide_eq_true h) hm),List.append_nil]
        exact dy
       | false=>
        have hm:¬ ((aN f pl)[i]).1∈pl++aO f pl:=fun h=>by rw [(iY _ _).mpr h] at hin; cases hin
        refine dZ ⟨_,rfl,by omega,hD5,aX hi ⟨ak,?_,fun b u e'=>?_⟩⟩
        ·rw [efl,if_pos (decide_eq_true hm),List.map_append]
         exact dy.append (.cons dyy .nil)
        ·rw [aA (aB e' hD2)]
         exact sm5 b _ e'
    ·rintro i ys H3 hi ⟨rfl,hD3,sm3⟩
     have hif:i < (aN f pl).length:=by omega
     obtain ⟨y,ey,dyy⟩:=(dw.mono (Same.tups sm3)).get (i:=i) (t:=jY (aN f pl)[i]) (by rw [List.getElem?_map,List.getElem?_eq_getElem hif]; rfl)
     obtain ⟨q,e,rfl,hq,he⟩:=K12.Dp.qK dyy
     refine⟨⟨_,_,SqL.of (sm3 wl _ hw2),ey⟩,?_⟩
     rintro z H4 ⟨rfl,yy⟩ σo ho
     obtain ⟨oo,oo',rfl⟩:=FT ho
     have ez:=yy _ (SqL.of (sm3 wl _ hw2))
     rw [ey] at ez
     cases ez
     have hyl:(((((aN f pl).take i).filter fun r=>r.2.all fun e=>decide (e∈pl)).map (·.1)).map V.str).length≤8:=by
      rw [List.length_map,List.length_map]
      refine Nat.le_trans (List.length_filter_le _ _) ?_
      rw [List.length_take]
      omega
     have efl:((aN f pl).take (i+1)).filter (fun r=>r.2.all fun e=>decide (e∈pl))=((aN f pl).take i).filter (fun r=>r.2.all fun e=>decide (e∈pl))++(if (((aN f pl)[i]).2.all fun e=>decide (e∈pl))=true then [(aN f pl)[i]] else []):=by
      rw [take_snoc hif,List.filter_append]
      congr 1
      rw [List.filter_cons]
      rfl
     refine⟨q,_,rfl,SqT.of hq,rfl,_,_,rfl,_,_,rfl,rfl,⟨[_,_],rfl,rfl⟩,_,rfl,e,rfl,⟨_,SqT.of he⟩,fun D3 hD3'=>?_⟩
     have s5:∀ o,Same H4 (upd H4 D3 o):=fun o=>Same.new hD3'
     have el7:=gf.el _ (List.mem_filter.mp (List.getElem_mem hif)).1
     refine bw (n:=(((aN f pl)[i]).2.map V.str).length) (fun j bs H5=>bs=((((aN f pl)[i]).2.take j).map fun e=>decide (e∈pl)).map V.bl∧H5=upd H4 D3 (.lst bs)) ⟨rfl,rfl⟩ ?_ ?_
     ·rintro bs H5 ⟨rfl,rfl⟩
      rw [List.take_of_length_le (by rw [List.length_map]; exact Nat.le_refl _)]
      refine⟨⟨_,SqT.of (s5 _ e _ he),Nat.le_refl _⟩,D3,_,rfl,SqL.of ak,_,rfl,?_⟩
      have eall:((((aN f pl)[i]).2.map fun e=>decide (e∈pl)).all id)=((aN f pl)[i]).2.all fun e=>decide (e∈pl):=by
       rw [List.all_map]
       rfl
      rw [eall]
      cases hall:(((aN f pl)[i]).2.all fun e=>decide (e∈pl)) with
      | true=>
       refine dZ ⟨_,rfl,by omega,s5 _ D1 _ hD3,aX hi ⟨?_,ak,fun b u e'=>?_⟩⟩
       ·rw [efl,hall,if_pos rfl,List.map_append,List.map_append]
        rfl
       ·rw [aA (aB e' hD1)]
        exact s5 _ b _ (sm3 b _ e')
      | false=>
       refine fj (aX hi ⟨?_,s5 _ D1 _ hD3,sm3.trans (s5 _)⟩)
       rw [efl,hall,if_neg Bool.false_ne_true,List.append_nil]
     ·rintro j bs H5 hj ⟨rfl,rfl⟩
      have hj':j < ((aN f pl)[i]).2.length:=by rw [List.length_map] at hj; exact hj
      have ej:(((aN f pl)[i]).2.map V.str)[j]?=some (.str ((aN f pl)[i]).2[j]):=by rw [List.getElem?_map,List.getElem?_eq_getElem hj']; rfl
      refine⟨⟨_,_,SqT.of (s5 _ e _ he),ej⟩,?_⟩
      rintro y5 H6 ⟨rfl,yy⟩ σo5 ho5
      obtain ⟨o5,rfl⟩:=own1 ho5
      have ey5:=yy _ (SqT.of (s5 _ e _ he))
      rw [ej] at ey5
      cases ey5
      refine⟨⟨[_],rfl,rfl⟩,cV ⟨_,rfl,_,rfl,pd,_,rfl,lO.k (k:=.inr ((aN f pl)[i]).2[j]) (s5 _ pd _ (sm3 pd _ hpd2)),by rw [List.length_map,List.length_map,List.length_take]; omega,ak,aX hj ⟨?_,by rw [bR]⟩⟩⟩
      rw [take_snoc hj',List.map_append,List.map_append]
      congr 1
      show [V.bl (dM (gH pl) (.inr ((aN f pl)[i]).2[j])).isSome]=[V.bl (decide (((aN f pl)[i]).2[j]∈pl))]
      congr 2
      apply Bool.eq_iff_iff.mpr
      rw [iY,decide_eq_true_iff]
end
end K12.E
end
section
set_option autoImplicit false
namespace L2
open PySem PySem.Spec PyProof.Rows
theorem zX:bootBuiltins "set" = some (.type "set"):=by decide +kernel
end L2
end
section
set_option autoImplicit false
namespace K12.E
open PySem PyProof.Rows L2
theorem qF{ks:List Str}:∀ {ds:List PyData},(ds.map fun d=>dcd (∃ x,d=.str x∧x∈ks)).all id=true↔∃ es:List Str,ds=es.map PyData.str∧∀ e∈es,e∈ks
 | []=>⟨fun _=>⟨[],rfl,fun e he=>nomatch he⟩,fun _=>rfl⟩
 | d::ds=>by
  rw [List.map_cons,List.all_cons,Bool.and_eq_true,qF]
  show dcd _=true∧_↔_
  rw [pK]
  constructor
  ·rintro ⟨⟨x,rfl,hx⟩,es,rfl,he⟩
   exact⟨x::es,rfl,fun e h=>(List.mem_cons.mp h).elim (fun z=>z ▸ hx) (he e)⟩
  ·rintro ⟨es,e,he⟩
   cases es with
   | nil=>cases e
   | cons x es=>
    injection e with e1 e2
    exact⟨⟨x,e1,he x List.mem_cons_self⟩,es,e2,fun e h=>he e (List.mem_cons_of_mem _ h)⟩
def Du(ks:List Str)(d:PyData):Prop:=∃ es:List Str,d=.tuple (es.map .str)∧(∀ e∈es,e∈ks)∧es.Nodup
theorem Hx{es fs:List Str}(h:es.map PyData.str=fs.map PyData.str):es=fs:=List.map_inj_right (f:=PyData.str) (fun a b e=>by injection e) |>.mp h
section
variable {P:Program}{w:World}{K:PySem.W.Frag}{mg:Str→Option Value}{base:Heap}{t:Adr}
def Jz:Sp:=fun vs H Q _=>∃(v:V) (d:PyData) (a:Addr) (ks:List Str),vs=[v,.ref a]∧RdV H v d∧H a=some (.tup (ks.map V.str))∧ks.length≤100∧∀ H',Same H H'→Q (.bl (dcd (Du ks d))) H'
theorem Kh(D:Defs K mg t):aU P w K mg base CX0 2 t.gM.1 t.gM.2 ["thing","kinds"] Jz:=by
 have G_is_kind:aU P w K mg base CX0 1 t.cQ.1 t.cQ.2 _ wX:=wL D
 have hz:sizeLine=16777216:=sizeLine_eq
 refine D.gM.fn.ok wI (fun vs H Q E h=>?_) (fun cdv A outer s H vs Q E hr h=>?_)
 ·obtain ⟨v,d,a,ks,rfl,_⟩:=h
  rfl
 ·obtain ⟨v,d,a,ks,rfl,rd,ha,hk8,k⟩:=h
  refine⟨_,(aC (cC (PW.pt (mK (cW (cT (aK bM (by rfl) D.bh bf (aj (pv 0) (aj (dY (v:=V.ty "tuple") rfl D.bQ bJ rfl) au))))) (jT (bF yP (aK aY (by rfl) D.d7 cF (aj (pv 0) au)) (aK aY (by rfl) D.d7 cF (aj (pv 1) au)) (bK _)))))
   (aH (aR gk))
   bx)
   (aC (cC (cW (cT (aK (fW rfl) (by rfl) D.lu ji (aj (bH rfl (aM.of ["part"] [1] ["part","kinds"] (aq (top 18)) ["thing","kinds"] rfl rfl (by decide +kernel)) ⟨fun _ _ _ _ _=>(aQ (i:=0) (show List.Nodup [("part" : Str),("kinds" : Str)] by decide +kernel) rfl (Or.inl (lookup_relabel_local rfl)) (.inr (lookup_relabel_local rfl))),fun _ _ _ _ _=>bN,fun _ _ _ _ _=>(aJ D.cQ G_is_kind (hr.mono (by omega)) (by rfl) (aj (pv 0) (aj (pv 1) au)))⟩ (eY (pv 0))) au))))
   (aH (aR gk))
   bx)
   (aH (aR (gY j9 (aK kj (by rfl) D.d7 cF (aj (bB (qH rfl) (by rfl) D.Gx zX (aj (pv 0) au)) au)) (aK aY (by rfl) D.d7 cF (aj (pv 0) au)) (bK _)))))),?_⟩
  have kf:∀ {H'},Same H H'→¬ Du ks d→Q (.bl false) H':=fun s h=>by have:=k _ s; rw [cR h] at this; exact this
  refine⟨_,rfl,_,_,_,xT d,rfl,rd.ty,Hl K d,_,rfl,?_⟩
  cases hb:xT d with
  | false=>exact dZ (dZ (kf (Same.refl H) fun⟨es,e,_⟩=>by rw [e] at hb; cases hb))
  | true=>
   obtain ⟨ds,rfl⟩:=Af hb
   obtain ⟨b,xs,rfl,hb',rl⟩:=rd.jW
   have hxl:=rl.length
   refine fj ⟨_,rfl,b,_,rfl,.inr (SqT.of hb'),_,rfl,a,_,rfl,.inr (SqT.of ha),_,_,rfl,rfl,_,rfl,?_⟩
   rw [List.length_map]
   by_cases hlen:ds.length > ks.length
   ·refine jR (decide_eq_true (by omega)) (kf (Same.refl H) ?_)
    rintro ⟨es,e,sub,nd⟩
    injection e with e
    have:=dO nd sub
    rw [e,List.length_map] at hlen
    omega
   ·refine jz (by rw [decide_eq_false (show ¬ ((xs.length:Int) > (ks.length:Int)) by omega)]; exact Bool.false_ne_true) ?_
    refine⟨_,rfl,b,rfl,⟨_,SqT.of hb'⟩,fun Dd hD=>?_⟩
    have sD:∀ o,Same H (upd H Dd o):=fun o=>Same.new hD
    refine bw (n:=xs.length) (fun i ys H2=>ys=((ds.take i).map fun d=>dcd (∃ x,d=.str x∧x∈ks)).map V.bl∧H2=upd H Dd (.lst ys)) ⟨rfl,rfl⟩ ?_ ?_
    ·rintro ys H2 ⟨rfl,rfl⟩
     rw [List.take_of_length_le (by omega)]
     have s2:=sD (.lst ((ds.map fun d=>dcd (∃ x,d=.str x∧x∈ks)).map V.bl))
     refine⟨⟨_,SqT.of (s2 b _ hb'),Nat.le_refl _⟩,Dd,_,rfl,SqL.of ak,_,rfl,?_⟩
     generalize upd H Dd (.lst ((ds.map fun d=>dcd (∃ x,d=.str x∧x∈ks)).map V.bl))=H2 at s2
     cases hall:(ds.map fun d=>dcd (∃ x,d=.str x∧x∈ks)).all id with
     | false=>
      refine dZ (kf s2 ?_)
      rintro ⟨es,e,sub,nd⟩
      injection e with e
      rw [qF.mpr ⟨es,e,sub⟩] at hall
      cases hall
     | true=>
      obtain ⟨es,rfl,sub⟩:=qF.mp hall
      obtain rfl:=rl.jq
      have hel:es.length≤100:=by rw [List.length_map] at hlen; omega
      refine fj ⟨_,rfl,b,es,rfl,.inr (SqT.of (s2 b _ hb')),by omega,fun sd hsd=>?_⟩
      refine⟨sd,_,rfl,ak,_,rfl,b,_,rfl,.inr (SqT.of (Same.new hsd b _ (s2 b _ hb'))),?_⟩
      rw [List.length_map]
      have fin:=k _ (s2.trans (Same.new (o:=Js P w sd (un es es.length)) hsd))
      by_cases nd:es.Nodup
      ·rw [iR ⟨es,rfl,sub,nd⟩] at fin
       refine⟨rfl,?_⟩
       rw [decide_eq_true (by rw [(vP es).mpr nd])]
       exact fin
      ·rw [cR (fun⟨fs,e,_,n⟩=>by injection e with e; rw [Hx e] at nd; exact nd n)] at fin
       refine⟨rfl,?_⟩
       rw [decide_eq_false (fun z=>by injection z with z; exact nd ((vP es).mp (by omega)))]
       exact fin
    ·rintro i ys H2 hi ⟨rfl,rfl⟩
     have hil:i < ds.length:=by omega
     obtain ⟨y,ey,ry⟩:=rl.get (List.getElem?_eq_getElem hil)
     have s2:=sD (.lst (((ds.take i).map fun d=>dcd (∃ x,d=.str x∧x∈ks)).map V.bl))
     refine⟨⟨_,_,SqT.of (s2 b _ hb'),ey⟩,?_⟩
     rintro z H3 ⟨rfl,yy⟩ σo ho
     obtain ⟨o,rfl⟩:=own1 ho
     have ez:=yy _ (SqT.of (s2 b _ hb'))
     rw [ey] at ez
     cases ez
     refine⟨⟨[_],rfl,rfl⟩,cV ⟨_,rfl,_,rfl,_,ds[i],a,ks,rfl,ry.jg s2,s2 a _ ha,by rw [List.length_map,List.length_map,List.length_take]; omega,ak,aX hi ⟨?_,by rw [bR]⟩⟩⟩
     rw [take_snoc hil,List.map_append,List.map_append]
     rfl
end
end K12.E
end
section
set_option autoImplicit false
namespace K12.E
open PySem PyProof.Rows L2
theorem Pl.mem{f:Fam}{x:Str}(h:Pl f x):x∈nms f:=by
 cases h with
 | mk hr _=>exact List.mem_map.mpr ⟨_,hr,rfl⟩
theorem Pl.inv{f:Fam}(nd:(nms f).Nodup){r:Str × List Str}(hr:r∈f)(h:Pl f r.1):∀ e∈r.2,Pl f e:=by
 generalize hx:r.1=x at h
 cases h with
 | mk hr' h'=>
  rw [Hq nd hr hr' hx]
  exact h'
def pairD(p:Str × PyData):PyData:=.tuple [.str p.1,p.2]
def R1(d:PyData):Prop:=∃(x:Str) (e:PyData),d=.tuple [.str x,e]∧Nm x
theorem Ay:∀ {ds:List PyData},(ds.map fun d=>dcd (R1 d)).all id=true↔∃ ps:List (Str × PyData),ds=ps.map pairD∧∀ p∈ps,Nm p.1
 | []=>⟨fun _=>⟨[],rfl,fun e he=>nomatch he⟩,fun _=>rfl⟩
 | d::ds=>by
  rw [List.map_cons,List.all_cons,Bool.and_eq_true,Ay]
  show dcd _=true∧_↔_
  rw [pK]
  constructor
  ·rintro ⟨⟨x,e,rfl,hx⟩,ps,rfl,he⟩
   exact⟨(x,e)::ps,rfl,fun p h=>(List.mem_cons.mp h).elim (fun z=>z ▸ hx) (he p)⟩
  ·rintro ⟨ps,e,he⟩
   cases ps with
   | nil=>cases e
   | cons p ps=>
    injection e with e1 e2
    exact⟨⟨p.1,p.2,e1,he p List.mem_cons_self⟩,ps,e2,fun q h=>he q (List.mem_cons_of_mem _ h)⟩
theorem wG{ks:List Str}:∀ {ps:List (Str × PyData)},(ps.map fun p=>dcd (Du ks p.2)).all id=true↔∃ f:Fam,ps.map pairD=f.map mU∧nms f=ps.map (·.1)∧∀ r∈f,(∀ e∈r.2,e∈ks)∧r.2.Nodup
 | []=>⟨fun _=>⟨[],rfl,rfl,fun e he=>nomatch he⟩,fun _=>rfl⟩
 | p::ps=>by
  rw [List.map_cons,List.all_cons,Bool.and_eq_true,wG]
  show dcd _=true∧_↔_
  rw [pK]
  constructor
  ·rintro ⟨⟨es,h1,h2⟩,f,e1,e2,e3⟩
   refine⟨(p.1,es)::f,?_,?_,fun r h=>(List.mem_cons.mp h).elim (fun z=>z ▸ h2) (e3 r)⟩
   ·rw [List.map_cons,List.map_cons,e1]
    unfold pairD mU
    rw [h1]
   ·rw [List.map_cons,← e2]
    rfl
  ·rintro ⟨f,e1,e2,e3⟩
   cases f with
   | nil=>cases e1
   | cons r f=>
    injection e1 with e4 e5
    injection e2 with e6 e7
    unfold pairD mU at e4
    injection e4 with e4
    injection e4 with _ e4
    injection e4 with e4 _
    exact⟨⟨r.2,e4,e3 r List.mem_cons_self⟩,f,e5,e7,fun q h=>e3 q (List.mem_cons_of_mem _ h)⟩
section
variable {P:Program}{w:World}{K:PySem.W.Frag}{mg:Str→Option Value}{base:Heap}{t:Adr}
def pU:Sp:=fun vs H Q _=>∃(b:Addr) (xs:List V) (ps:List (Str × PyData)),vs=[.ref b]∧H b=some (.tup xs)∧RdA H xs (ps.map pairD)∧ps.length≤100∧∀(q:Addr) H',H' q=some (.tup ((ps.map (·.1)).map V.str))→Same H H'→Q (.ref q) H'
theorem Aw(D:Defs K mg t):aU P w K mg base CX0 1 t.kinds_of.1 t.kinds_of.2 ["rows"] pU:=by
 have hz:sizeLine=16777216:=sizeLine_eq
 refine D.kinds_of.fn.ok rA (fun vs H Q E h=>?_) (fun cdv A outer s H vs Q E hr h=>?_)
 ·obtain ⟨b,xs,ps,rfl,_⟩:=h
  rfl
 ·obtain ⟨b,xs,ps,rfl,hb,rl,hl,k⟩:=h
  have hxl:xs.length=ps.length:=by have:=rl.length; rwa [List.length_map] at this
  refine⟨_,(aH (aR (bB bI (by rfl) D.bQ bJ (aj (bH rfl (aM.of ["row"] [] ["row"] (aq (top 20)) ["rows"] rfl rfl (by decide +kernel)) ⟨fun _ _ _ _ _=>(aQ (i:=0) (show List.Nodup [("row" : Str)] by decide +kernel) rfl (Or.inl (lookup_relabel_local rfl)) (.inr (lookup_relabel_local rfl))),fun _ _ _ _ _=>bN,fun _ _ _ _ _=>(aZ (dW (K:=K) rfl) (pv 0) aG (fun _ _=>rfl))⟩ (eY (pv 0))) au)))),?_⟩
  refine⟨_,rfl,b,rfl,⟨_,SqT.of hb⟩,fun Dd hD=>?_⟩
  have sD:∀ o,Same H (upd H Dd o):=fun o=>Same.new hD
  refine bw (n:=xs.length) (fun i ys H2=>ys=((ps.take i).map (·.1)).map V.str∧H2=upd H Dd (.lst ys)) ⟨rfl,rfl⟩ ?_ ?_
  ·rintro ys H2 ⟨rfl,rfl⟩
   rw [List.take_of_length_le (by omega)]
   refine⟨⟨_,SqT.of (sD _ b _ hb),Nat.le_refl _⟩,Dd,_,rfl,.inl ⟨SqL.of ak,fun q hq=>?_⟩⟩
   exact k q _ ak ((sD _).trans (Same.new hq))
  ·rintro i ys H2 hi ⟨rfl,rfl⟩
   have hil:i < ps.length:=by omega
   obtain ⟨y,ey,ry⟩:=rl.get (i:=i) (d:=pairD ps[i]) (by rw [List.getElem?_map,List.getElem?_eq_getElem hil]; rfl)
   refine⟨⟨_,_,SqT.of (sD _ b _ hb),ey⟩,?_⟩
   rintro z H3 ⟨rfl,yy⟩ σo ho
   obtain ⟨o,rfl⟩:=own1 ho
   have ez:=yy _ (SqT.of (sD _ b _ hb))
   rw [ey] at ez
   cases ez
   obtain ⟨q,zs,rfl,hq,rz⟩:=(ry.jg (sD _)).jW
   cases rz with
   | cons r1 r2=>
    obtain rfl:=r1.jA
    refine⟨⟨[_],rfl,rfl⟩,cV ⟨_,rfl,q,_,_,_,rfl,rfl,SqT.of hq,aV (j:=0) rfl,by rw [List.length_map,List.length_map,List.length_take]; omega,ak,aX hi ⟨?_,by rw [bR]⟩⟩⟩
    rw [take_snoc hil,List.map_append,List.map_append]
    rfl
def JD:Sp:=fun vs H Q _=>∃(v:V) (d:PyData),vs=[v]∧RdV H v d∧gd d∧wt d≤1900∧∀ H',Same H H'→Q (.bl (dcd (IsF d))) H'
theorem Le(D:Defs K mg t)(GL:Glb mg):aU P w K mg base CX0 3 t.gG.1 t.gG.2 ["thing"] JD:=by
 have G_is_tuple_of:aU P w K mg base CX0 1 t.cL.1 t.cL.2 _ wO:=yK D
 have G_is_name:aU P w K mg base CX0 1 t.iB.1 t.iB.2 _ Al:=Bd D GL
 have G_are_kinds:aU P w K mg base CX0 2 t.gM.1 t.gM.2 _ Jz:=Kh D
 have G_kinds_of:aU P w K mg base CX0 1 t.kinds_of.1 t.kinds_of.2 _ pU:=Aw D
 have G_elders_first:aU P w K mg base CX0 1 t.bL.1 t.bL.2 _ nC:=qC D
 obtain ⟨tk3,hMOK⟩:=GL.wY
 have hz:sizeLine=16777216:=sizeLine_eq
 refine D.gG.fn.ok qd (fun vs H Q E h=>?_) (fun cdv A outer s H vs Q E hr h=>?_)
 ·obtain ⟨v,d,rfl,_⟩:=h
  rfl
 ·obtain ⟨v,d,rfl,rd,g,_,k⟩:=h
  refine⟨_,(aC (cC (PW.pt (mK (cW (cT (aK bM (by rfl) D.bh bf (aj (pv 0) (aj (dY (v:=V.ty "tuple") rfl D.bQ bJ rfl) au))))) (jT (cW (xU Bh Bh aG (aK aY (by rfl) D.d7 cF (aj (pv 0) au)) (iC (v:=V.int 7) (by rfl) hMOK ⟨_,rfl⟩))))))
   (aH (aR gk))
   bx)
   (aC (cC (cW (cT (aK (fW rfl) (by rfl) D.lu ji (aj (bH rfl (aM.of ["pair"] [] ["pair"] (aq (top 21)) ["thing","kinds"] rfl rfl (by decide +kernel)) ⟨fun _ _ _ _ _=>(aQ (i:=0) (show List.Nodup [("pair" : Str)] by decide +kernel) rfl (Or.inl (lookup_relabel_local rfl)) (.inr (lookup_relabel_local rfl))),fun _ _ _ _ _=>bN,fun _ _ _ _ _=>(iW (aJ D.cL G_is_tuple_of (hr.mono (by omega)) (by rfl) (aj (pv 0) (aj aG au))) (jx (aJ D.iB G_is_name (hr.mono (by omega)) (by rfl) (aj (aZ (dW (K:=K) rfl) (pv 0) aG (fun _ _=>rfl)) au))))⟩ (eY (pv 0))) au))))
   (aH (aR gk))
   bx)
   (aC (aP (i:=1) qd.nd rfl (Or.inr rfl) (aJ D.kinds_of G_kinds_of (hr.mono (by omega)) (by rfl) (aj (pv 0) au)))
   (aC (cC (bF qX (aK kj (by rfl) D.d7 cF (aj (bB (qH rfl) (by rfl) D.Gx zX (aj (pv 1) au)) au)) (aK aY (by rfl) D.d7 cF (aj (pv 1) au)) (bK _))
   (aH (aR gk))
   bx)
   (aC (cC (cW (cT (aK (fW rfl) (by rfl) D.lu ji (aj (bH rfl (aM.of ["pair"] [1] ["pair","kinds"] (aq (top 21)) ["thing","kinds"] rfl rfl (by decide +kernel)) ⟨fun _ _ _ _ _=>(aQ (i:=0) (show List.Nodup [("pair" : Str),("kinds" : Str)] by decide +kernel) rfl (Or.inl (lookup_relabel_local rfl)) (.inr (lookup_relabel_local rfl))),fun _ _ _ _ _=>bN,fun _ _ _ _ _=>(aJ D.gM G_are_kinds (hr.mono (by omega)) (by rfl) (aj (aZ (dW (K:=K) rfl) (pv 0) aG (fun _ _=>rfl)) (aj (pv 1) au)))⟩ (eY (pv 0))) au))))
   (aH (aR gk))
   bx)
   (aH (aR (gY j9 (aK aY (by rfl) D.d7 cF (aj (aJ D.bL G_elders_first (hr.mono (by omega)) (by rfl) (aj (pv 0) au)) au)) (aK aY (by rfl) D.d7 cF (aj (pv 0) au)) (bK _))))))))),?_⟩
  have kf:∀ {H'},Same H H'→¬ IsF d→Q (.bl false) H':=fun s h=>by have:=k _ s; rw [cR h] at this; exact this
  refine⟨_,rfl,_,_,_,xT d,rfl,rd.ty,Hl K d,_,rfl,?_⟩
  cases hb:xT d with
  | false=>exact dZ (dZ (kf (Same.refl H) fun⟨f,e,_⟩=>by rw [e] at hb; cases hb))
  | true=>
   obtain ⟨ds,rfl⟩:=Af hb
   obtain ⟨b,xs,rfl,hb',rl⟩:=rd.jW
   have hxl:=rl.length
   have nf:¬ (1≤ds.length∧ds.length≤7)→Q (.bl false) H:=fun h=>kf (Same.refl H) fun⟨f,e,n1,n2,_⟩=>by
    injection e with e
    rw [e,List.length_map] at h
    exact h ⟨n1,n2⟩
   refine fj ⟨_,rfl,b,_,rfl,.inr (SqT.of hb'),_,_,rfl,rfl,_,rfl,?_⟩
   by_cases h1:1≤ds.length
   rotate_left
   ·refine jz (by rw [decide_eq_false (show ¬ (1:Int)≤(xs.length:Int) by omega)]; exact Bool.false_ne_true) ?_
    exact⟨_,rfl,dZ (nf fun h=>h1 h.1)⟩
   refine jR (decide_eq_true (by omega)) ⟨_,_,rfl,rfl,_,rfl,?_⟩
   by_cases h7:ds.length≤7
   rotate_left
   ·exact jR (by rw [decide_eq_false (show ¬ (xs.length:Int)≤7 by omega)]; rfl) (nf fun h=>h7 h.2)
   refine jz (by rw [decide_eq_true (show (xs.length:Int)≤7 by omega)]; exact Bool.false_ne_true) ?_
   refine⟨_,rfl,b,rfl,⟨_,SqT.of hb'⟩,fun Dd hD=>?_⟩
   refine bw (n:=xs.length) (fun i ys H2=>ys=((ds.take i).map fun d=>dcd (R1 d)).map V.bl∧Same H H2∧H2 Dd=some (.lst ys)) ⟨rfl,Same.new hD,ak⟩ ?_ ?_
   rotate_left
   ·rintro i ys H2 hi ⟨rfl,s2,hD2⟩
    have hil:i < ds.length:=by omega
    obtain ⟨y,ey,ry⟩:=rl.get (List.getElem?_eq_getElem hil)
    refine⟨⟨_,_,SqT.of (s2 b _ hb'),ey⟩,?_⟩
    rintro z H3 ⟨rfl,yy⟩ σo ho
    obtain ⟨o,rfl⟩:=own1 ho
    have ez:=yy _ (SqT.of (s2 b _ hb'))
    rw [ey] at ez
    cases ez
    have gi:gd ds[i]:=by
     rw [gd] at g
     exact Cm.mp g _ (List.getElem_mem hil)
    have fin:∀(B:Bool) (H4:Hp),B=dcd (R1 ds[i])→Same H3 H4→(∃ m',m' < xs.length - i∧(m'=xs.length - (i+1)∧i+1≤xs.length∧(((ds.take i).map fun d=>dcd (R1 d)).map V.bl++[.bl B]=((ds.take (i+1)).map fun d=>dcd (R1 d)).map V.bl∧Same H (upd H4 Dd (.lst (((ds.take i).map fun d=>dcd (R1 d)).map V.bl++[.bl B])))∧(upd H4 Dd (.lst (((ds.take i).map fun d=>dcd (R1 d)).map V.bl++[.bl B]))) Dd=some (.lst (((ds.take i).map fun d=>dcd (R1 d)).map V.bl++[.bl B]))))):=fun B H4 eB s4=>aX hi ⟨by
      rw [take_snoc hil,List.map_append,List.map_append,eB]
      rfl,fun b' o e=>by
      rw [aA (aB e hD)]
      exact s4 b' o (s2 b' o e),ak⟩
    have hlen:(((ds.take i).map fun d=>dcd (R1 d)).map V.bl).length≤7:=by rw [List.length_map,List.length_map,List.length_take]; omega
    refine⟨⟨[_],rfl,rfl⟩,cV ⟨_,rfl,y,ds[i],2,rfl,ry.jg s2,?_⟩⟩
    by_cases h2:∃ es,ds[i]=.tuple es∧es.length=2
    ·rw [iR h2]
     obtain ⟨es,ee,e2⟩:=h2
     rw [ee] at ry gi
     obtain ⟨q,zs,rfl,hq,rz⟩:=(ry.jg s2).jW
     match es,e2 with
     | [e0,e1],_=>
      rw [gd,gdA] at gi
      cases rz with
      | cons r1 r2=>
       refine⟨_,rfl,dZ ⟨_,rfl,q,_,_,_,rfl,rfl,SqT.of hq,aV (j:=0) rfl,_,e0,rfl,r1,gi.1,fun H4 s4=>⟨by omega,s4 Dd _ hD2,fin _ H4 ?_ s4⟩⟩⟩
       refine qG ⟨fun⟨x,ex,hx⟩=>⟨x,e1,by rw [ee,ex],hx⟩,fun⟨x,e',eq,hx⟩=>⟨x,?_,hx⟩⟩
       rw [ee] at eq
       injection eq with eq
       injection eq with eq
    ·rw [cR h2]
     refine⟨_,rfl,fj ⟨by omega,hD2,fin _ H3 ?_ (Same.refl H3)⟩⟩
     rw [cR]
     rintro ⟨x,e,ex,_⟩
     exact h2 ⟨_,ex,rfl⟩
   rintro ys H2 ⟨rfl,s2,hD2⟩
   rw [List.take_of_length_le (by omega)] at hD2
   refine⟨⟨_,SqT.of (s2 b _ hb'),Nat.le_refl _⟩,Dd,_,rfl,SqL.of hD2,_,rfl,?_⟩
   cases hall:(ds.map fun d=>dcd (R1 d)).all id with
   | false=>
    refine dZ (kf s2 ?_)
    rintro ⟨f,e,_,_,ok,_⟩
    injection e with e
    have:(ds.map fun d=>dcd (R1 d)).all id=true:=by
     rw [Ay]
     refine⟨f.map fun r=>(r.1,.tuple (r.2.map .str)),?_,fun p hp=>?_⟩
     ·rw [e,List.map_map]
      rfl
     ·obtain ⟨r,hr',rfl⟩:=List.mem_map.mp hp
      exact(ok r hr').1
    rw [this] at hall
    cases hall
   | true=>
    obtain ⟨ps,rfl,nmp⟩:=Ay.mp hall
    rw [List.length_map] at h1 h7 hxl
    have rl2:=rl.jg s2
    refine fj ⟨_,rfl,b,xs,ps,rfl,s2 b _ hb',rl2,by omega,fun ka H3 hka s3=>?_⟩
    have s13:=s2.trans s3
    have pl:((ps.map (·.1)).map V.str).length=ps.length:=by rw [List.length_map,List.length_map]
    have kl:(ps.map (·.1)).length=ps.length:=List.length_map _
    refine⟨_,rfl,ka,_,rfl,.inr (SqT.of hka),by omega,fun sd hsd=>?_⟩
    have s4:∀ o,Same H3 (upd H3 sd o):=fun o=>Same.new hsd
    refine⟨sd,_,rfl,ak,_,rfl,ka,_,rfl,.inr (SqT.of (s4 _ ka _ hka)),_,_,rfl,rfl,_,rfl,?_⟩
    have s14:∀ o,Same H (upd H3 sd o):=fun o=>s13.trans (s4 o)
    have ule:=Bt (ps.map (·.1)) (ps.map (·.1)).length
    by_cases nd:(ps.map (·.1)).Nodup
    rotate_left
    ·refine jR (decide_eq_true ?_) (kf (s14 _) ?_)
     ·have:un (ps.map (·.1)) (ps.map (·.1)).length≠(ps.map (·.1)).length:=fun z=>nd ((vP _).mp z)
      omega
     ·rintro ⟨f,e,_,_,_,ndf,_⟩
      injection e with e
      have:ps.map (·.1)=nms f:=by
       have h:=congrArg (List.map fun d=>match d with | PyData.tuple (PyData.str x::_)=>x | _=> "") e
       rw [List.map_map,List.map_map] at h
       exact h
      rw [this] at nd
      exact nd ndf
    have une:=(vP _).mpr nd
    refine jz (by rw [decide_eq_false (by omega)]; exact Bool.false_ne_true) ?_
    refine⟨_,rfl,b,rfl,⟨_,SqT.of (s14 _ b _ hb')⟩,fun De hDe=>?_⟩
    refine bw (n:=xs.length) (fun i ys H5=>ys=((ps.take i).map fun p=>dcd (Du (ps.map (·.1)) p.2)).map V.bl∧Same H3 H5∧H5 De=some (.lst ys)) ⟨rfl,(s4 _).trans (Same.new hDe),ak⟩ ?_ ?_
    rotate_left
    ·rintro i ys H5 hi ⟨rfl,s5,hD5⟩
     have hil:i < ps.length:=by omega
     obtain ⟨y,ey,ry⟩:=rl.get (i:=i) (d:=pairD ps[i]) (by rw [List.getElem?_map,List.getElem?_eq_getElem hil]; rfl)
     refine⟨⟨_,_,SqT.of (s5 b _ (s13 b _ hb')),ey⟩,?_⟩
     rintro z H6 ⟨rfl,yy⟩ σo ho
     obtain ⟨o,rfl⟩:=own1 ho
     have ez:=yy _ (SqT.of (s5 b _ (s13 b _ hb')))
     rw [ey] at ez
     cases ez
     obtain ⟨q,zs,rfl,hq,rz⟩:=(ry.jg (s13.trans s5)).jW
     cases rz with
     | cons r1 rz=>
      cases rz with
      | cons r2 rz=>
       refine⟨⟨[_],rfl,rfl⟩,cV ⟨_,rfl,q,_,_,_,rfl,rfl,SqT.of hq,aV (j:=1) rfl,_,rfl,_,(ps[i]).2,ka,ps.map (·.1),rfl,r2,s5 ka _ hka,by omega,fun H7 s7=>⟨by rw [List.length_map,List.length_map,List.length_take]; omega,s7 De _ hD5,aX hi ⟨?_,fun b' o e=>?_,ak⟩⟩⟩⟩
       ·rw [take_snoc hil,List.map_append,List.map_append]
        rfl
       ·rw [aA (aB (s4 _ b' o e) hDe)]
        exact s7 b' o (s5 b' o e)
    rintro ys H5 ⟨rfl,s5,hD5⟩
    rw [List.take_of_length_le (by omega)] at hD5
    refine⟨⟨_,SqT.of (s5 b _ (s13 b _ hb')),Nat.le_refl _⟩,De,_,rfl,SqL.of hD5,_,rfl,?_⟩
    have s15:=s13.trans s5
    cases hare:(ps.map fun p=>dcd (Du (ps.map (·.1)) p.2)).all id with
    | false=>
     refine dZ (kf s15 ?_)
     rintro ⟨f,e,_,_,ok,ndf,pl⟩
     injection e with e
     have en:ps.map (·.1)=nms f:=by
      have h:=congrArg (List.map fun d=>match d with | PyData.tuple (PyData.str x::_)=>x | _=> "") e
      rw [List.map_map,List.map_map] at h
      exact h
     have:(ps.map fun p=>dcd (Du (ps.map (·.1)) p.2)).all id=true:=by
      rw [wG]
      refine⟨f,e,en.symm,fun r hr'=>⟨fun e' he'=>?_,(ok r hr').2.2⟩⟩
      rw [en]
      exact(Pl.inv ndf hr' (pl r.1 (List.mem_map.mpr ⟨r,hr',rfl⟩)) e' he').mem
     rw [this] at hare
     cases hare
    | true=>
     obtain ⟨f,e1,e2,e3⟩:=wG.mp hare
     have fl:f.length=ps.length:=by
      have:=congrArg List.length e2
      rwa [List.length_map,List.length_map] at this
     rw [← e2] at nd e3
     have rw':Rws f:=⟨nd,by omega,fun r hr'=>by
      have:=dO (e3 r hr').2 (e3 r hr').1
      rw [List.length_map] at this
      omega⟩
     have dv:Dp H5 (qP f) (.ref b):=RdV.dp (qP f) (by rw [pQ,← e1]; exact rd.jg s15)
     refine fj ⟨_,rfl,.ref b,f,rfl,dv,rw',fun q pl H6 hq T h0 s6=>?_⟩
     refine⟨q,_,rfl,.inr (SqT.of hq),_,rfl,b,_,rfl,.inr (SqT.of (s6 b _ (s15 b _ hb'))),rfl,?_⟩
     have fin:=k _ (s15.trans s6)
     have key:IsF (.tuple (ps.map pairD))↔pl.length=f.length:=by
      rw [T.all nd (.inl h0)]
      constructor
      ·rintro ⟨f',e,_,_,_,_,h⟩
       rw [e1] at e
       rw [Fx e]
       exact h
      ·intro h
       refine⟨f,by rw [e1],by omega,by omega,fun r hr'=>⟨?_,fun e' he'=>?_,(e3 r hr').2⟩,nd,h⟩
       ·have:r.1∈ps.map (·.1):=by rw [← e2]; exact List.mem_map.mpr ⟨r,hr',rfl⟩
        obtain ⟨p,hp,ep⟩:=List.mem_map.mp this
        rw [← ep]
        exact nmp p hp
       ·have:e'∈ps.map (·.1):=by rw [← e2]; exact(e3 r hr').1 e' he'
        obtain ⟨p,hp,ep⟩:=List.mem_map.mp this
        rw [← ep]
        exact nmp p hp
     rw [qG key] at fin
     rw [List.length_map]
     by_cases e:pl.length=f.length
     ·rw [iR e] at fin
      rw [decide_eq_true (by rw [e,fl,hxl])]
      exact fin
     ·rw [cR e] at fin
      rw [decide_eq_false (fun z=>by injection z with z; omega)]
      exact fin
end
end K12.E
end
section
set_option autoImplicit false
namespace K12.B
open PySem PyProof.Rows L2
structure Row where
 kind:Str
 qJ:List Str
 order:List Str
 fields:List Str
 Mw:List (Str × Int)
 num:Int
def M9(r:Row):List T:=[.str r.kind,.tup (r.qJ.map T.str),.tup (r.order.map T.str),.tup (r.fields.map T.str),.tup (r.Mw.map fun d=>T.tup [.str d.1,.int d.2]),.int r.num]
def uL(r:Row):T:=.tup (M9 r)
def xq(tb:List Row):T:=.tup (tb.map uL)
def kns(tb:List Row):List Str:=tb.map (·.kind)
structure qx (tb:List Row):Prop where
 nd:(kns tb).Nodup
 len:tb.length≤7
 ord:∀ r∈tb,∀ x∈r.order,x∈kns tb
 ol:∀ r∈tb,r.order.length≤8
 fl:∀ r∈tb,r.fields.length≤7
 kl:∀ r∈tb,Nm r.kind
 es:∀ r∈tb,(∀ x∈r.qJ,x∈kns tb)∧r.qJ.length≤7
theorem Dp.Iw{H:Hp}{r:Row}{v:V}(d:Dp H (uL r) v):∃(q e o f g:Addr) (ds:List V),v=.ref q∧H q=some (.tup [.str r.kind,.ref e,.ref o,.ref f,.ref g,.int r.num])∧H e=some (.tup (r.qJ.map V.str))∧H o=some (.tup (r.order.map V.str))∧H f=some (.tup (r.fields.map V.str))∧H g=some (.tup ds):=by
 obtain ⟨q,xs,rfl,hq,dl⟩:=L2.Dp.cA d
 obtain ⟨x1,r1,rfl,d1,dl⟩:=DpL.cases dl
 obtain ⟨x2,r2,rfl,d2,dl⟩:=DpL.cases dl
 obtain ⟨x3,r3,rfl,d3,dl⟩:=DpL.cases dl
 obtain ⟨x4,r4,rfl,d4,dl⟩:=DpL.cases dl
 obtain ⟨x5,r5,rfl,d5,dl⟩:=DpL.cases dl
 obtain ⟨x6,r6,rfl,d6,dl⟩:=DpL.cases dl
 have e1:x1=.str r.kind:=d1.jA
 have e6:x6=.int r.num:=by rw [Dp] at d6; exact d6
 have e7:r6=[]:=by
  cases r6 with
  | nil=>rfl
  | cons _ _=>have:=dl.length; cases this
 obtain ⟨a2,y2,rfl,h2,l2⟩:=L2.Dp.cA d2
 obtain ⟨a3,y3,rfl,h3,l3⟩:=L2.Dp.cA d3
 obtain ⟨a4,y4,rfl,h4,l4⟩:=L2.Dp.cA d4
 obtain ⟨a5,y5,rfl,h5,_⟩:=L2.Dp.cA d5
 rw [DpL.jq l2] at h2
 rw [DpL.jq l3] at h3
 rw [DpL.jq l4] at h4
 subst e1 e6 e7
 exact⟨q,a2,a3,a4,a5,y5,rfl,hq,h2,h3,h4,h5⟩
section
variable {P:Program}{w:World}{K:PySem.W.Frag}{mg:Str→Option Value}{base:Heap}{t:Adr}
def sS:Sp:=fun vs H Q _=>∃(x:Str) (q:Addr) (ks:List Str),vs=[.str x,.ref q]∧H q=some (.tup (ks.map V.str))∧Q (.bl (decide (x∈ks))) H
def wV:Sp:=fun vs H Q _=>∃(x:Str) (q:Addr) (ks:List Str),vs=[.str x,.ref q]∧H q=some (.tup (ks.map V.str))∧x∈ks∧Q .non H
def pU:Sp:=fun vs H Q _=>∃(v:V) (tb:List Row),vs=[v]∧Dp H (xq tb) v∧tb.length≤7∧∀(q:Addr) H',H' q=some (.tup ((kns tb).map V.str))→Same H H'→Q (.ref q) H'
theorem GQ(D:Defs K mg t):aU P w K mg base CX0 1 t.kinds_of.1 t.kinds_of.2 ["rows"] pU:=by
 have hz:sizeLine=16777216:=sizeLine_eq
 refine D.kinds_of.fn.ok rA (fun vs H Q E h=>?_) (fun cdv A outer s H vs Q E hr h=>?_)
 ·obtain ⟨v,tb,rfl,_⟩:=h
  rfl
 ·obtain ⟨v,tb,rfl,dv,h7,k⟩:=h
  obtain ⟨a,xs,rfl,ha,dl⟩:=L2.Dp.cA dv
  have hxl:xs.length=tb.length:=by have:=dl.length; rwa [List.length_map] at this
  refine⟨_,(aH (aR (bB bI (by rfl) D.bQ bJ (aj (bH rfl (aM.of ["row"] [] ["row"] (aq (top 20)) ["rows"] rfl rfl (by decide +kernel)) ⟨fun _ _ _ _ _=>(aQ (i:=0) (show List.Nodup [("row" : Str)] by decide +kernel) rfl (Or.inl (lookup_relabel_local rfl)) (.inr (lookup_relabel_local rfl))),fun _ _ _ _ _=>bN,fun _ _ _ _ _=>(aZ (dW (K:=K) rfl) (pv 0) aG (fun _ _=>rfl))⟩ (eY (pv 0))) au)))),?_⟩
  refine⟨_,rfl,a,rfl,⟨_,SqT.of ha⟩,fun D1 hD1=>?_⟩
  have s1:∀ u,Same H (upd H D1 u):=fun u=>Same.new hD1
  refine bw (n:=xs.length) (fun i ys H2=>ys=((kns tb).take i).map V.str∧H2=upd H D1 (.lst ys)) ⟨rfl,rfl⟩ ?_ ?_
  rotate_left
  ·rintro i ys H2 hi ⟨rfl,rfl⟩
   have hit:i < tb.length:=by omega
   obtain ⟨y,ei,dy⟩:=dl.get (i:=i) (t:=uL tb[i]) (by rw [List.getElem?_map,List.getElem?_eq_getElem hit]; rfl)
   obtain ⟨q,e,o,f,g,ds,rfl,hq,_⟩:=K12.B.Dp.Iw dy
   have hai:=s1 (.lst (((kns tb).take i).map V.str)) a _ ha
   refine⟨⟨_,_,SqT.of hai,ei⟩,?_⟩
   rintro v H3 ⟨rfl,yy⟩ σo ho
   obtain ⟨oo,rfl⟩:=own1 ho
   have ev:=yy _ (SqT.of hai)
   rw [ei] at ev
   cases ev
   have hkl:i < (kns tb).length:=by show i < (tb.map _).length; rw [List.length_map]; exact hit
   have ek:(kns tb)[i]=tb[i].kind:=List.getElem_map _
   refine⟨⟨[_],rfl,rfl⟩,cV ⟨_,rfl,q,_,_,_,rfl,rfl,SqT.of (s1 _ q _ hq),aV (j:=0) rfl,by rw [List.length_map,List.length_take]; omega,ak,aX hi ⟨?_,by rw [bR]⟩⟩⟩
   rw [take_snoc hkl,List.map_append,ek]
   rfl
  rintro ys H2 ⟨rfl,rfl⟩
  rw [List.take_of_length_le (by show (tb.map _).length≤_; rw [List.length_map]; omega)]
  refine⟨⟨_,SqT.of (s1 _ a _ ha),Nat.le_refl _⟩,D1,_,rfl,.inl ⟨SqL.of ak,fun q hq=>?_⟩⟩
  exact k q _ ak ((s1 _).trans (Same.new hq))
end
end K12.B
end
section
set_option autoImplicit false
namespace K12.B
open PySem PyProof.Rows L2
def Fg(d:Str × Int):T:=.tup [.str d.1,.int d.2]
section
variable {P:Program}{w:World}{K:PySem.W.Frag}{mg:Str→Option Value}{base:Heap}{t:Adr}
def JB:Sp:=fun vs H Q _=>∃(p l:Addr) (ns:List Str),vs=[.ref p,.ref l]∧Pu H p∧H l=some (.lst (ns.map V.str))∧ns.length≤3∧
 ∀(v:V) (ds:List (Str × Int)) H',Dp H' (.tup (ds.map Fg)) v→Off p H H'→Pu H' p→Q v H'
theorem J8(D:Defs K mg t):aU P w K mg base CX0 3 t.iQ.1 t.iQ.2 ["_law_purse_here","_law_deeds"] JB:=by
 have G__law_take:aU P w K mg base CX0 1 t.aL.1 t.aL.2 _ jB:=jc D
 have G__law_some:aU P w K mg base CX0 2 t.bU.1 t.bU.2 _ um:=rM D
 have hz:sizeLine=16777216:=sizeLine_eq
 refine D.iQ.fn.ok qW (fun vs H Q E h=>?_) (fun cdv A outer s H vs Q E hr h=>?_)
 ·obtain ⟨p,l,ns,rfl,_⟩:=h
  rfl
 ·obtain ⟨p,l,ns,rfl,hp,hl,h3,k⟩:=h
  refine⟨_,(aC (aP (i:=2) qW.nd rfl (Or.inl rfl) (aK wD (by rfl) D.uH qL (aj (aJ D.bU G__law_some (hr.mono (by omega)) (by rfl) (aj (pv 0) (aj (pv 1) (aj (aK aY (by rfl) D.d7 cF (aj (pv 1) au)) au)))) au)))
   (aH (aR (bB bI (by rfl) D.bQ bJ (aj (bH rfl (aM.of ["_law_deed"] [0] ["_law_deed","_law_purse_here"] (aq (top 60)) ["_law_purse_here","_law_deeds","_law_some_here"] rfl rfl (by decide +kernel)) ⟨fun _ _ _ _ _=>(aQ (i:=0) (show List.Nodup [("_law_deed" : Str),("_law_purse_here" : Str)] by decide +kernel) rfl (Or.inl (lookup_relabel_local rfl)) (.inr (lookup_relabel_local rfl))),fun _ _ _ _ _=>bN,fun _ _ _ _ _=>(cY (aj (pv 0) (aj (aZ (jL (K:=K) rfl) (cD (aj aG (aj aG (aj (bD fu aG (aJ D.aL G__law_take (hr.mono (by omega)) (by rfl) (aj (pv 1) (aj aG au)))) au)))) (aJ D.aL G__law_take (hr.mono (by omega)) (by rfl) (aj (pv 1) (aj aG au))) (fun _ _=>rfl)) au)))⟩ (eZ (pv 2))) au))))),?_⟩
  refine⟨_,rfl,_,rfl,_,rfl,l,_,rfl,.inl (SqL.of hl),p,l,ns,ns.length,by rw [List.length_map]; rfl,hp,hl,by omega,by omega,?_⟩
  intro q es H1 hq sub nd hle o1 p1
  refine⟨q,es,rfl,.inr (SqT.of hq),by omega,fun d ss pm _ hd=>?_⟩
  have hsl:ss.length=es.length:=pm.length_eq
  have pd:p≠d:=p1.neN hd
  have o2:Off p H (upd H1 d (.lst (ss.map V.str))):=o1.trans (Off.new hd)
  have p2:Pu (upd H1 d (.lst (ss.map V.str))) p:=p1.aA pd
  have hd2:(upd H1 d (.lst (ss.map V.str))) d=some (.lst (ss.map V.str)):=ak
  generalize upd H1 d (.lst (ss.map V.str))=H2 at o2 p2 hd2
  refine⟨_,rfl,d,rfl,⟨_,SqL.of hd2⟩,fun D1 hD1=>?_⟩
  have pD:p≠D1:=p2.neN hD1
  have dD:d≠D1:=aB hd2 hD1
  refine bw (n:=(ss.map V.str).length) (fun i ys H3=>∃ ds:List (Str × Int),ds.length=i∧DpL H3 (ds.map Fg) ys∧H3 D1=some (.lst ys)∧H3 d=some (.lst (ss.map V.str))∧Off p H2 H3∧Pu H3 p)
   ⟨[],rfl,.nil,ak,by rw [aA dD]; exact hd2,Off.new hD1,p2.aA pD⟩ ?_ ?_
  ·rintro ys H3 ⟨ds,hdl,dl,hD3,hd3,o3,p3⟩
   refine⟨⟨_,SqL.of hd3,Nat.le_refl _⟩,D1,_,rfl,.inl ⟨SqL.of hD3,fun q4 hq4=>?_⟩⟩
   exact k (.ref q4) ds _ (L2.Dp.tup ak (dl.mono (Same.tups (Same.new hq4)))) (o2.trans (o3.trans (Off.new hq4))) (p3.aA (p3.neN hq4))
  ·rintro i ys H3 hi ⟨ds,hdl,dl,hD3,hd3,o3,p3⟩
   have hi':i < ss.length:=by rw [List.length_map] at hi; exact hi
   have ei:(ss.map V.str)[i]?=some (.str ss[i]):=by rw [List.getElem?_map,List.getElem?_eq_getElem hi']; rfl
   refine⟨⟨_,_,SqL.of hd3,ei⟩,?_⟩
   rintro x H4 ⟨rfl,yy⟩ σo ho
   obtain ⟨oo,rfl⟩:=own1 ho
   have ev:=yy _ (SqL.of hd3)
   rw [ei] at ev
   cases ev
   refine⟨⟨[_],rfl,rfl⟩,cV ?_⟩
   refine⟨_,rfl,_,rfl,p,99,rfl,p3,by decide,by decide,fun r1 a1 b1 c1 l1 u1=>⟨_,_,rfl,rfl,by show 3≤sizeLine; decide,fun m hm=>?_⟩⟩
   have pm':p≠m:=Pu.upd.neN hm
   have p5:=(Pu.upd (H:=H4) (p:=p) (a:=a1) (b:=b1) (c:=c1)).aA (o:=.lst [.int 1,.int 99,.int (1+r1)]) pm'
   have o5:Off p H4 (upd (upd H4 p (.lst [.int a1,.int b1,.int c1])) m (.lst [.int 1,.int 99,.int (1+r1)])):=Off.upd.trans (Off.new hm)
   have hm5:(upd (upd H4 p (.lst [.int a1,.int b1,.int c1])) m (.lst [.int 1,.int 99,.int (1+r1)])) m=some (.lst [.int 1,.int 99,.int (1+r1)]):=ak
   generalize upd (upd H4 p (.lst [.int a1,.int b1,.int c1])) m (.lst [.int 1,.int 99,.int (1+r1)])=H5 at p5 o5 hm5
   refine⟨_,rfl,p,3,rfl,p5,by decide,by decide,fun r2 a2 b2 c2 l2 u2=>?_⟩
   have p6:Pu (upd H5 p (.lst [.int a2,.int b2,.int c2])) p:=Pu.upd
   have o6:Off p H4 (upd H5 p (.lst [.int a2,.int b2,.int c2])):=o5.trans Off.upd
   have hm6:(upd H5 p (.lst [.int a2,.int b2,.int c2])) m=some (.lst [.int 1,.int 99,.int (1+r1)]):=by rw [aA pm'.symm]; exact hm5
   generalize upd H5 p (.lst [.int a2,.int b2,.int c2])=H6 at p6 o6 hm6
   obtain ⟨z,hz'⟩:∃ z:Int,atI [V.int 1,V.int 99,V.int (1+r1)] r2=some (.int z):=by
    rcases (by omega:r2=0∨r2=1∨r2=2) with rfl | rfl | rfl
    ·exact⟨_,aV (j:=0) rfl⟩
    ·exact⟨_,aV (j:=1) rfl⟩
    ·exact⟨_,aV (j:=2) rfl⟩
   refine⟨m,_,_,_,rfl,rfl,SqL.of hm6,hz',by show 2≤sizeLine; decide,fun q7 hq7=>?_⟩
   have Dp':D1≠p:=pD.symm
   have dp':d≠p:=pd.symm
   have hD6:=o6 D1 _ Dp' hD3
   have hd6:=o6 d _ dp' hd3
   have tu6:gn H4 H6:=fun c zs e=>by
    obtain ⟨x1,x2,x3,ep⟩:=p3
    exact o6 c _ (eU e ep (fun z=>nomatch z)) e
   have s7:Same H6 (upd H6 q7 (.tup [.str ss[i],.int z])):=Same.new hq7
   have q7D:q7≠D1:=fun e=>by rw [e,hD6] at hq7; cases hq7
   have hyl:ys.length=i:=by
    have:=dl.length
    rw [List.length_map] at this
    omega
   refine⟨by omega,s7 D1 _ hD6,aX hi ⟨ds++[(ss[i],z)],by rw [List.length_append,hdl]; rfl,?_,ak,by rw [aA dD]; exact s7 d _ hd6,?_,?_⟩⟩
   ·rw [List.map_append]
    have tu7:gn (upd H6 q7 (.tup [.str ss[i],.int z])) (upd (upd H6 q7 (.tup [.str ss[i],.int z])) D1 (.lst (ys++[.ref q7]))):=fun c zs e=>by
     rw [aA (eU e (s7 D1 _ hD6) (fun z=>nomatch z))]
     exact e
    refine(dl.mono (tu6.trans ((Same.tups s7).trans tu7))).append (.cons ?_ .nil)
    exact L2.Dp.tup (by rw [aA q7D,ak]) (.cons (L2.Dp.str _) (.cons (L2.Dp.int _) .nil))
   ·exact fun b u hb e=>by
     rw [aA (fun e'=>by subst e'; rw [e] at hD1; cases hD1)]
     exact s7 b u (o6 b u hb (o3 b u hb e))
   ·exact(p6.aA (p6.neN hq7)).aA pD
end
end K12.B
end
section
set_option autoImplicit false
namespace K12.B
open PySem PyProof.Rows L2
def pB(H:Hp)(kvs:List (Key × V))(g:Str→List Str)(ns:List Str):Prop:=∀ x∈ns,∃ q,dM kvs (.inr x)=some (.ref q)∧H q=some (.tup ((g x).map V.str))∧(g x).length≤8
theorem pB.mono{H H':Hp}{kvs:List (Key × V)}{g:Str→List Str}{ns:List Str}(h:pB H kvs g ns)(s:gn H H'):pB H' kvs g ns:=fun x hx=>by
 obtain ⟨q,h1,h2,h3⟩:=h x hx
 exact⟨q,h1,s q _ h2,h3⟩
theorem Bc(xs:List V)(k:Nat)(h:k≤xs.length):gb xs none (some (k:Int))=xs.take k:=by
 unfold gb
 rw [HT.rP,Nat.min_eq_left h]
 rfl
theorem HS(xs:List V):gb xs none (some 1)=xs.take 1:=by
 cases xs with
 | nil=>rfl
 | cons x xs=>exact Bc (x::xs) 1 (by rw [List.length_cons]; omega)
def kW(g:Str→List Str)(es:List Str):List (List Str):=es.map g++[es]
theorem vg{g:Str→List Str}{es:List Str}(h:∀ x∈es,(g x).length≤8):tot (kW g es)≤9 * es.length:=by
 have tl:∀ es:List Str,(∀ x∈es,(g x).length≤8)→tot (es.map g)≤8 * es.length:=by
  intro es
  induction es with
  | nil=>exact fun _=>Nat.le_refl _
  | cons x es ih=>
   intro h
   rw [List.map_cons,gC,List.length_cons]
   have:=h x List.mem_cons_self
   have:=ih fun y hy=>h y (List.mem_cons_of_mem _ hy)
   omega
 have ta:tot (kW g es)=tot (es.map g)+es.length:=by
  unfold kW tot
  rw [List.map_append,List.sum_append]
  simp
 have:=tl es h
 omega
theorem DN{ns:List Str}(h:ns.Nodup):ns.reverse.Nodup:=(List.pairwise_reverse.mpr (List.Pairwise.imp (fun e z=>e z.symm) h))
theorem Jf(ns:List Str)(lo hi:Option Int):∃ ms:List Str,gb (ns.map V.str) lo hi=ms.map V.str∧ms.Sublist ns:=
 ⟨(ns.drop (HT.sIx ns.length 0 lo)).take (HT.sIx ns.length ns.length hi - HT.sIx ns.length 0 lo),by unfold gb; rw [List.length_map,List.map_take,List.map_drop],(List.take_sublist _ _).trans (List.drop_sublist _ _)⟩
section
variable {P:Program}{w:World}{K:PySem.W.Frag}{mg:Str→Option Value}{base:Heap}{t:Adr}
def JM:Sp:=fun vs H Q _=>∃(p nl od:Addr) (sh:Int) (ns:List Str) (kvs:List (Key × V)) (g:Str→List Str),vs=[.ref p,.ref nl,.int sh,.ref od]∧Pu H p∧H nl=some (.lst (ns.map V.str))∧ns.Nodup∧ns.length≤7∧0≤sh∧sh < 6∧H od=some (.dK kvs)∧pB H kvs g ns∧
 ∀(q:Addr) (es:List Str) H',H' q=some (.tup (es.map V.str))→(∀ x∈es,x∈ns)→es.Nodup→(es.length≤1∨∃ os,Mg (full (kW g es)) (some os))→Off p H H'→Pu H' p→Q (.ref q) H'
theorem J1(D:Defs K mg t):aU P w K mg base CX0 3 t.eF.1 t.eF.2 ["_law_purse_here","_law_names_here","_law_shape","_law_orders"] JM:=by
 have G__law_take:aU P w K mg base CX0 1 t.aL.1 t.aL.2 _ jB:=jc D
 have G__law_some:aU P w K mg base CX0 2 t.bU.1 t.bU.2 _ um:=rM D
 have G__law_merge:aU P w K mg base CX0 1 t.cZ.1 t.cZ.2 _ vV:=xO D
 have hz:sizeLine=16777216:=sizeLine_eq
 refine D.eF.fn.ok jM (fun vs H Q E h=>?_) (fun cdv A outer s H vs Q E hr h=>?_)
 ·obtain ⟨p,nl,od,sh,ns,kvs,g,rfl,_⟩:=h
  rfl
 ·obtain ⟨p,nl,od,sh,ns,kvs,g,rfl,hp,hnl,nd,h7,hs0,hs6,hod,og,k⟩:=h
  have np:nl≠p:=hp.ne hnl
  refine⟨_,(aC (aP (i:=4) jM.nd rfl (Or.inl rfl) (aJ D.bU G__law_some (hr.mono (by omega)) (by rfl) (aj (pv 0) (aj (pv 1) (aj (aZ bT (cD (aj aG (aj aG (aj aG (aj aG au))))) (aJ D.aL G__law_take (hr.mono (by omega)) (by rfl) (aj (pv 0) (aj aG au))) (fun _ _=>rfl)) au)))))
   (lB (cC (bF qX (pv 2) aG (bK _))
   (aH (aP (i:=4) jM.nd rfl (Or.inl rfl) (bB bI (by rfl) D.bQ bJ (aj (zj (bZ j8 (pv 1) (cI (aK (nJ rfl) (by rfl) D.Cq wQ (aj aG (aj (bD lY (bD lY (aK aY (by rfl) D.d7 cF (aj (pv 1) au)) aG) (bD lU aG (pv 2))) au)))) dh) (bD lY aG (bD lU aG (aJ D.aL G__law_take (hr.mono (by omega)) (by rfl) (aj (pv 0) (aj aG au)))))) au))))
   bx)
   (aC (cC (bF zE (aJ D.cZ G__law_merge (hr.mono (by omega)) (by rfl) (aj dg (aj (bD wj (bH rfl (aM.of ["_law_one"] [3] ["_law_one","_law_orders"] (aq (top 59)) ["_law_purse_here","_law_names_here","_law_shape","_law_orders","_law_elders_here"] rfl rfl (by decide +kernel)) ⟨fun _ _ _ _ _=>(aQ (i:=0) (show List.Nodup [("_law_one" : Str),("_law_orders" : Str)] by decide +kernel) rfl (Or.inl (lookup_relabel_local rfl)) (.inr (lookup_relabel_local rfl))),fun _ _ _ _ _=>bN,fun _ _ _ _ _=>(gU (fB hr) (pv 1) (pv 0) (fun _ _=>rfl))⟩ (eY (pv 4))) (cD (aj (pv 4) au))) au))) mW (bK _))
   (aH (aR (bZ vR (pv 4) dh (cI aG))))
   bx)
   (aH (aR (pv 4)))))),?_⟩
  refine⟨_,rfl,_,rfl,by show 4≤sizeLine; decide,fun m hm=>?_⟩
  have pm':p≠m:=hp.neN hm
  refine⟨_,rfl,p,4,rfl,hp.aA pm',by decide,by decide,fun r a1 b1 c1 l1 u1=>?_⟩
  have o1:Off p H (upd (upd H m (.lst [.int 4,.int 4,.int 4,.int 14])) p (.lst [.int a1,.int b1,.int c1])):=(Off.new hm).trans Off.upd
  have p1:Pu (upd (upd H m (.lst [.int 4,.int 4,.int 4,.int 14])) p (.lst [.int a1,.int b1,.int c1])) p:=Pu.upd
  have hm1:(upd (upd H m (.lst [.int 4,.int 4,.int 4,.int 14])) p (.lst [.int a1,.int b1,.int c1])) m=some (.lst [.int 4,.int 4,.int 4,.int 14]):=by rw [aA pm'.symm,ak]
  generalize upd (upd H m (.lst [.int 4,.int 4,.int 4,.int 14])) p (.lst [.int a1,.int b1,.int c1])=H1 at o1 p1 hm1
  obtain ⟨z,hz',hz14⟩:∃ z:Nat,atI [V.int 4,V.int 4,V.int 4,V.int 14] r=some (.int (z:Nat))∧z≤14:=by
   rcases (by omega:r=0∨r=1∨r=2∨r=3) with rfl | rfl | rfl | rfl
   ·exact⟨4,aV (j:=0) rfl,by decide⟩
   ·exact⟨4,aV (j:=1) rfl,by decide⟩
   ·exact⟨4,aV (j:=2) rfl,by decide⟩
   ·exact⟨14,aV (j:=3) rfl,by decide⟩
  refine⟨m,_,_,_,rfl,rfl,SqL.of hm1,hz',p,nl,ns,z,rfl,p1,o1 nl _ np hnl,by omega,by omega,fun q es H2 hq sub nde hle o2 p2=>?_⟩
  have o2:Off p H H2:=o1.trans o2
  refine⟨fun σ H3=>∃(q:Addr) (es:List Str),σ=[some (.ref p),some (.ref nl),some (.int sh),some (.ref od),some (.ref q)]∧H3 q=some (.tup (es.map V.str))∧(∀ x∈es,x∈ns)∧es.Nodup∧Off p H H3∧Pu H3 p,?_,?_⟩
  ·refine⟨_,rfl,_,_,rfl,rfl,_,rfl,jJ (fun hb=>?_) (fun hb=>⟨q,es,rfl,hq,sub,nde,o2,p2⟩)⟩
   refine⟨_,rfl,_,rfl,nl,_,rfl,.inl (SqL.of (o2 nl _ np hnl)),_,_,rfl,rfl,?_⟩
   refine⟨_,rfl,_,_,rfl,rfl,.inl ⟨by decide,by decide⟩,_,_,rfl,rfl,_,_,rfl,_,rfl,nl,_,rfl,SqL.of (o2 nl _ np hnl),fun m2 hm2=>?_⟩
   obtain ⟨ms,em,sbm⟩:=Jf ns (some (if ((ns.map V.str).length:Int) - 1 - 2 * sh > 0 then ((ns.map V.str).length:Int) - 1 - 2 * sh else 0)) none
   have p5:=p2.aA (o:=.lst (gb (ns.map V.str) (some (if ((ns.map V.str).length:Int) - 1 - 2 * sh > 0 then ((ns.map V.str).length:Int) - 1 - 2 * sh else 0)) none)) (p2.neN hm2)
   have hm5:(upd H2 m2 (.lst (gb (ns.map V.str) (some (if ((ns.map V.str).length:Int) - 1 - 2 * sh > 0 then ((ns.map V.str).length:Int) - 1 - 2 * sh else 0)) none))) m2=some (.lst (ms.map V.str)):=by rw [ak,em]
   have o5:Off p H (upd H2 m2 (.lst (gb (ns.map V.str) (some (if ((ns.map V.str).length:Int) - 1 - 2 * sh > 0 then ((ns.map V.str).length:Int) - 1 - 2 * sh else 0)) none))):=o2.trans (Off.new hm2)
   have m2p:m2≠p:=(p2.neN hm2).symm
   generalize upd H2 m2 (.lst (gb (ns.map V.str) (some (if ((ns.map V.str).length:Int) - 1 - 2 * sh > 0 then ((ns.map V.str).length:Int) - 1 - 2 * sh else 0)) none))=H5 at p5 hm5 o5
   refine⟨_,rfl,p,2,rfl,p5,by decide,by decide,fun r7 a7 b7 c7 l7 u7=>⟨_,_,rfl,rfl,.inl ⟨by decide,by decide⟩,_,_,rfl,rfl,m2,_,_,rfl,rfl,SqL.of (by rw [aA m2p]; exact hm5),?_⟩⟩
   have o7:Off p H (upd H5 p (.lst [.int a7,.int b7,.int c7])):=o5.trans Off.upd
   have p7:Pu (upd H5 p (.lst [.int a7,.int b7,.int c7])) p:=Pu.upd
   generalize upd H5 p (.lst [.int a7,.int b7,.int c7])=H7 at o7 p7
   rcases (by omega:r7=0∨r7=1) with rfl | rfl
   ·refine .inl ⟨by decide,fun q6 hq6=>⟨q6,_,rfl,.inl ⟨SqL.of ak,fun q8 hq8=>?_⟩⟩⟩
    have p8:=p7.aA (o:=.lst (ms.map V.str)) (p7.neN hq6)
    exact⟨q8,ms,rfl,ak,fun x hx=>sbm.subset hx,nd.sublist sbm,o7.trans ((Off.new hq6).trans (Off.new hq8)),p8.aA (p8.neN hq8)⟩
   ·refine .inr ⟨by decide,fun q6 hq6=>⟨q6,_,rfl,.inl ⟨SqL.of ak,fun q8 hq8=>?_⟩⟩⟩
    have p8:=p7.aA (o:=.lst (ms.map V.str).reverse) (p7.neN hq6)
    exact⟨q8,ms.reverse,rfl,by rw [ak,List.map_reverse],fun x hx=>sbm.subset (List.mem_reverse.mp hx),DN (nd.sublist sbm),o7.trans ((Off.new hq6).trans (Off.new hq8)),p8.aA (p8.neN hq8)⟩
  ·rintro σ H3 ⟨q,es,rfl,hq,sub,nde,o3,p3⟩
   have odp:od≠p:=by
    obtain ⟨x1,x2,x3,ep⟩:=hp
    exact eU hod ep (fun z=>nomatch z)
   have hod3:=o3 od _ odp hod
   have og3:pB H3 kvs g ns:=og.mono fun c zs e=>by
    obtain ⟨x1,x2,x3,ep⟩:=hp
    exact o3 c _ (eU e ep (fun z=>nomatch z)) e
   have hel:es.length≤7:=Nat.le_trans (dO nde (m:=ns) sub) h7
   refine⟨_,rfl,q,rfl,⟨_,SqT.of hq⟩,fun D1 hD1=>?_⟩
   have s4:∀ u,Same H3 (upd H3 D1 u):=fun u=>Same.new hD1
   refine bw (n:=(es.map V.str).length) (fun j ys H4=>jQ H3 ys ((es.take j).map g)∧H4=upd H3 D1 (.lst ys)) ⟨.nil,rfl⟩ ?_ ?_
   rotate_left
   ·rintro j ys H4 hj ⟨rt,rfl⟩
    have hj':j < es.length:=by rw [List.length_map] at hj; exact hj
    have ej:(es.map V.str)[j]?=some (.str es[j]):=by rw [List.getElem?_map,List.getElem?_eq_getElem hj']; rfl
    refine⟨⟨_,_,SqT.of (s4 _ q _ hq),ej⟩,?_⟩
    rintro y H5 ⟨rfl,yy⟩ σo ho
    obtain ⟨oo,rfl⟩:=own1 ho
    have ey:=yy _ (SqT.of (s4 _ q _ hq))
    rw [ej] at ey
    cases ey
    obtain ⟨q',h1,h2,_⟩:=og3 es[j] (sub _ (List.getElem_mem hj'))
    refine⟨⟨[_],rfl,rfl⟩,cV ⟨_,rfl,_,rfl,od,.ref q',rfl,.inl ⟨kvs,.inr es[j],.inl (s4 _ od _ hod3),rfl,h1.symm⟩,by rw [Paired.length rt,List.length_map,List.length_take]; omega,ak,aX hj ⟨?_,by rw [bR]⟩⟩⟩
    rw [take_snoc hj',List.map_append]
    exact eX rt ⟨q',rfl,h2⟩
   rintro ys H4 ⟨rt,rfl⟩
   rw [List.length_map,List.take_of_length_le (Nat.le_refl _)] at rt
   refine⟨⟨_,SqT.of (s4 _ q _ hq),Nat.le_refl _⟩,?_⟩
   have hyl:ys.length=es.length:=by rw [Paired.length rt,List.length_map]
   refine⟨_,rfl,by show 1≤sizeLine; decide,fun m2 hm2=>?_⟩
   have s5:=(s4 (.lst ys)).trans (Same.new (o:=.lst [.ref q]) hm2)
   have hD5:(upd (upd H3 D1 (.lst ys)) m2 (.lst [.ref q])) D1=some (.lst ys):=by rw [aA (aB ak hm2),ak]
   refine⟨D1,m2,ys,[.ref q],rfl,rfl,hD5,ak,by show ys.length+1≤sizeLine; omega,fun rl hrl=>?_⟩
   have s6:=s5.trans (Same.new (o:=.lst (ys++[.ref q])) hrl)
   have hrl6:(upd (upd (upd H3 D1 (.lst ys)) m2 (.lst [.ref q])) rl (.lst (ys++[.ref q]))) rl=some (.lst (ys++[.ref q])):=ak
   generalize upd (upd (upd H3 D1 (.lst ys)) m2 (.lst [.ref q])) rl (.lst (ys++[.ref q]))=H6 at s6 hrl6
   have rt6:jQ H6 (ys++[.ref q]) (kW g es):=eX (rt.mono (Same.tups s6)) ⟨q,rfl,s6 q _ hq⟩
   have tt:=vg (g:=g) (es:=es) fun x hx=>by
    obtain ⟨_,_,_,h⟩:=og3 x (sub x hx)
    exact h
   refine⟨"",rl,_,kW g es,rfl,hrl6,rt6,by omega,by unfold kW; rw [List.length_append,List.length_map,List.length_singleton]; omega,fun v r H7 hm res s7=>?_⟩
   have s37:=s6.trans s7
   have p7:Pu H7 p:=p3.same s37
   have o7:Off p H H7:=o3.trans s37.off
   cases r with
   | none=>
    have ev:v=.non:=res
    subst ev
    refine⟨rfl,_,rfl,jR (decide_eq_true rfl) ?_⟩
    refine⟨_,rfl,_,rfl,q,_,rfl,s37 q _ hq,fun q8 H8 hq8 s8=>?_⟩
    rw [HS,← List.map_take] at hq8
    exact k q8 (es.take 1) H8 hq8 (fun x hx=>sub x (List.mem_of_mem_take hx)) (nde.sublist (List.take_sublist _ _)) (.inl (by rw [List.length_take]; omega)) (o7.trans s8.off) (p7.same s8)
   | some os=>
    obtain ⟨a',ev,_⟩:∃ a',v=V.ref a'∧True:=by
     obtain ⟨a',h,_⟩:=res
     exact⟨a',h,trivial⟩
    subst ev
    refine⟨rfl,_,rfl,jz (by rw [decide_eq_false (fun z=>nomatch z)]; exact Bool.false_ne_true) ?_⟩
    exact⟨_,rfl,k q es H7 (s37 q _ hq) sub nde (.inr ⟨os,hm⟩) o7 p7⟩
end
end K12.B
end
section
set_option autoImplicit false
namespace K12.B
open PySem PyProof.Rows L2
theorem Mg.ux{rows:List (List Str)}{r:Option (List Str)}(h:Mg rows r):∀ os,r=some os→(∀ y∈os,∃ q∈rows,y∈q)∧os.Nodup:=by
 induction h with
 | nil=>
  intro os e
  cases e
  exact⟨by simp,List.nodup_nil⟩
 | stuck _ _=>
  intro os e
  cases e
 | @step rows x more r hf _ ih=>
  intro os e
  cases r with
  | none=>cases e
  | some os'=>
   cases e
   obtain ⟨h1,h2⟩:=ih os' rfl
   have back:∀ y∈os',y≠x∧∃ q∈rows,y∈q:=fun y hy=>by
    obtain ⟨q,hq,hyq⟩:=h1 y hy
    obtain ⟨hq1,_⟩:=List.mem_filter.mp hq
    obtain ⟨q0,hq0,rfl⟩:=List.mem_map.mp hq1
    obtain ⟨a,b⟩:=List.mem_filter.mp hyq
    exact⟨of_decide_eq_true b,q0,hq0,a⟩
   refine⟨fun y hy=>?_,List.nodup_cons.mpr ⟨fun h=>(back x h).1 rfl,h2⟩⟩
   rcases List.mem_cons.mp hy with rfl | h
   ·obtain ⟨q,hq,hh⟩:=nT (by rw [hf]; exact List.mem_cons_self)
    refine⟨q,hq,?_⟩
    cases q with
    | nil=>cases hh
    | cons z q=>
     cases hh
     exact List.mem_cons_self
   ·exact(back y h).2
theorem Hg{x:Str}{q:List Str}(h:¬ x∈q):bO x q=q:=by
 unfold bO
 rw [List.filter_eq_self]
 intro y hy
 exact decide_eq_true fun e=>h (e ▸ hy)
theorem uU:∀(os:List Str),os.Nodup→Mg (full [os]) (some os)
 | [],_=>.nil
 | y::os,nd=>by
  obtain ⟨n1,n2⟩:=List.nodup_cons.mp nd
  have ih:=uU os n2
  have hh:¬ cG [y::os] y=true:=by
   unfold cG
   simp [n1]
  have hf:frees [y::os]=y::[]:=by
   show (if cG [y::os] y=true then [] else [y])++[]=_
   rw [if_neg hh]
   rfl
  have ho:full ([y::os].map (bO y))=full [os]:=by
   have:bO y (y::os)=os:=by
    have h1:bO y (y::os)=bO y os:=by
     unfold bO
     rw [List.filter_cons]
     simp
    rw [h1,Hg n1]
   show full [bO y (y::os)]=_
   rw [this]
  have:=Mg.step hf (r:=some os) (by rw [ho]; exact ih)
  exact this
theorem JX{e:Str}{os:List Str}(nd:(e::os).Nodup):Mg (full [e::os,[e]]) (some (e::os)):=by
 obtain ⟨n1,n2⟩:=List.nodup_cons.mp nd
 have ih:=uU os n2
 have hh:¬ cG [e::os,[e]] e=true:=by
  unfold cG
  simp [n1]
 have hf:frees [e::os,[e]]=e::[e]:=by
  show (if cG [e::os,[e]] e=true then [] else [e])++((if cG [e::os,[e]] e=true then [] else [e])++[])=_
  rw [if_neg hh]
  rfl
 have h1:bO e (e::os)=os:=by
  have h1:bO e (e::os)=bO e os:=by
   unfold bO
   rw [List.filter_cons]
   simp
  rw [h1,Hg n1]
 have h2:bO e [e]=[]:=by
  unfold bO
  simp
 have ho:full ([e::os,[e]].map (bO e))=full [os]:=by
  show full [bO e (e::os),bO e [e]]=_
  rw [h1,h2]
  cases os <;> rfl
 have hfull:full [e::os,[e]]=[e::os,[e]]:=rfl
 rw [hfull]
 exact Mg.step hf (r:=some os) (by rw [ho]; exact ih)
theorem Paired.perm{α β:Type}{F:α→β→Prop}:∀ {us ws:List α},us.Perm ws→∀ {xs:List β},Paired F ws xs→∃ ys,ys.Perm xs∧Paired F us ys:=by
 intro us ws h
 induction h with
 | nil=>exact fun {xs} r=>⟨xs,.refl _,r⟩
 | cons a _ ih=>
  intro xs r
  cases r with
  | cons q t=>
   obtain ⟨ys,p,r'⟩:=ih t
   exact⟨_::ys,p.cons _,.cons q r'⟩
 | swap a b l=>
  intro xs r
  cases r with
  | cons q t=>
   cases t with
   | cons q' t'=>exact⟨_,.swap _ _ _,.cons q' (.cons q t')⟩
 | trans _ _ ih1 ih2=>
  intro xs r
  obtain ⟨ys,p,r'⟩:=ih2 r
  obtain ⟨zs,p',r''⟩:=ih1 r'
  exact⟨zs,p'.trans p,r''⟩
def GOk(g:Str→List Str)(S:List Str):Prop:=∀ x∈S,(g x).Nodup∧(∃ os,g x=x::os)∧∀ y∈g x,y∈S
theorem J5{g:Str→List Str}{es S:List Str}(gg:GOk g S)(sub:∀ x∈es,x∈S)(h:es.length≤1∨∃ os,Mg (full (kW g es)) (some os)):∃ os,Mg (full (kW g es)) (some os):=by
 rcases h with h | h
 ·cases es with
  | nil=>exact⟨[],.nil⟩
  | cons e r=>
   cases r with
   | nil=>
    obtain ⟨nd,⟨os,eo⟩,_⟩:=gg e (sub e List.mem_cons_self)
    rw [eo] at nd
    refine⟨e::os,?_⟩
    show Mg (full [g e,[e]]) _
    rw [eo]
    exact JX nd
   | cons e2 r=>simp at h
 ·exact h
theorem Kf{g:Str→List Str}{es S os:List Str}(gg:GOk g S)(sub:∀ x∈es,x∈S)(h:Mg (full (kW g es)) (some os)):os.Nodup∧∀ y∈os,y∈S:=by
 obtain ⟨h1,h2⟩:=Mg.ux h os rfl
 refine⟨h2,fun y hy=>?_⟩
 obtain ⟨q,hq,hyq⟩:=h1 y hy
 have hq:=(List.mem_filter.mp hq).1
 rcases List.mem_append.mp hq with h | h
 ·obtain ⟨e,he,rfl⟩:=List.mem_map.mp h
  exact(gg e (sub e he)).2.2 y hyq
 ·rw [List.mem_singleton.mp h] at hyq
  exact sub y hyq
def Gj(g:Str→List Str)(x:Str)(o:List Str):Str→List Str:=fun y=>if y=x then o else g y
theorem GOk.put{g:Str→List Str}{S os:List Str}{x:Str}(gg:GOk g S)(hx:¬ x∈S)(nd:os.Nodup)(sub:∀ y∈os,y∈S):GOk (Gj g x (x::os)) (S++[x]):=fun y hy=>by
 unfold Gj
 by_cases e:y=x
 ·rw [if_pos e,e]
  refine⟨List.nodup_cons.mpr ⟨fun h=>hx (sub x h),nd⟩,⟨os,rfl⟩,fun z hz=>?_⟩
  rcases List.mem_cons.mp hz with rfl | h
  ·exact List.mem_append_right _ (List.mem_singleton.mpr rfl)
  ·exact List.mem_append_left _ (sub z h)
 ·rw [if_neg e]
  have hy':y∈S:=by
   rcases List.mem_append.mp hy with h | h
   ·exact h
   ·exact absurd (List.mem_singleton.mp h) e
  obtain ⟨a,b,c⟩:=gg y hy'
  exact⟨a,b,fun z hz=>List.mem_append_left _ (c z hz)⟩
theorem pB.put{H H':Hp}{kvs:List (Key × V)}{g:Str→List Str}{S os:List Str}{x:Str}{q:Addr}(h:pB H kvs g S)(s:gn H H')(hq:H' q=some (.tup (os.map V.str)))(hl:os.length≤8):pB H' (putK kvs (.inr x) (.ref q)) (Gj g x os) (S++[x]):=fun y hy=>by
 unfold Gj
 rw [tD]
 by_cases e:y=x
 ·rw [if_pos e,if_pos (by rw [e])]
  exact⟨q,rfl,hq,hl⟩
 ·rw [if_neg e,if_neg (by intro z; injection z with z; exact e z)]
  have hy':y∈S:=by
   rcases List.mem_append.mp hy with h | h
   ·exact h
   ·exact absurd (List.mem_singleton.mp h) e
  exact h.mono s y hy'
theorem Dp.Nk{H:Hp}{q e o f:Addr}{d:V}{x:Str}{es os fs:List Str}{ds:List (Str × Int)}{n:Int}(hq:H q=some (.tup [.str x,.ref e,.ref o,.ref f,d,.int n]))(he:H e=some (.tup (es.map V.str)))(ho:H o=some (.tup (os.map V.str)))(hf:H f=some (.tup (fs.map V.str)))(hd:Dp H (.tup (ds.map Fg)) d):Dp H (uL ⟨x,es,os,fs,ds,n⟩) (.ref q):=
 L2.Dp.tup hq (.cons (L2.Dp.str x) (.cons (L2.Dp.tup he (DpL.strs es)) (.cons (L2.Dp.tup ho (DpL.strs os)) (.cons (L2.Dp.tup hf (DpL.strs fs)) (.cons hd (.cons (L2.Dp.int n) .nil))))))
def Hh(S:List Str)(r:Row):Prop:=(∀ x∈r.order,x∈S)∧r.order.length≤8∧r.fields.length≤7∧(∀ x∈r.qJ,x∈S)∧r.qJ.length≤7∧Nm r.kind
theorem qx.perm{tb tb':List Row}(G:qx tb)(p:tb'.Perm tb):qx tb':=by
 have pk:(kns tb').Perm (kns tb):=p.map _
 exact⟨pk.nodup_iff.mpr G.nd,by rw [p.length_eq]; exact G.len,fun r hr x hx=>pk.mem_iff.mpr (G.ord r (p.mem_iff.mp hr) x hx),fun r hr=>G.ol r (p.mem_iff.mp hr),fun r hr=>G.fl r (p.mem_iff.mp hr),fun r hr=>G.kl r (p.mem_iff.mp hr),fun r hr=>⟨fun x hx=>pk.mem_iff.mpr ((G.es r (p.mem_iff.mp hr)).1 x hx),(G.es r (p.mem_iff.mp hr)).2⟩⟩
def AtJ(H:Hp)(y:V)(j:Nat):Prop:=∃(q:Addr) (i:Int),y=.ref q∧H q=some (.tup [.int i,.int j])
section
variable {P:Program}{w:World}{K:PySem.W.Frag}{mg:Str→Option Value}{base:Heap}{t:Adr}
def Cy:Sp:=fun vs H Q _=>∃(p dl fl:Addr) (n:Nat) (ds fs:List Str),vs=[.ref p,.int n,.ref dl,.ref fl]∧Pu H p∧1≤n∧n≤7∧H dl=some (.lst (ds.map V.str))∧ds.length≤3∧H fl=some (.lst (fs.map V.str))∧fs.length≤100∧
 ∀(v:V) (tb:List Row) H',Dp H' (xq tb) v→qx tb→tb.length=n→Off p H H'→Pu H' p→Q v H'
theorem Gr(D:Defs K mg t):aU P w K mg base CX0 4 t.fM.1 t.fM.2 ["_law_purse_here","_law_many","_law_deeds","_law_fields"] Cy:=by
 have G__law_take:aU P w K mg base CX0 1 t.aL.1 t.aL.2 _ jB:=jc D
 have G__law_names:aU P w K mg base CX0 3 t.cg.1 t.cg.2 _ rO:=uz D
 have G__law_some:aU P w K mg base CX0 2 t.bU.1 t.bU.2 _ um:=rM D
 have G__law_elders:aU P w K mg base CX0 3 t.eF.1 t.eF.2 _ JM:=J1 D
 have G__law_merge:aU P w K mg base CX0 1 t.cZ.1 t.cZ.2 _ vV:=xO D
 have G__law_own:aU P w K mg base CX0 3 t.iQ.1 t.iQ.2 _ JB:=J8 D
 have hz:sizeLine=16777216:=sizeLine_eq
 refine D.fM.fn.ok cH (fun vs H Q E h=>?_) (fun cdv A outer s H vs Q E hr h=>?_)
 ·obtain ⟨p,dl,fl,n,ds,fs,rfl,_⟩:=h
  rfl
 ·obtain ⟨p,dl,fl,n,ds,fs,rfl,hp,hn1,hn7,hdl,hds,hfl,hfs,k⟩:=h
  have dlp:dl≠p:=hp.ne hdl
  have flp:fl≠p:=hp.ne hfl
  refine⟨_,(aC (aP (i:=4) cH.nd rfl (Or.inl rfl) (aJ D.aL G__law_take (hr.mono (by omega)) (by rfl) (aj (pv 0) (aj aG au))))
   (aC (aP (i:=5) cH.nd rfl (Or.inl rfl) (aJ D.cg G__law_names (hr.mono (by omega)) (by rfl) (aj (pv 0) (aj (pv 1) (aj (cD au) au)))))
   (aC (wK (cY (aj (cD au) (aj jt au))) (sX rfl (cB (aQ (i:=6) cH.nd rfl (Or.inr rfl)) (cB (aQ (i:=7) cH.nd rfl (Or.inr rfl)) jr))))
   (aC (gZ PassesOwn.never rfl (pY rfl D.mL (aj (pv 5) au)) (sX rfl (cB (aQ (i:=8) cH.nd rfl (Or.inl rfl)) (cB (aQ (i:=9) cH.nd rfl (Or.inl rfl)) jr)))
   (aC (aP (i:=10) cH.nd rfl (Or.inl rfl) (aJ D.eF G__law_elders (hr.mono (by omega)) (by rfl) (aj (pv 0) (aj (bZ j8 (pv 5) dh (cI (pv 8))) (aj (pv 4) (aj (pv 7) au))))))
   (aC (lM (fB hr) (pv 7) (pv 9) (aJ D.cZ G__law_merge (hr.mono (by omega)) (by rfl) (aj (pv 9) (aj (bD wj (bH rfl (aM.of ["_law_one"] [7] ["_law_one","_law_orders"] (aq (top 61)) ["_law_purse_here","_law_many","_law_deeds","_law_fields","_law_shape","_law_names_here","_law_rows","_law_orders","_law_k","_law_kind","_law_elders_here","_law_number","_law_places"] rfl rfl (by decide +kernel)) ⟨fun _ _ _ _ _=>(aQ (i:=0) (show List.Nodup [("_law_one" : Str),("_law_orders" : Str)] by decide +kernel) rfl (Or.inl (lookup_relabel_local rfl)) (.inr (lookup_relabel_local rfl))),fun _ _ _ _ _=>bN,fun _ _ _ _ _=>(gU (fB hr) (pv 1) (pv 0) (fun _ _=>rfl))⟩ (eY (pv 10))) (cD (aj (pv 10) au))) au))) rfl)
   (aC (aP (i:=11) cH.nd rfl (Or.inl rfl) (aJ D.aL G__law_take (hr.mono (by omega)) (by rfl) (aj (pv 0) (aj (aZ bT (cD (aj aG (aj aG (aj (bD Gw aG aG) au)))) (aJ D.aL G__law_take (hr.mono (by omega)) (by rfl) (aj (pv 0) (aj aG au))) (fun _ _=>rfl)) au))))
   (aH (jo (qR PySem.F.plainAttrs_list PySem.F.slot_list_append PySem.F.type_list_append gF (pv 6) (aj (cY (aj (pv 9) (aj (pv 10) (aj (gU (fB hr) (pv 7) (pv 9) (fun _ _=>rfl)) (aj (aJ D.bU G__law_some (hr.mono (by omega)) (by rfl) (aj (pv 0) (aj (pv 3) (aj aG au)))) (aj (aJ D.iQ G__law_own (hr.mono (by omega)) (by rfl) (aj (pv 0) (aj (pv 2) au))) (aj (pv 11) au))))))) au))))))))
   (aC (aP (i:=12) cH.nd rfl (Or.inl rfl) (aK (qZ false) (by rfl) D.uH qL (aj (bH rfl (aM.of ["_law_k"] [0] ["_law_k","_law_purse_here"] (aq (top 61)) ["_law_purse_here","_law_many","_law_deeds","_law_fields","_law_shape","_law_names_here","_law_rows","_law_orders","_law_k","_law_kind","_law_elders_here","_law_number","_law_places"] rfl rfl (by decide +kernel)) ⟨fun _ _ _ _ _=>(aQ (i:=0) (show List.Nodup [("_law_k" : Str),("_law_purse_here" : Str)] by decide +kernel) rfl (Or.inl (lookup_relabel_local rfl)) (.inr (lookup_relabel_local rfl))),fun _ _ _ _ _=>bN,fun _ _ _ _ _=>(cY (aj (aJ D.aL G__law_take (hr.mono (by omega)) (by rfl) (aj (pv 1) (aj aG au))) (aj (pv 0) au)))⟩ (jm rfl D.lN (aj (pv 1) au))) au)))
   (aH (aR (bB bI (by rfl) D.bQ bJ (aj (bH rfl (aM.of ["_law_number","_law_k"] [6] ["_law_number","_law_k","_law_rows"] (aq (top 61)) ["_law_purse_here","_law_many","_law_deeds","_law_fields","_law_shape","_law_names_here","_law_rows","_law_orders","_law_k","_law_kind","_law_elders_here","_law_number","_law_places"] rfl rfl (by decide +kernel)) ⟨fun _ _ _ _ _=>(kO (K:=K) (n:=2) rfl rfl (cB (aQ (i:=0) (show List.Nodup [("_law_number" : Str),("_law_k" : Str),("_law_rows" : Str)] by decide +kernel) rfl (Or.inl (lookup_relabel_local rfl)) (.inr (lookup_relabel_local rfl))) (cB (aQ (i:=1) (show List.Nodup [("_law_number" : Str),("_law_k" : Str),("_law_rows" : Str)] by decide +kernel) rfl (Or.inl (lookup_relabel_local rfl)) (.inr (lookup_relabel_local rfl))) jr))),fun _ _ _ _ _=>bN,fun _ _ _ _ _=>(aZ (jL (K:=K) rfl) (pv 2) (pv 1) (fun _ _=>rfl))⟩ (eZ (pv 12))) au))))))))),?_⟩
  refine⟨_,rfl,p,6,rfl,hp,by decide,by decide,fun sh a1 b1 c1 l1 u1=>?_⟩
  refine⟨_,rfl,_,rfl,Nat.zero_le _,fun u hu=>?_⟩
  have pu:p≠u:=Pu.upd.neN hu
  refine⟨p,u,[],n,rfl,Pu.upd.aA pu,ak,by omega,by show 0+_≤25; omega,fun l ns H1 hl hns nd nlen hl1 o1 p1=>?_⟩
  have o1:Off p H H1:=(Off.upd.trans (Off.new hu)).trans o1
  have lp:l≠p:=p1.ne hl1
  have hns7:ns.length≤7:=by omega
  refine⟨Nat.zero_le _,fun rl hrl od hod=>⟨by show 2≤sizeLine; decide,fun tq htq=>?_⟩⟩
  have p3:=((p1.aA (o:=.lst []) (p1.neN hrl)).aA (o:=.dK []) ((p1.aA (p1.neN hrl)).neN hod)).aA (o:=.tup [.ref rl,.ref od]) (((p1.aA (p1.neN hrl)).aA ((p1.aA (p1.neN hrl)).neN hod)).neN htq)
  have o3:Off p H (upd (upd (upd H1 rl (.lst [])) od (.dK [])) tq (.tup [.ref rl,.ref od])):=o1.trans ((Off.new hrl).trans ((Off.new hod).trans (Off.new htq)))
  have rlo:rl≠od:=aB ak hod
  have odt:od≠tq:=aB ak htq
  have rlt:rl≠tq:=fun e=>by rw [← e,aA rlo,ak] at htq; cases htq
  have hrl3:(upd (upd (upd H1 rl (.lst [])) od (.dK [])) tq (.tup [.ref rl,.ref od])) rl=some (.lst []):=by rw [aA rlt,aA rlo,ak]
  have hod3:(upd (upd (upd H1 rl (.lst [])) od (.dK [])) tq (.tup [.ref rl,.ref od])) od=some (.dK []):=by rw [aA odt,ak]
  have lrl:l≠rl:=aB hl1 hrl
  have lod:l≠od:=fun e=>by rw [← e,aA lrl,hl1] at hod; cases hod
  have ltq:l≠tq:=fun e=>by rw [← e,aA lod,aA lrl,hl1] at htq; cases htq
  have hl3:(upd (upd (upd H1 rl (.lst [])) od (.dK [])) tq (.tup [.ref rl,.ref od])) l=some (.lst (ns.map V.str)):=by rw [aA ltq,aA lod,aA lrl]; exact hl1
  have nof:∀ {b:Addr},b≠p→H1 b=none→H b=none:=fun {b} hb hn=>by
   cases q:H b with
   | none=>rfl
   | some o=>rw [o1 b o hb q] at hn; cases hn
  have hrlH:H rl=none:=nof (p1.neN hrl).symm hrl
  have hodH:H od=none:=nof ((p1.aA (p1.neN hrl)).neN hod).symm (by rw [aA rlo.symm] at hod; exact hod)
  have rlp:rl≠p:=(p1.neN hrl).symm
  have odp:od≠p:=((p1.aA (p1.neN hrl)).neN hod).symm
  refine⟨tq,_,rfl,SqT.of ak,rfl,_,_,rfl,_,_,rfl,rfl,?_⟩
  generalize upd (upd (upd H1 rl (.lst [])) od (.dK [])) tq (.tup [.ref rl,.ref od])=H3 at p3 o3 hrl3 hod3 hl3
  refine⟨_,rfl,l,_,rfl,SqL.of hl3,xR (K:=K) (a:=l) (xs:=ns.map V.str) (fun i σ H2=>∃(rs:List Row) (ys:List V) (kvs:List (Key × V)) (g:Str→List Str) (v8 v9 v10 v11:Option V),σ=[some (.ref p),some (.int n),some (.ref dl),some (.ref fl),some (.int sh),some (.ref l),some (.ref rl),some (.ref od),v8,v9,v10,v11,none]∧
   kns rs=ns.take i∧(∀ r∈rs,Hh (ns.take i) r)∧kvs.length≤i∧pB H2 kvs g (ns.take i)∧GOk g (ns.take i)∧H2 rl=some (.lst ys)∧DpL H2 (rs.map uL) ys∧H2 od=some (.dK kvs)∧H2 l=some (.lst (ns.map V.str))∧Off p H H2∧Pu H2 p)
   ⟨[],[],[],fun _=>[],_,_,_,_,rfl,rfl,by simp,Nat.le_refl _,fun x hx=>by simp at hx,fun x hx=>by simp at hx,hrl3,.nil,hod3,hl3,o3,p3⟩ (fun i σ H2 _ ⟨_,_,_,_,_,_,_,_,_,_,_,_,_,_,_,_,_,e,_⟩=>SqL.of e) ?_ ?_⟩
  ·rintro i x σ H2 q0 hi ⟨rs,ys,kvs,g,v8,v9,v10,v11,rfl,hrn,hrs,hkl,og,gg,hrl2,dl2,hod2,hl2,o2,p2⟩ hq0
   have hil:i < ns.length:=by
    have:=(List.getElem?_eq_some_iff.mp hi).1
    rwa [List.length_map] at this
   have ex:x=.str ns[i]:=by
    rw [List.getElem?_map,List.getElem?_eq_getElem hil] at hi
    exact(Option.some.inj hi).symm
   subst ex
   have hni:¬ ns[i]∈ns.take i:=fun h=>by
    have nd':=nd
    rw [← List.take_append_drop i ns] at nd'
    exact(List.nodup_append.mp nd').2.2 _ h _ (by rw [List.drop_eq_getElem_cons hil]; exact List.mem_cons_self) rfl
   refine⟨q0,_,rfl,SqT.of ak,rfl,_,_,rfl,_,_,rfl,rfl,?_⟩
   have s0:Same H2 (upd H2 q0 (.tup [.int i,.str ns[i]])):=Same.new hq0
   refine⟨_,rfl,_,rfl,_,rfl,_,rfl,l,_,rfl,SqL.of (s0 l _ hl2),fun m hm=>?_⟩
   have s1:=s0.trans (Same.new (o:=.lst (gb (ns.map V.str) none (some (i:Int)))) hm)
   have hm1:(upd (upd H2 q0 (.tup [.int i,.str ns[i]])) m (.lst (gb (ns.map V.str) none (some (i:Int))))) m=some (.lst ((ns.take i).map V.str)):=by rw [ak,Bc _ _ (by rw [List.length_map]; omega),List.map_take]
   generalize upd (upd H2 q0 (.tup [.int i,.str ns[i]])) m (.lst (gb (ns.map V.str) none (some (i:Int))))=H4 at s1 hm1
   have hti:(ns.take i).length≤7:=by rw [List.length_take]; omega
   refine⟨_,rfl,_,rfl,p,m,od,sh,ns.take i,kvs,g,rfl,p2.same s1,hm1,nd.sublist (List.take_sublist _ _),hti,l1,u1,s1 od _ hod2,og.mono (Same.tups s1),fun q es H5 hq sub nde hmg o5 p5=>?_⟩
   have o5:Off p H2 H5:=s1.off.trans o5
   have hod5:=o5 od _ odp hod2
   have hrl5:=o5 rl _ rlp hrl2
   have hl5:=o5 l _ lp hl2
   have tu5:gn H2 H5:=fun c zs e=>by
    obtain ⟨x1,x2,x3,ep⟩:=p2
    exact o5 c _ (eU e ep (fun z=>nomatch z)) e
   have og5:=og.mono tu5
   have hel:es.length≤7:=Nat.le_trans (dO nde (m:=ns.take i) sub) hti
   refine⟨_,rfl,_,rfl,q,rfl,⟨_,SqT.of hq⟩,fun D1 hD1=>?_⟩
   have s4:∀ u,Same H5 (upd H5 D1 u):=fun u=>Same.new hD1
   refine bw (n:=(es.map V.str).length) (fun j ys H6=>jQ H5 ys ((es.take j).map g)∧H6=upd H5 D1 (.lst ys)) ⟨.nil,rfl⟩ ?_ ?_
   rotate_left
   ·rintro j ys H6 hj ⟨rt,rfl⟩
    have hj':j < es.length:=by rw [List.length_map] at hj; exact hj
    have ej:(es.map V.str)[j]?=some (.str es[j]):=by rw [List.getElem?_map,List.getElem?_eq_getElem hj']; rfl
    refine⟨⟨_,_,SqT.of (s4 _ q _ hq),ej⟩,?_⟩
    rintro y H7 ⟨rfl,yy⟩ σo ho
    obtain ⟨oo,rfl⟩:=own1 ho
    have ey:=yy _ (SqT.of (s4 _ q _ hq))
    rw [ej] at ey
    cases ey
    obtain ⟨q',h1,h2,_⟩:=og5 es[j] (sub _ (List.getElem_mem hj'))
    refine⟨⟨[_],rfl,rfl⟩,cV ⟨_,rfl,_,rfl,od,.ref q',rfl,.inl ⟨kvs,.inr es[j],.inl (s4 _ od _ hod5),rfl,h1.symm⟩,by rw [Paired.length rt,List.length_map,List.length_take]; omega,ak,aX hj ⟨?_,by rw [bR]⟩⟩⟩
    rw [take_snoc hj',List.map_append]
    exact eX rt ⟨q',rfl,h2⟩
   rintro us H6 ⟨rt,rfl⟩
   rw [List.length_map,List.take_of_length_le (Nat.le_refl _)] at rt
   refine⟨⟨_,SqT.of (s4 _ q _ hq),Nat.le_refl _⟩,?_⟩
   have hyl:us.length=es.length:=by rw [Paired.length rt,List.length_map]
   refine⟨_,rfl,by show 1≤sizeLine; decide,fun m2 hm2=>?_⟩
   have s6:=(s4 (.lst us)).trans (Same.new (o:=.lst [.ref q]) hm2)
   have hD6:(upd (upd H5 D1 (.lst us)) m2 (.lst [.ref q])) D1=some (.lst us):=by rw [aA (aB ak hm2),ak]
   refine⟨D1,m2,us,[.ref q],rfl,rfl,hD6,ak,by show us.length+1≤sizeLine; omega,fun ra hra=>?_⟩
   have s7:=s6.trans (Same.new (o:=.lst (us++[.ref q])) hra)
   have hra7:(upd (upd (upd H5 D1 (.lst us)) m2 (.lst [.ref q])) ra (.lst (us++[.ref q]))) ra=some (.lst (us++[.ref q])):=ak
   generalize upd (upd (upd H5 D1 (.lst us)) m2 (.lst [.ref q])) ra (.lst (us++[.ref q]))=H7 at s7 hra7
   have rt7:jQ H7 (us++[.ref q]) (kW g es):=eX (rt.mono (Same.tups s7)) ⟨q,rfl,s7 q _ hq⟩
   have tt:=vg (g:=g) (es:=es) fun x hx=>by
    obtain ⟨_,_,_,h⟩:=og5 x (sub x hx)
    exact h
   refine⟨ns[i],ra,_,kW g es,rfl,hra7,rt7,by omega,by unfold kW; rw [List.length_append,List.length_map,List.length_singleton]; omega,fun v r H8 hm res s8=>?_⟩
   have s58:=s7.trans s8
   have p8:Pu H8 p:=p5.same s58
   have o8:Off p H2 H8:=o5.trans s58.off
   obtain ⟨os,hos⟩:=J5 gg sub hmg
   have er:=Mg.det hm hos
   subst er
   obtain ⟨qo,rfl,hqo⟩:∃ qo,v=V.ref qo∧H8 qo=some (.tup ((ns[i]::os).map V.str)):=res
   obtain ⟨ndo,subo⟩:=Kf gg sub hos
   have hol:(ns[i]::os).length≤8:=by
    have:=dO ndo subo
    rw [List.length_cons]
    omega
   have hod8:=s58 od _ hod5
   have hrl8:=s58 rl _ hrl5
   have hl8:=s58 l _ hl5
   have hq8:=s58 q _ hq
   refine⟨_,rfl,_,rfl,od,_,rfl,sV.k (k:=.inr ns[i]) hod8 (by omega),?_⟩
   have tu9:gn H8 (upd H8 od (.dK (putK kvs (.inr ns[i]) (.ref qo)))):=fun c zs e=>by
    rw [aA (eU e hod8 (fun z=>nomatch z))]
    exact e
   have og9:=(og5.mono (Same.tups s58)).put (x:=ns[i]) tu9 (tu9 qo _ hqo) hol
   have gg9:=gg.put hni ndo subo
   have p9:=p8.aA (o:=.dK (putK kvs (.inr ns[i]) (.ref qo))) odp.symm
   have kp9:∀ b u,b≠od→H8 b=some u→(upd H8 od (.dK (putK kvs (.inr ns[i]) (.ref qo)))) b=some u:=fun b u hb e=>by rw [aA hb]; exact e
   have hod9:(upd H8 od (.dK (putK kvs (.inr ns[i]) (.ref qo)))) od=some (.dK (putK kvs (.inr ns[i]) (.ref qo))):=ak
   have tu29:gn H2 (upd H8 od (.dK (putK kvs (.inr ns[i]) (.ref qo)))):=tu5.trans ((Same.tups s58).trans tu9)
   have hqo9:=tu9 qo _ hqo
   have hq9:=tu9 q _ hq8
   have hrl9:=kp9 rl _ rlo hrl8
   have hl9:=kp9 l _ lod hl8
   have o9:Off p H (upd H8 od (.dK (putK kvs (.inr ns[i]) (.ref qo)))):=fun b u hb e=>kp9 b u (aB e hodH) (o8 b u hb (o2 b u hb e))
   have hkl9:(putK kvs (.inr ns[i]) (V.ref qo)).length≤i+1:=Nat.le_trans (iH _ _ _) (by omega)
   have hg9:dM (putK kvs (.inr ns[i]) (V.ref qo)) (.inr ns[i])=some (.ref qo):=by rw [tD,if_pos rfl]
   generalize hk9:putK kvs (.inr ns[i]) (V.ref qo)=kvs9 at og9 p9 hod9 tu29 hqo9 hq9 hrl9 hl9 o9 hkl9 hg9
   generalize upd H8 od (.dK kvs9)=H9 at og9 p9 hod9 tu29 hqo9 hq9 hrl9 hl9 o9
   clear kp9 tu9 hk9
   refine⟨_,rfl,_,_,rfl,rfl,⟨by decide,by decide,by decide⟩,by show 3≤sizeLine; decide,fun mn hmn=>?_⟩
   have pmn:p≠mn:=p9.neN hmn
   have p10:Pu (upd H9 mn (.lst [.int 1,.int 4,.int (10 ^ (12:Int).toNat)])) p:=p9.aA pmn
   have s10:Same H9 (upd H9 mn (.lst [.int 1,.int 4,.int (10 ^ (12:Int).toNat)])):=Same.new hmn
   have hmn10:(upd H9 mn (.lst [.int 1,.int 4,.int (10 ^ (12:Int).toNat)])) mn=some (.lst [.int 1,.int 4,.int (10 ^ (12:Int).toNat)]):=ak
   refine⟨_,rfl,p,3,rfl,p10,by decide,by decide,fun r2 a2 b2 c2 l2 u2=>?_⟩
   have o11:Off p H9 (upd (upd H9 mn (.lst [.int 1,.int 4,.int (10 ^ (12:Int).toNat)])) p (.lst [.int a2,.int b2,.int c2])):=s10.off.trans Off.upd
   have hmn11:(upd (upd H9 mn (.lst [.int 1,.int 4,.int (10 ^ (12:Int).toNat)])) p (.lst [.int a2,.int b2,.int c2])) mn=some (.lst [.int 1,.int 4,.int (10 ^ (12:Int).toNat)]):=by rw [aA pmn.symm]; exact hmn10
   have p11:Pu (upd (upd H9 mn (.lst [.int 1,.int 4,.int (10 ^ (12:Int).toNat)])) p (.lst [.int a2,.int b2,.int c2])) p:=Pu.upd
   generalize upd (upd H9 mn (.lst [.int 1,.int 4,.int (10 ^ (12:Int).toNat)])) p (.lst [.int a2,.int b2,.int c2])=H11 at o11 hmn11 p11
   obtain ⟨z,hz',hz1,hz2⟩:∃ z:Int,atI [V.int 1,V.int 4,V.int (10 ^ (12:Int).toNat)] r2=some (.int z)∧0 < z∧z < 1606938044258990275541962092341162602522202993782792835301376:=by
    rcases (by omega:r2=0∨r2=1∨r2=2) with rfl | rfl | rfl
    ·exact⟨_,aV (j:=0) rfl,by decide,by decide⟩
    ·exact⟨_,aV (j:=1) rfl,by decide,by decide⟩
    ·exact⟨_,aV (j:=2) rfl,by decide,by decide⟩
   refine⟨mn,_,_,_,rfl,rfl,SqL.of hmn11,hz',p,z,rfl,p11,hz1,hz2,fun num a3 b3 c3 _ _=>?_⟩
   have o12:Off p H9 (upd H11 p (.lst [.int a3,.int b3,.int c3])):=o11.trans Off.upd
   have p12:Pu (upd H11 p (.lst [.int a3,.int b3,.int c3])) p:=Pu.upd
   generalize upd H11 p (.lst [.int a3,.int b3,.int c3])=H12 at o12 p12
   have hrl12:=o12 rl _ rlp hrl9
   have hod12:=o12 od _ odp hod9
   have hfl12:=o12 fl _ flp (o9 fl _ flp hfl)
   refine⟨_,rfl,.inl ⟨rfl,_,SqL.of hrl12⟩,_,rfl,_,rfl,_,rfl,_,rfl,od,.ref qo,rfl,.inl ⟨kvs9,.inr ns[i],.inl hod12,rfl,hg9.symm⟩,?_⟩
   refine⟨_,rfl,_,rfl,p,fl,fs,3,rfl,p12,hfl12,by decide,hfs,fun qf fs' H13 hqf _ _ hfl' o13 p13=>?_⟩
   have o13:Off p H9 H13:=o12.trans o13
   have hdl13:=o13 dl _ dlp (o9 dl _ dlp hdl)
   refine⟨_,rfl,_,rfl,p,dl,ds,rfl,p13,hdl13,hds,fun vd dds H14 dvd o14 p14=>?_⟩
   have tu14:gn H13 H14:=fun c zs e=>by
    obtain ⟨x1,x2,x3,ep⟩:=p13
    exact o14 c _ (eU e ep (fun z=>nomatch z)) e
   have hqf14:=tu14 qf _ hqf
   have o14:Off p H9 H14:=o13.trans o14
   have tu914:gn H9 H14:=fun c zs e=>by
    obtain ⟨x1,x2,x3,ep⟩:=p9
    exact o14 c _ (eU e ep (fun z=>nomatch z)) e
   have hrl14:=o14 rl _ rlp hrl9
   have hod14:=o14 od _ odp hod9
   have hl14:=o14 l _ lp hl9
   refine⟨_,rfl,by show 6≤sizeLine; decide,fun qr hqr=>?_⟩
   have hyl:ys.length=i:=by
    have e1:=dl2.length
    rw [List.length_map] at e1
    have e2:=congrArg List.length hrn
    unfold kns at e2
    rw [List.length_map,List.length_take] at e2
    omega
   have qrr:rl≠qr:=aB hrl14 hqr
   refine⟨rl,ys,.ref qr,rfl,rfl,by rw [aA qrr]; exact hrl14,by omega,?_⟩
   have tu15:gn H14 (upd (upd H14 qr (.tup [.str ns[i],.ref q,.ref qo,.ref qf,vd,.int num])) rl (.lst (ys++[.ref qr]))):=fun c zs e=>by
    rw [aA (eU e hrl14 (fun z=>nomatch z)),aA (aB e hqr)]
    exact e
   refine⟨rs++[⟨ns[i],es,ns[i]::os,fs',dds,num⟩],ys++[.ref qr],kvs9,Gj g ns[i] (ns[i]::os),_,_,_,_,rfl,?_,?_,hkl9,?_,?_,ak,?_,?_,?_,?_,?_⟩
   ·unfold kns
    rw [List.map_append,take_snoc hil]
    show kns rs++[ns[i]]=_
    rw [hrn]
   ·intro r hr'
    rw [take_snoc hil]
    rcases List.mem_append.mp hr' with h | h
    ·obtain ⟨h1,h2,h3,h4,h5⟩:=hrs r h
     exact⟨fun x hx=>List.mem_append_left _ (h1 x hx),h2,h3,fun x hx=>List.mem_append_left _ (h4 x hx),h5⟩
    ·rw [List.mem_singleton.mp h]
     refine⟨fun x hx=>?_,hol,by show fs'.length≤7; omega,fun x hx=>List.mem_append_left _ (sub x hx),hel,(nlen _ (List.getElem_mem hil)).2⟩
     rcases List.mem_cons.mp hx with rfl | h
     ·exact List.mem_append_right _ (List.mem_singleton.mpr rfl)
     ·exact List.mem_append_left _ (subo x h)
   ·rw [take_snoc hil]
    exact og9.mono (tu914.trans tu15)
   ·rw [take_snoc hil]
    exact gg9
   ·rw [List.map_append]
    refine(dl2.mono (tu29.trans (tu914.trans tu15))).append (.cons (K12.B.Dp.Nk (e:=q) (o:=qo) (f:=qf) ?_ ((tu914.trans tu15) q _ hq9) ((tu914.trans tu15) qo _ hqo9) (tu15 qf _ hqf14) (dvd.mono tu15)) .nil)
    rw [aA qrr.symm,ak]
   ·rw [aA rlo.symm,aA (aB hod14 hqr)]
    exact hod14
   ·rw [aA lrl,aA (aB hl14 hqr)]
    exact hl14
   ·intro b u hb e
    rw [aA (aB e hrlH)]
    exact(Off.new hqr:L2.Off p _ _) b u hb (o14 b u hb (o9 b u hb e))
   ·exact(p14.aA (p14.neN hqr)).aA rlp.symm
  ·rintro σ H2 ⟨rows,ys,kvs,g,v8,v9,v10,v11,rfl,hrn,hrs,_,_,_,hf2,dl,_,hl2,o2,p2⟩
   have hrn:kns rows=ns:=by rw [hrn,List.length_map,List.take_of_length_le (Nat.le_refl _)]
   have hrl:rows.length=ns.length:=by rw [← hrn]; exact(List.length_map _).symm
   have good:qx rows:=by
    refine⟨by rw [hrn]; exact nd,by omega,fun r hr x hx=>?_,fun r hr=>(hrs r hr).2.1,fun r hr=>(hrs r hr).2.2.1,fun r hr=>(hrs r hr).2.2.2.2.2,fun r hr=>⟨fun x hx=>?_,(hrs r hr).2.2.2.2.1⟩⟩
    rotate_left
    ·rw [hrn]
     exact List.mem_of_mem_take ((hrs r hr).2.2.2.1 x hx)
    rw [hrn]
    exact List.mem_of_mem_take ((hrs r hr).1 x hx)
   have hyl:ys.length=rows.length:=by have:=dl.length; rwa [List.length_map] at this
   have hyn:ys.length=n:=by omega
   refine⟨_,rfl,_,rfl,by omega,by omega,fun Dd hD=>?_⟩
   have pD:p≠Dd:=p2.neN hD
   have fD:rl≠Dd:=aB hf2 hD
   have hDH:H Dd=none:=by
    cases q:H Dd with
    | none=>rfl
    | some o=>
     rw [o2 Dd o pD.symm q] at hD
     cases hD
   have fp2:rl≠p:=rlp
   refine bw (n:=((n:Nat):Int).toNat) (fun i zs H3=>Paired (AtJ H3) zs (List.range i)∧H3 Dd=some (.lst zs)∧H3 rl=some (.lst ys)∧DpL H3 (rows.map uL) ys∧Off p H H3∧Pu H3 p)
    ⟨.nil,ak,by rw [aA fD]; exact hf2,dl.mono (Same.tups (Same.new hD)),o2.trans (Off.new hD),p2.aA pD⟩ ?_ ?_
   ·rintro zs H3 ⟨pz,hD3,hf3,dl3,o3,p3⟩
    have hzl:zs.length=ys.length:=by have:=Paired.length pz; rw [List.length_range] at this; omega
    refine⟨Nat.le_refl _,Dd,zs,rfl,SqL.of hD3,by omega,?_,fun d qs pq hd=>?_⟩
    ·intro z hz'
     obtain ⟨i,hi,rfl⟩:=List.getElem_of_mem hz'
     obtain ⟨q,j,e,hq⟩:=eV pz i hi (by rw [← Paired.length pz]; exact hi)
     exact⟨q,j,_,e,hq,by unfold Ip; rw [if_neg Bool.false_ne_true]; exact⟨_,rfl⟩⟩
    obtain ⟨js,pj,pqj⟩:=K12.B.Paired.perm pq pz
    have pd:p≠d:=p3.neN hd
    have fd:rl≠d:=aB hf3 hd
    have hql:qs.length=ys.length:=by rw [pq.length_eq]; exact hzl
    have hjl:js.length=qs.length:=(Paired.length pqj).symm
    have hjm:∀ j∈js,j < rows.length:=fun j hj=>by
     have:=List.mem_range.mp (pj.mem_iff.mp hj)
     omega
    refine⟨_,rfl,d,rfl,⟨_,SqL.of ak⟩,fun D2 hD2=>?_⟩
    have dD2:d≠D2:=aB ak hD2
    have s4:Same H3 (upd H3 d (.lst qs)):=Same.new hd
    have fD2:rl≠D2:=aB (s4 rl _ hf3) hD2
    have p4:Pu (upd H3 d (.lst qs)) p:=p3.same s4
    have s5:∀ o,Same H3 (upd (upd H3 d (.lst qs)) D2 o):=fun o=>s4.trans (Same.new hD2)
    refine bw (n:=qs.length) (fun i ws H5=>ws=(js.take i).map (fun j=>ys.getD j .non)∧H5=upd (upd H3 d (.lst qs)) D2 (.lst ws)) ⟨rfl,rfl⟩ ?_ ?_
    ·rintro ws H5 ⟨rfl,rfl⟩
     rw [List.take_of_length_le (by omega)]
     refine⟨⟨_,SqL.of (by rw [aA dD2,ak]),Nat.le_refl _⟩,D2,_,rfl,.inl ⟨SqL.of ak,fun q hq=>?_⟩⟩
     have s6:=(s5 (.lst (js.map fun j=>ys.getD j .non))).trans (Same.new (o:=.tup (js.map fun j=>ys.getD j .non)) hq)
     refine k (.ref q) (js.map fun j=>rows.getD j ⟨"",[],[],[],[],0⟩) _ (L2.Dp.tup ak ?_) (good.perm ?_) (by rw [List.length_map]; omega) (o3.trans s6.off) (p3.same s6)
     ·have key:∀ js:List Nat,(∀ j∈js,j < rows.length)→DpL H3 ((js.map fun j=>rows.getD j ⟨"",[],[],[],[],0⟩).map uL) (js.map fun j=>ys.getD j .non):=by
       intro js
       induction js with
       | nil=>exact fun _=>.nil
       | cons j js ih=>
        intro h
        have hj:j < rows.length:=h j List.mem_cons_self
        obtain ⟨y,ey,dy⟩:=dl3.get (i:=j) (t:=uL rows[j]) (by rw [List.getElem?_map,List.getElem?_eq_getElem hj]; rfl)
        have e1:rows.getD j ⟨"",[],[],[],[],0⟩=rows[j]:=by simp [hj]
        have e2:ys.getD j .non=y:=by rw [List.getD_eq_getElem?_getD,ey]; rfl
        rw [List.map_cons,List.map_cons,List.map_cons,e1,e2]
        exact .cons dy (ih fun j' h'=>h j' (List.mem_cons_of_mem _ h'))
      exact(key js hjm).mono (Same.tups s6)
     ·have:=pj.map fun j=>rows.getD j ⟨"",[],[],[],[],0⟩
      have e3:(List.range ((n:Nat):Int).toNat).map (fun j=>rows.getD j ⟨"",[],[],[],[],0⟩)=rows:=by
       apply List.ext_getElem (by rw [List.length_map,List.length_range]; omega)
       intro i a b
       simp [b]
      rw [e3] at this
      exact this
    ·rintro i ws H5 hi ⟨rfl,rfl⟩
     have ei:qs[i]?=some qs[i]:=List.getElem?_eq_getElem hi
     have hd5:(upd (upd H3 d (.lst qs)) D2 (.lst ((js.take i).map fun j=>ys.getD j .non))) d=some (.lst qs):=by rw [aA dD2,ak]
     refine⟨⟨_,_,SqL.of hd5,ei⟩,?_⟩
     rintro y H6 ⟨rfl,yy⟩ σo ho
     obtain ⟨o,o',rfl⟩:=FT ho
     have ey:=yy _ (SqL.of hd5)
     rw [ei] at ey
     have ey:=(Option.some.inj ey).symm
     have hij:i < js.length:=by omega
     obtain ⟨q',r',e,hq'⟩:=eV pqj i hi hij
     rw [e] at ey
     subst ey
     have hj:=hjm js[i] (List.getElem_mem hij)
     have ey:ys[js[i]]?=some ys[js[i]]:=List.getElem?_eq_getElem (by omega)
     refine⟨q',_,rfl,SqT.of (s5 _ q' _ hq'),rfl,_,_,rfl,_,_,rfl,rfl,⟨[_,_],rfl,rfl⟩,cV ⟨_,rfl,_,rfl,rl,ys,_,_,rfl,rfl,SqL.of (s5 _ rl _ hf3),aV ey,by rw [List.length_map,List.length_take]; omega,ak,aX hi ⟨?_,by rw [bR]⟩⟩⟩
     rw [List.take_succ,List.getElem?_eq_getElem hij,List.map_append]
     congr 1
     show [ys[js[i]]]=[ys.getD js[i] .non]
     rw [List.getD_eq_getElem?_getD,ey]
     rfl
   ·rintro i zs H3 hi ⟨pz,hD3,hf3,dl3,o3,p3⟩
    refine⟨hi,?_⟩
    rintro x H4 ⟨rfl,rfl⟩ σo ho
    obtain ⟨o,rfl⟩:=own1 ho
    have hzl:zs.length=i:=by have:=Paired.length pz; rwa [List.length_range] at this
    refine⟨⟨[_],rfl,rfl⟩,cV ⟨_,rfl,p,997,rfl,p3,by decide,by decide,fun r a4 b4 c4 l4 u4=>⟨_,rfl,by show 2≤sizeLine; decide,fun q hq=>?_⟩⟩⟩
    have qD:q≠Dd:=by
     intro e
     rw [e,aA pD.symm,hD3] at hq
     cases hq
    have qp:q≠p:=fun e=>by
     rw [e,ak] at hq
     cases hq
    rw [aA qp] at hq
    have tu:∀ o,gn H4 (upd (upd (upd H4 p (.lst [.int a4,.int b4,.int c4])) q (.tup [.int r,.int (0+(i:Int))])) Dd (.lst o)):=fun o c zs' e=>by
     obtain ⟨a,b,cc,ep⟩:=p3
     rw [aA (eU e hD3 (fun z=>nomatch z)),aA (aB e hq),aA (eU e ep (fun z=>nomatch z))]
     exact e
    refine⟨by omega,by rw [aA qD.symm,aA pD.symm]; exact hD3,aX hi ⟨?_,ak,?_,dl3.mono (tu _),?_,?_⟩⟩
    ·rw [List.range_succ]
     have key:∀ {as:List V} {bs:List Nat} {y:V} {j:Nat} {F:V→Nat→Prop},Paired F as bs→F y j→Paired F (as++[y]) (bs++[j]):=by
      intro as bs y j F h hy
      induction h with
      | nil=>exact .cons hy .nil
      | cons a _ ih=>exact .cons a ih
     refine key (Paired.oZ pz fun y j ⟨q',r',e,hq'⟩=>⟨q',r',e,tu _ q' _ hq'⟩) ⟨q,r,rfl,?_⟩
     rw [aA qD,ak]
     simp
    ·rw [aA fD,aA (aB hf3 hq),aA fp2]
     exact hf3
    ·intro b o hb e
     rw [aA (aB e hDH),aA (fun z=>by rw [← z] at hq; rw [o3 b o hb e] at hq; cases hq),aA hb]
     exact o3 b o hb e
    ·exact(Pu.upd.aA qp.symm).aA pD
end
end K12.B
end
section
set_option autoImplicit false
namespace K12.E
open PySem PyProof.Rows L2
structure ThT (tr:T):Prop where
 g:gd (toD tr)
 w:wt (toD tr)≤1200
 dp:(toD tr).depth≤3
def Tx(k:Nat)(x:Str):Prop:=x.length≤k∧Asc x
theorem Nm.tx{x:Str}(h:Nm x):Tx 6 x:=⟨h.2.1,h.2.2.asc⟩
theorem Cg{k:Nat}:∀ {es:List Str},(∀ e∈es,Tx k e)→k≤4000→gdA (es.map PyData.str)∧wtA (es.map PyData.str)≤es.length * (k+1)∧PyData.depthAll (es.map PyData.str)=0
 | [],_,_=>⟨by simp [gdA],by simp [wtA],by simp [PyData.depthAll]⟩
 | e::es,h,hk=>by
  obtain ⟨a,b,c⟩:=Cg (fun x hx=>h x (List.mem_cons_of_mem _ hx)) hk
  obtain ⟨h1,h2⟩:=h e List.mem_cons_self
  refine⟨?_,?_,?_⟩
  ·rw [List.map_cons,gdA,gd]
   exact⟨⟨by omega,h2⟩,a⟩
  ·rw [List.map_cons,wtA,wt,List.length_cons,Nat.add_mul]
   omega
  ·rw [List.map_cons,PyData.depthAll,c,PyData.depth]
   rfl
theorem Bo{m k:Nat}:∀ {g:Fam},(∀ r∈g,r.2.length≤m∧Tx k r.1∧∀ e∈r.2,Tx k e)→k≤4000→gdA (g.map mU)∧wtA (g.map mU)≤g.length * (k+3+m * (k+1))∧PyData.depthAll (g.map mU)≤2
 | [],_,_=>⟨by simp [gdA],by simp [wtA],by simp [PyData.depthAll]⟩
 | r::g,h,hk=>by
  obtain ⟨a,b,c⟩:=Bo (fun x hx=>h x (List.mem_cons_of_mem _ hx)) hk
  obtain ⟨h1,h2,h3⟩:=h r List.mem_cons_self
  obtain ⟨x,y,z⟩:=Cg h3 hk
  have hm:r.2.length * (k+1)≤m * (k+1):=Nat.mul_le_mul_right _ h1
  have er:mU r=.tuple [.str r.1,.tuple (r.2.map .str)]:=rfl
  refine⟨?_,?_,?_⟩
  ·rw [List.map_cons,gdA,er,gd,gdA,gdA,gdA,gd,gd]
   exact⟨⟨⟨by have:=h2.1; omega,h2.2⟩,x,trivial⟩,a⟩
  ·have:=h2.1
   have e1:wt (.tuple [.str r.1,.tuple (r.2.map .str)])=1+(r.1.length+1+(1+wtA (r.2.map .str)+0)):=by simp only [wt,wtA]
   rw [List.map_cons,wtA,er,e1,List.length_cons,Nat.add_mul]
   omega
  ·rw [List.map_cons,PyData.depthAll,er,PyData.depth,PyData.depthAll,PyData.depthAll,PyData.depthAll,PyData.depth,PyData.depth,z]
   omega
theorem JW{g:Fam}{n m k:Nat}(hn:g.length≤n)(h:∀ r∈g,r.2.length≤m∧Tx k r.1∧∀ e∈r.2,Tx k e)(hk:k≤4000)(hb:n * (k+3+m * (k+1))+1≤1200):ThT (qP g):=by
 obtain ⟨a,b,c⟩:=Bo h hk
 have hm:g.length * (k+3+m * (k+1))≤n * (k+3+m * (k+1)):=Nat.mul_le_mul_right _ hn
 refine⟨?_,?_,?_⟩
 ·rw [pQ,gd]
  exact a
 ·rw [pQ,wt]
  omega
 ·rw [pQ,PyData.depth]
  omega
theorem fX.rows{f:Fam}(gf:fX f):∀ r∈f,r.2.length≤8∧Tx 6 r.1∧∀ e∈r.2,Tx 6 e:=fun r hr=>⟨Nat.le_trans (gf.el r hr) (by decide),K12.E.Nm.tx (gf.lw r.1 (List.mem_map.mpr ⟨r,hr,rfl⟩)),fun e he=>K12.E.Nm.tx (gf.lw e (gf.sub r hr e he))⟩
theorem fX.thT{f:Fam}(gf:fX f):ThT (qP f):=JW (n:=8) (Nat.le_trans gf.len (by decide)) (K12.E.fX.rows gf) (by decide) (by decide)
theorem fX.isF{f:Fam}(gf:fX f)(h7:f.length≤7):IsF (toD (qP f)):=by
 rw [pQ]
 refine⟨f,rfl,gf.pos,h7,fun r hr=>⟨gf.lw _ (List.mem_map.mpr ⟨r,hr,rfl⟩),fun e he=>gf.lw e (gf.sub r hr e he),gf.K6 r hr⟩,gf.nd,fun x hx=>?_⟩
 obtain ⟨top,t0,t1,t2⟩:=gf.Dl
 have key:∀(j:Nat) (x:Str),top[j]?=some x→Pl f x:=by
  intro j
  induction j using Nat.strongRecOn with
  | ind j ih=>
   intro x hj
   obtain ⟨r,hr,rfl⟩:=List.mem_map.mp ((t1 x).mp (List.mem_of_getElem? hj))
   refine .mk hr fun e he=>?_
   obtain ⟨j',h1,h2⟩:=t2 r hr
   have ej:j'=j:=by
    obtain ⟨a1,b1⟩:=List.getElem?_eq_some_iff.mp h1
    obtain ⟨a2,b2⟩:=List.getElem?_eq_some_iff.mp hj
    exact(List.getElem_inj t0).mp (b1.trans b2.symm)
   obtain ⟨i,hi,ei⟩:=List.getElem_of_mem (h2 e he)
   rw [List.length_take] at hi
   rw [List.getElem_take] at ei
   exact ih i (by omega) e (by rw [← ei]; exact List.getElem?_eq_getElem _)
 obtain ⟨j,hj⟩:=List.mem_iff_getElem?.mp ((t1 x).mpr hx)
 exact key j x hj
end K12.E
end
section
set_option autoImplicit false
namespace L2
open PySem PyProof.Rows
theorem oK{X:Cx}{K:PySem.W.Frag}(h:X.K=K):dU X (.builtin "isinstance") (fun xs H Q=>∃ x n t b,xs=[x,.ty n]∧nU K H x t∧PySem.W.kitOne K t (.type n)=some b∧Q (.bl b) H):=by subst h; exact bM
end L2
namespace K12
open PySem PyProof.Rows L2
structure MR where
 k:Str
 es:List Str
 o:T
 n:Int
def mrP(m:MR):List T:=[.str m.k,.tup (m.es.map T.str),m.o,.tup [],.tup [],.int m.n]
def mrT(m:MR):T:=.tup (mrP m)
def iJ(ms:List MR):Fam:=ms.map fun m=>(m.k,m.es)
def MOk(f:Fam)(m:MR):Prop:=0≤m.n∧((∃ l,cX f m.k=some l∧m.o=.tup (l.map T.str))∨(cX f m.k=none∧∃ a,m.o=.str a))
theorem Dp.Ft{H:Hp}{m:MR}{v:V}(d:Dp H (mrT m) v):∃ q e u c d',v=.ref q∧H q=some (.tup [.str m.k,.ref e,u,.ref c,.ref d',.int m.n])∧H e=some (.tup (m.es.map V.str))∧Dp H m.o u∧H c=some (.tup [])∧H d'=some (.tup []):=by
 obtain ⟨q,xs,rfl,hq,dl⟩:=L2.Dp.cA d
 obtain ⟨x1,r1,rfl,d1,dl⟩:=dl.cases
 obtain ⟨x2,r2,rfl,d2,dl⟩:=dl.cases
 obtain ⟨x3,r3,rfl,d3,dl⟩:=dl.cases
 obtain ⟨x4,r4,rfl,d4,dl⟩:=dl.cases
 obtain ⟨x5,r5,rfl,d5,dl⟩:=dl.cases
 obtain ⟨x6,r6,rfl,d6,dl⟩:=dl.cases
 obtain rfl:=dl.jV
 obtain rfl:=L2.Dp.jA d1
 obtain rfl:=L2.Dp.KN d6
 obtain ⟨e,ys,rfl,he,dl2⟩:=L2.Dp.cA d2
 obtain ⟨c,cs,rfl,hc,dc⟩:=L2.Dp.cA d4
 obtain ⟨d',ds,rfl,hd,dd⟩:=L2.Dp.cA d5
 rw [DpL.jq dl2] at he
 rw [dc.jV] at hc
 rw [dd.jV] at hd
 exact⟨q,e,x3,c,d',rfl,hq,he,d3,hc,hd⟩
section
variable {P:Program}{w:World}{K:PySem.W.Frag}{mg:Str→Option Value}{base:Heap}{t:Adr}
def Bu:Sp:=fun vs H Q _=>∃(v:V) (ms:List MR),vs=[v]∧Dp H (.tup (ms.map mrT)) v∧ms.length≤7∧∀(u:V) H',Dp H' (qP (iJ ms)) u→Same H H'→Q u H'
theorem GK(D:Defs K mg t):aU P w K mg base CX0 1 t.gR.1 t.gR.2 ["table"] Bu:=by
 have hz:sizeLine=16777216:=sizeLine_eq
 refine D.gR.fn.ok wR (fun vs H Q E h=>?_) (fun cdv A outer s H vs Q E hr h=>?_)
 ·obtain ⟨v,ms,rfl,_⟩:=h
  rfl
 ·obtain ⟨v,ms,rfl,dv,m7,k⟩:=h
  obtain ⟨a,xs,rfl,ha,dl⟩:=L2.Dp.cA dv
  have hxl:xs.length=ms.length:=by have:=dl.length; rwa [List.length_map] at this
  refine⟨_,(aH (aR (bB bI (by rfl) D.bQ bJ (aj (bH rfl (aM.of ["row"] [] ["row"] (aq (top 36)) ["table"] rfl rfl (by decide +kernel)) ⟨fun _ _ _ _ _=>(aQ (i:=0) (show List.Nodup [("row" : Str)] by decide +kernel) rfl (Or.inl (lookup_relabel_local rfl)) (.inr (lookup_relabel_local rfl))),fun _ _ _ _ _=>bN,fun _ _ _ _ _=>(cY (aj (aZ (dW (K:=K) rfl) (pv 0) aG (fun _ _=>rfl)) (aj (aZ (dW (K:=K) rfl) (pv 0) aG (fun _ _=>rfl)) au)))⟩ (eY (pv 0))) au)))),?_⟩
  refine⟨_,rfl,a,rfl,⟨_,SqT.of ha⟩,fun Dd hD=>?_⟩
  refine bw (n:=xs.length) (fun i ys H2=>DpL H2 ((iJ (ms.take i)).map jY) ys∧Same H H2∧H2 Dd=some (.lst ys)) ⟨.nil,Same.new hD,ak⟩ ?_ ?_
  ·rintro ys H2 ⟨dy,s2,hD2⟩
   rw [List.take_of_length_le (by omega)] at dy
   refine⟨⟨_,SqT.of (s2 a _ ha),Nat.le_refl _⟩,Dd,_,rfl,.inl ⟨SqL.of hD2,fun q hq=>?_⟩⟩
   exact k (.ref q) _ (L2.Dp.tup ak (dy.mono (Same.tups (Same.new hq)))) (s2.trans (Same.new hq))
  ·rintro i ys H2 hi ⟨dy,s2,hD2⟩
   have hil:i < ms.length:=by omega
   obtain ⟨y,ey,dd⟩:=dl.get (i:=i) (t:=mrT ms[i]) (by rw [List.getElem?_map,List.getElem?_eq_getElem hil]; rfl)
   refine⟨⟨_,_,SqT.of (s2 a _ ha),ey⟩,?_⟩
   rintro z H3 ⟨rfl,yy⟩ σo ho
   obtain ⟨o,rfl⟩:=own1 ho
   have ez:=yy _ (SqT.of (s2 a _ ha))
   rw [ey] at ez
   cases ez
   obtain ⟨q,e,u,c,d',rfl,hq,he,_⟩:=K12.Dp.Ft (dd.mono (Same.tups s2))
   have hyl:ys.length≤7:=by
    rw [dy.length,List.length_map]
    unfold iJ
    rw [List.length_map,List.length_take]
    omega
   refine⟨⟨[_],rfl,rfl⟩,cV ⟨_,rfl,q,_,_,_,rfl,rfl,SqT.of hq,aV (j:=0) rfl,_,rfl,q,_,_,_,rfl,rfl,SqT.of hq,aV (j:=1) rfl,by show 2≤sizeLine; decide,fun q2 hq2=>?_⟩⟩
   have s3:Same H3 (upd H3 q2 (.tup [.str (ms[i]).k,.ref e])):=Same.new hq2
   have k3:(upd H3 q2 (.tup [.str (ms[i]).k,.ref e])) q2=some (.tup [.str (ms[i]).k,.ref e]):=ak
   generalize upd H3 q2 (.tup [.str (ms[i]).k,.ref e])=H4 at s3 k3
   have hD4:=s3 Dd _ hD2
   have tu:∀ o,gn H4 (upd H4 Dd (.lst o)):=fun o c zs ec=>by rw [aA (eU ec hD4 (fun z=>nomatch z))]; exact ec
   refine⟨by omega,hD4,aX hi ⟨?_,fun b o eb=>?_,ak⟩⟩
   ·have et:iJ (ms.take (i+1))=iJ (ms.take i)++[((ms[i]).k,(ms[i]).es)]:=by
     unfold iJ
     rw [take_snoc hil,List.map_append]
     rfl
    rw [et,List.map_append]
    exact(dy.mono ((Same.tups s3).trans (tu _))).append (.cons (K12.Dp.row (e:=e) (tu _ _ _ k3) (tu _ _ _ (s3 e _ he))) .nil)
   ·rw [aA (aB eb hD)]
    exact s3 b o (s2 b o eb)
end
end K12
end
section
set_option autoImplicit false
namespace K12
open PySem PyProof.Rows L2
theorem Ka(K:PySem.W.Frag):PySem.W.kitOne K (.type "int") (.type "bool")=some false:=rfl
section
variable {P:Program}{w:World}{K:PySem.W.Frag}{mg:Str→Option Value}{base:Heap}{t:Adr}
def Bl:Sp:=fun vs H Q _=>∃ n:Int,vs=[.int n]∧Q (.bl true) H
theorem Gh(D:Defs K mg t):aU P w K mg base CX0 1 t.iV.1 t.iV.2 ["thing"] Bl:=by
 refine D.iV.fn.ok xX (fun vs H Q E h=>?_) (fun cdv A outer s H vs Q E hr h=>?_)
 ·obtain ⟨n,rfl,_⟩:=h
  rfl
 ·obtain ⟨n,rfl,k⟩:=h
  refine⟨_,(aH (aR (iW (aK bM (by rfl) D.bh bf (aj (pv 0) (aj (dY (v:=V.ty "int") rfl D.Lh Kl rfl) au))) (jx (Fd (aK bM (by rfl) D.bh bf (aj (pv 0) (aj (dY (v:=V.ty "bool") rfl D.Fj Bf rfl) au)))))))),?_⟩
  exact⟨_,rfl,_,_,_,true,rfl,.int n,gA K "int",_,rfl,dZ ⟨_,rfl,_,_,_,false,rfl,.int n,Ka K,_,rfl,k⟩⟩
def uX:Sp:=fun vs H Q _=>(∃(a q qo:Addr) (l:List Str),vs=[.ref a,.ref q]∧H a=some (.tup (l.map V.str))∧H q=some (.tup [.str "order",.ref qo])∧H qo=some (.tup (l.map V.str))∧l.length≤1000∧∀ H',Same H H'→Q (.bl true) H')∨(∃(x:Str) (q:Addr),vs=[.str x,.ref q]∧Q (.bl false) H)
theorem zy(D:Defs K mg t):aU P w K mg base CX0 1 t.iM.1 t.iM.2 ["thing","told"] uX:=by
 have hz:sizeLine=16777216:=sizeLine_eq
 refine D.iM.fn.ok yq (fun vs H Q E h=>?_) (fun cdv A outer s H vs Q E hr h=>?_)
 ·rcases h with ⟨a,q,qo,l,rfl,_⟩ | ⟨x,q,rfl,_⟩ <;> rfl
 ·rcases h with ⟨a,q,qo,l,rfl,ha,hq,hqo,l8,k⟩ | ⟨x,q,rfl,k⟩
  ·refine⟨_,(aC (cC (PW.pt (mK (cW (cT (aK bM (by rfl) D.bh bf (aj (pv 0) (aj (dY (v:=V.ty "tuple") rfl D.bQ bJ rfl) au))))) (jT (cW (cT (aK (fW rfl) (by rfl) D.lu ji (aj (bH rfl (aM.of ["part"] [] ["part"] (aq (top 37)) ["thing","told"] rfl rfl (by decide +kernel)) ⟨fun _ _ _ _ _=>(aQ (i:=0) (show List.Nodup [("part" : Str)] by decide +kernel) rfl (Or.inl (lookup_relabel_local rfl)) (.inr (lookup_relabel_local rfl))),fun _ _ _ _ _=>bN,fun _ _ _ _ _=>(aK (oK (K:=K) rfl) (by rfl) D.bh bf (aj (pv 0) (aj (dY (v:=V.ty "str") rfl D.yp tQ rfl) au)))⟩ (eY (pv 0))) au)))))))
   (aH (aR gk))
   bx)
   (aH (aR (gY (Ey (IK hr)) (pv 1) (cY (aj dg (aj (pv 0) au))) (bK _))))),?_⟩
   refine⟨_,rfl,_,_,_,true,rfl,.tup ha,gA K "tuple",_,rfl,fj ?_⟩
   refine⟨_,rfl,a,rfl,⟨_,SqT.of ha⟩,fun Dd hD=>?_⟩
   have sD:∀ o,Same H (upd H Dd o):=fun o=>Same.new hD
   refine bw (n:=(l.map V.str).length) (fun i ys H2=>ys=(List.replicate i true).map V.bl∧H2=upd H Dd (.lst ys)) ⟨rfl,rfl⟩ ?_ ?_
   ·rintro ys H2 ⟨rfl,rfl⟩
    refine⟨⟨_,SqT.of (sD _ a _ ha),Nat.le_refl _⟩,Dd,_,rfl,SqL.of ak,_,rfl,?_⟩
    have ea:(List.replicate (l.map V.str).length true).all id=true:=by
     rw [List.all_eq_true]
     exact fun b hb=>List.eq_of_mem_replicate hb
    rw [ea]
    refine fj ?_
    have s2:=sD (.lst ((List.replicate (l.map V.str).length true).map V.bl))
    generalize upd H Dd (.lst ((List.replicate (l.map V.str).length true).map V.bl))=H2 at s2
    refine⟨_,rfl,_,rfl,by show 2≤sizeLine; decide,fun p2 hp2=>?_⟩
    have s3:Same H2 (upd H2 p2 (.tup [.str "order",.ref a])):=Same.new hp2
    have k3:(upd H2 p2 (.tup [.str "order",.ref a])) p2=some (.tup [.str "order",.ref a]):=ak
    generalize upd H2 p2 (.tup [.str "order",.ref a])=H3 at s3 k3
    have s13:=s2.trans s3
    refine⟨q,p2,_,_,[.str "order",.tup (l.map T.str)],[.str "order",.tup (l.map T.str)],rfl,rfl,s13 q _ hq,k3,.cons (L2.Dp.str _) (.cons (L2.Dp.tup (s13 qo _ hqo) (DpL.strs _)) .nil),.cons (L2.Dp.str _) (.cons (L2.Dp.tup (s13 a _ ha) (DpL.strs _)) .nil),?_,?_⟩
    ·intro t ht
     rcases List.mem_cons.mp ht with rfl | ht
     ·trivial
     ·rw [List.mem_singleton.mp ht]
      intro t ht
      obtain ⟨y,_,rfl⟩:=List.mem_map.mp ht
      trivial
    ·rw [iR rfl]
     exact k _ s13
   ·rintro i ys H2 hi ⟨rfl,rfl⟩
    have hil:i < l.length:=by rw [List.length_map] at hi; exact hi
    have ei:(l.map V.str)[i]?=some (.str l[i]):=by rw [List.getElem?_map,List.getElem?_eq_getElem hil]; rfl
    refine⟨⟨_,_,SqT.of (sD _ a _ ha),ei⟩,?_⟩
    rintro z H3 ⟨rfl,yy⟩ σo ho
    obtain ⟨o,rfl⟩:=own1 ho
    have ez:=yy _ (SqT.of (sD _ a _ ha))
    rw [ei] at ez
    cases ez
    refine⟨⟨[_],rfl,rfl⟩,cV ⟨_,rfl,_,_,_,true,rfl,.str _,gA K "str",by rw [List.length_map,List.length_replicate]; omega,ak,aX hi ⟨?_,by rw [bR]⟩⟩⟩
    rw [List.replicate_succ',List.map_append]
    rfl
  ·refine⟨_,(aC (cC (PW.pt (mK (cW (cT (aK bM (by rfl) D.bh bf (aj (pv 0) (aj (dY (v:=V.ty "tuple") rfl D.bQ bJ rfl) au))))) (jT (cW (cT (aK (fW rfl) (by rfl) D.lu ji (aj (bH rfl (aM.of ["part"] [] ["part"] (aq (top 37)) ["thing","told"] rfl rfl (by decide +kernel)) ⟨fun _ _ _ _ _=>(aQ (i:=0) (show List.Nodup [("part" : Str)] by decide +kernel) rfl (Or.inl (lookup_relabel_local rfl)) (.inr (lookup_relabel_local rfl))),fun _ _ _ _ _=>bN,fun _ _ _ _ _=>(aK (oK (K:=K) rfl) (by rfl) D.bh bf (aj (pv 0) (aj (dY (v:=V.ty "str") rfl D.yp tQ rfl) au)))⟩ (eY (pv 0))) au)))))))
   (aH (aR gk))
   bx)
   (aH (aR (gY (Ey (IK hr)) (pv 1) (cY (aj dg (aj (pv 0) au))) (bK _))))),?_⟩
   exact⟨_,rfl,_,_,_,false,rfl,.str x,rfl,_,rfl,dZ (dZ k)⟩
def Bb:Sp:=fun vs H Q _=>∃ q:Addr,vs=[.ref q]∧H q=some (.tup [])∧∀ H',Same H H'→Q (.bl true) H'
theorem J9(D:Defs K mg t)(GL:Glb mg):aU P w K mg base CX0 2 t.cN.1 t.cN.2 ["thing"] Bb:=by
 obtain ⟨tk,hMON⟩:=GL.vN
 have G_is_name:aU P w K mg base CX0 1 t.iB.1 t.iB.2 _ E.Al:=E.Bd D GL
 have hz:sizeLine=16777216:=sizeLine_eq
 refine D.cN.fn.ok qN (fun vs H Q E h=>?_) (fun cdv A outer s H vs Q E hr h=>?_)
 ·obtain ⟨q,rfl,_⟩:=h
  rfl
 ·obtain ⟨q,rfl,hq,k⟩:=h
  refine⟨_,(aC (cC (PW.pt (mK (cW (cT (aK bM (by rfl) D.bh bf (aj (pv 0) (aj (dY (v:=V.ty "tuple") rfl D.bQ bJ rfl) au))))) (jT (bF yP (aK aY (by rfl) D.d7 cF (aj (pv 0) au)) (iC (v:=V.int 3) (by rfl) hMON ⟨_,rfl⟩) (bK _)))))
   (aH (aR gk))
   bx)
   (aH (aR (iW (aK (fW rfl) (by rfl) D.lu ji (aj (bH rfl (aM.of ["part"] [] ["part"] (aq (top 39)) ["thing"] rfl rfl (by decide +kernel)) ⟨fun _ _ _ _ _=>(aQ (i:=0) (show List.Nodup [("part" : Str)] by decide +kernel) rfl (Or.inl (lookup_relabel_local rfl)) (.inr (lookup_relabel_local rfl))),fun _ _ _ _ _=>bN,fun _ _ _ _ _=>(aJ D.iB G_is_name (hr.mono (by omega)) (by rfl) (aj (pv 0) au))⟩ (eY (pv 0))) au)) (jx (gY j9 (aK kj (by rfl) D.d7 cF (aj (bB (qH rfl) (by rfl) D.Gx zX (aj (pv 0) au)) au)) (aK aY (by rfl) D.d7 cF (aj (pv 0) au)) (bK _))))))),?_⟩
  refine⟨_,rfl,_,_,_,true,rfl,.tup hq,gA K "tuple",_,rfl,fj ?_⟩
  refine⟨_,rfl,q,_,rfl,.inr (SqT.of hq),_,_,rfl,rfl,_,rfl,jz (by decide) ?_⟩
  refine⟨_,rfl,q,rfl,⟨_,SqT.of hq⟩,fun Dd hD=>?_⟩
  refine bw (n:=0) (fun i ys H2=>ys=[]∧H2=upd H Dd (.lst ys)) ⟨rfl,rfl⟩ ?_ (fun i _ _ hi=>absurd hi (Nat.not_lt_zero _))
  rintro ys H2 ⟨rfl,rfl⟩
  have s2:Same H (upd H Dd (.lst [])):=Same.new hD
  refine⟨⟨_,SqT.of (s2 q _ hq),Nat.le_refl _⟩,Dd,[],rfl,SqL.of ak,_,rfl,dZ ?_⟩
  generalize upd H Dd (.lst [])=H2 at s2
  refine⟨_,rfl,q,[],rfl,.inr (SqT.of (s2 q _ hq)),Nat.zero_le _,fun sd hsd=>?_⟩
  refine⟨sd,_,rfl,ak,_,rfl,q,_,rfl,.inr (SqT.of (Same.new hsd q _ (s2 q _ hq))),rfl,k _ (s2.trans (Same.new hsd))⟩
theorem Ew(D:Defs K mg t):aU P w K mg base CX0 2 t.gK.1 t.gK.2 ["thing"] Bb:=by
 have G_is_deed:aU P w K mg base CX0 1 t.lQ.1 t.lQ.2 _ (fun _ _ _ _=>False):=D.lQ.fn.ok (sp:=fun _ _ _ _=>False) zB (fun vs H Q E h=>False.elim h) (fun cdv A outer s H vs Q E hr h=>False.elim h)
 have hz:sizeLine=16777216:=sizeLine_eq
 refine D.gK.fn.ok wU (fun vs H Q E h=>?_) (fun cdv A outer s H vs Q E hr h=>?_)
 ·obtain ⟨q,rfl,_⟩:=h
  rfl
 ·obtain ⟨q,rfl,hq,k⟩:=h
  refine⟨_,(aC (cC (PW.pt (mK (cW (cT (aK bM (by rfl) D.bh bf (aj (pv 0) (aj (dY (v:=V.ty "tuple") rfl D.bQ bJ rfl) au))))) (jT (cW (cT (aK (fW rfl) (by rfl) D.lu ji (aj (bH rfl (aM.of ["pair"] [] ["pair"] (aq (top 41)) ["thing"] rfl rfl (by decide +kernel)) ⟨fun _ _ _ _ _=>(aQ (i:=0) (show List.Nodup [("pair" : Str)] by decide +kernel) rfl (Or.inl (lookup_relabel_local rfl)) (.inr (lookup_relabel_local rfl))),fun _ _ _ _ _=>bN,fun _ _ _ _ _=>(aJ D.lQ G_is_deed (hr.mono (by omega)) (by rfl) (aj (pv 0) au))⟩ (eY (pv 0))) au)))))))
   (aH (aR gk))
   bx)
   (aH (aR (aK (fW rfl) (by rfl) D.lu ji (aj (bH rfl (aM.of ["one","other"] [] ["one","other"] (aq (top 41)) ["thing"] rfl rfl (by decide +kernel)) ⟨fun _ _ _ _ _=>(kO (K:=K) (n:=2) rfl rfl (cB (aQ (i:=0) (show List.Nodup [("one" : Str),("other" : Str)] by decide +kernel) rfl (Or.inl (lookup_relabel_local rfl)) (.inr (lookup_relabel_local rfl))) (cB (aQ (i:=1) (show List.Nodup [("one" : Str),("other" : Str)] by decide +kernel) rfl (Or.inl (lookup_relabel_local rfl)) (.inr (lookup_relabel_local rfl))) jr))),fun _ _ _ _ _=>bN,fun _ _ _ _ _=>(gY Dm (aZ (dW (K:=K) rfl) (pv 0) aG (fun _ _=>rfl)) (aZ (dW (K:=K) rfl) (pv 1) aG (fun _ _=>rfl)) (bK _))⟩ (Hy rfl D.Lk (aj (pv 0) (aj (bZ vR (pv 0) (cI aG) dh) au)))) au))))),?_⟩
  refine⟨_,rfl,_,_,_,true,rfl,.tup hq,gA K "tuple",_,rfl,fj ?_⟩
  refine⟨_,rfl,q,rfl,⟨_,SqT.of hq⟩,fun Dd hD=>?_⟩
  refine bw (n:=0) (fun i ys H2=>ys=[]∧H2=upd H Dd (.lst ys)) ⟨rfl,rfl⟩ ?_ (fun i _ _ hi=>absurd hi (Nat.not_lt_zero _))
  rintro ys H2 ⟨rfl,rfl⟩
  have s2:Same H (upd H Dd (.lst [])):=Same.new hD
  refine⟨⟨_,SqT.of (s2 q _ hq),Nat.le_refl _⟩,Dd,[],rfl,SqL.of ak,_,rfl,fj ?_⟩
  generalize upd H Dd (.lst [])=H2 at s2
  have hq2:=s2 q _ hq
  refine⟨_,rfl,_,rfl,1,rfl,q,[],rfl,hq2,fun q3 H3 hq3 s3=>?_⟩
  have e3:gb ([]:List V) (some 1) none=[]:=rfl
  rw [e3] at hq3
  refine⟨q,q3,[],[],rfl,SqT.of (s3 q _ hq2),SqT.of hq3,fun De hDe=>?_⟩
  have s4:∀ o,Same H3 (upd H3 De o):=fun o=>Same.new hDe
  refine bw (n:=0) (fun i ys H2=>ys=[]∧H2=upd H3 De (.lst ys)) ⟨rfl,rfl⟩ ?_ (fun i _ _ hi=>absurd hi (Nat.not_lt_zero _))
  rintro ys H5 ⟨rfl,rfl⟩
  refine⟨⟨[],[],SqT.of (s4 _ q _ (s3 q _ hq2)),SqT.of (s4 _ q3 _ hq3),.inl (Nat.le_refl _)⟩,De,[],rfl,SqL.of ak,k _ ((s2.trans s3).trans (s4 _))⟩
def GC:Sp:=fun vs H Q _=>∃(v:V) (m:MR),vs=[v]∧Dp H (mrT m) v∧0≤m.n∧∀ H',Same H H'→Q (.bl true) H'
theorem Jm(D:Defs K mg t)(GL:Glb mg):aU P w K mg base CX0 3 t.cO.1 t.cO.2 ["row"] GC:=by
 have G_are_few_names:aU P w K mg base CX0 2 t.cN.1 t.cN.2 _ Bb:=J9 D GL
 have G_are_deeds:aU P w K mg base CX0 2 t.gK.1 t.gK.2 _ Bb:=Ew D
 have G_is_whole:aU P w K mg base CX0 1 t.iV.1 t.iV.2 _ Bl:=Gh D
 refine D.cO.fn.ok qz (fun vs H Q E h=>?_) (fun cdv A outer s H vs Q E hr h=>?_)
 ·obtain ⟨v,m,rfl,_⟩:=h
  rfl
 ·obtain ⟨v,m,rfl,dv,n0,k⟩:=h
  obtain ⟨q,e,u,c,d',rfl,hq,he,_,hc,hd⟩:=K12.Dp.Ft dv
  refine⟨_,(aH (aR (iW (aJ D.cN G_are_few_names (hr.mono (by omega)) (by rfl) (aj (aZ dG (pv 0) aG (fun _ _=>rfl)) au)) (iW (aJ D.gK G_are_deeds (hr.mono (by omega)) (by rfl) (aj (aZ dG (pv 0) aG (fun _ _=>rfl)) au)) (iW (aJ D.iV G_is_whole (hr.mono (by omega)) (by rfl) (aj (aZ dG (pv 0) aG (fun _ _=>rfl)) au)) (jx (gY Jy (aZ dG (pv 0) aG (fun _ _=>rfl)) aG (bK _)))))))),?_⟩
  refine⟨_,rfl,q,_,_,_,rfl,rfl,SqT.of hq,aV (j:=3) rfl,c,rfl,hc,fun H2 s2=>⟨_,rfl,dZ ?_⟩⟩
  refine⟨_,rfl,q,_,_,_,rfl,rfl,SqT.of (s2 q _ hq),aV (j:=4) rfl,d',rfl,s2 d' _ hd,fun H3 s3=>⟨_,rfl,dZ ?_⟩⟩
  have s13:=s2.trans s3
  refine⟨_,rfl,q,_,_,_,rfl,rfl,SqT.of (s13 q _ hq),aV (j:=5) rfl,m.n,rfl,_,rfl,dZ ?_⟩
  refine⟨_,rfl,q,_,_,_,rfl,rfl,SqT.of (s13 q _ hq),aV (j:=5) rfl,_,_,rfl,rfl,?_⟩
  show Q (.bl (decide (0≤m.n))) H3
  rw [decide_eq_true n0]
  exact k _ s13
end
end K12
end
section
set_option autoImplicit false
namespace K12
open PySem PyProof.Rows L2
section
variable {P:Program}{w:World}{K:PySem.W.Frag}{mg:Str→Option Value}{base:Heap}{t:Adr}
def vK(f:Fam)(ms:List MR):Prop:=∀ m∈ms,(cX f m.k).isSome=true
def uR:Sp:=fun vs H Q _=>∃(v:V) (ms:List MR),vs=[v]∧Dp H (.tup (ms.map mrT)) v∧fX (iJ ms)∧(∀ m∈ms,MOk (iJ ms) m)∧(∀ m∈ms,∀ l,cX (iJ ms) m.k=some l→l.length≤1000)∧∀ H',Same H H'→Q (.bl (dcd (vK (iJ ms) ms))) H'
theorem yZ(D:Defs K mg t)(GL:Glb mg):aU P w K mg base CX0 5 t.jf.1 t.jf.2 ["thing"] uR:=by
 have G_is_tuple_of:aU P w K mg base CX0 1 t.cL.1 t.cL.2 _ E.wO:=E.yK D
 have G_family_of:aU P w K mg base CX0 1 t.gR.1 t.gR.2 _ Bu:=GK D
 have G_is_family:aU P w K mg base CX0 3 t.gG.1 t.gG.2 _ E.JD:=E.Le D GL
 have G_tell_orders:aU P w K mg base CX0 4 t.cJ.1 t.cJ.2 _ zT:=Cz D
 have G_is_order:aU P w K mg base CX0 1 t.iM.1 t.iM.2 _ uX:=zy D
 have G_has_good_rest:aU P w K mg base CX0 3 t.cO.1 t.cO.2 _ GC:=Jm D GL
 have hz:sizeLine=16777216:=sizeLine_eq
 refine D.jf.fn.ok mQ (fun vs H Q E h=>?_) (fun cdv A outer s H vs Q E hr h=>?_)
 ·obtain ⟨v,ms,rfl,_⟩:=h
  rfl
 ·obtain ⟨v,ms,rfl,dv,gf,mok,ml,k⟩:=h
  obtain ⟨a,xs,rfl,ha,dl⟩:=L2.Dp.cA dv
  have hxl:xs.length=ms.length:=by have:=dl.length; rwa [List.length_map] at this
  have hfl:(iJ ms).length=ms.length:=List.length_map _
  have f7:=gf.len
  refine⟨_,(aC (cC (PW.pt (mK (cW (cT (aK bM (by rfl) D.bh bf (aj (pv 0) (aj (dY (v:=V.ty "tuple") rfl D.bQ bJ rfl) au))))) (jT (cW (cT (aK (fW rfl) (by rfl) D.lu ji (aj (bH rfl (aM.of ["row"] [] ["row"] (aq (top 35)) ["thing","family","told"] rfl rfl (by decide +kernel)) ⟨fun _ _ _ _ _=>(aQ (i:=0) (show List.Nodup [("row" : Str)] by decide +kernel) rfl (Or.inl (lookup_relabel_local rfl)) (.inr (lookup_relabel_local rfl))),fun _ _ _ _ _=>bN,fun _ _ _ _ _=>(aJ D.cL G_is_tuple_of (hr.mono (by omega)) (by rfl) (aj (pv 0) (aj aG au)))⟩ (eY (pv 0))) au)))))))
   (aH (aR gk))
   bx)
   (aC (aP (i:=1) mQ.nd rfl (Or.inl rfl) (aJ D.gR G_family_of (hr.mono (by omega)) (by rfl) (aj (pv 0) au)))
   (aC (cC (cW (cT (aJ D.gG G_is_family (hr.mono (by omega)) (by rfl) (aj (pv 1) au))))
   (aH (aR gk))
   bx)
   (aC (aP (i:=2) mQ.nd rfl (Or.inr rfl) (aJ D.cJ G_tell_orders (hr.mono (by omega)) (by rfl) (aj (pv 1) au)))
   (aH (aR (aK (fW rfl) (by rfl) D.lu ji (aj (bH rfl (aM.of ["row"] [2] ["row","told"] (aq (top 35)) ["thing","family","told"] rfl rfl (by decide +kernel)) ⟨fun _ _ _ _ _=>(aQ (i:=0) (show List.Nodup [("row" : Str),("told" : Str)] by decide +kernel) rfl (Or.inl (lookup_relabel_local rfl)) (.inr (lookup_relabel_local rfl))),fun _ _ _ _ _=>bN,fun _ _ _ _ _=>(iW (aJ D.iM G_is_order (hr.mono (by omega)) (by rfl) (aj (aZ (dW (K:=K) rfl) (pv 0) aG (fun _ _=>rfl)) (aj (gU (fB hr) (pv 1) (aZ (dW (K:=K) rfl) (pv 0) aG (fun _ _=>rfl)) (fun _ _=>rfl)) au))) (jx (aJ D.cO G_has_good_rest (hr.mono (by omega)) (by rfl) (aj (pv 0) au))))⟩ (eY (pv 0))) au)))))))),?_⟩
  refine⟨_,rfl,_,_,_,true,rfl,.tup ha,gA K "tuple",_,rfl,fj ?_⟩
  refine⟨_,rfl,a,rfl,⟨_,SqT.of ha⟩,fun Dd hD=>?_⟩
  have sD:∀ o,Same H (upd H Dd o):=fun o=>Same.new hD
  refine bw (n:=xs.length) (fun i ys H2=>ys=(List.replicate i true).map V.bl∧H2=upd H Dd (.lst ys)) ⟨rfl,rfl⟩ ?_ ?_
  rotate_left
  ·rintro i ys H2 hi ⟨rfl,rfl⟩
   have hil:i < ms.length:=by omega
   obtain ⟨y,ey,dd⟩:=dl.get (i:=i) (t:=mrT ms[i]) (by rw [List.getElem?_map,List.getElem?_eq_getElem hil]; rfl)
   refine⟨⟨_,_,SqT.of (sD _ a _ ha),ey⟩,?_⟩
   rintro z H3 ⟨rfl,yy⟩ σo ho
   obtain ⟨o,rfl⟩:=own1 ho
   have ez:=yy _ (SqT.of (sD _ a _ ha))
   rw [ey] at ez
   cases ez
   refine⟨⟨[_],rfl,rfl⟩,cV ⟨_,rfl,_,toD (mrT ms[i]),6,rfl,L2.Dp.rd (dd.mono (Same.tups (sD _))),?_⟩⟩
   rw [iR (by unfold mrT mrP; rw [toD]; exact⟨_,rfl,by rw [pW]; rfl⟩)]
   refine⟨by rw [List.length_map,List.length_replicate]; omega,ak,aX hi ⟨?_,by rw [bR]⟩⟩
   rw [List.replicate_succ',List.map_append]
   rfl
  rintro ys H2 ⟨rfl,rfl⟩
  refine⟨⟨_,SqT.of (sD _ a _ ha),Nat.le_refl _⟩,Dd,_,rfl,SqL.of ak,_,rfl,?_⟩
  have ea:(List.replicate xs.length true).all id=true:=by
   rw [List.all_eq_true]
   exact fun b hb=>List.eq_of_mem_replicate hb
  rw [ea]
  refine fj ?_
  have s2:=sD (.lst ((List.replicate xs.length true).map V.bl))
  generalize upd H Dd (.lst ((List.replicate xs.length true).map V.bl))=H2 at s2
  refine⟨_,rfl,.ref a,ms,rfl,dv.mono (Same.tups s2),by omega,fun fv H3 df s3=>?_⟩
  have tf:=(K12.E.fX.thT gf)
  refine⟨_,rfl,fv,_,rfl,L2.Dp.rd df,tf.g,by have:=tf.w; omega,fun H4 s4=>⟨_,rfl,?_⟩⟩
  rw [iR (K12.E.fX.isF gf f7)]
  refine fj ?_
  have df4:=df.mono (Same.tups s4)
  refine⟨_,rfl,fv,iJ ms,rfl,df4,gf,fun td kvs H5 _ htd told s5=>?_⟩
  have s15:=(s2.trans s3).trans (s4.trans s5)
  refine⟨_,rfl,a,rfl,⟨_,SqT.of (s15 a _ ha)⟩,fun De hDe=>?_⟩
  refine bw (n:=xs.length) (fun i ys H6=>ys=((ms.take i).map fun m=>(cX (iJ ms) m.k).isSome).map V.bl∧Same H5 H6∧H6 De=some (.lst ys)) ⟨rfl,Same.new hDe,ak⟩ ?_ ?_
  ·rintro ys H6 ⟨rfl,s6,hD6⟩
   rw [List.take_of_length_le (by omega)] at hD6
   refine⟨⟨_,SqT.of (s6 a _ (s15 a _ ha)),Nat.le_refl _⟩,De,_,rfl,SqL.of hD6,?_⟩
   have fin:=k _ (s15.trans s6)
   have e:(ms.map fun m=>(cX (iJ ms) m.k).isSome).all id=dcd (vK (iJ ms) ms):=by
    refine oY ?_
    rw [List.all_map,List.all_eq_true]
    exact Iff.rfl
   rw [e]
   exact fin
  ·rintro i ys H6 hi ⟨rfl,s6,hD6⟩
   have hil:i < ms.length:=by omega
   have hmi:=List.getElem_mem hil
   obtain ⟨y,ey,dd⟩:=dl.get (i:=i) (t:=mrT ms[i]) (by rw [List.getElem?_map,List.getElem?_eq_getElem hil]; rfl)
   have s16:=s15.trans s6
   refine⟨⟨_,_,SqT.of (s16 a _ ha),ey⟩,?_⟩
   rintro z H7 ⟨rfl,yy⟩ σo ho
   obtain ⟨o,rfl⟩:=own1 ho
   have ez:=yy _ (SqT.of (s16 a _ ha))
   rw [ey] at ez
   cases ez
   have dr:=dd.mono (Same.tups s16)
   obtain ⟨q,e,u,c,d',rfl,hq,he,du,hc,hd⟩:=K12.Dp.Ft dr
   have hkm:(ms[i]).k∈nms (iJ ms):=List.mem_map.mpr ⟨((ms[i]).k,(ms[i]).es),List.mem_map.mpr ⟨_,hmi,rfl⟩,rfl⟩
   obtain ⟨qt,ht1,ht2⟩:=told _ hkm
   have gd':lO H7 td (.str (ms[i]).k) (some (.ref qt)):=.inl ⟨kvs,.inr (ms[i]).k,.inl (s6 td _ htd),rfl,ht1.symm⟩
   have fin:∀(B:Bool) (H8:Hp),B=(cX (iJ ms) (ms[i]).k).isSome→Same H7 H8→(((ms.take i).map fun m=>(cX (iJ ms) m.k).isSome).map V.bl).length < sizeLine∧H8 De=some (.lst (((ms.take i).map fun m=>(cX (iJ ms) m.k).isSome).map V.bl))∧(∃ m',m' < xs.length - i∧(m'=xs.length - (i+1)∧i+1≤xs.length∧(((ms.take i).map fun m=>(cX (iJ ms) m.k).isSome).map V.bl++[.bl B]=((ms.take (i+1)).map fun m=>(cX (iJ ms) m.k).isSome).map V.bl∧Same H5 (upd H8 De (.lst (((ms.take i).map fun m=>(cX (iJ ms) m.k).isSome).map V.bl++[.bl B])))∧(upd H8 De (.lst (((ms.take i).map fun m=>(cX (iJ ms) m.k).isSome).map V.bl++[.bl B]))) De=some (.lst (((ms.take i).map fun m=>(cX (iJ ms) m.k).isSome).map V.bl++[.bl B]))))):=fun B H8 eB s8=>⟨by rw [List.length_map,List.length_map,List.length_take]; omega,s8 De _ hD6,aX hi ⟨by
     rw [take_snoc hil,List.map_append,List.map_append,eB]
     rfl,fun b' o e=>by
     rw [aA (aB e hDe)]
     exact s8 b' o (s6 b' o e),ak⟩⟩
   refine⟨⟨[_],rfl,rfl⟩,cV ⟨_,rfl,q,_,_,_,rfl,rfl,SqT.of hq,aV (j:=2) rfl,_,rfl,_,rfl,q,_,_,_,rfl,rfl,SqT.of hq,aV (j:=0) rfl,td,.ref qt,rfl,gd',?_⟩⟩
   obtain ⟨n0,h | h⟩:=mok _ hmi
   ·obtain ⟨l,hl,eo⟩:=h
    rw [eo] at du
    obtain ⟨ua,us,rfl,hua,dus⟩:=L2.Dp.cA du
    rw [DpL.jq dus] at hua
    rcases ht2 with ⟨l',qo,h1,h2,h3⟩ | ⟨h1,_⟩
    ·rw [hl] at h1
     cases h1
     refine .inl ⟨ua,qt,qo,l,rfl,hua,s6 qt _ h2,s6 qo _ h3,ml _ hmi l hl,fun H8 s8=>⟨_,rfl,dZ ?_⟩⟩
     refine⟨_,rfl,.ref q,ms[i],rfl,dr.mono (Same.tups s8),n0,fun H9 s9=>?_⟩
     exact fin true H9 (by rw [hl]; rfl) (s8.trans s9)
    ·rw [hl] at h1
     cases h1
   ·obtain ⟨hl,x,eo⟩:=h
    rw [eo] at du
    obtain rfl:=L2.Dp.jA du
    exact .inr ⟨x,qt,rfl,_,rfl,fj (fin false H7 (by rw [hl]; rfl) (Same.refl H7))⟩
end
end K12
end
section
set_option autoImplicit false
namespace K12
open PySem PyProof.Rows L2
theorem DQ{H H':Hp}{p:Addr}(hp:Pu H p)(o:Off p H H'):gn H H':=fun c zs e=>by
 obtain ⟨x1,x2,x3,ep⟩:=hp
 exact o c _ (eU e ep (fun z=>nomatch z)) e
def Lq(f:Fam)(x:Str)(o:T):Prop:=(∃ l,cX f x=some l∧o=.tup (l.map T.str))∨(cX f x=none∧∃ a,o=.str a)
theorem pA.shape{H:Hp}{f:Fam}{x:Str}{q:Addr}(h:pA H f x q):∃(w0:Str) (t1:V) (rs:List V) (o:T),H q=some (.tup (.str w0::t1::rs))∧decide (V.str w0=V.str "order")=(cX f x).isSome∧Dp H o t1∧Lq f x o:=by
 rcases h with ⟨l,qo,h1,h2,h3⟩ | ⟨h1,a,rg,h2⟩
 ·exact⟨"order",.ref qo,[],.tup (l.map T.str),h2,by rw [decide_eq_true rfl,h1]; rfl,L2.Dp.tup h3 (DpL.strs _),.inl ⟨l,h1,rfl⟩⟩
 ·exact⟨"quarrel",.str a,[.ref rg],.str a,h2,by rw [h1]; decide,L2.Dp.str a,.inr ⟨h1,a,rfl⟩⟩
theorem sW{f:Fam}{ms:List MR}{m:MR}:dcd (vK f (ms++[m]))=(dcd (vK f ms) && (cX f m.k).isSome):=by
 by_cases h1:vK f ms
 ·rw [iR h1,Bool.true_and]
  refine(oY ?_).symm
  exact⟨fun h x hx=>(List.mem_append.mp hx).elim (h1 x) (fun hx=>by rw [List.mem_singleton.mp hx]; exact h),fun h=>h m (List.mem_append_right _ List.mem_cons_self)⟩
 ·rw [cR h1,Bool.false_and,cR (fun h=>h1 fun x hx=>h x (List.mem_append_left _ hx))]
section
variable {P:Program}{w:World}{K:PySem.W.Frag}{mg:Str→Option Value}{base:Heap}{t:Adr}
def Gv:Sp:=fun vs H Q _=>∃(p:Addr),vs=[.ref p]∧Pu H p∧∀ H',Off p H H'→Q (.bl true) H'
theorem Jj(D:Defs K mg t)(GL:Glb mg):aU P w K mg base CX0 6 t.gP.1 t.gP.2 ["_law_purse_here"] Gv:=by
 have G__law_take:aU P w K mg base CX0 1 t.aL.1 t.aL.2 _ jB:=jc D
 have G__law_family:aU P w K mg base CX0 4 t.eE.1 t.eE.2 _ xu:=DR D
 have G_order_of:aU P w K mg base CX0 5 t.iZ.1 t.iZ.2 _ Ca:=FP D
 have G_is_table:aU P w K mg base CX0 5 t.jf.1 t.jf.2 _ uR:=yZ D GL
 have hz:sizeLine=16777216:=sizeLine_eq
 refine D.gP.fn.ok dB (fun vs H Q E h=>?_) (fun cdv A outer s H vs Q E hr h=>?_)
 ·obtain ⟨p,rfl,_⟩:=h
  rfl
 ·obtain ⟨p,rfl,hp,k⟩:=h
  refine⟨_,(aC (aP (i:=1) dB.nd rfl (Or.inl rfl) (cD au))
   (aC (aP (i:=2) dB.nd rfl (Or.inl rfl) gk)
   (aC (aP (i:=3) dB.nd rfl (Or.inl rfl) (aJ D.eE G__law_family (hr.mono (by omega)) (by rfl) (aj (pv 0) (aj aG au))))
   (aC (gZ PassesOwn.never rfl (eY (pv 3)) (sX rfl (cB (aQ (i:=4) dB.nd rfl (Or.inl rfl)) (cB (aQ (i:=5) dB.nd rfl (Or.inl rfl)) jr)))
   (aC (aP (i:=6) dB.nd rfl (Or.inl rfl) (aJ D.iZ G_order_of (hr.mono (by omega)) (by rfl) (aj (pv 3) (aj (pv 4) au))))
   (aC (cC (PW.pt (mK (cW (cT (aK bM (by rfl) D.bh bf (aj (pv 6) (aj (dY (v:=V.ty "tuple") rfl D.bQ bJ rfl) au))))) (jT (bF qX (aK aY (by rfl) D.d7 cF (aj (pv 6) au)) aG (bK _)))))
   (aH (aR gk))
   bx)
   (aC (aP (i:=2) dB.nd rfl (Or.inl rfl) (iW (pv 2) (jx (gY j9 (aZ dG (pv 6) aG (fun _ _=>rfl)) dg (bK _)))))
   (aH (jo (qR PySem.F.plainAttrs_list PySem.F.slot_list_append PySem.F.type_list_append gF (pv 1) (aj (cY (aj (pv 4) (aj (pv 5) (aj (aZ dG (pv 6) aG (fun _ _=>rfl)) (aj (cY au) (aj (cY au) (aj (aJ D.aL G__law_take (hr.mono (by omega)) (by rfl) (aj (pv 0) (aj aG au))) au))))))) au))))))))
   (aC (aP (i:=6) dB.nd rfl (Or.inl rfl) (aJ D.jf G_is_table (hr.mono (by omega)) (by rfl) (aj (bB bI (by rfl) D.bQ bJ (aj (pv 1) au)) au)))
   (aH (aR (iW (aK bM (by rfl) D.bh bf (aj (pv 6) (aj (dY (v:=V.ty "bool") rfl D.Fj Bf rfl) au))) (jx (gY j9 (pv 6) (pv 2) (bK _))))))))))),?_⟩
  refine⟨Nat.zero_le _,fun fa hfa=>?_⟩
  have s1:Same H (upd H fa (.lst [])):=Same.new hfa
  have k1:(upd H fa (.lst [])) fa=some (.lst []):=ak
  generalize upd H fa (.lst [])=H1 at s1 k1
  have p1:=hp.same s1
  have fp:fa≠p:=fun z=>by
   obtain ⟨_,_,_,q⟩:=hp
   rw [z,q] at hfa
   cases hfa
  refine⟨_,rfl,p,7,rfl,p1,by decide,by decide,fun v f H2 dv gf fl o2 p2=>?_⟩
  have f7:=gf.len
  obtain ⟨a,xs,rfl,ha,dl⟩:=L2.Dp.cA dv
  have hxl:xs.length=f.length:=by have:=dl.length; rwa [List.length_map] at this
  have oH2:Off p H H2:=s1.off.trans o2
  refine⟨_,rfl,a,rfl,⟨_,SqT.of ha⟩,rH (K:=K) (a:=a) (xs:=xs) (fun i σ H3=>∃(ms:List MR) (ys:List V) (b:Bool) (v4 v5 v6:Option V),σ=[some (.ref p),some (.ref fa),some (.bl b),some (.ref a),v4,v5,v6]∧iJ ms=f.take i∧(∀ m∈ms,MOk f m)∧b=dcd (vK f ms)∧H3 fa=some (.lst ys)∧DpL H3 (ms.map mrT) ys∧gn H2 H3∧Off p H H3∧Pu H3 p)
   ⟨[],[],true,_,_,_,rfl,rfl,(fun m hm=>nomatch hm),(iR (fun m hm=>nomatch hm)).symm,o2 fa _ fp k1,.nil,gn.refl H2,oH2,p2⟩ (fun i σ H3 _ ⟨_,_,_,_,_,_,_,_,_,_,_,_,t3,_⟩=>SqT.of (t3 a _ ha)) ?_ ?_⟩
  ·rintro i z σ H3 hi ⟨ms,ys,b,v4,v5,v6,rfl,hms,mok,hb,hf3,dy,t3,o3,p3⟩
   have hil:i < f.length:=by
    have:=(List.getElem?_eq_some_iff.mp hi).1
    omega
   obtain ⟨z',ez,dz⟩:=(dl.mono t3).get (i:=i) (t:=jY f[i]) (by rw [List.getElem?_map,List.getElem?_eq_getElem hil]; rfl)
   rw [hi] at ez
   cases ez
   obtain ⟨q,e,rfl,hq,he⟩:=K12.Dp.qK dz
   have hkm:(f[i]).1∈nms f:=List.mem_map.mpr ⟨_,List.getElem_mem hil,rfl⟩
   refine⟨q,_,rfl,SqT.of hq,rfl,_,_,rfl,_,_,rfl,rfl,?_⟩
   refine⟨_,rfl,_,rfl,.ref a,(f[i]).1,f,rfl,L2.Dp.tup (t3 a _ ha) (dl.mono t3),gf,hkm,fun qt H4 tell s4=>?_⟩
   obtain ⟨w0,t1,rs,o,hqt,hw0,dt1,op⟩:=tell.shape
   refine⟨_,rfl,_,_,_,true,rfl,.tup hqt,gA K "tuple",_,rfl,fj ?_⟩
   refine⟨_,rfl,qt,_,rfl,.inr (SqT.of hqt),_,_,rfl,rfl,_,rfl,jz (by rw [decide_eq_false (by rw [List.length_cons,List.length_cons]; omega)]; exact Bool.false_ne_true) ?_⟩
   refine⟨_,rfl,b,rfl,?_⟩
   by_cases hbt:b=true
   ·refine jR hbt ⟨_,rfl,qt,_,_,_,rfl,rfl,SqT.of hqt,aV (j:=0) rfl,rfl,?_⟩
    have hf4:=s4 fa _ hf3
    have p4:=p3.same s4
    refine⟨_,rfl,.inl ⟨rfl,_,SqL.of hf4⟩,_,rfl,_,rfl,_,rfl,qt,_,_,_,rfl,rfl,SqT.of hqt,aV (j:=1) rfl,Nat.zero_le _,fun q4 hq4=>?_⟩
    have s5:Same H4 (upd H4 q4 (.tup [])):=Same.new hq4
    have k5:(upd H4 q4 (.tup [])) q4=some (.tup []):=ak
    generalize upd H4 q4 (.tup [])=H5 at s5 k5
    refine⟨Nat.zero_le _,fun q5 hq5=>?_⟩
    have s6:Same H5 (upd H5 q5 (.tup [])):=Same.new hq5
    have k6:(upd H5 q5 (.tup [])) q5=some (.tup []):=ak
    generalize upd H5 q5 (.tup [])=H6 at s6 k6
    have s46:=s5.trans s6
    have p6:=p4.same s46
    refine⟨_,rfl,p,3,rfl,p6,by decide,by decide,fun r a7 b7 c7 l7 u7=>?_⟩
    have o7:Off p H6 (upd H6 p (.lst [.int a7,.int b7,.int c7])):=Off.upd
    have p7:Pu (upd H6 p (.lst [.int a7,.int b7,.int c7])) p:=Pu.upd
    generalize upd H6 p (.lst [.int a7,.int b7,.int c7])=H7 at o7 p7
    have t67:=DQ p6 o7
    have hf7:=o7 fa _ fp (s46 fa _ hf4)
    have hyl:ys.length≤7:=by
     rw [dy.length,List.length_map]
     have:=congrArg List.length hms
     unfold iJ at this
     rw [List.length_map,List.length_take] at this
     omega
    refine⟨by show 6≤sizeLine; decide,fun q8 hq8=>⟨fa,ys,.ref q8,rfl,rfl,by rw [aA (aB hf7 hq8)]; exact hf7,by omega,?_⟩⟩
    have qf:q8≠fa:=fun z=>by rw [z,hf7] at hq8; cases hq8
    have t47:gn H4 H7:=(Same.tups s46).trans t67
    have t8:gn H7 (upd (upd H7 q8 (.tup [.str (f[i]).1,.ref e,t1,.ref q4,.ref q5,.int r])) fa (.lst (ys++[.ref q8]))):=fun c us ec=>by
     rw [aA (eU ec hf7 (fun z=>nomatch z)),aA (aB ec hq8)]
     exact ec
    have t38:=((Same.tups s4).trans t47).trans t8
    have t48:=t47.trans t8
    refine⟨ms++[⟨(f[i]).1,(f[i]).2,o,r⟩],ys++[.ref q8],decide (V.str w0=V.str "order"),_,_,_,rfl,?_,fun m hm=>?_,?_,ak,?_,t3.trans t38,?_,(p7.aA (p7.neN hq8)).aA fp.symm⟩
    ·unfold iJ at hms ⊢
     rw [List.map_append,hms,take_snoc hil]
     rfl
    ·rcases List.mem_append.mp hm with h | h
     ·exact mok m h
     ·rw [List.mem_singleton.mp h]
      exact⟨l7,op⟩
    ·rw [sW,← hb]
     rw [hw0,hbt,Bool.true_and]
    ·rw [List.map_append]
     refine(dy.mono t38).append (.cons (L2.Dp.tup (a:=q8) (xs:=[.str (f[i]).1,.ref e,t1,.ref q4,.ref q5,.int r]) (by rw [aA qf,ak]) ?_) .nil)
     exact .cons (L2.Dp.str _) (.cons (L2.Dp.tup (t38 e _ he) (DpL.strs _)) (.cons (dt1.mono t48) (.cons (L2.Dp.tup (t8 q4 _ (t67 q4 _ (s6 q4 _ k5))) .nil) (.cons (L2.Dp.tup (t8 q5 _ (t67 q5 _ k6)) .nil) (.cons (L2.Dp.int _) .nil)))))
    ·intro b' o' hb' e'
     have e7:=o7 b' o' hb' (s46 b' o' (s4 b' o' (o3 b' o' hb' e')))
     rw [aA (aB e' hfa),aA (aB e7 hq8)]
     exact e7
   ·refine jz hbt ?_
    have hf4:=s4 fa _ hf3
    have p4:=p3.same s4
    refine⟨_,rfl,.inl ⟨rfl,_,SqL.of hf4⟩,_,rfl,_,rfl,_,rfl,qt,_,_,_,rfl,rfl,SqT.of hqt,aV (j:=1) rfl,Nat.zero_le _,fun q4 hq4=>?_⟩
    have s5:Same H4 (upd H4 q4 (.tup [])):=Same.new hq4
    have k5:(upd H4 q4 (.tup [])) q4=some (.tup []):=ak
    generalize upd H4 q4 (.tup [])=H5 at s5 k5
    refine⟨Nat.zero_le _,fun q5 hq5=>?_⟩
    have s6:Same H5 (upd H5 q5 (.tup [])):=Same.new hq5
    have k6:(upd H5 q5 (.tup [])) q5=some (.tup []):=ak
    generalize upd H5 q5 (.tup [])=H6 at s6 k6
    have s46:=s5.trans s6
    have p6:=p4.same s46
    refine⟨_,rfl,p,3,rfl,p6,by decide,by decide,fun r a7 b7 c7 l7 u7=>?_⟩
    have o7:Off p H6 (upd H6 p (.lst [.int a7,.int b7,.int c7])):=Off.upd
    have p7:Pu (upd H6 p (.lst [.int a7,.int b7,.int c7])) p:=Pu.upd
    generalize upd H6 p (.lst [.int a7,.int b7,.int c7])=H7 at o7 p7
    have t67:=DQ p6 o7
    have hf7:=o7 fa _ fp (s46 fa _ hf4)
    have hyl:ys.length≤7:=by
     rw [dy.length,List.length_map]
     have:=congrArg List.length hms
     unfold iJ at this
     rw [List.length_map,List.length_take] at this
     omega
    refine⟨by show 6≤sizeLine; decide,fun q8 hq8=>⟨fa,ys,.ref q8,rfl,rfl,by rw [aA (aB hf7 hq8)]; exact hf7,by omega,?_⟩⟩
    have qf:q8≠fa:=fun z=>by rw [z,hf7] at hq8; cases hq8
    have t47:gn H4 H7:=(Same.tups s46).trans t67
    have t8:gn H7 (upd (upd H7 q8 (.tup [.str (f[i]).1,.ref e,t1,.ref q4,.ref q5,.int r])) fa (.lst (ys++[.ref q8]))):=fun c us ec=>by
     rw [aA (eU ec hf7 (fun z=>nomatch z)),aA (aB ec hq8)]
     exact ec
    have t38:=((Same.tups s4).trans t47).trans t8
    have t48:=t47.trans t8
    refine⟨ms++[⟨(f[i]).1,(f[i]).2,o,r⟩],ys++[.ref q8],false,_,_,_,rfl,?_,fun m hm=>?_,?_,ak,?_,t3.trans t38,?_,(p7.aA (p7.neN hq8)).aA fp.symm⟩
    ·unfold iJ at hms ⊢
     rw [List.map_append,hms,take_snoc hil]
     rfl
    ·rcases List.mem_append.mp hm with h | h
     ·exact mok m h
     ·rw [List.mem_singleton.mp h]
      exact⟨l7,op⟩
    ·rw [sW,← hb]
     rw [Bool.eq_false_iff.mpr hbt,Bool.false_and]
    ·rw [List.map_append]
     refine(dy.mono t38).append (.cons (L2.Dp.tup (a:=q8) (xs:=[.str (f[i]).1,.ref e,t1,.ref q4,.ref q5,.int r]) (by rw [aA qf,ak]) ?_) .nil)
     exact .cons (L2.Dp.str _) (.cons (L2.Dp.tup (t38 e _ he) (DpL.strs _)) (.cons (dt1.mono t48) (.cons (L2.Dp.tup (t8 q4 _ (t67 q4 _ (s6 q4 _ k5))) .nil) (.cons (L2.Dp.tup (t8 q5 _ (t67 q5 _ k6)) .nil) (.cons (L2.Dp.int _) .nil)))))
    ·intro b' o' hb' e'
     have e7:=o7 b' o' hb' (s46 b' o' (s4 b' o' (o3 b' o' hb' e')))
     rw [aA (aB e' hfa),aA (aB e7 hq8)]
     exact e7
  ·rintro σ H3 ⟨ms,ys,b,v4,v5,v6,rfl,hms,mok,hb,hf3,dy,t3,o3,p3⟩
   have hfm:iJ ms=f:=by rw [hms,List.take_of_length_le (by omega)]
   refine⟨_,rfl,fa,_,rfl,.inl ⟨SqL.of hf3,fun q hq=>?_⟩⟩
   have s4:Same H3 (upd H3 q (.tup ys)):=Same.new hq
   refine⟨.ref q,ms,rfl,L2.Dp.tup ak (dy.mono (Same.tups s4)),by rw [hfm]; exact gf,by rw [hfm]; exact mok,fun m hm l hl=>?_,fun H5 s5=>?_⟩
   ·rw [hfm] at hl
    have hkm:m.k∈nms f:=by rw [← hfm]; exact List.mem_map.mpr ⟨(m.k,m.es),List.mem_map.mpr ⟨m,hm,rfl⟩,rfl⟩
    exact Nat.le_trans (vA gf _ hkm l hl).2.2 (by decide)
   rw [hfm,← hb]
   refine⟨_,rfl,_,_,_,true,rfl,.bl b,gA K "bool",_,rfl,dZ ⟨_,rfl,_,rfl,rfl,?_⟩⟩
   rw [decide_eq_true rfl]
   exact k _ (o3.trans (s4.trans s5).off)
end
end K12
end
section
set_option autoImplicit false
namespace L2
open PySem PySem.Spec PyProof.Rows
section
variable {X:Cx}
theorem HY{tg iter:Expr}{body:List Stmt}{te:TE}{pos:Pos}(he:PE X iter te)(hs:∀ x,foldedSetIterable iter X.env x=pure x:=by intro _; rfl):PS X (.For tg iter body [] pos) (fun _ σ H=>te σ H fun _ _=>False):=by
 intro pins s σ H D I h
 exact wpAny_For (thn (he pins s σ H _ I h) fun v s1 ⟨x,H1,I1,r1,q1⟩=>q1.elim) hs
theorem Ac{f:Value}:dU X f (fun _ _ _=>False):=fun _ _ _ _ _ _ _ _ _ h=>h.elim
end
end L2
end
section
set_option autoImplicit false
namespace L2
open PySem
theorem xM:bootBuiltins "reversed" = some (.type "reversed"):=by decide +kernel
end L2
namespace K12
open PySem PyProof.Rows L2
def NoK(ks:List Str)(d:PyData):Prop:=¬ ∃ x,d=.str x∧x∈ks
section
variable {P:Program}{w:World}{K:PySem.W.Frag}{mg:Str→Option Value}{base:Heap}{t:Adr}
def yg(t:Adr):Sp:=fun vs H _ E=>∃(v:V) (d:PyData) (a:Addr) (ks:List Str),vs=[v,.ref a]∧RdV H v d∧H a=some (.tup (ks.map V.str))∧NoK ks d∧E (.ref t.bG) none H
theorem Ek(D:Defs K mg t)(CS:wF K mg t):aU P w K mg base (CXe P w) 2 t.cu.1 t.cu.2 ["kind","kinds"] (yg t):=by
 have G_is_kind:aU P w K mg base CX0 1 t.cQ.1 t.cQ.2 _ E.wX:=E.wL D
 refine D.cu.fn.okX oJ (fun vs H Q E h=>?_) (fun cdv A outer s H vs Q E hr h=>?_)
 ·obtain ⟨v,d,a,ks,rfl,_⟩:=h
  rfl
 ·obtain ⟨v,d,a,ks,rfl,rd,ha,no,k⟩:=h
  refine⟨_,(aH (cC (cW (cT (aJ D.cQ G_is_kind (hr.mono (by omega)) (by rfl) (aj (pv 0) (aj (pv 1) au)))))
   (aH (Gg Eb rfl CS.nk (by rfl) (aj dg au)))
   bx)),?_⟩
  refine⟨_,rfl,_,rfl,v,d,a,ks,rfl,rd,ha,_,rfl,?_⟩
  rw [cR no]
  exact dZ ⟨by show 1≤sizeLine; decide,k⟩
def qw(t:Adr):Sp:=fun vs H _ E=>∃(v th:V) (tb:List B.Row) (d:PyData),vs=[v,th]∧Dp H (B.xq tb) v∧tb.length≤7∧RdV H th d∧NoK (B.kns tb) d∧∀ H',Same H H'→E (.ref t.bG) none H'
theorem wJ(D:Defs K mg t)(CS:wF K mg t):aU P w K mg base (CXe P w) 3 t.iG.1 t.iG.2 ["table","kind"] (qw t):=by
 have G_check_kind:aU P w K mg base (CXe P w) 2 t.cu.1 t.cu.2 _ (yg t):=Ek D CS
 have G_kinds_of:aU P w K mg base CX0 1 t.kinds_of.1 t.kinds_of.2 _ B.pU:=B.GQ D
 refine D.iG.fn.okX Df (fun vs H Q E h=>?_) (fun cdv A outer s H vs Q E hr h=>?_)
 ·obtain ⟨v,th,tb,d,rfl,_⟩:=h
  rfl
 ·obtain ⟨v,th,tb,d,rfl,dv,t7,rd,no,k⟩:=h
  refine⟨_,(aC (jo (jN D.cu G_check_kind (hr.mono (by omega)) (by rfl) iD (aj (pv 1) (aj (aJ D.kinds_of G_kinds_of (hr.mono (by omega)) (by rfl) (aj (pv 0) au)) au))))
   (aH (aR (aZ bT (bH rfl (aM.of ["row"] [1] ["row","kind"] (aq (top 43)) ["table","kind"] rfl rfl (by decide +kernel)) ⟨fun _ _ _ _ _=>(aQ (i:=0) (show List.Nodup [("row" : Str),("kind" : Str)] by decide +kernel) rfl (Or.inl (lookup_relabel_local rfl)) (.inr (lookup_relabel_local rfl))),fun _ _ _ _ _=>(gJ (bF j9 (aZ (dW (K:=K) rfl) (pv 0) aG (fun _ _=>rfl)) (pv 1) (bK _))),fun _ _ _ _ _=>(pv 0)⟩ (eY (pv 0))) aG (fun _ _=>rfl))))),?_⟩
  exact⟨_,rfl,_,rfl,v,tb,rfl,dv,t7,fun q H2 hq s2=>⟨th,d,q,B.kns tb,rfl,rd.jg s2,hq,no,k H2 s2⟩⟩
def yQ(t:Adr):Sp:=fun vs H _ E=>∃(v th dv:V) (tb:List B.Row) (d:PyData),vs=[v,th,dv]∧Dp H (B.xq tb) v∧tb.length≤7∧RdV H th d∧NoK (B.kns tb) d∧∀ H',Same H H'→E (.ref t.bG) none H'
theorem CW(D:Defs K mg t)(CS:wF K mg t):aU P w K mg base (CXe P w) 4 t.found.1 t.found.2 ["table","kind","deed"] (yQ t):=by
 have G_row_at:aU P w K mg base (CXe P w) 3 t.iG.1 t.iG.2 _ (qw t):=wJ D CS
 have G_look_along:aU P w K mg base CX0 1 t.dX.1 t.dX.2 _ (fun _ _ _ _=>False):=D.dX.fn.ok (sp:=fun _ _ _ _=>False) oN (fun vs H Q E h=>False.elim h) (fun cdv A outer s H vs Q E hr h=>False.elim h)
 refine D.found.fn.okX Gd (fun vs H Q E h=>?_) (fun cdv A outer s H vs Q E hr h=>?_)
 ·obtain ⟨v,th,dv,tb,d,rfl,_⟩:=h
  rfl
 ·obtain ⟨v,th,dv,tb,d,rfl,dt,t7,rd,no,k⟩:=h
  refine⟨_,(aH (aR (aJ D.dX G_look_along (hr.mono (by omega)) (by rfl) (aj (pv 0) (aj (aZ dG (jN D.iG G_row_at (hr.mono (by omega)) (by rfl) iD (aj (pv 0) (aj (pv 1) au))) aG (fun _ _=>rfl)) (aj (pv 2) au)))))),?_⟩
  exact⟨_,rfl,_,rfl,_,rfl,v,th,tb,d,rfl,dt,t7,rd,no,k⟩
def vI(t:Adr):Sp:=fun vs H _ E=>∃(v th hv dv:V) (tb:List B.Row) (d:PyData),vs=[v,th,hv,dv]∧Dp H (B.xq tb) v∧tb.length≤7∧RdV H th d∧NoK (B.kns tb) d∧∀ H',Same H H'→E (.ref t.bG) none H'
theorem zF(D:Defs K mg t)(CS:wF K mg t):aU P w K mg base (CXe P w) 4 t.behind.1 t.behind.2 ["table","kind","home","deed"] (vI t):=by
 have G_row_at:aU P w K mg base (CXe P w) 3 t.iG.1 t.iG.2 _ (qw t):=wJ D CS
 have G_is_kind:aU P w K mg base CX0 1 t.cQ.1 t.cQ.2 _ E.wX:=E.wL D
 have G_look_along:aU P w K mg base CX0 1 t.dX.1 t.dX.2 _ (fun _ _ _ _=>False):=D.dX.fn.ok (sp:=fun _ _ _ _=>False) oN (fun vs H Q E h=>False.elim h) (fun cdv A outer s H vs Q E hr h=>False.elim h)
 refine D.behind.fn.okX u9 (fun vs H Q E h=>?_) (fun cdv A outer s H vs Q E hr h=>?_)
 ·obtain ⟨v,th,hv,dv,tb,d,rfl,_⟩:=h
  rfl
 ·obtain ⟨v,th,hv,dv,tb,d,rfl,dt,t7,rd,no,k⟩:=h
  refine⟨_,(aC (aP (i:=4) u9.nd rfl (Or.inl rfl) (aZ dG (jN D.iG G_row_at (hr.mono (by omega)) (by rfl) iD (aj (pv 0) (aj (pv 1) au))) aG (fun _ _=>rfl)))
   (aC (cC (cW (cT (aJ D.cQ G_is_kind (hr.mono (by omega)) (by rfl) (aj (pv 2) (aj (pv 4) au)))))
   (aH (aR mW))
   bx)
   (aH (aR (aJ D.dX G_look_along (hr.mono (by omega)) (by rfl) (aj (pv 0) (aj (bZ vR (pv 4) (cI (bD fu (KC PySem.F.slot_tuple_index PySem.F.type_tuple_index (Aj (IK hr)) (pv 4) (aj (pv 2) au)) aG)) dh) (aj (pv 3) au)))))))),?_⟩
  exact⟨_,rfl,_,rfl,v,th,tb,d,rfl,dt,t7,rd,no,k⟩
theorem Ii(D:Defs K mg t)(CS:wF K mg t):aU P w K mg base (CXe P w) 4 t.fH.1 t.fH.2 ["table","kind"] (qw t):=by
 have G_row_at:aU P w K mg base (CXe P w) 3 t.iG.1 t.iG.2 _ (qw t):=wJ D CS
 refine D.fH.fn.okX oO (fun vs H Q E h=>?_) (fun cdv A outer s H vs Q E hr h=>?_)
 ·obtain ⟨v,th,tb,d,rfl,_⟩:=h
  rfl
 ·obtain ⟨v,th,tb,d,rfl,dv,t7,rd,no,k⟩:=h
  refine⟨_,(aC (aP (i:=2) oO.nd rfl (Or.inl rfl) jt)
   (aC (HY (bB Ac (by rfl) D.yX xM (aj (aZ dG (jN D.iG G_row_at (hr.mono (by omega)) (by rfl) iD (aj (pv 0) (aj (pv 1) au))) aG (fun _ _=>rfl)) au)))
   (aH (aR (bB (nD rfl) (by rfl) D.bQ bJ (aj (pv 2) au)))))),?_⟩
  intro fd hfd
  have s1:Same H (upd H fd (.dK [])):=Same.new hfd
  exact⟨_,rfl,_,rfl,v,th,tb,d,rfl,dv.mono (Same.tups s1),t7,rd.jg s1,no,fun H' s=>k H' (s1.trans s)⟩
end
end K12
end
section
set_option autoImplicit false
namespace L2
open PySem PyProof.Rows
theorem uO{X:Cx}{K:PySem.W.Frag}(hK:X.K=K):dU X (.builtin "isinstance") (fun xs H Q=>∃(ea C tp:Addr) (cs:List Addr) (b:Bool),xs=[.ref ea,.ref tp]∧H ea=some (qI ea C)∧XIn K C∧H tp=some (.tup (cs.map V.ref))∧PySem.W.kitAny K (.ref C) (cs.map Value.ref)=some b∧Q (.bl b) H):=by subst hK; exact yj
end L2
namespace K12
open PySem PyProof.Rows L2
section
variable {P:Program}{w:World}{K:PySem.W.Frag}{mg:Str→Option Value}{base:Heap}{t:Adr}
def Az(t:Adr):Sp:=fun vs H _ E=>∃(n:Int) (v th hv dv:V) (tb:List B.Row) (d:PyData),vs=[.int n,v,th,hv,dv]∧Dp H (B.xq tb) v∧tb.length≤7∧RdV H th d∧NoK (B.kns tb) d∧∀ H',Same H H'→E (.ref t.bG) none H'
theorem Gp(D:Defs K mg t)(CS:wF K mg t):aU P w K mg base (CXe P w) 5 t.gO.1 t.gO.2 ["_law_door","_law_table_here","_law_kind","_law_home","_law_deed"] (Az t):=by
 have G_found:aU P w K mg base (CXe P w) 4 t.found.1 t.found.2 _ (yQ t):=CW D CS
 have G_behind:aU P w K mg base (CXe P w) 4 t.behind.1 t.behind.2 _ (vI t):=zF D CS
 have G_new_fields:aU P w K mg base (CXe P w) 4 t.fH.1 t.fH.2 _ (qw t):=Ii D CS
 refine D.gO.fn.okX vZ (fun vs H Q E h=>?_) (fun cdv A outer s H vs Q E hr h=>?_)
 ·obtain ⟨n,v,th,hv,dv,tb,d,rfl,_⟩:=h
  rfl
 ·obtain ⟨n,v,th,hv,dv,tb,d,rfl,dt,t7,rd,no,k⟩:=h
  refine⟨_,(aC (cC (bF j9 (pv 0) aG (bK _))
   (aH (aR (jN D.found G_found (hr.mono (by omega)) (by rfl) iD (aj (pv 1) (aj (pv 2) (aj (pv 4) au))))))
   bx)
   (aC (cC (bF j9 (pv 0) aG (bK _))
   (aH (aR (jN D.behind G_behind (hr.mono (by omega)) (by rfl) iD (aj (pv 1) (aj (pv 2) (aj (pv 3) (aj (pv 4) au)))))))
   bx)
   (aH (aR (jN D.fH G_new_fields (hr.mono (by omega)) (by rfl) iD (aj (pv 1) (aj (pv 2) au))))))),?_⟩
  refine⟨_,rfl,rfl,_,rfl,jJ (fun hb=>?_) (fun hb=>?_)⟩
  ·exact⟨_,rfl,_,rfl,_,rfl,v,th,dv,tb,d,rfl,dt,t7,rd,no,k⟩
  refine⟨_,rfl,rfl,_,rfl,jJ (fun hb=>?_) (fun hb=>?_)⟩
  ·exact⟨_,rfl,_,rfl,_,rfl,_,rfl,v,th,hv,dv,tb,d,rfl,dt,t7,rd,no,k⟩
  ·exact⟨_,rfl,_,rfl,v,th,tb,d,rfl,dt,t7,rd,no,k⟩
def vG:Sp:=fun vs H Q _=>∃(n:Int) (v th hv dv:V) (tb:List B.Row) (d:PyData),vs=[.int n,v,th,hv,dv]∧Dp H (B.xq tb) v∧tb.length≤7∧RdV H th d∧NoK (B.kns tb) d∧∀ H',Same H H'→Q (.bl true) H'
theorem Ag(D:Defs K mg t)(CS:wF K mg t):aU P w K mg base CX0 6 t.dF.1 t.dF.2 ["_law_door","_law_table_here","_law_kind","_law_home","_law_deed"] vG:=by
 have G__law_look:aU P w K mg base (CXe P w) 5 t.gO.1 t.gO.2 _ (Az t):=Gp D CS
 refine D.dF.fn.ok fV (fun vs H Q E h=>?_) (fun cdv A outer s H vs Q E hr h=>?_)
 ·obtain ⟨n,v,th,hv,dv,tb,d,rfl,_⟩:=h
  rfl
 ·obtain ⟨n,v,th,hv,dv,tb,d,rfl,dt,t7,rd,no,k⟩:=h
  refine⟨_,(aC (aP (i:=5) fV.nd rfl (Or.inl rfl) gk)
   (aC (K3 D.gO G__law_look (hr.mono (by omega)) (by rfl) (aj (pv 0) (aj (pv 1) (aj (pv 2) (aj (pv 3) (aj (pv 4) au))))) ⟨rfl,rfl⟩
   (Ji (i:=6) (by rfl) CS.zP fV.nd rfl rfl (fun ea=>(aC (aP (i:=5) fV.nd rfl (Or.inl rfl) (iW (aK (zM (K:=K) rfl) (by rfl) D.bh bf (aj (pv 6) (aj (iC (v:=V.ref t.bG) (by rfl) CS.nk.m rfl) au))) (jx (aK (wk (K:=K) rfl) (by rfl) D.bh bf (aj (pv 6) (aj (dY (v:=V.ty "ValueError") rfl D.wZ uN rfl) au))))))
   (aH (aP (i:=5) fV.nd rfl (Or.inl rfl) (iW (pv 5) (jx (Fd (aK (uO (K:=K) rfl) (by rfl) D.bh bf (aj (pv 6) (aj (cY (aj (iC (v:=V.ref t.jd) (by rfl) CS.Em rfl) (aj (iC (v:=V.ref t.gQ) (by rfl) CS.Ab rfl) (aj (iC (v:=V.ref t.je) (by rfl) CS.CT rfl) (aj (iC (v:=V.ref t.iT) (by rfl) CS.Dc rfl) (aj (iC (v:=V.ref t.jG) (by rfl) CS.Gs rfl) (aj (iC (v:=V.ref t.iU) (by rfl) CS.Ea rfl) (aj (iC (v:=V.ref t.fJ) (by rfl) CS.yF rfl) au)))))))) au))))))))))
   Kp))
   (aH (aR (pv 5))))),?_⟩
  refine⟨_,rfl,_,rfl,_,rfl,_,rfl,_,rfl,n,v,th,hv,dv,tb,d,rfl,dt,t7,rd,no,fun H2 s2=>?_⟩
  refine⟨_,rfl,true,CS.x_k,jR rfl fun ea hea=>?_⟩
  have s3:Same H (upd H2 ea (qI ea t.bG)):=s2.trans (Same.new hea)
  have he3:(upd H2 ea (qI ea t.bG)) ea=some (qI ea t.bG):=ak
  generalize upd H2 ea (qI ea t.bG)=H3 at s3 he3
  refine⟨_,rfl,ea,t.bG,t.bG,true,rfl,he3,CS.nk.i,CS.Fl,_,rfl,dZ ⟨_,rfl,ea,t.bG,"ValueError",true,rfl,he3,CS.nk.i,CS.v_k,?_⟩⟩
  refine⟨_,rfl,_,rfl,dZ ⟨_,rfl,by show 7≤sizeLine; decide,fun tp htp=>?_⟩⟩
  have s4:∀ o,Same H3 (upd H3 tp o):=fun o=>Same.new htp
  refine⟨ea,t.bG,tp,[t.jd,t.gQ,t.je,t.iT,t.jG,t.iU,t.fJ],false,rfl,s4 _ ea _ he3,CS.nk.i,ak,CS.a_k,_,rfl,?_⟩
  exact⟨_,rfl,k _ (s3.trans (s4 _))⟩
end
end K12
end
section
set_option autoImplicit false
namespace K12
open PySem PyProof.Rows L2
def is3:List PyData→Bool
 | [.int _,.int _,.int _]=>true
 | _=>false
mutual
def n3:PyData→Bool
 | .list xs=>!is3 xs && n3A xs
 | .tuple xs=>n3A xs
 | .dict kvs=>n3K kvs
 | _=>true
def n3A:List PyData→Bool
 | []=>true
 | x::xs=>n3 x && n3A xs
def n3K:List (PyData × PyData)→Bool
 | []=>true
 | (_,v)::r=>n3 v && n3K r
end
theorem BX:∀(ks:List PyData) (ds:List PyData),ks.length=ds.length→n3K (ks.zip ds)=n3A ds
 | [],[],_=>by simp [n3K,n3A]
 | k::ks,d::ds,h=>by
  have ih:=BX ks ds (by simpa using h)
  simp [n3K,n3A,ih]
 | [],_::_,h=>nomatch h
 | _::_,[],h=>nomatch h
mutual
theorem RdV.off{H H':Hp}{p:Addr}(hp:Pu H p)(o:Off p H H'):∀ {v:V} {d:PyData},RdV H v d→n3 d=true→RdV H' v d
 | _,_,.non,_=>.non
 | _,_,.bl b,_=>.bl b
 | _,_,.int i,_=>.int i
 | _,_,.str x,_=>.str x
 | _,_,.tup e q,h=>.tup (DQ hp o _ _ e) (RdA.off hp o q (by rw [n3] at h; exact h))
 | _,_,.lst (xs:=xs) (ds:=ds) e q,h=>by
  rw [n3,Bool.and_eq_true] at h
  refine .lst (o _ _ (fun z=>?_) e) (RdA.off hp o q h.2)
  obtain ⟨x1,x2,x3,ep⟩:=hp
  rw [z,ep] at e
  injection e with e
  injection e with e
  rw [← e] at q
  have h3:is3 ds=true:=by
   cases q with
   | cons q1 q=>
    cases q with
    | cons q2 q=>
     cases q with
     | cons q3 q=>
      cases q
      cases q1
      cases q2
      cases q3
      rfl
  rw [h3] at h
  exact absurd h.1 (by decide)
 | _,_,.dct (kvs:=kvs) (ds:=ds) e q,h=>by
  rw [n3,BX _ _ (by rw [List.length_map,← q.length,List.length_map])] at h
  refine .dct (o _ _ (fun z=>?_) e) (RdA.off hp o q h)
  obtain ⟨x1,x2,x3,ep⟩:=hp
  rw [z,ep] at e
  cases e
theorem RdA.off{H H':Hp}{p:Addr}(hp:Pu H p)(o:Off p H H'):∀ {vs:List V} {ds:List PyData},RdA H vs ds→n3A ds=true→RdA H' vs ds
 | _,_,.nil,_=>.nil
 | _,_,.cons q r,h=>by
  rw [n3A,Bool.and_eq_true] at h
  exact .cons (RdV.off hp o q h.1) (RdA.off hp o r h.2)
end
mutual
theorem Hs:∀ t:T,n3 (toD t)=true
 | .non=>by rw [toD,n3] <;> simp
 | .int i=>by rw [toD,n3] <;> simp
 | .str x=>by rw [toD,n3] <;> simp
 | .tup ts=>by rw [toD,n3]; exact Br ts
theorem Br:∀ ts:List T,n3A (mJ ts)=true
 | []=>by rw [mJ,n3A]
 | t::ts=>by rw [mJ,n3A,Hs t,Br ts]; rfl
end
def Odd(H:Hp)(v:V):Prop:=∃ d,RdV H v d∧n3 d=true
section
variable {P:Program}{w:World}{K:PySem.W.Frag}{mg:Str→Option Value}{base:Heap}{t:Adr}
def Eo:Sp:=fun vs H Q _=>∃(p:Addr),vs=[.ref p]∧Pu H p∧∀(v:V) (d:PyData) H',RdV H' v d→n3 d=true→Off p H H'→Pu H' p→Q v H'
theorem Fe(D:Defs K mg t):aU P w K mg base CX0 2 t.fU.1 t.fU.2 ["_law_purse_here"] Eo:=by
 have G__law_take:aU P w K mg base CX0 1 t.aL.1 t.aL.2 _ jB:=jc D
 refine D.fU.fn.ok iI (fun vs H Q E h=>?_) (fun cdv A outer s H vs Q E hr h=>?_)
 ·obtain ⟨p,rfl,_⟩:=h
  rfl
 ·obtain ⟨p,rfl,hp,k⟩:=h
  refine⟨_,(@aC _ _ _ _ _ (@aP _ _ 1 _ _ _ _ iI.nd rfl (Or.inl rfl) (@cD _ _ _ _ (@aj _ _ _ _ _ mW (@aj _ _ _ _ _ gk (@aj _ _ _ _ _ gk (@aj _ _ _ _ _ aG (@aj _ _ _ _ _ aG (@aj _ _ _ _ _ (Bm wB aG) (@aj _ _ _ _ _ (@cY _ _ _ _ _ (@aj _ _ _ _ _ (@cD _ _ _ _ (@aj _ _ _ _ _ dg au (by rfl))) au (by rfl))) (@aj _ _ _ _ _ dg (@aj _ _ _ _ _ dg (@aj _ _ _ _ _ dg (@aj _ _ _ _ _ dg (@aj _ _ _ _ _ dg (@aj _ _ _ _ _ dg (@aj _ _ _ _ _ (@cY _ _ _ _ _ au) (@aj _ _ _ _ _ (@cY _ _ _ _ _ (@aj _ _ _ _ _ dg au (by rfl))) (@aj _ _ _ _ _ (@cY _ _ _ _ _ (@aj _ _ _ _ _ dg (@aj _ _ _ _ _ dg au (by rfl)) (by rfl))) au (by rfl)) (by rfl)) (by rfl)) (by rfl)) (by rfl)) (by rfl)) (by rfl)) (by rfl)) (by rfl)) (by rfl)) (by rfl)) (by rfl)) (by rfl)) (by rfl)) (by rfl)) (by rfl))) (by rfl) (by first | exact .inl rfl | exact .inr rfl))
   (@aC _ _ _ _ _ (aP (i:=2) iI.nd rfl (Or.inl rfl) (@aJ _ _ _ _ _ _ _ _ _ _ _ _ _ D.aL G__law_take (hr.mono (by omega)) (by rfl) (@aj _ _ _ _ _ (pv 0) (@aj _ _ _ _ _ (@bD _ _ _ _ _ _ _ _ fu (@aK _ _ _ _ _ _ _ _ _ aY (by rfl) D.d7 cF (@aj _ _ _ _ _ (pv 1) au (by rfl)) (by decide) (by decide) (by rfl) (by rfl)) aG) au (by rfl)) (by rfl)) (by decide) (by rfl) (by rfl)))
   (@aC _ _ _ _ _ (@cC _ _ _ _ _ _ _ _ (bF qX (pv 2) (@aK _ _ _ _ _ _ _ _ _ aY (by rfl) D.d7 cF (@aj _ _ _ _ _ (pv 1) au (by rfl)) (by decide) (by decide) (by rfl) (by rfl)) (bK _))
   (@aH _ _ _ (@aR _ _ _ _ (@aZ _ _ _ _ _ _ _ bT (pv 1) (pv 2) (fun _ _=>rfl))))
   bx)
   (@aC _ _ _ _ _ (aP (i:=3) iI.nd rfl (Or.inl rfl) (@cY _ _ _ _ _ au))
   (@aC _ _ _ _ _ (gZ PassesOwn.never rfl (jm rfl D.lN (@aj _ _ _ _ _ aG au (by rfl))) (aQ (i:=4) iI.nd rfl (Or.inl rfl))
   (@aH _ _ _ (aP (i:=3) iI.nd rfl (Or.inl rfl) (@cY _ _ _ _ _ (@aj _ _ _ _ _ (pv 3) au (by rfl))))))
   (@aH _ _ _ (@aR _ _ _ _ (@aZ _ _ _ _ _ _ _ bT (@cD _ _ _ _ (@aj _ _ _ _ _ (@cD _ _ _ _ au) (@aj _ _ _ _ _ (@cD _ _ _ _ (@aj _ _ _ _ _ dg au (by rfl))) (@aj _ _ _ _ _ jt (@aj _ _ _ _ _ (Im (Hw dg aG Iv) rfl rfl (by intro z; cases z) (by decide)) (@aj _ _ _ _ _ (pv 3) (@aj _ _ _ _ _ (@cD _ _ _ _ (@aj _ _ _ _ _ (pv 3) au (by rfl))) au (by rfl)) (by rfl)) (by rfl)) (by rfl)) (by rfl)) (by rfl))) (@bD _ _ _ _ _ _ _ _ lY (pv 2) (@aK _ _ _ _ _ _ _ _ _ aY (by rfl) D.d7 cF (@aj _ _ _ _ _ (pv 1) au (by rfl)) (by decide) (by decide) (by rfl) (by rfl))) (fun _ _=>rfl))))))))),?_⟩
  refine⟨1,rfl,by show 1≤sizeLine; decide,fun a1 ha1=>⟨by show 1≤sizeLine; decide,fun t1 ht1=>⟨Nat.zero_le _,fun t2 ht2=>⟨by show 1≤sizeLine; decide,fun t3 ht3=>⟨by show 2≤sizeLine; decide,fun t4 ht4=>⟨by show 16≤sizeLine; decide,fun m hm=>?_⟩⟩⟩⟩⟩⟩
  have s1:=(Same.new (o:=.lst [.str "a"]) ha1).trans (Same.new (o:=.tup [.ref a1]) ht1)
  have e1:(upd (upd H a1 (.lst [.str "a"])) t1 (.tup [.ref a1])) t1=some (.tup [.ref a1]):=ak
  have ea1:(upd (upd H a1 (.lst [.str "a"])) t1 (.tup [.ref a1])) a1=some (.lst [.str "a"]):=by rw [aA (aB ak ht1),ak]
  generalize upd (upd H a1 (.lst [.str "a"])) t1 (.tup [.ref a1])=H1 at s1 e1 ea1 ht2 ht3 ht4 hm ⊢
  have s2:Same H1 (upd H1 t2 (.tup [])):=Same.new ht2
  have e2:(upd H1 t2 (.tup [])) t2=some (.tup []):=ak
  generalize upd H1 t2 (.tup [])=H2 at s2 e2 ht3 ht4 hm ⊢
  have s3:Same H2 (upd H2 t3 (.tup [.str "a"])):=Same.new ht3
  have e3:(upd H2 t3 (.tup [.str "a"])) t3=some (.tup [.str "a"]):=ak
  generalize upd H2 t3 (.tup [.str "a"])=H3 at s3 e3 ht4 hm ⊢
  have s4:Same H3 (upd H3 t4 (.tup [.str "a",.str "a"])):=Same.new ht4
  have e4:(upd H3 t4 (.tup [.str "a",.str "a"])) t4=some (.tup [.str "a",.str "a"]):=ak
  generalize upd H3 t4 (.tup [.str "a",.str "a"])=H4 at s4 e4 hm ⊢
  generalize hvs:[V.non,V.bl true,V.bl false,V.int 0,V.int 1,V.int (-1),V.ref t1,V.str "",V.str "a",V.str "A",V.str "a1",V.str "abcdefg",V.str "a b",V.ref t2,V.ref t3,V.ref t4]=vs
  have hvl:vs.length=16:=by rw [← hvs]; rfl
  have hvh:∀ i:Nat,i < 16→∃ v,vs[i]?=some v∧Odd H4 v:=fun i hi=>by
   have z1:Odd H4 (.ref t1):=⟨_,.tup (s4 _ _ (s3 _ _ (s2 _ _ e1))) (.cons (.lst (s4 _ _ (s3 _ _ (s2 _ _ ea1))) (.cons (.str "a") .nil)) .nil),by simp [n3,n3A,is3]⟩
   have z2:Odd H4 (.ref t2):=⟨_,.tup (s4 _ _ (s3 _ _ e2)) .nil,by simp [n3,n3A]⟩
   have z3:Odd H4 (.ref t3):=⟨_,.tup (s4 _ _ e3) (.cons (.str "a") .nil),by simp [n3,n3A]⟩
   have z4:Odd H4 (.ref t4):=⟨_,.tup e4 (.cons (.str "a") (.cons (.str "a") .nil)),by simp [n3,n3A]⟩
   rw [← hvs]
   rcases (by omega:i=0∨i=1∨i=2∨i=3∨i=4∨i=5∨i=6∨i=7∨i=8∨i=9∨i=10∨i=11∨i=12∨i=13∨i=14∨i=15) with rfl | rfl | rfl | rfl | rfl | rfl | rfl | rfl | rfl | rfl | rfl | rfl | rfl | rfl | rfl | rfl
   ·exact⟨_,rfl,_,.non,by simp [n3]⟩
   ·exact⟨_,rfl,_,.bl _,by simp [n3]⟩
   ·exact⟨_,rfl,_,.bl _,by simp [n3]⟩
   ·exact⟨_,rfl,_,.int _,by simp [n3]⟩
   ·exact⟨_,rfl,_,.int _,by simp [n3]⟩
   ·exact⟨_,rfl,_,.int _,by simp [n3]⟩
   ·exact⟨_,rfl,z1⟩
   ·exact⟨_,rfl,_,.str _,by simp [n3]⟩
   ·exact⟨_,rfl,_,.str _,by simp [n3]⟩
   ·exact⟨_,rfl,_,.str _,by simp [n3]⟩
   ·exact⟨_,rfl,_,.str _,by simp [n3]⟩
   ·exact⟨_,rfl,_,.str _,by simp [n3]⟩
   ·exact⟨_,rfl,_,.str _,by simp [n3]⟩
   ·exact⟨_,rfl,z2⟩
   ·exact⟨_,rfl,z3⟩
   ·exact⟨_,rfl,z4⟩
  have s04:=s1.trans (s2.trans (s3.trans s4))
  have p4:Pu H4 p:=hp.same s04
  clear s1 s2 s3 s4 e1 e2 e3 e4 ea1 hvs
  have pm:p≠m:=p4.neN hm
  have s5:Same H4 (upd H4 m (.lst vs)):=Same.new hm
  have p5:Pu (upd H4 m (.lst vs)) p:=p4.aA pm
  have hm5:(upd H4 m (.lst vs)) m=some (.lst vs):=ak
  generalize upd H4 m (.lst vs)=H5 at s5 p5 hm5
  refine⟨_,rfl,_,rfl,m,_,rfl,.inl (SqL.of hm5),_,_,rfl,rfl,p,_,rfl,p5,by rw [hvl]; decide,by rw [hvl]; decide,fun r a b c l u=>?_⟩
  have u:r < 22:=by rw [hvl] at u; exact u
  have o6:Off p H5 (upd H5 p (.lst [.int a,.int b,.int c])):=Off.upd
  have p6:Pu (upd H5 p (.lst [.int a,.int b,.int c])) p:=Pu.upd
  have hm6:=o6 m _ pm.symm hm5
  have o46:Off p H4 (upd H5 p (.lst [.int a,.int b,.int c])):=s5.off.trans o6
  generalize upd H5 p (.lst [.int a,.int b,.int c])=H6 at o6 p6 hm6 o46
  refine⟨_,rfl,_,rfl,m,_,rfl,.inl (SqL.of hm6),_,_,rfl,rfl,_,rfl,jJ (fun hb=>?_) (fun hb=>?_)⟩
  ·have hb:r < 16:=by
    have:=of_decide_eq_true hb
    rw [hvl] at this
    exact this
   obtain ⟨j,rfl⟩:∃ j:Nat,r=(j:Int):=⟨r.toNat,by omega⟩
   obtain ⟨v,ev,d,rd,nd⟩:=hvh j (by omega)
   refine⟨_,rfl,_,rfl,m,_,_,_,rfl,rfl,SqL.of hm6,aV ev,?_⟩
   exact k v d H6 (K12.RdV.off p4 o46 rd nd) nd (s04.off.trans o46) p6
  ·have hb:¬ r < 16:=fun h=>hb (decide_eq_true (by rw [hvl]; exact h))
   refine⟨Nat.zero_le _,fun d hd=>?_⟩
   refine⟨_,rfl,by decide,by decide,?_⟩
   have pd:p≠d:=p6.neN hd
   refine nG (lo:=0) (n:=(24:Int).toNat) (fun i σ H2=>∃(q:Addr) (v4:Option V),σ=[some (.ref p),some (.ref m),some (.int r),some (.ref q),v4]∧Odd H2 (.ref q)∧Same H6 H2)
    ⟨d,_,rfl,⟨_,.tup ak .nil,by simp [n3,n3A]⟩,Same.new hd⟩ ?_ ?_
   ·rintro i σ H2 hi ⟨q,v4,rfl,⟨dq,rq,nq⟩,s2⟩
    refine⟨_,rfl,by show 1≤sizeLine; decide,fun q2 hq2=>?_⟩
    exact⟨q2,_,rfl,⟨_,.tup ak (.cons (rq.jg (Same.new hq2)) .nil),by simp [n3,n3A,nq]⟩,s2.trans (Same.new hq2)⟩
   ·rintro σ H2 ⟨q,v4,rfl,⟨dq,rq,nq⟩,s2⟩
    refine⟨Nat.zero_le _,fun l1 hl1=>⟨by show 1≤sizeLine; decide,fun l2 hl2=>fun d1 hd1=>fun d2 hd2=>?_⟩⟩
    have sa:Same H2 (upd (upd H2 l1 (.lst [])) l2 (.lst [.str "a"])):=(Same.new hl1).trans (Same.new hl2)
    have f1:(upd (upd H2 l1 (.lst [])) l2 (.lst [.str "a"])) l1=some (.lst []):=by rw [aA (aB ak hl2),ak]
    have f2:(upd (upd H2 l1 (.lst [])) l2 (.lst [.str "a"])) l2=some (.lst [.str "a"]):=ak
    generalize upd (upd H2 l1 (.lst [])) l2 (.lst [.str "a"])=H3 at sa f1 f2 hd1 hd2 ⊢
    have sb:Same H3 (upd H3 d1 (.dK [])):=Same.new hd1
    have f3:(upd H3 d1 (.dK [])) d1=some (.dK []):=ak
    generalize upd H3 d1 (.dK [])=H4' at sb f3 hd2 ⊢
    refine⟨ak,[(.inr "a",.int 1)],rfl,by decide,?_⟩
    rw [bR]
    have sc:Same H4' (upd H4' d2 (.dK (dH [] [(.inr "a",.int 1)]))):=Same.new hd2
    have f4:(upd H4' d2 (.dK (dH [] [(.inr "a",.int 1)]))) d2=some (.dK (dH [] [(.inr "a",.int 1)])):=ak
    generalize upd H4' d2 (.dK (dH [] [(.inr "a",.int 1)]))=H5' at sc f4 ⊢
    refine⟨_,rfl,_,rfl,by show 1≤sizeLine; decide,fun l3 hl3=>?_⟩
    have sd:Same H5' (upd H5' l3 (.lst [.ref q])):=Same.new hl3
    have f5:(upd H5' l3 (.lst [.ref q])) l3=some (.lst [.ref q]):=ak
    generalize upd H5' l3 (.lst [.ref q])=H6' at sd f5 ⊢
    refine⟨by show 6≤sizeLine; decide,fun l4 hl4=>?_⟩
    have se:Same H6' (upd H6' l4 (.lst [.ref l1,.ref l2,.ref d1,.ref d2,.ref q,.ref l3])):=Same.new hl4
    have f6:(upd H6' l4 (.lst [.ref l1,.ref l2,.ref d1,.ref d2,.ref q,.ref l3])) l4=some (.lst [.ref l1,.ref l2,.ref d1,.ref d2,.ref q,.ref l3]):=ak
    generalize upd H6' l4 (.lst [.ref l1,.ref l2,.ref d1,.ref d2,.ref q,.ref l3])=H7' at se f6 ⊢
    have sall:=s2.trans (sa.trans (sb.trans (sc.trans (sd.trans se))))
    have rq7:=rq.jg (sa.trans (sb.trans (sc.trans (sd.trans se))))
    obtain ⟨v,ev,d,rv,nv⟩:∃ v,atI [V.ref l1,.ref l2,.ref d1,.ref d2,.ref q,.ref l3] (r - 16)=some v∧Odd H7' v:=by
     have g1:=se _ _ (sd _ _ (sc _ _ (sb _ _ f1)))
     have g2:=se _ _ (sd _ _ (sc _ _ (sb _ _ f2)))
     have g3:=se _ _ (sd _ _ (sc _ _ f3))
     have g4:=se _ _ (sd _ _ f4)
     have g5:=se _ _ f5
     rcases (by omega:r=16∨r=17∨r=18∨r=19∨r=20∨r=21) with rfl | rfl | rfl | rfl | rfl | rfl
     ·exact⟨_,aV (j:=0) rfl,_,.lst g1 .nil,by simp [n3,n3A,is3]⟩
     ·exact⟨_,aV (j:=1) rfl,_,.lst g2 (.cons (.str "a") .nil),by simp [n3,n3A,is3]⟩
     ·exact⟨_,aV (j:=2) rfl,_,.dct g3 .nil,by simp [n3,n3K]⟩
     ·exact⟨_,aV (j:=3) rfl,_,.dct g4 (.cons (.int 1) .nil),by simp [dH,putK,n3,n3K]⟩
     ·exact⟨_,aV (j:=4) rfl,_,rq7,nq⟩
     ·exact⟨_,aV (j:=5) rfl,_,.lst g5 (.cons rq7 .nil),by simp [n3,n3A,is3,nq]⟩
    refine⟨_,rfl,_,rfl,m,_,rfl,.inl (SqL.of (sall _ _ hm6)),_,_,rfl,rfl,l4,_,_,_,rfl,rfl,SqL.of f6,by rw [hvl]; exact ev,?_⟩
    exact k v d H7' rv nv ((s04.off.trans o46).trans sall.off) (p6.same sall)
end
end K12
end
section
set_option autoImplicit false
namespace K12
open PySem PyProof.Rows L2
section
variable {P:Program}{w:World}{K:PySem.W.Frag}{mg:Str→Option Value}{base:Heap}{t:Adr}
def yu:Sp:=fun vs H Q _=>∃(p:Addr) (v:V) (tb:List B.Row),vs=[.ref p,v]∧Pu H p∧Dp H (B.xq tb) v∧B.qx tb∧1≤tb.length∧∀(th:V) (d:PyData) H',RdV H' th d→n3 d=true→Off p H H'→Pu H' p→Q th H'
theorem DG(D:Defs K mg t):aU P w K mg base CX0 3 t.dI.1 t.dI.2 ["_law_purse_here","_law_table_here"] yu:=by
 have G__law_take:aU P w K mg base CX0 1 t.aL.1 t.aL.2 _ jB:=jc D
 have G__law_odd:aU P w K mg base CX0 2 t.fU.1 t.fU.2 _ Eo:=Fe D
 have hz:sizeLine=16777216:=sizeLine_eq
 refine D.dI.fn.ok fQ (fun vs H Q E h=>?_) (fun cdv A outer s H vs Q E hr h=>?_)
 ·obtain ⟨p,v,tb,rfl,_⟩:=h
  rfl
 ·obtain ⟨p,v,tb,rfl,hp,dv,gt,tb1,k⟩:=h
  have t7:=gt.len
  refine⟨_,(aC (aP (i:=2) fQ.nd rfl (Or.inl rfl) (aJ D.aL G__law_take (hr.mono (by omega)) (by rfl) (aj (pv 0) (aj aG au))))
   (aC (aP (i:=3) fQ.nd rfl (Or.inl rfl) (aZ dG (pv 1) (aJ D.aL G__law_take (hr.mono (by omega)) (by rfl) (aj (pv 0) (aj (aK aY (by rfl) D.d7 cF (aj (pv 1) au)) au))) (fun _ _=>rfl)))
   (aC (aP (i:=4) fQ.nd rfl (Or.inl rfl) (aJ D.aL G__law_take (hr.mono (by omega)) (by rfl) (aj (pv 0) (aj (aK lX (by rfl) D.d7 cF (aj (aZ dG (pv 3) aG (fun _ _=>rfl)) au)) au))))
   (aC (aP (i:=5) fQ.nd rfl (Or.inl rfl) (aZ zR dg (aJ D.aL G__law_take (hr.mono (by omega)) (by rfl) (aj (pv 0) (aj aG au))) (fun _ _=>rfl)))
   (aC (cC (bF qX (pv 2) aG (bK _))
   (aH (aR (aZ bT (cD (aj (bD fK (aZ dG (pv 3) aG (fun _ _=>rfl)) (pv 5)) (aj (bD fK (bZ lW (aZ dG (pv 3) aG (fun _ _=>rfl)) dh (cI (pv 4))) (bZ lW (aZ dG (pv 3) aG (fun _ _=>rfl)) (cI (bD fu (pv 4) aG)) dh)) (aj (bD fK (bD fK (bZ lW (aZ dG (pv 3) aG (fun _ _=>rfl)) dh (cI (pv 4))) (pv 5)) (bZ lW (aZ dG (pv 3) aG (fun _ _=>rfl)) (cI (bD fu (pv 4) aG)) dh)) au)))) (pv 2) (fun _ _=>rfl))))
   bx)
   (aC (cC (bF qX (pv 2) aG (bK _))
   (aH (aR (aZ bT (cD (aj (cY (aj (aZ dG (pv 3) aG (fun _ _=>rfl)) au)) (aj (cD (aj (aZ dG (pv 3) aG (fun _ _=>rfl)) au)) (aj (pv 3) au)))) (bD lY (pv 2) aG) (fun _ _=>rfl))))
   bx)
   (aH (aR (aJ D.fU G__law_odd (hr.mono (by omega)) (by rfl) (aj (pv 0) au)))))))))),?_⟩
  obtain ⟨a,xs,rfl,ha,dl⟩:=L2.Dp.cA dv
  have hxl:xs.length=tb.length:=by have:=dl.length; rwa [List.length_map] at this
  refine⟨_,rfl,p,7,rfl,hp,by decide,by decide,fun r1 a1 b1 c1 l1 u1=>?_⟩
  have ha1:(upd H p (.lst [.int a1,.int b1,.int c1])) a=some (.tup xs):=DQ hp Off.upd a _ ha
  refine⟨_,rfl,_,rfl,_,rfl,a,_,rfl,.inr (SqT.of ha1),p,_,rfl,Pu.upd,by omega,by omega,fun r2 a2 b2 c2 l2 u2=>?_⟩
  rw [bR]
  have o2:Off p H (upd H p (.lst [.int a2,.int b2,.int c2])):=Off.upd
  have p2:Pu (upd H p (.lst [.int a2,.int b2,.int c2])) p:=Pu.upd
  have t2:=DQ hp o2
  generalize upd H p (.lst [.int a2,.int b2,.int c2])=H2 at o2 p2 t2
  have e2:((r2.toNat:Nat):Int)=r2:=Int.toNat_of_nonneg l2
  have h2:r2.toNat < tb.length:=by omega
  obtain ⟨y,ey,dy⟩:=(dl.mono t2).get (i:=r2.toNat) (t:=B.uL tb[r2.toNat]) (by rw [List.getElem?_map,List.getElem?_eq_getElem h2]; rfl)
  obtain ⟨n1,n6,nl⟩:=gt.kl _ (List.getElem_mem h2)
  obtain ⟨q,zs,rfl,hq,dz⟩:=L2.Dp.cA dy
  obtain ⟨z0,zr,rfl,d0,_⟩:=DpL.cases (t:=.str (tb[r2.toNat]).kind) dz
  obtain rfl:=d0.jA
  generalize hkx:(tb[r2.toNat]).kind=x at n1 n6 nl hq
  refine⟨a,xs,r2,_,rfl,rfl,SqT.of (t2 a _ ha),by rw [← e2]; exact aV ey,?_⟩
  refine⟨_,rfl,_,rfl,q,_,_,_,rfl,rfl,SqT.of hq,aV (j:=0) rfl,x,rfl,by omega,p,_,rfl,p2,by omega,by omega,fun r3 a3 b3 c3 l3 u3=>?_⟩
  refine⟨_,rfl,p,26,rfl,Pu.upd,by decide,by decide,fun r4 a4 b4 c4 l4 u4=>?_⟩
  rw [bR]
  have o4:Off p H2 (upd H2 p (.lst [.int a4,.int b4,.int c4])):=Off.upd
  have p4:Pu (upd H2 p (.lst [.int a4,.int b4,.int c4])) p:=Pu.upd
  have t4:=DQ p2 o4
  generalize upd H2 p (.lst [.int a4,.int b4,.int c4])=H4 at o4 p4 t4
  obtain ⟨cc,ec,_,_⟩:=oX (xs:=abc.cps.toList) l4 (by rw [Array.length_toList,pL]; exact u4)
  refine⟨abc,_,cc,rfl,rfl,by decide +kernel,ec,?_⟩
  have hq4:=t4 q _ hq
  have sl:∀ lo hi,(Txt.slice x lo hi).length≤6:=fun lo hi=>Nat.le_trans (nM x lo hi) n6
  have sa1:=sl none (some r3)
  have sa2:=sl (some (r3+1)) none
  refine⟨_,rfl,_,_,rfl,rfl,_,rfl,jJ (fun hb=>?_) (fun hb=>?_)⟩
  ·have hb:r1 < 3:=of_decide_eq_true hb
   refine⟨_,rfl,q,_,_,_,rfl,rfl,SqT.of hq4,aV (j:=0) rfl,_,rfl,_,_,rfl,rfl,by show x.length+1≤_; omega,?_⟩
   refine⟨_,rfl,q,_,_,_,rfl,rfl,SqT.of hq4,aV (j:=0) rfl,_,rfl,_,rfl,x,rfl,by omega,_,rfl,q,_,_,_,rfl,rfl,SqT.of hq4,aV (j:=0) rfl,_,rfl,_,_,rfl,rfl,_,rfl,x,rfl,by omega,_,_,rfl,rfl,by omega,?_⟩
   refine⟨_,rfl,q,_,_,_,rfl,rfl,SqT.of hq4,aV (j:=0) rfl,_,rfl,_,rfl,x,rfl,by omega,_,rfl,_,_,rfl,rfl,by show _+1≤_; omega,_,rfl,q,_,_,_,rfl,rfl,SqT.of hq4,aV (j:=0) rfl,_,rfl,_,_,rfl,rfl,_,rfl,x,rfl,by omega,_,_,rfl,rfl,by rw [gD]; show _+1+_≤_; omega,?_⟩
   refine⟨by show 3≤sizeLine; decide,fun L hL=>?_⟩
   have o5:Off p H4 (upd H4 L (.lst [.str (x++⟨#[cc]⟩),.str (Txt.slice x none (some r3)++Txt.slice x (some (r3+1)) none),.str (Txt.slice x none (some r3)++⟨#[cc]⟩++Txt.slice x (some (r3+1)) none)])):=Off.new hL
   obtain ⟨z,hz',htm,_⟩:=oX (xs:=[V.str (x++⟨#[cc]⟩),V.str (Txt.slice x none (some r3)++Txt.slice x (some (r3+1)) none),V.str (Txt.slice x none (some r3)++⟨#[cc]⟩++Txt.slice x (some (r3+1)) none)]) l1 (by show r1 < 3; exact hb)
   have hzs:∃ s,z=.str s:=by
    simp only [List.mem_cons,List.not_mem_nil,or_false] at htm
    rcases htm with rfl | rfl | rfl <;> exact⟨_,rfl⟩
   obtain ⟨s',rfl⟩:=hzs
   exact⟨_,rfl,L,_,_,_,rfl,rfl,SqL.of ak,hz',k (.str s') _ _ (.str s') (by simp [n3]) ((o2.trans o4).trans o5) (p4.aA (p4.neN hL))⟩
  refine⟨_,rfl,_,_,rfl,rfl,_,rfl,jJ (fun hb5=>?_) (fun hb5=>?_)⟩
  ·have hb5:r1 < 6:=of_decide_eq_true hb5
   have hb:¬ r1 < 3:=fun h=>hb (decide_eq_true h)
   refine⟨_,rfl,q,_,_,_,rfl,rfl,SqT.of hq4,aV (j:=0) rfl,by show 1≤sizeLine; decide,fun q5 hq5=>?_⟩
   have s5:Same H4 (upd H4 q5 (.tup [.str x])):=Same.new hq5
   have k5:(upd H4 q5 (.tup [.str x])) q5=some (.tup [.str x]):=ak
   generalize upd H4 q5 (.tup [.str x])=H5 at s5 k5
   refine⟨_,rfl,q,_,_,_,rfl,rfl,SqT.of (s5 q _ hq4),aV (j:=0) rfl,by show 1≤sizeLine; decide,fun l6 hl6=>?_⟩
   have s6:Same H5 (upd H5 l6 (.lst [.str x])):=Same.new hl6
   have k6:(upd H5 l6 (.lst [.str x])) l6=some (.lst [.str x]):=ak
   generalize upd H5 l6 (.lst [.str x])=H6 at s6 k6
   refine⟨_,rfl,by show 3≤sizeLine; decide,fun L hL=>?_⟩
   have s7:Same H6 (upd H6 L (.lst [.ref q5,.ref l6,.ref q])):=Same.new hL
   have k7:(upd H6 L (.lst [.ref q5,.ref l6,.ref q])) L=some (.lst [.ref q5,.ref l6,.ref q]):=ak
   generalize upd H6 L (.lst [.ref q5,.ref l6,.ref q])=H7 at s7 k7
   have s47:=(s5.trans s6).trans s7
   have oo:=(o2.trans o4).trans s47.off
   have pp:=p4.same s47
   rcases (by omega:r1=3∨r1=4∨r1=5) with rfl | rfl | rfl
   ·exact⟨_,rfl,_,_,rfl,rfl,L,_,_,_,rfl,rfl,SqL.of k7,aV (j:=0) rfl,k _ _ H7 (.tup ((s6.trans s7) q5 _ k5) (.cons (.str x) .nil)) (by simp [n3,n3A]) oo pp⟩
   ·exact⟨_,rfl,_,_,rfl,rfl,L,_,_,_,rfl,rfl,SqL.of k7,aV (j:=1) rfl,k _ _ H7 (.lst (s7 l6 _ k6) (.cons (.str x) .nil)) (by simp [n3,n3A,is3]) oo pp⟩
   ·exact⟨_,rfl,_,_,rfl,rfl,L,_,_,_,rfl,rfl,SqL.of k7,aV (j:=2) rfl,k _ _ H7 (L2.Dp.rd (dy.mono (t4.trans (Same.tups s47)))) (Hs _) oo pp⟩
  ·exact⟨_,rfl,p,rfl,p4,fun v d H5 rd nd o5 p5=>k v d H5 rd nd ((o2.trans o4).trans o5) p5⟩
end
end K12
end
section
set_option autoImplicit false
namespace K12
open PySem PyProof.Rows L2
theorem ig{p:Addr}{H H1 H2:Hp}(s:Same H H1)(o:L2.Off p H1 H2)(hp:H p=none):Same H H2:=fun b u e=>o b u (aB e hp) (s b u e)
theorem SqL.keep{K:PySem.W.Frag}{H H':Hp}{a:Addr}{xs:List V}(h:SqL K H a xs)(k:∀ o,H a=some o→H' a=some o):SqL K H' a xs:=by
 rcases h with (h | ⟨o,h⟩) | h
 ·exact .inl (.inl (k _ h))
 ·exact .inl (.inr ⟨o,k _ h⟩)
 ·exact .inr h
section
variable {P:Program}{w:World}{K:PySem.W.Frag}{mg:Str→Option Value}{base:Heap}{t:Adr}
def BZ(K:PySem.W.Frag):Sp:=fun vs H Q _=>∃(a:Addr) (ns:List Int),vs=[.ref a,.int 2,.int 3,.int 8]∧SqL K H a (ns.map V.int)∧ns.length≤63∧∀(l:Addr) (ms:List Int) H',H' l=some (.lst (ms.map V.int))→ms.length≤8→H l=none→Same H H'→Q (.ref l) H'
theorem Et(D:Defs K mg t):aU P w K mg base CX0 2 t.fO.1 t.fO.2 ["_law_script","_law_first","_law_least","_law_most"] (BZ K):=by
 have G__law_cell:aU P w K mg base CX0 1 t.dN.1 t.dN.2 _ (Ae K):=Bv D
 have hz:sizeLine=16777216:=sizeLine_eq
 refine D.fO.fn.ok oA (fun vs H Q E h=>?_) (fun cdv A outer s H vs Q E hr h=>?_)
 ·obtain ⟨a,ns,rfl,_⟩:=h
  rfl
 ·obtain ⟨a,ns,rfl,hS,hl,k⟩:=h
  refine⟨_,(aC (aP (i:=4) oA.nd rfl (Or.inl rfl) (aK (nJ rfl) (by rfl) D.Cq wQ (aj (pv 2) (aj (aK (vq rfl) (by rfl) D.JQ Gn (aj (pv 3) (aj (bD lY (aK aY (by rfl) D.d7 cF (aj (pv 0) au)) (pv 1)) au))) au))))
   (aH (aR (bH rfl (aM.of ["_law_k"] [0,1] ["_law_k","_law_script","_law_first"] (aq (top 51)) ["_law_script","_law_first","_law_least","_law_most","_law_many"] rfl rfl (by decide +kernel)) ⟨fun _ _ _ _ _=>(aQ (i:=0) (show List.Nodup [("_law_k" : Str),("_law_script" : Str),("_law_first" : Str)] by decide +kernel) rfl (Or.inl (lookup_relabel_local rfl)) (.inr (lookup_relabel_local rfl))),fun _ _ _ _ _=>bN,fun _ _ _ _ _=>(aJ D.dN G__law_cell (hr.mono (by omega)) (by rfl) (aj (pv 1) (aj (bD fu (pv 2) (pv 0)) au)))⟩ (jm rfl D.lN (aj (pv 4) au)))))),?_⟩
  refine⟨_,rfl,_,rfl,_,rfl,a,_,rfl,.inl hS,_,rfl,_,_,rfl,rfl,_,_,rfl,_,_,rfl,?_⟩
  have hN:∃ N:Int,(if (if ((ns.map V.int).length:Int) - 2 < 8 then ((ns.map V.int).length:Int) - 2 else 8) > 3 then (if ((ns.map V.int).length:Int) - 2 < 8 then ((ns.map V.int).length:Int) - 2 else 8) else 3)=N∧0≤N∧N≤8:=by
   refine⟨_,rfl,?_,?_⟩ <;> (split <;> split <;> omega)
  obtain ⟨N,eN,hN0,hN12⟩:=hN
  rw [eN]
  refine⟨_,rfl,N,rfl,by omega,by omega,fun D1 hD1=>?_⟩
  have s1:∀ u,Same H (upd H D1 u):=fun u=>Same.new hD1
  refine bw (n:=N.toNat) (fun i ys H2=>∃ ms:List Int,ys=ms.map V.int∧ms.length=i∧H2 D1=some (.lst ys)∧Same H H2) ⟨[],rfl,rfl,ak,s1 _⟩ ?_ ?_
  ·rintro ys H2 ⟨ms,rfl,hm,hD2,s2⟩
   refine⟨Nat.le_refl _,?_⟩
   exact k D1 ms H2 hD2 (by omega) hD1 s2
  ·rintro i ys H2 hi ⟨ms,rfl,hm,hD2,s2⟩
   refine⟨hi,?_⟩
   rintro x H3 ⟨rfl,rfl⟩ σo ho
   obtain ⟨oo,rfl⟩:=own1 ho
   refine⟨⟨[_],rfl,rfl⟩,cV ⟨_,rfl,_,rfl,_,rfl,_,_,rfl,rfl,a,ns,_,rfl,K12.SqL.keep hS fun o e=>s2 a o e,hl,by omega,by omega,fun n H4 s4=>?_⟩⟩
   refine⟨by rw [List.length_map]; omega,s4 D1 _ hD2,aX hi ⟨ms++[n],by rw [List.map_append]; rfl,by rw [List.length_append,hm]; rfl,ak,fun b u e=>by rw [aA (aB e hD1)]; exact s4 b u (s2 b u e)⟩⟩
def Ce(K:PySem.W.Frag):Sp:=fun vs H Q _=>∃(a:Addr) (ns:List Int),vs=[.ref a]∧SqL K H a (ns.map V.int)∧ns.length≤63∧∀ H',Q (.bl true) H'
theorem Kw(D:Defs K mg t)(CS:wF K mg t)(GL:Glb mg):aU P w K mg base CX0 7 t.law.1 t.law.2 ["_law_script"] (Ce K):=by
 have G__law_take:aU P w K mg base CX0 1 t.aL.1 t.aL.2 _ jB:=jc D
 have G__law_purse:aU P w K mg base CX0 1 t.dR.1 t.dR.2 _ Bg:=Gi D
 have G__law_cell:aU P w K mg base CX0 1 t.dN.1 t.dN.2 _ (Ae K):=Bv D
 have G__law_cells:aU P w K mg base CX0 2 t.fO.1 t.fO.2 _ (BZ K):=Et D
 have G__law_names:aU P w K mg base CX0 3 t.cg.1 t.cg.2 _ rO:=uz D
 have G__law_table:aU P w K mg base CX0 4 t.fM.1 t.fM.2 _ B.Cy:=B.Gr D
 have G__law_made:aU P w K mg base CX0 6 t.gP.1 t.gP.2 _ Gv:=Jj D GL
 have G__law_no_kind:aU P w K mg base CX0 3 t.dI.1 t.dI.2 _ yu:=DG D
 have G__law_odd:aU P w K mg base CX0 2 t.fU.1 t.fU.2 _ Eo:=Fe D
 have G__law_refused:aU P w K mg base CX0 6 t.dF.1 t.dF.2 _ vG:=Ag D CS
 have hz:sizeLine=16777216:=sizeLine_eq
 refine D.law.fn.ok jl (fun vs H Q E h=>?_) (fun cdv A outer s H vs Q E hr h=>?_)
 ·obtain ⟨a,ns,rfl,_⟩:=h
  rfl
 ·obtain ⟨a,ns,rfl,hS,hl,k⟩:=h
  refine⟨_,(aC (cC (cW (cT (aJ D.gP G__law_made (hr.mono (by omega)) (by rfl) (aj (aJ D.dR G__law_purse (hr.mono (by omega)) (by rfl) (aj (aJ D.dN G__law_cell (hr.mono (by omega)) (by rfl) (aj (pv 0) (aj aG au))) au)) au))))
   (aH (aR gk))
   bx)
   (aC (aP (i:=1) jl.nd rfl (Or.inl rfl) (aJ D.dR G__law_purse (hr.mono (by omega)) (by rfl) (aj (aJ D.dN G__law_cell (hr.mono (by omega)) (by rfl) (aj (pv 0) (aj aG au))) au)))
   (aC (aP (i:=2) jl.nd rfl (Or.inl rfl) (bD fu aG (aJ D.aL G__law_take (hr.mono (by omega)) (by rfl) (aj (pv 1) (aj aG au)))))
   (aC (aP (i:=3) jl.nd rfl (Or.inl rfl) (aJ D.cg G__law_names (hr.mono (by omega)) (by rfl) (aj (pv 1) (aj (bD fu aG (aJ D.aL G__law_take (hr.mono (by omega)) (by rfl) (aj (pv 1) (aj aG au)))) (aj (cD au) au)))))
   (aC (aP (i:=4) jl.nd rfl (Or.inl rfl) (aJ D.fM G__law_table (hr.mono (by omega)) (by rfl) (aj (pv 1) (aj (pv 2) (aj (pv 3) (aj (pv 3) au))))))
   (aC (mj (i:=5) rfl jl.nd rfl (Or.inl rfl) (aM.of ["_law_row"] [] ["_law_row"] (aq (top 67)) ["_law_script","_law_purse_here","_law_many","_law_deeds","_law_table_here","_law_kinds","_law_cell_here","_law_door","_law_pick","_law_kind","_law_home","_law_deed"] rfl rfl (by decide +kernel)) ⟨fun _ _ _ _ _=>(aQ (i:=0) (show List.Nodup [("_law_row" : Str)] by decide +kernel) rfl (Or.inl (lookup_relabel_local rfl)) (.inr (lookup_relabel_local rfl))),fun _ _ _ _ _=>bN,fun _ _ _ _ _=>(aZ (dW (K:=K) rfl) (pv 0) aG (fun _ _=>rfl))⟩ (eY (pv 4)))
   (aC (gZ PassesOwn.never rfl (eZ (aJ D.fO G__law_cells (hr.mono (by omega)) (by rfl) (aj (pv 0) (aj aG (aj aG (aj aG au)))))) (aQ (i:=6) jl.nd rfl (Or.inl rfl))
   (aC (aP (i:=1) jl.nd rfl (Or.inl rfl) (aJ D.dR G__law_purse (hr.mono (by omega)) (by rfl) (aj (pv 6) au)))
   (aC (aP (i:=7) jl.nd rfl (Or.inl rfl) (aJ D.aL G__law_take (hr.mono (by omega)) (by rfl) (aj (pv 1) (aj aG au))))
   (aC (aP (i:=8) jl.nd rfl (Or.inl rfl) (aJ D.aL G__law_take (hr.mono (by omega)) (by rfl) (aj (pv 1) (aj aG au))))
   (aC (aP (i:=9) jl.nd rfl (Or.inl rfl) (aJ D.dI G__law_no_kind (hr.mono (by omega)) (by rfl) (aj (pv 1) (aj (pv 4) au))))
   (aC (aP (i:=10) jl.nd rfl (Or.inl rfl) (aZ bT (cD (aj (aZ bT (pv 5) (aJ D.aL G__law_take (hr.mono (by omega)) (by rfl) (aj (pv 1) (aj (pv 2) au))) (fun _ _=>rfl)) (aj (aJ D.fU G__law_odd (hr.mono (by omega)) (by rfl) (aj (pv 1) au)) au))) (pv 8) (fun _ _=>rfl)))
   (aC (aP (i:=11) jl.nd rfl (Or.inl rfl) (aZ bT (pv 3) (aJ D.aL G__law_take (hr.mono (by omega)) (by rfl) (aj (pv 1) (aj (aK aY (by rfl) D.d7 cF (aj (pv 3) au)) au))) (fun _ _=>rfl)))
   (aH (cC (PW.pt (Gm (bF (Ec (IK hr)) (pv 9) (pv 5) (by with_unfolding_all rfl)) (Bx (cW (cT (aJ D.dF G__law_refused (hr.mono (by omega)) (by rfl) (aj (pv 7) (aj (pv 4) (aj (pv 9) (aj (pv 10) (aj (pv 11) au)))))))))))
   (aH (aR gk))
   bx)))))))))
   (aH (aR gk))))))))),?_⟩
  refine⟨_,rfl,a,ns,0,rfl,hS,hl,by decide,by decide,fun z0 H1 s1=>⟨z0,rfl,fun p0 a0 b0 c0 hp0=>⟨p0,rfl,Pu.upd,fun H2 o2=>⟨_,rfl,fj ?_⟩⟩⟩⟩
  have hp0H:H p0=none:=by
   cases q:H p0 with
   | none=>rfl
   | some o=>rw [s1 p0 o q] at hp0; cases hp0
  have s2:Same H H2:=ig (s1.trans (Same.new hp0)) o2 hp0H
  refine⟨_,rfl,a,ns,1,rfl,K12.SqL.keep hS fun o e=>s2 a o e,hl,by decide,by decide,fun z1 H3 s3=>⟨z1,rfl,fun p a1 b1 c1 hp=>?_⟩⟩
  have s13:=s2.trans s3
  have hpH:H p=none:=by
   cases q:H p with
   | none=>rfl
   | some o=>rw [s13 p o q] at hp; cases hp
  have s4:Same H (upd H3 p (.lst [.int a1,.int b1,.int c1])):=s13.trans (Same.new hp)
  have p4:Pu (upd H3 p (.lst [.int a1,.int b1,.int c1])) p:=Pu.upd
  generalize upd H3 p (.lst [.int a1,.int b1,.int c1])=H4 at s4 p4
  refine⟨_,rfl,p,7,rfl,p4,by decide,by decide,fun r a2 b2 c2 l2 u2=>⟨_,_,rfl,rfl,?_⟩⟩
  have s5:=ig s4 (Off.upd (p:=p) (o:=.lst [.int a2,.int b2,.int c2])) hpH
  have p5:Pu (upd H4 p (.lst [.int a2,.int b2,.int c2])) p:=Pu.upd
  generalize upd H4 p (.lst [.int a2,.int b2,.int c2])=H5 at s5 p5
  obtain ⟨n,en,hn1,hn7⟩:∃ n:Nat,1+r=(n:Int)∧1≤n∧n≤7:=⟨(1+r).toNat,by omega,by omega,by omega⟩
  refine⟨_,rfl,_,rfl,p,3,rfl,p5,by decide,by decide,fun r4 a4 b4 c4 l4 u4=>⟨_,_,rfl,rfl,Nat.zero_le _,fun u hu=>?_⟩⟩
  have s6:=ig s5 (Off.upd (p:=p) (o:=.lst [.int a4,.int b4,.int c4])) hpH
  have p6:Pu (upd H5 p (.lst [.int a4,.int b4,.int c4])) p:=Pu.upd
  generalize upd H5 p (.lst [.int a4,.int b4,.int c4])=H6 at s6 p6 hu ⊢
  refine⟨p,u,[],1+r4,rfl,p6.aA (p6.neN hu),ak,by omega,by show 0+_≤25; omega,fun dl ds H7 _ hds _ _ hdl7 o7 p7=>?_⟩
  have s7:=ig (s6.trans (Same.new hu)) o7 hpH
  have dlp:dl≠p:=p7.ne hdl7
  refine⟨_,rfl,_,rfl,_,rfl,_,rfl,p,dl,dl,n,ds,ds,?_,p7,hn1,hn7,hdl7,by omega,hdl7,by omega,fun v tb H8 dv gt tbl o8 p8=>?_⟩
  ·show [V.ref p,V.int (1+r),V.ref dl,V.ref dl]=_
   rw [en]
  have s8:=ig s7 o8 hpH
  have hdl8:=o8 dl _ dlp hdl7
  have t7:=gt.len
  obtain ⟨ta,xs,rfl,hta,dxl⟩:=L2.Dp.cA dv
  have hxl:xs.length=tb.length:=by have:=dxl.length; rwa [List.length_map] at this
  refine⟨_,rfl,ta,rfl,⟨_,SqT.of hta⟩,fun kl hkl=>?_⟩
  have sk:∀ o,Same H8 (upd H8 kl o):=fun o=>Same.new hkl
  refine bw (n:=xs.length) (fun i ys H9=>ys=(B.kns (tb.take i)).map V.str∧H9=upd H8 kl (.lst ys)) ⟨rfl,rfl⟩ ?_ ?_
  rotate_left
  ·rintro i ys H9 hi ⟨rfl,rfl⟩
   have hir:i < tb.length:=by omega
   obtain ⟨y,ey,dy⟩:=dxl.get (i:=i) (t:=B.uL tb[i]) (by rw [List.getElem?_map,List.getElem?_eq_getElem hir]; rfl)
   refine⟨⟨_,_,SqT.of (sk _ ta _ hta),ey⟩,?_⟩
   rintro v HA ⟨rfl,yy⟩ σo ho
   obtain ⟨oo,rfl⟩:=own1 ho
   have ev:=yy _ (SqT.of (sk _ ta _ hta))
   rw [ey] at ev
   cases ev
   obtain ⟨q,zs,rfl,hq,dz⟩:=L2.Dp.cA (dy.mono (Same.tups (sk _)))
   obtain ⟨z0',zr,rfl,d0,_⟩:=DpL.cases (t:=.str (tb[i]).kind) dz
   obtain rfl:=d0.jA
   refine⟨⟨[_],rfl,rfl⟩,cV ⟨_,rfl,q,_,_,_,rfl,rfl,SqT.of hq,aV (j:=0) rfl,by unfold B.kns; rw [List.length_map,List.length_map,List.length_take]; omega,ak,aX hi ⟨?_,by rw [bR]⟩⟩⟩
   unfold B.kns
   rw [take_snoc hir,List.map_append,List.map_append]
   rfl
  rintro ys H9 ⟨rfl,rfl⟩
  rw [List.take_of_length_le (by omega)]
  refine⟨⟨_,SqT.of (sk _ ta _ hta),Nat.le_refl _⟩,?_⟩
  have s9:Same H (upd H8 kl (.lst ((B.kns tb).map V.str))):=s8.trans (sk _)
  have hkl9:(upd H8 kl (.lst ((B.kns tb).map V.str))) kl=some (.lst ((B.kns tb).map V.str)):=ak
  have hdl9:=sk (.lst ((B.kns tb).map V.str)) dl _ hdl8
  have dv9:=dv.mono (Same.tups (sk (.lst ((B.kns tb).map V.str))))
  generalize upd H8 kl (.lst ((B.kns tb).map V.str))=H9 at s9 hkl9 hdl9 dv9
  have kll:(B.kns tb).length=tb.length:=List.length_map _
  refine⟨_,rfl,a,ns,rfl,K12.SqL.keep hS fun o e=>s9 a o e,hl,fun cl ms HA hcl hcm _ sA=>?_⟩
  refine⟨cl,rfl,⟨_,SqL.of hcl⟩,mO (K:=K) (a:=cl) (xs:=ms.map V.int) (fun i σ HB=>∃(v1:Addr) (v6 v7 v8 v9 v10 v11:Option V),σ=[some (.ref a),some (.ref v1),some (.int (1+r)),some (.ref dl),some (.ref ta),some (.ref kl),v6,v7,v8,v9,v10,v11]∧Same HA HB)
   ⟨p,_,_,_,_,_,_,rfl,Same.refl HA⟩ (fun i σ HB _ ⟨_,_,_,_,_,_,_,_,sB⟩=>SqL.of (sB cl _ hcl)) ?_ ?_⟩
  ·rintro i z σ HB hi ⟨v1,v6,v7,v8,v9,v10,v11,rfl,sB⟩
   have m:z∈ms.map V.int:=List.mem_of_getElem? hi
   obtain ⟨zi,_,rfl⟩:=List.mem_map.mp m
   have sAB:=sA.trans sB
   refine⟨_,rfl,zi,rfl,fun pc a3 b3 c3 hpc=>?_⟩
   have sC:Same HB (upd HB pc (.lst [.int a3,.int b3,.int c3])):=Same.new hpc
   have pC:Pu (upd HB pc (.lst [.int a3,.int b3,.int c3])) pc:=Pu.upd
   generalize upd HB pc (.lst [.int a3,.int b3,.int c3])=HC at sC pC
   refine⟨_,rfl,pc,3,rfl,pC,by decide,by decide,fun rd a5 b5 c5 l5 u5=>?_⟩
   refine⟨_,rfl,pc,2,rfl,Pu.upd,by decide,by decide,fun rp a6 b6 c6 l6 u6=>?_⟩
   rw [bR]
   have sD:=ig sC (Off.upd (p:=pc) (o:=.lst [.int a6,.int b6,.int c6])) hpc
   have pD:Pu (upd HC pc (.lst [.int a6,.int b6,.int c6])) pc:=Pu.upd
   generalize upd HC pc (.lst [.int a6,.int b6,.int c6])=HD at sD pD
   have s9D:=sAB.trans sD
   refine⟨_,rfl,_,rfl,pc,.ref ta,tb,rfl,pD,dv9.mono (Same.tups s9D),gt,by omega,fun th d HE rth n3d oE pE=>?_⟩
   have sE:=ig sD oE hpc
   have s9E:=sAB.trans sE
   refine⟨_,rfl,_,rfl,_,rfl,pc,1+r,rfl,pE,by omega,by omega,fun rk a7 b7 c7 l7 u7=>?_⟩
   obtain ⟨kx,hkx,_,_⟩:=su (ns:=B.kns tb) l7 (by omega)
   have oF:Off pc HE (upd HE pc (.lst [.int a7,.int b7,.int c7])):=Off.upd
   have pF:Pu (upd HE pc (.lst [.int a7,.int b7,.int c7])) pc:=Pu.upd
   have rthF:=K12.RdV.off pE oF rth n3d
   generalize upd HE pc (.lst [.int a7,.int b7,.int c7])=HF at oF pF rthF
   have sF:=ig sE oF hpc
   have s9F:=sAB.trans sF
   refine⟨kl,_,_,_,rfl,rfl,SqL.of (s9F kl _ hkl9),hkx,_,rfl,pc,rfl,pF,fun ov od HG rov _ oG pG=>?_⟩
   have rthG:=K12.RdV.off pF oG rthF n3d
   have sG:=ig sF oG hpc
   refine⟨by show 2≤sizeLine; decide,fun L hL=>?_⟩
   have sH:Same HG (upd HG L (.lst [.str kx,ov])):=Same.new hL
   have kH:(upd HG L (.lst [.str kx,ov])) L=some (.lst [.str kx,ov]):=ak
   generalize upd HG L (.lst [.str kx,ov])=HH at sH kH
   obtain ⟨hv,ehv,_,_⟩:=oX (xs:=[V.str kx,ov]) l6 (by show rp < 2; exact u6)
   have pH:=pG.same sH
   have sBH:=sG.trans sH
   have s9H:=sAB.trans sBH
   have rthH:=rthG.jg sH
   refine⟨_,rfl,L,_,_,hv,rfl,rfl,SqL.of kH,ehv,?_⟩
   refine⟨_,rfl,_,rfl,_,rfl,dl,_,rfl,.inl (SqL.of (s9H dl _ hdl9)),pc,_,rfl,pH,by rw [List.length_map]; omega,by rw [List.length_map]; omega,fun rq a8 b8 c8 l8 u8=>?_⟩
   rw [List.length_map] at u8
   obtain ⟨dx,hdx,_,_⟩:=su (ns:=ds) l8 u8
   have oI:Off pc HH (upd HH pc (.lst [.int a8,.int b8,.int c8])):=Off.upd
   have rthI:=K12.RdV.off pH oI rthH n3d
   generalize upd HH pc (.lst [.int a8,.int b8,.int c8])=HI at oI rthI
   have sI:=ig sBH oI hpc
   have s9I:=sAB.trans sI
   refine⟨dl,_,_,_,rfl,rfl,SqL.of (s9I dl _ hdl9),hdx,?_⟩
   refine⟨_,rfl,_,rfl,kl,B.kns tb,d,rfl,SqL.of (s9I kl _ hkl9),rthI,_,rfl,?_⟩
   by_cases hin:∃ z,d=.str z∧z∈B.kns tb
   ·rw [if_pos rfl,iR hin]
    exact fj (fj ⟨pc,_,_,_,_,_,_,rfl,sB.trans sI⟩)
   ·rw [if_pos rfl,cR hin]
    refine dZ ⟨_,rfl,_,rfl,_,rfl,_,rfl,_,rfl,rd,.ref ta,th,hv,.str dx,tb,d,rfl,dv9.mono (Same.tups s9I),by omega,rthI,hin,fun HJ sJ=>⟨_,rfl,fj ?_⟩⟩
    exact⟨pc,_,_,_,_,_,_,rfl,(sB.trans sI).trans sJ⟩
  ·rintro σ HB ⟨v1,v6,v7,v8,v9,v10,v11,rfl,sB⟩
   exact k HB
end
end K12
end
section
set_option autoImplicit false
namespace K12
open PySem PyProof.Rows L2
theorem el1{α:Type}{C:List α→Prop}(h:∀ v0,C [v0]):∀ us:List α,us.length=1→C us
 | [v0],_=>h v0
theorem el2{α:Type}{C:List α→Prop}(h:∀ v0 v1,C [v0,v1]):∀ us:List α,us.length=2→C us
 | [v0,v1],_=>h v0 v1
theorem el3{α:Type}{C:List α→Prop}(h:∀ v0 v1 v2,C [v0,v1,v2]):∀ us:List α,us.length=3→C us
 | [v0,v1,v2],_=>h v0 v1 v2
theorem el4{α:Type}{C:List α→Prop}(h:∀ v0 v1 v2 v3,C [v0,v1,v2,v3]):∀ us:List α,us.length=4→C us
 | [v0,v1,v2,v3],_=>h v0 v1 v2 v3
theorem el5{α:Type}{C:List α→Prop}(h:∀ v0 v1 v2 v3 v4,C [v0,v1,v2,v3,v4]):∀ us:List α,us.length=5→C us
 | [v0,v1,v2,v3,v4],_=>h v0 v1 v2 v3 v4
theorem all_mk{l:PySem.W.OpenLaw}{w:World}{K:PySem.W.Frag}{h:Heap}{mg:Str→Option Value}{fa f0 f1 f2 f3 f4 f5 f6 f7 f8 f9 f10 f11 f12 f13 f14 f15 f16 f17 f18 f19 f20 f21 f22 f23 f24 f25 f26 f27 f28 f29 f30 f31 f32 f33 f34 f35 f36 f37 f38 f39 f40 f41 f42 f43 f44 f45 f46 f47 f48:Addr}{jk bG jd gQ je iT jG iU fJ:Addr}{dNoKind:ClassData}{tkLETTERS tkMOST_LETTERS tkMOST_KINDS tkMOST_NAMES tkMOST_BODY:Tok}(X:K.In h)(G:h.Ns mainGlobals mg)(hfa:mg "law" = some (.ref fa))
  {od0 an0 od1 an1 od2 an2 od3 an3 od4 an4 od5 an5 od6 an6 od7 an7 od8 an8 od9 an9 od10 an10 od11 an11 od12 an12 od13 an13 od14 an14 od15 an15 od16 an16 od17 an17 od18 an18 od19 an19 od20 an20 od21 an21 od22 an22 od23 an23 od24 an24 od25 an25 od26 an26 od27 an27 od28 an28 od29 an29 od30 an30 od31 an31 od32 an32 od33 an33 od34 an34 od35 an35 od36 an36 od37 an37 od38 an38 od39 an39 od40 an40 od41 an41 od42 an42 od43 an43 od44 an44 od45 an45 od46 an46 od47 an47 od48 an48:Option Addr} {sl0 sl1 sl2 sl3 sl4 sl5 sl6 sl7 sl8 sl9 sl10 sl11 sl12 sl13 sl14 sl15 sl16 sl17 sl18 sl19 sl20 sl21 sl22 sl23 sl24 sl25 sl26 sl27 sl28 sl29 sl30 sl31 sl32 sl33 sl34 sl35 sl36 sl37 sl38 sl39 sl40 sl41 sl42 sl43 sl44 sl45 sl46 sl47 sl48:Array (Option Value)} {oc0 kV0 dc0 pm0 cd0 ct0 oc1 kV1 dc1 pm1 cd1 ct1 oc2 kV2 dc2 pm2 cd2 ct2 oc3 kV3 dc3 pm3 cd3 ct3 oc4 kV4 dc4 pm4 cd4 ct4 oc5 kV5 dc5 pm5 cd5 ct5 oc6 kV6 dc6 pm6 cd6 ct6 oc7 kV7 dc7 pm7 cd7 ct7 oc8 kV8 dc8 pm8 cd8 ct8 oc9 kV9 dc9 pm9 cd9 ct9 oc10 kV10 dc10 pm10 cd10 ct10 oc11 kV11 dc11 pm11 cd11 ct11 oc12 kV12 dc12 pm12 cd12 ct12 oc13 kV13 dc13 pm13 cd13 ct13 oc14 kV14 dc14 pm14 cd14 ct14 oc15 kV15 dc15 pm15 cd15 ct15 oc16 kV16 dc16 pm16 cd16 ct16 oc17 kV17 dc17 pm17 cd17 ct17 oc18 kV18 dc18 pm18 cd18 ct18 oc19 kV19 dc19 pm19 cd19 ct19 oc20 kV20 dc20 pm20 cd20 ct20 oc21 kV21 dc21 pm21 cd21 ct21 oc22 kV22 dc22 pm22 cd22 ct22 oc23 kV23 dc23 pm23 cd23 ct23 oc24 kV24 dc24 pm24 cd24 ct24 oc25 kV25 dc25 pm25 cd25 ct25 oc26 kV26 dc26 pm26 cd26 ct26 oc27 kV27 dc27 pm27 cd27 ct27 oc28 kV28 dc28 pm28 cd28 ct28 oc29 kV29 dc29 pm29 cd29 ct29 oc30 kV30 dc30 pm30 cd30 ct30 oc31 kV31 dc31 pm31 cd31 ct31 oc32 kV32 dc32 pm32 cd32 ct32 oc33 kV33 dc33 pm33 cd33 ct33 oc34 kV34 dc34 pm34 cd34 ct34 oc35 kV35 dc35 pm35 cd35 ct35 oc36 kV36 dc36 pm36 cd36 ct36 oc37 kV37 dc37 pm37 cd37 ct37 oc38 kV38 dc38 pm38 cd38 ct38 oc39 kV39 dc39 pm39 cd39 ct39 oc40 kV40 dc40 pm40 cd40 ct40 oc41 kV41 dc41 pm41 cd41 ct41 oc42 kV42 dc42 pm42 cd42 ct42 oc43 kV43 dc43 pm43 cd43 ct43 oc44 kV44 dc44 pm44 cd44 ct44 oc45 kV45 dc45 pm45 cd45 ct45 oc46 kV46 dc46 pm46 cd46 ct46 oc47 kV47 dc47 pm47 cd47 ct47 oc48 kV48 dc48 pm48 cd48 ct48:Value}
  (a0:PySem.W.nsIn K mainGlobals "is_whole" = some (some (.ref f0))) (l0:K.lookup f0=some ⟨oc0,od0,.func (PySem.W.fnOf "is_whole" "is_whole" (aF (top 14)) (aD (top 14)) (aq (top 14)) .none kV0 dc0 pm0 an0 cd0 ct0),sl0⟩) (c0:PySem.W.codeIn K cd0 "is_whole" = true) (k0:PySem.W.keepIn K (.ref f0)=true)
  (a1:PySem.W.nsIn K mainGlobals "is_tuple_of" = some (some (.ref f1))) (l1:K.lookup f1=some ⟨oc1,od1,.func (PySem.W.fnOf "is_tuple_of" "is_tuple_of" (aF (top 15)) (aD (top 15)) (aq (top 15)) .none kV1 dc1 pm1 an1 cd1 ct1),sl1⟩) (c1:PySem.W.codeIn K cd1 "is_tuple_of" = true) (k1:PySem.W.keepIn K (.ref f1)=true)
  (a2:PySem.W.nsIn K mainGlobals "is_name" = some (some (.ref f2))) (l2:K.lookup f2=some ⟨oc2,od2,.func (PySem.W.fnOf "is_name" "is_name" (aF (top 16)) (aD (top 16)) (aq (top 16)) .none kV2 dc2 pm2 an2 cd2 ct2),sl2⟩) (c2:PySem.W.codeIn K cd2 "is_name" = true) (k2:PySem.W.keepIn K (.ref f2)=true)
  (a3:PySem.W.nsIn K mainGlobals "is_kind" = some (some (.ref f3))) (l3:K.lookup f3=some ⟨oc3,od3,.func (PySem.W.fnOf "is_kind" "is_kind" (aF (top 17)) (aD (top 17)) (aq (top 17)) .none kV3 dc3 pm3 an3 cd3 ct3),sl3⟩) (c3:PySem.W.codeIn K cd3 "is_kind" = true) (k3:PySem.W.keepIn K (.ref f3)=true)
  (a4:PySem.W.nsIn K mainGlobals "are_kinds" = some (some (.ref f4))) (l4:K.lookup f4=some ⟨oc4,od4,.func (PySem.W.fnOf "are_kinds" "are_kinds" (aF (top 18)) (aD (top 18)) (aq (top 18)) .none kV4 dc4 pm4 an4 cd4 ct4),sl4⟩) (c4:PySem.W.codeIn K cd4 "are_kinds" = true) (k4:PySem.W.keepIn K (.ref f4)=true)
  (a5:PySem.W.nsIn K mainGlobals "check_kind" = some (some (.ref f5))) (l5:K.lookup f5=some ⟨oc5,od5,.func (PySem.W.fnOf "check_kind" "check_kind" (aF (top 19)) (aD (top 19)) (aq (top 19)) .none kV5 dc5 pm5 an5 cd5 ct5),sl5⟩) (c5:PySem.W.codeIn K cd5 "check_kind" = true) (k5:PySem.W.keepIn K (.ref f5)=true)
  (a6:PySem.W.nsIn K mainGlobals "kinds_of" = some (some (.ref f6))) (l6:K.lookup f6=some ⟨oc6,od6,.func (PySem.W.fnOf "kinds_of" "kinds_of" (aF (top 20)) (aD (top 20)) (aq (top 20)) .none kV6 dc6 pm6 an6 cd6 ct6),sl6⟩) (c6:PySem.W.codeIn K cd6 "kinds_of" = true) (k6:PySem.W.keepIn K (.ref f6)=true)
  (a7:PySem.W.nsIn K mainGlobals "is_family" = some (some (.ref f7))) (l7:K.lookup f7=some ⟨oc7,od7,.func (PySem.W.fnOf "is_family" "is_family" (aF (top 21)) (aD (top 21)) (aq (top 21)) .none kV7 dc7 pm7 an7 cd7 ct7),sl7⟩) (c7:PySem.W.codeIn K cd7 "is_family" = true) (k7:PySem.W.keepIn K (.ref f7)=true)
  (a8:PySem.W.nsIn K mainGlobals "elders_first" = some (some (.ref f8))) (l8:K.lookup f8=some ⟨oc8,od8,.func (PySem.W.fnOf "elders_first" "elders_first" (aF (top 22)) (aD (top 22)) (aq (top 22)) .none kV8 dc8 pm8 an8 cd8 ct8),sl8⟩) (c8:PySem.W.codeIn K cd8 "elders_first" = true) (k8:PySem.W.keepIn K (.ref f8)=true)
  (a9:PySem.W.nsIn K mainGlobals "order_of" = some (some (.ref f9))) (l9:K.lookup f9=some ⟨oc9,od9,.func (PySem.W.fnOf "order_of" "order_of" (aF (top 24)) (aD (top 24)) (aq (top 24)) .none kV9 dc9 pm9 an9 cd9 ct9),sl9⟩) (c9:PySem.W.codeIn K cd9 "order_of" = true) (k9:PySem.W.keepIn K (.ref f9)=true)
  (a10:PySem.W.nsIn K mainGlobals "tell_orders" = some (some (.ref f10))) (l10:K.lookup f10=some ⟨oc10,od10,.func (PySem.W.fnOf "tell_orders" "tell_orders" (aF (top 25)) (aD (top 25)) (aq (top 25)) .none kV10 dc10 pm10 an10 cd10 ct10),sl10⟩) (c10:PySem.W.codeIn K cd10 "tell_orders" = true) (k10:PySem.W.keepIn K (.ref f10)=true)
  (a11:PySem.W.nsIn K mainGlobals "quarrel_among" = some (some (.ref f11))) (l11:K.lookup f11=some ⟨oc11,od11,.func (PySem.W.fnOf "quarrel_among" "quarrel_among" (aF (top 26)) (aD (top 26)) (aq (top 26)) .none kV11 dc11 pm11 an11 cd11 ct11),sl11⟩) (c11:PySem.W.codeIn K cd11 "quarrel_among" = true) (k11:PySem.W.keepIn K (.ref f11)=true)
  (a12:PySem.W.nsIn K mainGlobals "rows_by" = some (some (.ref f12))) (l12:K.lookup f12=some ⟨oc12,od12,.func (PySem.W.fnOf "rows_by" "rows_by" (aF (top 27)) (aD (top 27)) (aq (top 27)) .none kV12 dc12 pm12 an12 cd12 ct12),sl12⟩) (c12:PySem.W.codeIn K cd12 "rows_by" = true) (k12:PySem.W.keepIn K (.ref f12)=true)
  (a13:PySem.W.nsIn K mainGlobals "merge_rows" = some (some (.ref f13))) (l13:K.lookup f13=some ⟨oc13,od13,.func (PySem.W.fnOf "merge_rows" "merge_rows" (aF (top 28)) (aD (top 28)) (aq (top 28)) .none kV13 dc13 pm13 an13 cd13 ct13),sl13⟩) (c13:PySem.W.codeIn K cd13 "merge_rows" = true) (k13:PySem.W.keepIn K (.ref f13)=true)
  (a14:PySem.W.nsIn K mainGlobals "first_free" = some (some (.ref f14))) (l14:K.lookup f14=some ⟨oc14,od14,.func (PySem.W.fnOf "first_free" "first_free" (aF (top 29)) (aD (top 29)) (aq (top 29)) .none kV14 dc14 pm14 an14 cd14 ct14),sl14⟩) (c14:PySem.W.codeIn K cd14 "first_free" = true) (k14:PySem.W.keepIn K (.ref f14)=true)
  (a15:PySem.W.nsIn K mainGlobals "ring_among" = some (some (.ref f15))) (l15:K.lookup f15=some ⟨oc15,od15,.func (PySem.W.fnOf "ring_among" "ring_among" (aF (top 30)) (aD (top 30)) (aq (top 30)) .none kV15 dc15 pm15 an15 cd15 ct15),sl15⟩) (c15:PySem.W.codeIn K cd15 "ring_among" = true) (k15:PySem.W.keepIn K (.ref f15)=true)
  (a16:PySem.W.nsIn K mainGlobals "hold_of" = some (some (.ref f16))) (l16:K.lookup f16=some ⟨oc16,od16,.func (PySem.W.fnOf "hold_of" "hold_of" (aF (top 31)) (aD (top 31)) (aq (top 31)) .none kV16 dc16 pm16 an16 cd16 ct16),sl16⟩) (c16:PySem.W.codeIn K cd16 "hold_of" = true) (k16:PySem.W.keepIn K (.ref f16)=true)
  (a17:PySem.W.nsIn K mainGlobals "is_table" = some (some (.ref f17))) (l17:K.lookup f17=some ⟨oc17,od17,.func (PySem.W.fnOf "is_table" "is_table" (aF (top 35)) (aD (top 35)) (aq (top 35)) .none kV17 dc17 pm17 an17 cd17 ct17),sl17⟩) (c17:PySem.W.codeIn K cd17 "is_table" = true) (k17:PySem.W.keepIn K (.ref f17)=true)
  (a18:PySem.W.nsIn K mainGlobals "family_of" = some (some (.ref f18))) (l18:K.lookup f18=some ⟨oc18,od18,.func (PySem.W.fnOf "family_of" "family_of" (aF (top 36)) (aD (top 36)) (aq (top 36)) .none kV18 dc18 pm18 an18 cd18 ct18),sl18⟩) (c18:PySem.W.codeIn K cd18 "family_of" = true) (k18:PySem.W.keepIn K (.ref f18)=true)
  (a19:PySem.W.nsIn K mainGlobals "is_order" = some (some (.ref f19))) (l19:K.lookup f19=some ⟨oc19,od19,.func (PySem.W.fnOf "is_order" "is_order" (aF (top 37)) (aD (top 37)) (aq (top 37)) .none kV19 dc19 pm19 an19 cd19 ct19),sl19⟩) (c19:PySem.W.codeIn K cd19 "is_order" = true) (k19:PySem.W.keepIn K (.ref f19)=true)
  (a20:PySem.W.nsIn K mainGlobals "has_good_rest" = some (some (.ref f20))) (l20:K.lookup f20=some ⟨oc20,od20,.func (PySem.W.fnOf "has_good_rest" "has_good_rest" (aF (top 38)) (aD (top 38)) (aq (top 38)) .none kV20 dc20 pm20 an20 cd20 ct20),sl20⟩) (c20:PySem.W.codeIn K cd20 "has_good_rest" = true) (k20:PySem.W.keepIn K (.ref f20)=true)
  (a21:PySem.W.nsIn K mainGlobals "are_few_names" = some (some (.ref f21))) (l21:K.lookup f21=some ⟨oc21,od21,.func (PySem.W.fnOf "are_few_names" "are_few_names" (aF (top 39)) (aD (top 39)) (aq (top 39)) .none kV21 dc21 pm21 an21 cd21 ct21),sl21⟩) (c21:PySem.W.codeIn K cd21 "are_few_names" = true) (k21:PySem.W.keepIn K (.ref f21)=true)
  (a22:PySem.W.nsIn K mainGlobals "is_body_number" = some (some (.ref f22))) (l22:K.lookup f22=some ⟨oc22,od22,.func (PySem.W.fnOf "is_body_number" "is_body_number" (aF (top 40)) (aD (top 40)) (aq (top 40)) .none kV22 dc22 pm22 an22 cd22 ct22),sl22⟩) (c22:PySem.W.codeIn K cd22 "is_body_number" = true) (k22:PySem.W.keepIn K (.ref f22)=true)
  (a23:PySem.W.nsIn K mainGlobals "are_deeds" = some (some (.ref f23))) (l23:K.lookup f23=some ⟨oc23,od23,.func (PySem.W.fnOf "are_deeds" "are_deeds" (aF (top 41)) (aD (top 41)) (aq (top 41)) .none kV23 dc23 pm23 an23 cd23 ct23),sl23⟩) (c23:PySem.W.codeIn K cd23 "are_deeds" = true) (k23:PySem.W.keepIn K (.ref f23)=true)
  (a24:PySem.W.nsIn K mainGlobals "is_deed" = some (some (.ref f24))) (l24:K.lookup f24=some ⟨oc24,od24,.func (PySem.W.fnOf "is_deed" "is_deed" (aF (top 42)) (aD (top 42)) (aq (top 42)) .none kV24 dc24 pm24 an24 cd24 ct24),sl24⟩) (c24:PySem.W.codeIn K cd24 "is_deed" = true) (k24:PySem.W.keepIn K (.ref f24)=true)
  (a25:PySem.W.nsIn K mainGlobals "row_at" = some (some (.ref f25))) (l25:K.lookup f25=some ⟨oc25,od25,.func (PySem.W.fnOf "row_at" "row_at" (aF (top 43)) (aD (top 43)) (aq (top 43)) .none kV25 dc25 pm25 an25 cd25 ct25),sl25⟩) (c25:PySem.W.codeIn K cd25 "row_at" = true) (k25:PySem.W.keepIn K (.ref f25)=true)
  (a26:PySem.W.nsIn K mainGlobals "own_body" = some (some (.ref f26))) (l26:K.lookup f26=some ⟨oc26,od26,.func (PySem.W.fnOf "own_body" "own_body" (aF (top 44)) (aD (top 44)) (aq (top 44)) .none kV26 dc26 pm26 an26 cd26 ct26),sl26⟩) (c26:PySem.W.codeIn K cd26 "own_body" = true) (k26:PySem.W.keepIn K (.ref f26)=true)
  (a27:PySem.W.nsIn K mainGlobals "look_along" = some (some (.ref f27))) (l27:K.lookup f27=some ⟨oc27,od27,.func (PySem.W.fnOf "look_along" "look_along" (aF (top 45)) (aD (top 45)) (aq (top 45)) .none kV27 dc27 pm27 an27 cd27 ct27),sl27⟩) (c27:PySem.W.codeIn K cd27 "look_along" = true) (k27:PySem.W.keepIn K (.ref f27)=true)
  (a28:PySem.W.nsIn K mainGlobals "found" = some (some (.ref f28))) (l28:K.lookup f28=some ⟨oc28,od28,.func (PySem.W.fnOf "found" "found" (aF (top 46)) (aD (top 46)) (aq (top 46)) .none kV28 dc28 pm28 an28 cd28 ct28),sl28⟩) (c28:PySem.W.codeIn K cd28 "found" = true) (k28:PySem.W.keepIn K (.ref f28)=true)
  (a29:PySem.W.nsIn K mainGlobals "behind" = some (some (.ref f29))) (l29:K.lookup f29=some ⟨oc29,od29,.func (PySem.W.fnOf "behind" "behind" (aF (top 47)) (aD (top 47)) (aq (top 47)) .none kV29 dc29 pm29 an29 cd29 ct29),sl29⟩) (c29:PySem.W.codeIn K cd29 "behind" = true) (k29:PySem.W.keepIn K (.ref f29)=true)
  (a30:PySem.W.nsIn K mainGlobals "new_fields" = some (some (.ref f30))) (l30:K.lookup f30=some ⟨oc30,od30,.func (PySem.W.fnOf "new_fields" "new_fields" (aF (top 48)) (aD (top 48)) (aq (top 48)) .none kV30 dc30 pm30 an30 cd30 ct30),sl30⟩) (c30:PySem.W.codeIn K cd30 "new_fields" = true) (k30:PySem.W.keepIn K (.ref f30)=true)
  (a31:PySem.W.nsIn K mainGlobals "_law_cell" = some (some (.ref f31))) (l31:K.lookup f31=some ⟨oc31,od31,.func (PySem.W.fnOf "_law_cell" "_law_cell" (aF (top 50)) (aD (top 50)) (aq (top 50)) .none kV31 dc31 pm31 an31 cd31 ct31),sl31⟩) (c31:PySem.W.codeIn K cd31 "_law_cell" = true) (k31:PySem.W.keepIn K (.ref f31)=true)
  (a32:PySem.W.nsIn K mainGlobals "_law_cells" = some (some (.ref f32))) (l32:K.lookup f32=some ⟨oc32,od32,.func (PySem.W.fnOf "_law_cells" "_law_cells" (aF (top 51)) (aD (top 51)) (aq (top 51)) .none kV32 dc32 pm32 an32 cd32 ct32),sl32⟩) (c32:PySem.W.codeIn K cd32 "_law_cells" = true) (k32:PySem.W.keepIn K (.ref f32)=true)
  (a33:PySem.W.nsIn K mainGlobals "_law_purse" = some (some (.ref f33))) (l33:K.lookup f33=some ⟨oc33,od33,.func (PySem.W.fnOf "_law_purse" "_law_purse" (aF (top 52)) (aD (top 52)) (aq (top 52)) .none kV33 dc33 pm33 an33 cd33 ct33),sl33⟩) (c33:PySem.W.codeIn K cd33 "_law_purse" = true) (k33:PySem.W.keepIn K (.ref f33)=true)
  (a34:PySem.W.nsIn K mainGlobals "_law_take" = some (some (.ref f34))) (l34:K.lookup f34=some ⟨oc34,od34,.func (PySem.W.fnOf "_law_take" "_law_take" (aF (top 53)) (aD (top 53)) (aq (top 53)) .none kV34 dc34 pm34 an34 cd34 ct34),sl34⟩) (c34:PySem.W.codeIn K cd34 "_law_take" = true) (k34:PySem.W.keepIn K (.ref f34)=true)
  (a35:PySem.W.nsIn K mainGlobals "_law_word" = some (some (.ref f35))) (l35:K.lookup f35=some ⟨oc35,od35,.func (PySem.W.fnOf "_law_word" "_law_word" (aF (top 54)) (aD (top 54)) (aq (top 54)) .none kV35 dc35 pm35 an35 cd35 ct35),sl35⟩) (c35:PySem.W.codeIn K cd35 "_law_word" = true) (k35:PySem.W.keepIn K (.ref f35)=true)
  (a36:PySem.W.nsIn K mainGlobals "_law_names" = some (some (.ref f36))) (l36:K.lookup f36=some ⟨oc36,od36,.func (PySem.W.fnOf "_law_names" "_law_names" (aF (top 55)) (aD (top 55)) (aq (top 55)) .none kV36 dc36 pm36 an36 cd36 ct36),sl36⟩) (c36:PySem.W.codeIn K cd36 "_law_names" = true) (k36:PySem.W.keepIn K (.ref f36)=true)
  (a37:PySem.W.nsIn K mainGlobals "_law_some" = some (some (.ref f37))) (l37:K.lookup f37=some ⟨oc37,od37,.func (PySem.W.fnOf "_law_some" "_law_some" (aF (top 56)) (aD (top 56)) (aq (top 56)) .none kV37 dc37 pm37 an37 cd37 ct37),sl37⟩) (c37:PySem.W.codeIn K cd37 "_law_some" = true) (k37:PySem.W.keepIn K (.ref f37)=true)
  (a38:PySem.W.nsIn K mainGlobals "_law_family" = some (some (.ref f38))) (l38:K.lookup f38=some ⟨oc38,od38,.func (PySem.W.fnOf "_law_family" "_law_family" (aF (top 57)) (aD (top 57)) (aq (top 57)) .none kV38 dc38 pm38 an38 cd38 ct38),sl38⟩) (c38:PySem.W.codeIn K cd38 "_law_family" = true) (k38:PySem.W.keepIn K (.ref f38)=true)
  (a39:PySem.W.nsIn K mainGlobals "_law_merge" = some (some (.ref f39))) (l39:K.lookup f39=some ⟨oc39,od39,.func (PySem.W.fnOf "_law_merge" "_law_merge" (aF (top 58)) (aD (top 58)) (aq (top 58)) .none kV39 dc39 pm39 an39 cd39 ct39),sl39⟩) (c39:PySem.W.codeIn K cd39 "_law_merge" = true) (k39:PySem.W.keepIn K (.ref f39)=true)
  (a40:PySem.W.nsIn K mainGlobals "_law_elders" = some (some (.ref f40))) (l40:K.lookup f40=some ⟨oc40,od40,.func (PySem.W.fnOf "_law_elders" "_law_elders" (aF (top 59)) (aD (top 59)) (aq (top 59)) .none kV40 dc40 pm40 an40 cd40 ct40),sl40⟩) (c40:PySem.W.codeIn K cd40 "_law_elders" = true) (k40:PySem.W.keepIn K (.ref f40)=true)
  (a41:PySem.W.nsIn K mainGlobals "_law_own" = some (some (.ref f41))) (l41:K.lookup f41=some ⟨oc41,od41,.func (PySem.W.fnOf "_law_own" "_law_own" (aF (top 60)) (aD (top 60)) (aq (top 60)) .none kV41 dc41 pm41 an41 cd41 ct41),sl41⟩) (c41:PySem.W.codeIn K cd41 "_law_own" = true) (k41:PySem.W.keepIn K (.ref f41)=true)
  (a42:PySem.W.nsIn K mainGlobals "_law_table" = some (some (.ref f42))) (l42:K.lookup f42=some ⟨oc42,od42,.func (PySem.W.fnOf "_law_table" "_law_table" (aF (top 61)) (aD (top 61)) (aq (top 61)) .none kV42 dc42 pm42 an42 cd42 ct42),sl42⟩) (c42:PySem.W.codeIn K cd42 "_law_table" = true) (k42:PySem.W.keepIn K (.ref f42)=true)
  (a43:PySem.W.nsIn K mainGlobals "_law_odd" = some (some (.ref f43))) (l43:K.lookup f43=some ⟨oc43,od43,.func (PySem.W.fnOf "_law_odd" "_law_odd" (aF (top 62)) (aD (top 62)) (aq (top 62)) .none kV43 dc43 pm43 an43 cd43 ct43),sl43⟩) (c43:PySem.W.codeIn K cd43 "_law_odd" = true) (k43:PySem.W.keepIn K (.ref f43)=true)
  (a44:PySem.W.nsIn K mainGlobals "_law_made" = some (some (.ref f44))) (l44:K.lookup f44=some ⟨oc44,od44,.func (PySem.W.fnOf "_law_made" "_law_made" (aF (top 63)) (aD (top 63)) (aq (top 63)) .none kV44 dc44 pm44 an44 cd44 ct44),sl44⟩) (c44:PySem.W.codeIn K cd44 "_law_made" = true) (k44:PySem.W.keepIn K (.ref f44)=true)
  (a45:PySem.W.nsIn K mainGlobals "_law_look" = some (some (.ref f45))) (l45:K.lookup f45=some ⟨oc45,od45,.func (PySem.W.fnOf "_law_look" "_law_look" (aF (top 64)) (aD (top 64)) (aq (top 64)) .none kV45 dc45 pm45 an45 cd45 ct45),sl45⟩) (c45:PySem.W.codeIn K cd45 "_law_look" = true) (k45:PySem.W.keepIn K (.ref f45)=true)
  (a46:PySem.W.nsIn K mainGlobals "_law_refused" = some (some (.ref f46))) (l46:K.lookup f46=some ⟨oc46,od46,.func (PySem.W.fnOf "_law_refused" "_law_refused" (aF (top 65)) (aD (top 65)) (aq (top 65)) .none kV46 dc46 pm46 an46 cd46 ct46),sl46⟩) (c46:PySem.W.codeIn K cd46 "_law_refused" = true) (k46:PySem.W.keepIn K (.ref f46)=true)
  (a47:PySem.W.nsIn K mainGlobals "_law_no_kind" = some (some (.ref f47))) (l47:K.lookup f47=some ⟨oc47,od47,.func (PySem.W.fnOf "_law_no_kind" "_law_no_kind" (aF (top 66)) (aD (top 66)) (aq (top 66)) .none kV47 dc47 pm47 an47 cd47 ct47),sl47⟩) (c47:PySem.W.codeIn K cd47 "_law_no_kind" = true) (k47:PySem.W.keepIn K (.ref f47)=true)
  (a48:PySem.W.nsIn K mainGlobals "law" = some (some (.ref f48))) (l48:K.lookup f48=some ⟨oc48,od48,.func (PySem.W.fnOf "law" "law" (aF (top 67)) (aD (top 67)) (aq (top 67)) .none kV48 dc48 pm48 an48 cd48 ct48),sl48⟩) (c48:PySem.W.codeIn K cd48 "law" = true) (k48:PySem.W.keepIn K (.ref f48)=true)
  (z0:PySem.W.nsIn K mainGlobals "abs" = some none) (z1:PySem.W.nsIn K mainGlobals "all" = some none) (z2:PySem.W.nsIn K mainGlobals "any" = some none) (z3:PySem.W.nsIn K mainGlobals "bool" = some none) (z4:PySem.W.nsIn K mainGlobals "dict" = some none) (z5:PySem.W.nsIn K mainGlobals "enumerate" = some none) (z6:PySem.W.nsIn K mainGlobals "int" = some none) (z7:PySem.W.nsIn K mainGlobals "isinstance" = some none) (z8:PySem.W.nsIn K mainGlobals "len" = some none) (z9:PySem.W.nsIn K mainGlobals "list" = some none) (z10:PySem.W.nsIn K mainGlobals "max" = some none) (z11:PySem.W.nsIn K mainGlobals "min" = some none) (z12:PySem.W.nsIn K mainGlobals "range" = some none) (z13:PySem.W.nsIn K mainGlobals "reversed" = some none) (z14:PySem.W.nsIn K mainGlobals "set" = some none) (z15:PySem.W.nsIn K mainGlobals "sorted" = some none) (z16:PySem.W.nsIn K mainGlobals "str" = some none) (z17:PySem.W.nsIn K mainGlobals "tuple" = some none) (z18:PySem.W.nsIn K mainGlobals "zip" = some none) (z19:PySem.W.nsIn K mainGlobals "ValueError" = some none)
  (y0:PySem.W.nsIn K mainGlobals "RowError" = some (some (.ref jk))) (y1:PySem.W.nsIn K mainGlobals "NoKind" = some (some (.ref bG))) (y2:PySem.W.nsIn K mainGlobals "NoOrder" = some (some (.ref jd))) (y3:PySem.W.nsIn K mainGlobals "NoChange" = some (some (.ref gQ))) (y4:PySem.W.nsIn K mainGlobals "NoShape" = some (some (.ref je))) (y5:PySem.W.nsIn K mainGlobals "NoField" = some (some (.ref iT))) (y6:PySem.W.nsIn K mainGlobals "NoText" = some (some (.ref jG))) (y7:PySem.W.nsIn K mainGlobals "NoLimit" = some (some (.ref iU))) (y8:PySem.W.nsIn K mainGlobals "NoWarming" = some (some (.ref fJ)))
  (x_exNoKind:PySem.W.excIn K bG [.type "ValueError",.type "Exception",.type "BaseException",.type "object"] "ValueError.__new__" = true)
  (x_gaNoKind:PySem.W.findIn K (.ref bG) "__getattribute__" = some (some (.builtin "BaseException.__getattribute__")))
  (x_hkNoKind:PySem.W.findIn K (.ref bG) "__getattr__" = some none)
  (x_caNoKind:PySem.W.findIn K (.ref bG) "__class__" = some (some (.builtin "object.__class__")))
  (x_obNoKind:PySem.W.mroIn K bG (.type "object")=some true)
  (x_beNoKind:PySem.W.mroIn K bG (.type "BaseException")=some true)
  (x_clNoKind:PySem.W.clsIn K bG=some dNoKind)
  (x_gt:PySem.W.specialIn K (.builtin "object.__class__") "__get__" = some (some (.builtin "getset_descriptor.__get__")))
  (x_tk:PySem.W.takesIn K (.builtin "object.__class__")=some true)
  (g_x_k:PySem.W.exmOne K (.ref bG) (.ref jk)=some true)
  (g_v_k:PySem.W.kitOne K (.ref bG) (.type "ValueError")=some true)
  (g_k_NoKind:PySem.W.kitOne K (.ref bG) (.ref bG)=some true)
  (g_a_k:PySem.W.kitAny K (.ref bG) [.ref jd,.ref gQ,.ref je,.ref iT,.ref jG,.ref iU,.ref fJ]=some false)
  (yLETTERS:PySem.W.nsIn K mainGlobals "LETTERS" = some (some (.str abc tkLETTERS))) (yMOST_LETTERS:PySem.W.nsIn K mainGlobals "MOST_LETTERS" = some (some (.int 6 tkMOST_LETTERS))) (yMOST_KINDS:PySem.W.nsIn K mainGlobals "MOST_KINDS" = some (some (.int 7 tkMOST_KINDS))) (yMOST_NAMES:PySem.W.nsIn K mainGlobals "MOST_NAMES" = some (some (.int 3 tkMOST_NAMES))) (yMOST_BODY:PySem.W.nsIn K mainGlobals "MOST_BODY" = some (some (.int 99 tkMOST_BODY)))
  : ∃ fd:FuncData,(∀(s:Shared) (v:Value),BindsTo s fd ⟨[v],[]⟩ [("_law_script",v)])∧∀ base:Heap,K.In base→base.Ns mainGlobals mg→aU l.prog w K mg base CX0 7 fa fd ["_law_script"] (Ce K):=by
 have e:=hfa.symm.trans (PySem.W.mg_of X G a48)
 cases e
 have F0:=bA (st:=top 14) l0 c0 k0
 have b0:=F0.binds (ps:=["thing"]) fun _ _ _ _ _ _=>el1 fun _=>rfl
 have F1:=bA (st:=top 15) l1 c1 k1
 have b1:=F1.binds (ps:=["thing","many"]) fun _ _ _ _ _ _=>el2 fun _ _=>rfl
 have F2:=bA (st:=top 16) l2 c2 k2
 have b2:=F2.binds (ps:=["thing"]) fun _ _ _ _ _ _=>el1 fun _=>rfl
 have F3:=bA (st:=top 17) l3 c3 k3
 have b3:=F3.binds (ps:=["thing","kinds"]) fun _ _ _ _ _ _=>el2 fun _ _=>rfl
 have F4:=bA (st:=top 18) l4 c4 k4
 have b4:=F4.binds (ps:=["thing","kinds"]) fun _ _ _ _ _ _=>el2 fun _ _=>rfl
 have F5:=bA (st:=top 19) l5 c5 k5
 have b5:=F5.binds (ps:=["kind","kinds"]) fun _ _ _ _ _ _=>el2 fun _ _=>rfl
 have F6:=bA (st:=top 20) l6 c6 k6
 have b6:=F6.binds (ps:=["rows"]) fun _ _ _ _ _ _=>el1 fun _=>rfl
 have F7:=bA (st:=top 21) l7 c7 k7
 have b7:=F7.binds (ps:=["thing"]) fun _ _ _ _ _ _=>el1 fun _=>rfl
 have F8:=bA (st:=top 22) l8 c8 k8
 have b8:=F8.binds (ps:=["family"]) fun _ _ _ _ _ _=>el1 fun _=>rfl
 have F9:=bA (st:=top 24) l9 c9 k9
 have b9:=F9.binds (ps:=["family","kind"]) fun _ _ _ _ _ _=>el2 fun _ _=>rfl
 have F10:=bA (st:=top 25) l10 c10 k10
 have b10:=F10.binds (ps:=["family"]) fun _ _ _ _ _ _=>el1 fun _=>rfl
 have F11:=bA (st:=top 26) l11 c11 k11
 have b11:=F11.binds (ps:=["kinds","told"]) fun _ _ _ _ _ _=>el2 fun _ _=>rfl
 have F12:=bA (st:=top 27) l12 c12 k12
 have b12:=F12.binds (ps:=["elders","told"]) fun _ _ _ _ _ _=>el2 fun _ _=>rfl
 have F13:=bA (st:=top 28) l13 c13 k13
 have b13:=F13.binds (ps:=["kind","rows"]) fun _ _ _ _ _ _=>el2 fun _ _=>rfl
 have F14:=bA (st:=top 29) l14 c14 k14
 have b14:=F14.binds (ps:=["left"]) fun _ _ _ _ _ _=>el1 fun _=>rfl
 have F15:=bA (st:=top 30) l15 c15 k15
 have b15:=F15.binds (ps:=["left"]) fun _ _ _ _ _ _=>el1 fun _=>rfl
 have F16:=bA (st:=top 31) l16 c16 k16
 have b16:=F16.binds (ps:=["name","left"]) fun _ _ _ _ _ _=>el2 fun _ _=>rfl
 have F17:=bA (st:=top 35) l17 c17 k17
 have b17:=F17.binds (ps:=["thing"]) fun _ _ _ _ _ _=>el1 fun _=>rfl
 have F18:=bA (st:=top 36) l18 c18 k18
 have b18:=F18.binds (ps:=["table"]) fun _ _ _ _ _ _=>el1 fun _=>rfl
 have F19:=bA (st:=top 37) l19 c19 k19
 have b19:=F19.binds (ps:=["thing","told"]) fun _ _ _ _ _ _=>el2 fun _ _=>rfl
 have F20:=bA (st:=top 38) l20 c20 k20
 have b20:=F20.binds (ps:=["row"]) fun _ _ _ _ _ _=>el1 fun _=>rfl
 have F21:=bA (st:=top 39) l21 c21 k21
 have b21:=F21.binds (ps:=["thing"]) fun _ _ _ _ _ _=>el1 fun _=>rfl
 have F22:=bA (st:=top 40) l22 c22 k22
 have b22:=F22.binds (ps:=["thing"]) fun _ _ _ _ _ _=>el1 fun _=>rfl
 have F23:=bA (st:=top 41) l23 c23 k23
 have b23:=F23.binds (ps:=["thing"]) fun _ _ _ _ _ _=>el1 fun _=>rfl
 have F24:=bA (st:=top 42) l24 c24 k24
 have b24:=F24.binds (ps:=["thing"]) fun _ _ _ _ _ _=>el1 fun _=>rfl
 have F25:=bA (st:=top 43) l25 c25 k25
 have b25:=F25.binds (ps:=["table","kind"]) fun _ _ _ _ _ _=>el2 fun _ _=>rfl
 have F26:=bA (st:=top 44) l26 c26 k26
 have b26:=F26.binds (ps:=["row","deed"]) fun _ _ _ _ _ _=>el2 fun _ _=>rfl
 have F27:=bA (st:=top 45) l27 c27 k27
 have b27:=F27.binds (ps:=["table","kinds","deed"]) fun _ _ _ _ _ _=>el3 fun _ _ _=>rfl
 have F28:=bA (st:=top 46) l28 c28 k28
 have b28:=F28.binds (ps:=["table","kind","deed"]) fun _ _ _ _ _ _=>el3 fun _ _ _=>rfl
 have F29:=bA (st:=top 47) l29 c29 k29
 have b29:=F29.binds (ps:=["table","kind","home","deed"]) fun _ _ _ _ _ _=>el4 fun _ _ _ _=>rfl
 have F30:=bA (st:=top 48) l30 c30 k30
 have b30:=F30.binds (ps:=["table","kind"]) fun _ _ _ _ _ _=>el2 fun _ _=>rfl
 have F31:=bA (st:=top 50) l31 c31 k31
 have b31:=F31.binds (ps:=["_law_script","_law_k"]) fun _ _ _ _ _ _=>el2 fun _ _=>rfl
 have F32:=bA (st:=top 51) l32 c32 k32
 have b32:=F32.binds (ps:=["_law_script","_law_first","_law_least","_law_most"]) fun _ _ _ _ _ _=>el4 fun _ _ _ _=>rfl
 have F33:=bA (st:=top 52) l33 c33 k33
 have b33:=F33.binds (ps:=["_law_cell_here"]) fun _ _ _ _ _ _=>el1 fun _=>rfl
 have F34:=bA (st:=top 53) l34 c34 k34
 have b34:=F34.binds (ps:=["_law_purse_here","_law_many"]) fun _ _ _ _ _ _=>el2 fun _ _=>rfl
 have F35:=bA (st:=top 54) l35 c35 k35
 have b35:=F35.binds (ps:=["_law_purse_here","_law_used"]) fun _ _ _ _ _ _=>el2 fun _ _=>rfl
 have F36:=bA (st:=top 55) l36 c36 k36
 have b36:=F36.binds (ps:=["_law_purse_here","_law_many","_law_used"]) fun _ _ _ _ _ _=>el3 fun _ _ _=>rfl
 have F37:=bA (st:=top 56) l37 c37 k37
 have b37:=F37.binds (ps:=["_law_purse_here","_law_menu","_law_most"]) fun _ _ _ _ _ _=>el3 fun _ _ _=>rfl
 have F38:=bA (st:=top 57) l38 c38 k38
 have b38:=F38.binds (ps:=["_law_purse_here","_law_most"]) fun _ _ _ _ _ _=>el2 fun _ _=>rfl
 have F39:=bA (st:=top 58) l39 c39 k39
 have b39:=F39.binds (ps:=["_law_kind","_law_rows"]) fun _ _ _ _ _ _=>el2 fun _ _=>rfl
 have F40:=bA (st:=top 59) l40 c40 k40
 have b40:=F40.binds (ps:=["_law_purse_here","_law_names_here","_law_shape","_law_orders"]) fun _ _ _ _ _ _=>el4 fun _ _ _ _=>rfl
 have F41:=bA (st:=top 60) l41 c41 k41
 have b41:=F41.binds (ps:=["_law_purse_here","_law_deeds"]) fun _ _ _ _ _ _=>el2 fun _ _=>rfl
 have F42:=bA (st:=top 61) l42 c42 k42
 have b42:=F42.binds (ps:=["_law_purse_here","_law_many","_law_deeds","_law_fields"]) fun _ _ _ _ _ _=>el4 fun _ _ _ _=>rfl
 have F43:=bA (st:=top 62) l43 c43 k43
 have b43:=F43.binds (ps:=["_law_purse_here"]) fun _ _ _ _ _ _=>el1 fun _=>rfl
 have F44:=bA (st:=top 63) l44 c44 k44
 have b44:=F44.binds (ps:=["_law_purse_here"]) fun _ _ _ _ _ _=>el1 fun _=>rfl
 have F45:=bA (st:=top 64) l45 c45 k45
 have b45:=F45.binds (ps:=["_law_door","_law_table_here","_law_kind","_law_home","_law_deed"]) fun _ _ _ _ _ _=>el5 fun _ _ _ _ _=>rfl
 have F46:=bA (st:=top 65) l46 c46 k46
 have b46:=F46.binds (ps:=["_law_door","_law_table_here","_law_kind","_law_home","_law_deed"]) fun _ _ _ _ _ _=>el5 fun _ _ _ _ _=>rfl
 have F47:=bA (st:=top 66) l47 c47 k47
 have b47:=F47.binds (ps:=["_law_purse_here","_law_table_here"]) fun _ _ _ _ _ _=>el2 fun _ _=>rfl
 have F48:=bA (st:=top 67) l48 c48 k48
 have b48:=F48.binds (ps:=["_law_script"]) fun _ _ _ _ _ _=>el1 fun _=>rfl
 have T:Defs K mg ⟨(f0,PySem.W.fnOf "is_whole" "is_whole" (aF (top 14)) (aD (top 14)) (aq (top 14)) .none kV0 dc0 pm0 an0 cd0 ct0),(f1,PySem.W.fnOf "is_tuple_of" "is_tuple_of" (aF (top 15)) (aD (top 15)) (aq (top 15)) .none kV1 dc1 pm1 an1 cd1 ct1),(f2,PySem.W.fnOf "is_name" "is_name" (aF (top 16)) (aD (top 16)) (aq (top 16)) .none kV2 dc2 pm2 an2 cd2 ct2),(f3,PySem.W.fnOf "is_kind" "is_kind" (aF (top 17)) (aD (top 17)) (aq (top 17)) .none kV3 dc3 pm3 an3 cd3 ct3),(f4,PySem.W.fnOf "are_kinds" "are_kinds" (aF (top 18)) (aD (top 18)) (aq (top 18)) .none kV4 dc4 pm4 an4 cd4 ct4),(f5,PySem.W.fnOf "check_kind" "check_kind" (aF (top 19)) (aD (top 19)) (aq (top 19)) .none kV5 dc5 pm5 an5 cd5 ct5),(f6,PySem.W.fnOf "kinds_of" "kinds_of" (aF (top 20)) (aD (top 20)) (aq (top 20)) .none kV6 dc6 pm6 an6 cd6 ct6),(f7,PySem.W.fnOf "is_family" "is_family" (aF (top 21)) (aD (top 21)) (aq (top 21)) .none kV7 dc7 pm7 an7 cd7 ct7),(f8,PySem.W.fnOf "elders_first" "elders_first" (aF (top 22)) (aD (top 22)) (aq (top 22)) .none kV8 dc8 pm8 an8 cd8 ct8),(f9,PySem.W.fnOf "order_of" "order_of" (aF (top 24)) (aD (top 24)) (aq (top 24)) .none kV9 dc9 pm9 an9 cd9 ct9),(f10,PySem.W.fnOf "tell_orders" "tell_orders" (aF (top 25)) (aD (top 25)) (aq (top 25)) .none kV10 dc10 pm10 an10 cd10 ct10),(f11,PySem.W.fnOf "quarrel_among" "quarrel_among" (aF (top 26)) (aD (top 26)) (aq (top 26)) .none kV11 dc11 pm11 an11 cd11 ct11),(f12,PySem.W.fnOf "rows_by" "rows_by" (aF (top 27)) (aD (top 27)) (aq (top 27)) .none kV12 dc12 pm12 an12 cd12 ct12),(f13,PySem.W.fnOf "merge_rows" "merge_rows" (aF (top 28)) (aD (top 28)) (aq (top 28)) .none kV13 dc13 pm13 an13 cd13 ct13),(f14,PySem.W.fnOf "first_free" "first_free" (aF (top 29)) (aD (top 29)) (aq (top 29)) .none kV14 dc14 pm14 an14 cd14 ct14),(f15,PySem.W.fnOf "ring_among" "ring_among" (aF (top 30)) (aD (top 30)) (aq (top 30)) .none kV15 dc15 pm15 an15 cd15 ct15),(f16,PySem.W.fnOf "hold_of" "hold_of" (aF (top 31)) (aD (top 31)) (aq (top 31)) .none kV16 dc16 pm16 an16 cd16 ct16),(f17,PySem.W.fnOf "is_table" "is_table" (aF (top 35)) (aD (top 35)) (aq (top 35)) .none kV17 dc17 pm17 an17 cd17 ct17),(f18,PySem.W.fnOf "family_of" "family_of" (aF (top 36)) (aD (top 36)) (aq (top 36)) .none kV18 dc18 pm18 an18 cd18 ct18),(f19,PySem.W.fnOf "is_order" "is_order" (aF (top 37)) (aD (top 37)) (aq (top 37)) .none kV19 dc19 pm19 an19 cd19 ct19),(f20,PySem.W.fnOf "has_good_rest" "has_good_rest" (aF (top 38)) (aD (top 38)) (aq (top 38)) .none kV20 dc20 pm20 an20 cd20 ct20),(f21,PySem.W.fnOf "are_few_names" "are_few_names" (aF (top 39)) (aD (top 39)) (aq (top 39)) .none kV21 dc21 pm21 an21 cd21 ct21),(f22,PySem.W.fnOf "is_body_number" "is_body_number" (aF (top 40)) (aD (top 40)) (aq (top 40)) .none kV22 dc22 pm22 an22 cd22 ct22),(f23,PySem.W.fnOf "are_deeds" "are_deeds" (aF (top 41)) (aD (top 41)) (aq (top 41)) .none kV23 dc23 pm23 an23 cd23 ct23),(f24,PySem.W.fnOf "is_deed" "is_deed" (aF (top 42)) (aD (top 42)) (aq (top 42)) .none kV24 dc24 pm24 an24 cd24 ct24),(f25,PySem.W.fnOf "row_at" "row_at" (aF (top 43)) (aD (top 43)) (aq (top 43)) .none kV25 dc25 pm25 an25 cd25 ct25),(f26,PySem.W.fnOf "own_body" "own_body" (aF (top 44)) (aD (top 44)) (aq (top 44)) .none kV26 dc26 pm26 an26 cd26 ct26),(f27,PySem.W.fnOf "look_along" "look_along" (aF (top 45)) (aD (top 45)) (aq (top 45)) .none kV27 dc27 pm27 an27 cd27 ct27),(f28,PySem.W.fnOf "found" "found" (aF (top 46)) (aD (top 46)) (aq (top 46)) .none kV28 dc28 pm28 an28 cd28 ct28),(f29,PySem.W.fnOf "behind" "behind" (aF (top 47)) (aD (top 47)) (aq (top 47)) .none kV29 dc29 pm29 an29 cd29 ct29),(f30,PySem.W.fnOf "new_fields" "new_fields" (aF (top 48)) (aD (top 48)) (aq (top 48)) .none kV30 dc30 pm30 an30 cd30 ct30),(f31,PySem.W.fnOf "_law_cell" "_law_cell" (aF (top 50)) (aD (top 50)) (aq (top 50)) .none kV31 dc31 pm31 an31 cd31 ct31),(f32,PySem.W.fnOf "_law_cells" "_law_cells" (aF (top 51)) (aD (top 51)) (aq (top 51)) .none kV32 dc32 pm32 an32 cd32 ct32),(f33,PySem.W.fnOf "_law_purse" "_law_purse" (aF (top 52)) (aD (top 52)) (aq (top 52)) .none kV33 dc33 pm33 an33 cd33 ct33),(f34,PySem.W.fnOf "_law_take" "_law_take" (aF (top 53)) (aD (top 53)) (aq (top 53)) .none kV34 dc34 pm34 an34 cd34 ct34),(f35,PySem.W.fnOf "_law_word" "_law_word" (aF (top 54)) (aD (top 54)) (aq (top 54)) .none kV35 dc35 pm35 an35 cd35 ct35),(f36,PySem.W.fnOf "_law_names" "_law_names" (aF (top 55)) (aD (top 55)) (aq (top 55)) .none kV36 dc36 pm36 an36 cd36 ct36),(f37,PySem.W.fnOf "_law_some" "_law_some" (aF (top 56)) (aD (top 56)) (aq (top 56)) .none kV37 dc37 pm37 an37 cd37 ct37),(f38,PySem.W.fnOf "_law_family" "_law_family" (aF (top 57)) (aD (top 57)) (aq (top 57)) .none kV38 dc38 pm38 an38 cd38 ct38),(f39,PySem.W.fnOf "_law_merge" "_law_merge" (aF (top 58)) (aD (top 58)) (aq (top 58)) .none kV39 dc39 pm39 an39 cd39 ct39),(f40,PySem.W.fnOf "_law_elders" "_law_elders" (aF (top 59)) (aD (top 59)) (aq (top 59)) .none kV40 dc40 pm40 an40 cd40 ct40),(f41,PySem.W.fnOf "_law_own" "_law_own" (aF (top 60)) (aD (top 60)) (aq (top 60)) .none kV41 dc41 pm41 an41 cd41 ct41),(f42,PySem.W.fnOf "_law_table" "_law_table" (aF (top 61)) (aD (top 61)) (aq (top 61)) .none kV42 dc42 pm42 an42 cd42 ct42),(f43,PySem.W.fnOf "_law_odd" "_law_odd" (aF (top 62)) (aD (top 62)) (aq (top 62)) .none kV43 dc43 pm43 an43 cd43 ct43),(f44,PySem.W.fnOf "_law_made" "_law_made" (aF (top 63)) (aD (top 63)) (aq (top 63)) .none kV44 dc44 pm44 an44 cd44 ct44),(f45,PySem.W.fnOf "_law_look" "_law_look" (aF (top 64)) (aD (top 64)) (aq (top 64)) .none kV45 dc45 pm45 an45 cd45 ct45),(f46,PySem.W.fnOf "_law_refused" "_law_refused" (aF (top 65)) (aD (top 65)) (aq (top 65)) .none kV46 dc46 pm46 an46 cd46 ct46),(f47,PySem.W.fnOf "_law_no_kind" "_law_no_kind" (aF (top 66)) (aD (top 66)) (aq (top 66)) .none kV47 dc47 pm47 an47 cd47 ct47),(fa,PySem.W.fnOf "law" "law" (aF (top 67)) (aD (top 67)) (aq (top 67)) .none kV48 dc48 pm48 an48 cd48 ct48),jk,bG,jd,gQ,je,iT,jG,iU,fJ⟩:=⟨⟨F0,b0,PySem.W.mg_of X G a0⟩,⟨F1,b1,PySem.W.mg_of X G a1⟩,⟨F2,b2,PySem.W.mg_of X G a2⟩,⟨F3,b3,PySem.W.mg_of X G a3⟩,⟨F4,b4,PySem.W.mg_of X G a4⟩,⟨F5,b5,PySem.W.mg_of X G a5⟩,⟨F6,b6,PySem.W.mg_of X G a6⟩,⟨F7,b7,PySem.W.mg_of X G a7⟩,⟨F8,b8,PySem.W.mg_of X G a8⟩,⟨F9,b9,PySem.W.mg_of X G a9⟩,⟨F10,b10,PySem.W.mg_of X G a10⟩,⟨F11,b11,PySem.W.mg_of X G a11⟩,⟨F12,b12,PySem.W.mg_of X G a12⟩,⟨F13,b13,PySem.W.mg_of X G a13⟩,⟨F14,b14,PySem.W.mg_of X G a14⟩,⟨F15,b15,PySem.W.mg_of X G a15⟩,⟨F16,b16,PySem.W.mg_of X G a16⟩,⟨F17,b17,PySem.W.mg_of X G a17⟩,⟨F18,b18,PySem.W.mg_of X G a18⟩,⟨F19,b19,PySem.W.mg_of X G a19⟩,⟨F20,b20,PySem.W.mg_of X G a20⟩,⟨F21,b21,PySem.W.mg_of X G a21⟩,⟨F22,b22,PySem.W.mg_of X G a22⟩,⟨F23,b23,PySem.W.mg_of X G a23⟩,⟨F24,b24,PySem.W.mg_of X G a24⟩,⟨F25,b25,PySem.W.mg_of X G a25⟩,⟨F26,b26,PySem.W.mg_of X G a26⟩,⟨F27,b27,PySem.W.mg_of X G a27⟩,⟨F28,b28,PySem.W.mg_of X G a28⟩,⟨F29,b29,PySem.W.mg_of X G a29⟩,⟨F30,b30,PySem.W.mg_of X G a30⟩,⟨F31,b31,PySem.W.mg_of X G a31⟩,⟨F32,b32,PySem.W.mg_of X G a32⟩,⟨F33,b33,PySem.W.mg_of X G a33⟩,⟨F34,b34,PySem.W.mg_of X G a34⟩,⟨F35,b35,PySem.W.mg_of X G a35⟩,⟨F36,b36,PySem.W.mg_of X G a36⟩,⟨F37,b37,PySem.W.mg_of X G a37⟩,⟨F38,b38,PySem.W.mg_of X G a38⟩,⟨F39,b39,PySem.W.mg_of X G a39⟩,⟨F40,b40,PySem.W.mg_of X G a40⟩,⟨F41,b41,PySem.W.mg_of X G a41⟩,⟨F42,b42,PySem.W.mg_of X G a42⟩,⟨F43,b43,PySem.W.mg_of X G a43⟩,⟨F44,b44,PySem.W.mg_of X G a44⟩,⟨F45,b45,PySem.W.mg_of X G a45⟩,⟨F46,b46,PySem.W.mg_of X G a46⟩,⟨F47,b47,PySem.W.mg_of X G a47⟩,⟨F48,b48,PySem.W.mg_of X G a48⟩,PySem.W.mg_none_of X G z0,PySem.W.mg_none_of X G z1,PySem.W.mg_none_of X G z2,PySem.W.mg_none_of X G z3,PySem.W.mg_none_of X G z4,PySem.W.mg_none_of X G z5,PySem.W.mg_none_of X G z6,PySem.W.mg_none_of X G z7,PySem.W.mg_none_of X G z8,PySem.W.mg_none_of X G z9,PySem.W.mg_none_of X G z10,PySem.W.mg_none_of X G z11,PySem.W.mg_none_of X G z12,PySem.W.mg_none_of X G z13,PySem.W.mg_none_of X G z14,PySem.W.mg_none_of X G z15,PySem.W.mg_none_of X G z16,PySem.W.mg_none_of X G z17,PySem.W.mg_none_of X G z18,PySem.W.mg_none_of X G z19⟩
 have CS:wF K mg ⟨(f0,PySem.W.fnOf "is_whole" "is_whole" (aF (top 14)) (aD (top 14)) (aq (top 14)) .none kV0 dc0 pm0 an0 cd0 ct0),(f1,PySem.W.fnOf "is_tuple_of" "is_tuple_of" (aF (top 15)) (aD (top 15)) (aq (top 15)) .none kV1 dc1 pm1 an1 cd1 ct1),(f2,PySem.W.fnOf "is_name" "is_name" (aF (top 16)) (aD (top 16)) (aq (top 16)) .none kV2 dc2 pm2 an2 cd2 ct2),(f3,PySem.W.fnOf "is_kind" "is_kind" (aF (top 17)) (aD (top 17)) (aq (top 17)) .none kV3 dc3 pm3 an3 cd3 ct3),(f4,PySem.W.fnOf "are_kinds" "are_kinds" (aF (top 18)) (aD (top 18)) (aq (top 18)) .none kV4 dc4 pm4 an4 cd4 ct4),(f5,PySem.W.fnOf "check_kind" "check_kind" (aF (top 19)) (aD (top 19)) (aq (top 19)) .none kV5 dc5 pm5 an5 cd5 ct5),(f6,PySem.W.fnOf "kinds_of" "kinds_of" (aF (top 20)) (aD (top 20)) (aq (top 20)) .none kV6 dc6 pm6 an6 cd6 ct6),(f7,PySem.W.fnOf "is_family" "is_family" (aF (top 21)) (aD (top 21)) (aq (top 21)) .none kV7 dc7 pm7 an7 cd7 ct7),(f8,PySem.W.fnOf "elders_first" "elders_first" (aF (top 22)) (aD (top 22)) (aq (top 22)) .none kV8 dc8 pm8 an8 cd8 ct8),(f9,PySem.W.fnOf "order_of" "order_of" (aF (top 24)) (aD (top 24)) (aq (top 24)) .none kV9 dc9 pm9 an9 cd9 ct9),(f10,PySem.W.fnOf "tell_orders" "tell_orders" (aF (top 25)) (aD (top 25)) (aq (top 25)) .none kV10 dc10 pm10 an10 cd10 ct10),(f11,PySem.W.fnOf "quarrel_among" "quarrel_among" (aF (top 26)) (aD (top 26)) (aq (top 26)) .none kV11 dc11 pm11 an11 cd11 ct11),(f12,PySem.W.fnOf "rows_by" "rows_by" (aF (top 27)) (aD (top 27)) (aq (top 27)) .none kV12 dc12 pm12 an12 cd12 ct12),(f13,PySem.W.fnOf "merge_rows" "merge_rows" (aF (top 28)) (aD (top 28)) (aq (top 28)) .none kV13 dc13 pm13 an13 cd13 ct13),(f14,PySem.W.fnOf "first_free" "first_free" (aF (top 29)) (aD (top 29)) (aq (top 29)) .none kV14 dc14 pm14 an14 cd14 ct14),(f15,PySem.W.fnOf "ring_among" "ring_among" (aF (top 30)) (aD (top 30)) (aq (top 30)) .none kV15 dc15 pm15 an15 cd15 ct15),(f16,PySem.W.fnOf "hold_of" "hold_of" (aF (top 31)) (aD (top 31)) (aq (top 31)) .none kV16 dc16 pm16 an16 cd16 ct16),(f17,PySem.W.fnOf "is_table" "is_table" (aF (top 35)) (aD (top 35)) (aq (top 35)) .none kV17 dc17 pm17 an17 cd17 ct17),(f18,PySem.W.fnOf "family_of" "family_of" (aF (top 36)) (aD (top 36)) (aq (top 36)) .none kV18 dc18 pm18 an18 cd18 ct18),(f19,PySem.W.fnOf "is_order" "is_order" (aF (top 37)) (aD (top 37)) (aq (top 37)) .none kV19 dc19 pm19 an19 cd19 ct19),(f20,PySem.W.fnOf "has_good_rest" "has_good_rest" (aF (top 38)) (aD (top 38)) (aq (top 38)) .none kV20 dc20 pm20 an20 cd20 ct20),(f21,PySem.W.fnOf "are_few_names" "are_few_names" (aF (top 39)) (aD (top 39)) (aq (top 39)) .none kV21 dc21 pm21 an21 cd21 ct21),(f22,PySem.W.fnOf "is_body_number" "is_body_number" (aF (top 40)) (aD (top 40)) (aq (top 40)) .none kV22 dc22 pm22 an22 cd22 ct22),(f23,PySem.W.fnOf "are_deeds" "are_deeds" (aF (top 41)) (aD (top 41)) (aq (top 41)) .none kV23 dc23 pm23 an23 cd23 ct23),(f24,PySem.W.fnOf "is_deed" "is_deed" (aF (top 42)) (aD (top 42)) (aq (top 42)) .none kV24 dc24 pm24 an24 cd24 ct24),(f25,PySem.W.fnOf "row_at" "row_at" (aF (top 43)) (aD (top 43)) (aq (top 43)) .none kV25 dc25 pm25 an25 cd25 ct25),(f26,PySem.W.fnOf "own_body" "own_body" (aF (top 44)) (aD (top 44)) (aq (top 44)) .none kV26 dc26 pm26 an26 cd26 ct26),(f27,PySem.W.fnOf "look_along" "look_along" (aF (top 45)) (aD (top 45)) (aq (top 45)) .none kV27 dc27 pm27 an27 cd27 ct27),(f28,PySem.W.fnOf "found" "found" (aF (top 46)) (aD (top 46)) (aq (top 46)) .none kV28 dc28 pm28 an28 cd28 ct28),(f29,PySem.W.fnOf "behind" "behind" (aF (top 47)) (aD (top 47)) (aq (top 47)) .none kV29 dc29 pm29 an29 cd29 ct29),(f30,PySem.W.fnOf "new_fields" "new_fields" (aF (top 48)) (aD (top 48)) (aq (top 48)) .none kV30 dc30 pm30 an30 cd30 ct30),(f31,PySem.W.fnOf "_law_cell" "_law_cell" (aF (top 50)) (aD (top 50)) (aq (top 50)) .none kV31 dc31 pm31 an31 cd31 ct31),(f32,PySem.W.fnOf "_law_cells" "_law_cells" (aF (top 51)) (aD (top 51)) (aq (top 51)) .none kV32 dc32 pm32 an32 cd32 ct32),(f33,PySem.W.fnOf "_law_purse" "_law_purse" (aF (top 52)) (aD (top 52)) (aq (top 52)) .none kV33 dc33 pm33 an33 cd33 ct33),(f34,PySem.W.fnOf "_law_take" "_law_take" (aF (top 53)) (aD (top 53)) (aq (top 53)) .none kV34 dc34 pm34 an34 cd34 ct34),(f35,PySem.W.fnOf "_law_word" "_law_word" (aF (top 54)) (aD (top 54)) (aq (top 54)) .none kV35 dc35 pm35 an35 cd35 ct35),(f36,PySem.W.fnOf "_law_names" "_law_names" (aF (top 55)) (aD (top 55)) (aq (top 55)) .none kV36 dc36 pm36 an36 cd36 ct36),(f37,PySem.W.fnOf "_law_some" "_law_some" (aF (top 56)) (aD (top 56)) (aq (top 56)) .none kV37 dc37 pm37 an37 cd37 ct37),(f38,PySem.W.fnOf "_law_family" "_law_family" (aF (top 57)) (aD (top 57)) (aq (top 57)) .none kV38 dc38 pm38 an38 cd38 ct38),(f39,PySem.W.fnOf "_law_merge" "_law_merge" (aF (top 58)) (aD (top 58)) (aq (top 58)) .none kV39 dc39 pm39 an39 cd39 ct39),(f40,PySem.W.fnOf "_law_elders" "_law_elders" (aF (top 59)) (aD (top 59)) (aq (top 59)) .none kV40 dc40 pm40 an40 cd40 ct40),(f41,PySem.W.fnOf "_law_own" "_law_own" (aF (top 60)) (aD (top 60)) (aq (top 60)) .none kV41 dc41 pm41 an41 cd41 ct41),(f42,PySem.W.fnOf "_law_table" "_law_table" (aF (top 61)) (aD (top 61)) (aq (top 61)) .none kV42 dc42 pm42 an42 cd42 ct42),(f43,PySem.W.fnOf "_law_odd" "_law_odd" (aF (top 62)) (aD (top 62)) (aq (top 62)) .none kV43 dc43 pm43 an43 cd43 ct43),(f44,PySem.W.fnOf "_law_made" "_law_made" (aF (top 63)) (aD (top 63)) (aq (top 63)) .none kV44 dc44 pm44 an44 cd44 ct44),(f45,PySem.W.fnOf "_law_look" "_law_look" (aF (top 64)) (aD (top 64)) (aq (top 64)) .none kV45 dc45 pm45 an45 cd45 ct45),(f46,PySem.W.fnOf "_law_refused" "_law_refused" (aF (top 65)) (aD (top 65)) (aq (top 65)) .none kV46 dc46 pm46 an46 cd46 ct46),(f47,PySem.W.fnOf "_law_no_kind" "_law_no_kind" (aF (top 66)) (aD (top 66)) (aq (top 66)) .none kV47 dc47 pm47 an47 cd47 ct47),(fa,PySem.W.fnOf "law" "law" (aF (top 67)) (aD (top 67)) (aq (top 67)) .none kV48 dc48 pm48 an48 cd48 ct48),jk,bG,jd,gQ,je,iT,jG,iU,fJ⟩:=⟨⟨PySem.W.mg_of X G y1,x_exNoKind,⟨x_gaNoKind,x_hkNoKind,x_caNoKind,x_gt,x_tk,x_obNoKind,x_beNoKind,by rw [x_clNoKind]; rfl⟩⟩,PySem.W.mg_of X G y0,PySem.W.mg_of X G y2,PySem.W.mg_of X G y3,PySem.W.mg_of X G y4,PySem.W.mg_of X G y5,PySem.W.mg_of X G y6,PySem.W.mg_of X G y7,PySem.W.mg_of X G y8,g_x_k,g_v_k,g_k_NoKind,g_a_k⟩
 have GL:Glb mg:=⟨⟨_,PySem.W.mg_of X G yLETTERS⟩,⟨_,PySem.W.mg_of X G yMOST_LETTERS⟩,⟨_,PySem.W.mg_of X G yMOST_KINDS⟩,⟨_,PySem.W.mg_of X G yMOST_NAMES⟩,⟨_,PySem.W.mg_of X G yMOST_BODY⟩⟩
 exact⟨PySem.W.fnOf "law" "law" (aF (top 67)) (aD (top 67)) (aq (top 67)) .none kV48 dc48 pm48 an48 cd48 ct48,fun s v=>.of_eq rfl,fun base _ _=>Kw T CS GL⟩
theorem walk{l:PySem.W.OpenLaw}{q:Program}{loose:List Str}{XP:(Str→Option Value)→Heap→Prop}{YP:World→Heap→Prop}{d:DefRec}{K:Params→PySem.W.Frag}(hn:l.most=some 63)(hdf:d.params.defaults=[])
  (hY:∀(w:World) (h:Heap),YP w h→(K w.params).In h)
  (F:∀(w:World) (mg:Str→Option Value) (fa:Addr) (h:Heap),(K w.params).In h→h.Ns mainGlobals mg→mg d.name=some (.ref fa)→
   ∃ fd:FuncData,(∀(s:Shared) (u:Value),BindsTo s fd ⟨[u],[]⟩ [("_law_script",u)])∧∀ base:Heap,(K w.params).In base→base.Ns mainGlobals mg→aU l.prog w (K w.params) mg base CX0 7 fa fd ["_law_script"] (Ce (K w.params))) :
  PySem.W.WalkO q loose XP YP l.row.toRowW d [] (fun f vs=>PySem.call f vs):=
 L2.HN (n:=63) (k:=7) (x:= "_law_script") (CX:=fun _=>CX0) (sp:=fun w=>Ce (K w.params)) hn (by decide) hdf ⟨rfl,by decide,by decide,rfl⟩ hY F (fun _ _ a ns hl _ hS=>⟨a,ns,rfl,hS,hl,fun _=>rfl⟩) fun _ _ _ _ _ z=>z
end K12
theorem PySem.W.Fast.tw16872061883313226342 : True := trivial
theorem PySem.W.Fast.tw3878829174381388653 : True := trivial
theorem PySem.W.Fast.tw4751911597053840503 : True := trivial
theorem PySem.W.Fast.tw11544988738578010575 : True := trivial
theorem PySem.W.Fast.tw16134688839732590824 : True := trivial
theorem PySem.W.Fast.tw15923209297473314880 : True := trivial
theorem PySem.W.Fast.tw4517060277856937742 : True := trivial
theorem PySem.W.Fast.tw13143631190901901033 : True := trivial
theorem PySem.W.Fast.tw5680747153929607215 : True := trivial
theorem PySem.W.Fast.tw15597446780350907089 : True := trivial
theorem PySem.W.Fast.tw8248345814684303584 : True := trivial
theorem PySem.W.Fast.tw8027923293603603416 : True := trivial
theorem PySem.W.Fast.tw16052752921747039298 : True := trivial
theorem PySem.W.Fast.tw3471384211294023397 : True := trivial
theorem PySem.W.Fast.tw11782483194389818959 : True := trivial
theorem PySem.W.Fast.tw13365704953671966827 : True := trivial
theorem PySem.W.Fast.tw323613354751941502 : True := trivial
theorem PySem.W.Fast.tw15766864204110956184 : True := trivial
theorem PySem.W.Fast.tw1864435390401394677 : True := trivial
theorem PySem.W.Fast.tw8004676860940354525 : True := trivial
theorem PySem.W.Fast.tw4105039528453372772 : True := trivial
theorem PySem.W.Fast.tw8743838584590086877 : True := trivial
theorem PySem.W.Fast.tw15214707113101456072 : True := trivial
theorem PySem.W.Fast.tw18355790507221645162 : True := trivial
theorem PySem.W.Fast.tw12125466301262908985 : True := trivial
theorem PySem.W.Fast.tw6667275267602656208 : True := trivial
theorem PySem.W.Fast.tw350767288499018100 : True := trivial
theorem PySem.W.Fast.tw18230927234163070628 : True := trivial
theorem PySem.W.Fast.tw10749798330758786372 : True := trivial
theorem PySem.W.Fast.tw17600834532669399770 : True := trivial
theorem PySem.W.Fast.tw4884847059651175938 : True := trivial
theorem PySem.W.Fast.tw15122142527015624799 : True := trivial
theorem PySem.W.Fast.tw13403905944646950665 : True := trivial
theorem PySem.W.Fast.tw5745584789668532645 : True := trivial
theorem PySem.W.Fast.tw15767578636212415379 : True := trivial
theorem PySem.W.Fast.tw15170243935557872447 : True := trivial
theorem PySem.W.Fast.tw5450854319607128636 : True := trivial
theorem PySem.W.Fast.tw10005806672687504360 : True := trivial
theorem PySem.W.Fast.tw8064060614726604262 : True := trivial
theorem PySem.W.Fast.tw10274729490375189897 : True := trivial
theorem PySem.W.Fast.tw16633544578756568264 : True := trivial
theorem PySem.W.Fast.tw4176749374597715727 : True := trivial
theorem PySem.W.Fast.tw9282564592822964819 : True := trivial
theorem PySem.W.Fast.tw7231041897202587099 : True := trivial
theorem PySem.W.Fast.tw1337100985295276294 : True := trivial
theorem PySem.W.Fast.tw17374821275731139308 : True := trivial
theorem PySem.W.Fast.tw13277775067034591389 : True := trivial
theorem PySem.W.Fast.tw5857426120068628211 : True := trivial
theorem PySem.W.Fast.tw13822389368516350291 : True := trivial
theorem PySem.W.Fast.tw2971977388615786638 : True := trivial
theorem PySem.W.Fast.tw16628396582480152527 : True := trivial
theorem PySem.W.Fast.tw14321084280968228342 : True := trivial
theorem PySem.W.Fast.tw10961415591583561773 : True := trivial
theorem PySem.W.Fast.tw1854274647633698777 : True := trivial
theorem PySem.W.Fast.tw5768859795428423916 : True := trivial
open PySem PySem.W PyProof.Rows
set_option maxRecDepth 100000 in
set_option maxHeartbeats 0 in
theorem PySem.Challenge.cw_warmrows_k12_no_kinds_and_tables_of_fami_holds : PySem.Challenge.rw_warmrows_k12_no_kinds_and_tables_of_fami.Holds := by
 w_on; o_law; k_head; (case hw=>w_witness2)
 k_fill
 refine K12.walk (l:=PySem.Challenge.rw_warmrows_k12_no_kinds_and_tables_of_fami) rfl rfl (fun w h Y=>PySem.W.kIn_of Y) ?F
 case F=>
  intro w mg fa h KX G hmg
  refine' K12.all_mk KX G hmg ?a0 ?l0 ?c0 ?k0 ?a1 ?l1 ?c1 ?k1 ?a2 ?l2 ?c2 ?k2 ?a3 ?l3 ?c3 ?k3 ?a4 ?l4 ?c4 ?k4 ?a5 ?l5 ?c5 ?k5 ?a6 ?l6 ?c6 ?k6 ?a7 ?l7 ?c7 ?k7 ?a8 ?l8 ?c8 ?k8 ?a9 ?l9 ?c9 ?k9 ?a10 ?l10 ?c10 ?k10 ?a11 ?l11 ?c11 ?k11 ?a12 ?l12 ?c12 ?k12 ?a13 ?l13 ?c13 ?k13 ?a14 ?l14 ?c14 ?k14 ?a15 ?l15 ?c15 ?k15 ?a16 ?l16 ?c16 ?k16 ?a17 ?l17 ?c17 ?k17 ?a18 ?l18 ?c18 ?k18 ?a19 ?l19 ?c19 ?k19 ?a20 ?l20 ?c20 ?k20 ?a21 ?l21 ?c21 ?k21 ?a22 ?l22 ?c22 ?k22 ?a23 ?l23 ?c23 ?k23 ?a24 ?l24 ?c24 ?k24 ?a25 ?l25 ?c25 ?k25 ?a26 ?l26 ?c26 ?k26 ?a27 ?l27 ?c27 ?k27 ?a28 ?l28 ?c28 ?k28 ?a29 ?l29 ?c29 ?k29 ?a30 ?l30 ?c30 ?k30 ?a31 ?l31 ?c31 ?k31 ?a32 ?l32 ?c32 ?k32 ?a33 ?l33 ?c33 ?k33 ?a34 ?l34 ?c34 ?k34 ?a35 ?l35 ?c35 ?k35 ?a36 ?l36 ?c36 ?k36 ?a37 ?l37 ?c37 ?k37 ?a38 ?l38 ?c38 ?k38 ?a39 ?l39 ?c39 ?k39 ?a40 ?l40 ?c40 ?k40 ?a41 ?l41 ?c41 ?k41 ?a42 ?l42 ?c42 ?k42 ?a43 ?l43 ?c43 ?k43 ?a44 ?l44 ?c44 ?k44 ?a45 ?l45 ?c45 ?k45 ?a46 ?l46 ?c46 ?k46 ?a47 ?l47 ?c47 ?k47 ?a48 ?l48 ?c48 ?k48 ?z0 ?z1 ?z2 ?z3 ?z4 ?z5 ?z6 ?z7 ?z8 ?z9 ?z10 ?z11 ?z12 ?z13 ?z14 ?z15 ?z16 ?z17 ?z18 ?z19 ?y0 ?y1 ?y2 ?y3 ?y4 ?y5 ?y6 ?y7 ?y8 ?x_exNoKind ?x_gaNoKind ?x_hkNoKind ?x_caNoKind ?x_obNoKind ?x_beNoKind ?x_clNoKind ?x_gt ?x_tk ?g_x_k ?g_v_k ?g_k_NoKind ?g_a_k ?yLETTERS ?yMOST_LETTERS ?yMOST_KINDS ?yMOST_NAMES ?yMOST_BODY
  (case a0=>k_is); (case l0=>k_is); (case c0=>k_is); (case k0=>k_is)
  (case a1=>k_is); (case l1=>k_is); (case c1=>k_is); (case k1=>k_is)
  (case a2=>k_is); (case l2=>k_is); (case c2=>k_is); (case k2=>k_is)
  (case a3=>k_is); (case l3=>k_is); (case c3=>k_is); (case k3=>k_is)
  (case a4=>k_is); (case l4=>k_is); (case c4=>k_is); (case k4=>k_is)
  (case a5=>k_is); (case l5=>k_is); (case c5=>k_is); (case k5=>k_is)
  (case a6=>k_is); (case l6=>k_is); (case c6=>k_is); (case k6=>k_is)
  (case a7=>k_is); (case l7=>k_is); (case c7=>k_is); (case k7=>k_is)
  (case a8=>k_is); (case l8=>k_is); (case c8=>k_is); (case k8=>k_is)
  (case a9=>k_is); (case l9=>k_is); (case c9=>k_is); (case k9=>k_is)
  (case a10=>k_is); (case l10=>k_is); (case c10=>k_is); (case k10=>k_is)
  (case a11=>k_is); (case l11=>k_is); (case c11=>k_is); (case k11=>k_is)
  (case a12=>k_is); (case l12=>k_is); (case c12=>k_is); (case k12=>k_is)
  (case a13=>k_is); (case l13=>k_is); (case c13=>k_is); (case k13=>k_is)
  (case a14=>k_is); (case l14=>k_is); (case c14=>k_is); (case k14=>k_is)
  (case a15=>k_is); (case l15=>k_is); (case c15=>k_is); (case k15=>k_is)
  (case a16=>k_is); (case l16=>k_is); (case c16=>k_is); (case k16=>k_is)
  (case a17=>k_is); (case l17=>k_is); (case c17=>k_is); (case k17=>k_is)
  (case a18=>k_is); (case l18=>k_is); (case c18=>k_is); (case k18=>k_is)
  (case a19=>k_is); (case l19=>k_is); (case c19=>k_is); (case k19=>k_is)
  (case a20=>k_is); (case l20=>k_is); (case c20=>k_is); (case k20=>k_is)
  (case a21=>k_is); (case l21=>k_is); (case c21=>k_is); (case k21=>k_is)
  (case a22=>k_is); (case l22=>k_is); (case c22=>k_is); (case k22=>k_is)
  (case a23=>k_is); (case l23=>k_is); (case c23=>k_is); (case k23=>k_is)
  (case a24=>k_is); (case l24=>k_is); (case c24=>k_is); (case k24=>k_is)
  (case a25=>k_is); (case l25=>k_is); (case c25=>k_is); (case k25=>k_is)
  (case a26=>k_is); (case l26=>k_is); (case c26=>k_is); (case k26=>k_is)
  (case a27=>k_is); (case l27=>k_is); (case c27=>k_is); (case k27=>k_is)
  (case a28=>k_is); (case l28=>k_is); (case c28=>k_is); (case k28=>k_is)
  (case a29=>k_is); (case l29=>k_is); (case c29=>k_is); (case k29=>k_is)
  (case a30=>k_is); (case l30=>k_is); (case c30=>k_is); (case k30=>k_is)
  (case a31=>k_is); (case l31=>k_is); (case c31=>k_is); (case k31=>k_is)
  (case a32=>k_is); (case l32=>k_is); (case c32=>k_is); (case k32=>k_is)
  (case a33=>k_is); (case l33=>k_is); (case c33=>k_is); (case k33=>k_is)
  (case a34=>k_is); (case l34=>k_is); (case c34=>k_is); (case k34=>k_is)
  (case a35=>k_is); (case l35=>k_is); (case c35=>k_is); (case k35=>k_is)
  (case a36=>k_is); (case l36=>k_is); (case c36=>k_is); (case k36=>k_is)
  (case a37=>k_is); (case l37=>k_is); (case c37=>k_is); (case k37=>k_is)
  (case a38=>k_is); (case l38=>k_is); (case c38=>k_is); (case k38=>k_is)
  (case a39=>k_is); (case l39=>k_is); (case c39=>k_is); (case k39=>k_is)
  (case a40=>k_is); (case l40=>k_is); (case c40=>k_is); (case k40=>k_is)
  (case a41=>k_is); (case l41=>k_is); (case c41=>k_is); (case k41=>k_is)
  (case a42=>k_is); (case l42=>k_is); (case c42=>k_is); (case k42=>k_is)
  (case a43=>k_is); (case l43=>k_is); (case c43=>k_is); (case k43=>k_is)
  (case a44=>k_is); (case l44=>k_is); (case c44=>k_is); (case k44=>k_is)
  (case a45=>k_is); (case l45=>k_is); (case c45=>k_is); (case k45=>k_is)
  (case a46=>k_is); (case l46=>k_is); (case c46=>k_is); (case k46=>k_is)
  (case a47=>k_is); (case l47=>k_is); (case c47=>k_is); (case k47=>k_is)
  (case a48=>k_is); (case l48=>k_is); (case c48=>k_is); (case k48=>k_is)
  (case z0=>k_is); (case z1=>k_is); (case z2=>k_is); (case z3=>k_is); (case z4=>k_is); (case z5=>k_is); (case z6=>k_is); (case z7=>k_is); (case z8=>k_is); (case z9=>k_is); (case z10=>k_is); (case z11=>k_is); (case z12=>k_is); (case z13=>k_is); (case z14=>k_is); (case z15=>k_is); (case z16=>k_is); (case z17=>k_is); (case z18=>k_is); (case z19=>k_is)
  (case y0=>k_is); (case y1=>k_is); (case y2=>k_is); (case y3=>k_is); (case y4=>k_is); (case y5=>k_is); (case y6=>k_is); (case y7=>k_is); (case y8=>k_is)
  (case yLETTERS=>k_is); (case yMOST_LETTERS=>k_is); (case yMOST_KINDS=>k_is); (case yMOST_NAMES=>k_is); (case yMOST_BODY=>k_is)
  (case x_exNoKind=>k_exc)
  (case x_gaNoKind=>k_is)
  (case x_hkNoKind=>k_is)
  (case x_caNoKind=>k_is)
  (case x_obNoKind=>k_is)
  (case x_beNoKind=>k_is)
  (case x_clNoKind=>k_is)
  (case x_gt=>k_is)
  (case x_tk=>k_is)
  (case g_x_k=>kts_exm)
  (case g_v_k=>kit_is)
  (case g_k_NoKind=>kit_is)
  (case g_a_k=>kit_is)
end
