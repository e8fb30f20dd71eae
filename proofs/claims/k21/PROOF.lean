import PyProof.Rows.All
import Wide.All
import OpenK.AllK
import Wide.FinOn
import Lean
import PyProof.EqAt
import PyProof.EqKinds
import PyProof.TupleCall
import KE.KTryMore
import PyProof.ExcAttrAll.ValueError
import PyProof.ExcBaseAll.ValueError
import PyProof.DictWalks
import PyProof.EnumIter
import PyProof.EnumFor
import PyProof.EnumMake
import PyProof.AttrMissHeap
import KE.KDictOf
import KE.KDictList
import PyProof.StrOps2
import KE.KSortTup
import PyProof.NeKinds
import PySem.Challenge.RW_warmrows_k21_whole_stories_and_shapes
import PyProof.SeqI3
import Wide.Seal
import PyProof.Rows.SortStr
import PyProof.TupleOfSeq
import PyProof.ZipIter
import PyProof.ReprRoads
import PyProof.CallFns
import PyProof.StrLawsRepr
import PyProof.Rows.StrJoinMade
import PyProof.Rows.SetFrom
import PyProof.WalksMore
import PyProof.Rows.StrClose
import PyProof.Rows.CatFin
import PyProof.StrLawsIn
import KE.KLam
import PyProof.SumWalkG
import PyProof.Rows.FoldScan
set_option Elab.async false
set_option linter.all false
set_option maxRecDepth 100000
set_option maxHeartbeats 4000000
section
namespace L2
open PySem PySem.Spec PyProof.Rows
abbrev Key := Sum Int Str
def keyIs : Key → Value → Bool
  | .inl k, v => Value.isInt k v
  | .inr x, v => Value.isStrOf x v
def keyH (w : World) : Key → Int
  | .inl k => hashInt k
  | .inr x => hashStr w x
theorem keyIs_shape : ∀ {k : Key} {v : Value}, keyIs k v = true → (∃ i t, k = Sum.inl i ∧ v = Value.int i t) ∨ (∃ x t, k = Sum.inr x ∧ v = Value.str x t)
  | .inl i, v, h => by
    obtain ⟨t, e⟩ := Value.isInt_shape (k := i) (v := v) h
    exact .inl ⟨i, t, rfl, e⟩
  | .inr x, v, h => by
    obtain ⟨t, e⟩ := Value.isStrOf_shape (x := x) (v := v) h
    exact .inr ⟨x, t, rfl, e⟩
theorem keyIs_int (i : Int) (t : Tok) : keyIs (.inl i) (.int i t) = true := by simp [keyIs, Value.isInt]
theorem keyIs_str (x : Str) (t : Tok) : keyIs (.inr x) (.str x t) = true := by simp [keyIs, Value.isStrOf]
theorem key_ll (a b : Int) : decide ((Sum.inl a : Key) = Sum.inl b) = (a == b) := by
  by_cases e : a = b
  · subst e; simp
  · have h : ¬ (Sum.inl a : Key) = Sum.inl b := fun q => e (Sum.inl.inj q)
    rw [decide_eq_false h]
    exact (beq_eq_false_iff_ne.mpr e).symm
theorem key_rr (a b : Str) : decide ((Sum.inr a : Key) = Sum.inr b) = decide (a = b) := by
  by_cases e : a = b
  · subst e; simp
  · have h : ¬ (Sum.inr a : Key) = Sum.inr b := fun q => e (Sum.inr.inj q)
    rw [decide_eq_false h, decide_eq_false e]
theorem key_lr (a : Int) (b : Str) : decide ((Sum.inl a : Key) = Sum.inr b) = false := decide_eq_false (fun q => nomatch q)
theorem key_rl (a : Str) (b : Int) : decide ((Sum.inr a : Key) = Sum.inl b) = false := decide_eq_false (fun q => nomatch q)
def mixKind (prog : Program) (w : World) : PySem.KeyKind prog w Key where
  is := keyIs
  hash := keyH w
  inj := fun v a b ha hb => by
    rcases keyIs_shape ha with ⟨i, t, rfl, rfl⟩ | ⟨x, t, rfl, rfl⟩
    · rcases keyIs_shape hb with ⟨j, u, rfl, e⟩ | ⟨y, u, rfl, e⟩
      · injection e with e1 _; rw [e1]
      · exact nomatch e
    · rcases keyIs_shape hb with ⟨j, u, rfl, e⟩ | ⟨y, u, rfl, e⟩
      · exact nomatch e
      · injection e with e1 _; rw [e1]
  byValue := fun k v h => by
    rcases keyIs_shape h with ⟨i, t, rfl, rfl⟩ | ⟨x, t, rfl, rfl⟩ <;> rfl
  pyHash := fun hv h => by
    rcases keyIs_shape hv with ⟨i, t, rfl, rfl⟩ | ⟨x, t, rfl, rfl⟩
    · exact wpAny_pyHash_int h
    · exact wpAny_pyHash_str h
  eqBool := fun hu hv h => by
    rcases keyIs_shape hu with ⟨i, t, rfl, rfl⟩ | ⟨x, t, rfl, rfl⟩
    · rcases keyIs_shape hv with ⟨j, u, rfl, rfl⟩ | ⟨y, u, rfl, rfl⟩
      · rw [key_ll] at h; exact wpAny_eqBool_int h
      · rw [key_lr] at h; exact SeqAt.EqAt.int_str i t y u _ _ _ _ h
    · rcases keyIs_shape hv with ⟨j, u, rfl, rfl⟩ | ⟨y, u, rfl, rfl⟩
      · rw [key_rl] at h; exact SeqAt.EqAt.str_int x t j u _ _ _ _ h
      · rw [key_rr] at h; exact wpAny_eqBool_str h
  «strs» := fun k x t v h => by
    rcases keyIs_shape h with ⟨i, u, rfl, e⟩ | ⟨y, u, rfl, e⟩
    · exact nomatch e
    · injection e with e1 _
      subst e1
      cases v <;> rfl
theorem mixKind_int (prog : Program) (w : World) (i : Int) (t : Tok) : (mixKind prog w).is (.inl i) (.int i t) = true := keyIs_int i t
theorem mixKind_str (prog : Program) (w : World) (x : Str) (t : Tok) : (mixKind prog w).is (.inr x) (.str x t) = true := keyIs_str x t
end L2
namespace L2
open PySem PySem.Spec PyProof.Rows
inductive V where
  | non | bl (b : Bool) | int (i : Int) | str (x : Str) | byt (b : Array UInt8) | flt (b : UInt64) | ref (a : Addr) | ty (n : String)
  deriving DecidableEq
def RelV : V → Value → Prop
  | .non, u => u = Value.none
  | .bl b, u => u = Value.bool b
  | .int i, u => ∃ t, u = Value.int i t
  | .str x, u => ∃ t, u = Value.str x t
  | .byt b, u => ∃ t, u = Value.bytes b t
  | .flt b, u => ∃ t, u = Value.float b t
  | .ref a, u => u = Value.ref a
  | .ty n, u => u = Value.type n
abbrev Vals : List V → List Value → Prop := Paired RelV
theorem Vals.length {xs : List V} {us : List Value} (r : Vals xs us) : xs.length = us.length := Paired.length r
theorem Vals.get : ∀ {xs : List V} {us : List Value} {i : Nat} {x : V}, Vals xs us → xs[i]? = some x → ∃ u, us[i]? = some u ∧ RelV x u
  | _, _, _, _, .nil, e => by simp at e
  | _, _, 0, _, .cons r _, e => by simp at e; subst e; exact ⟨_, rfl, r⟩
  | _, _, i + 1, x, .cons _ t, e => by
    obtain ⟨u, h1, h2⟩ := Vals.get (i := i) (x := x) t (by simpa using e)
    exact ⟨u, by simpa using h1, h2⟩
theorem Vals.set {x : V} {u : Value} (r : RelV x u) : ∀ {xs : List V} {us : List Value} (i : Nat), Vals xs us → Vals (xs.set i x) (us.set i u)
  | _, _, _, .nil => .nil
  | _, _, 0, .cons _ t => .cons r t
  | _, _, i + 1, .cons q t => .cons q (Vals.set r i t)
theorem Vals.append : ∀ {xs ys : List V} {us ws : List Value}, Vals xs us → Vals ys ws → Vals (xs ++ ys) (us ++ ws)
  | _, _, _, _, .nil, s => s
  | _, _, _, _, .cons r t, s => .cons r (Vals.append t s)
theorem Vals.take : ∀ {xs : List V} {us : List Value} (n : Nat), Vals xs us → Vals (xs.take n) (us.take n)
  | _, _, 0, _ => .nil
  | _, _, _ + 1, .nil => .nil
  | _, _, n + 1, .cons r t => .cons r (Vals.take n t)
theorem Vals.drop : ∀ {xs : List V} {us : List Value} (n : Nat), Vals xs us → Vals (xs.drop n) (us.drop n)
  | _, _, 0, r => r
  | _, _, _ + 1, .nil => .nil
  | _, _, n + 1, .cons _ t => Vals.drop n t
def RelO : Option V → Option Value → Prop
  | some v, some u => RelV v u
  | none, none => True
  | _, _ => False
def KV {κ : Type} : List (κ × V) → List (κ × Value) → Prop := Paired fun (p : κ × V) (q : κ × Value) => p.1 = q.1 ∧ RelV p.2 q.2
def kV : Key → V
  | .inl i => .int i
  | .inr x => .str x
inductive HO where
  | lst (xs : List V)
  | tup (xs : List V)
  | dK (kvs : List (Key × V)) | dT (kvs : List (List Key × V))
  | set (S : Int → Bool) (n : Nat)
  | ins (C dx : Addr) (fs : List (Str × V))
  | own (x : Addr)
  | xd (fs : List (Str × V))
  | met (f x : Addr)
  | rng (lo hi : Int)
  | frz (o : Obj) (u : HO)
  | tbl (ps : Array Value)
  | ext (φ : Heap → Prop)
abbrev Hp := Addr → Option HO
def upd (H : Hp) (a : Addr) (o : HO) : Hp := fun b => if b = a then some o else H b
theorem upd_same {H : Hp} {a : Addr} {o : HO} : upd H a o a = some o := by unfold upd; rw [if_pos rfl]
theorem upd_ne {H : Hp} {a b : Addr} {o : HO} (h : b ≠ a) : upd H a o b = H b := by unfold upd; rw [if_neg h]
theorem upd_upd {H : Hp} {a : Addr} {o u : HO} : upd (upd H a o) a u = upd H a u := by
  funext b; unfold upd; split <;> rfl
theorem ne_of {H : Hp} {a b : Addr} {o u : HO} (h : H a = some o) (h' : H b = some u) (d : o ≠ u) : a ≠ b := by
  intro e; subst e; rw [h] at h'; exact d (Option.some.inj h')
theorem ne_of_none {H : Hp} {a b : Addr} {o : HO} (h : H a = some o) (h' : H b = none) : a ≠ b := by
  intro e; subst e; rw [h] at h'; cases h'
def NoD (h : Heap) (a : Addr) : Prop := ∀ o, h.get? a = some o → o.dict = none
theorem nod_push (h : Heap) (its : Array Value) : NoD (h.push { cls := .type "tuple", data := .seq its }) h.objs.size := fun o e => by
  rw [Heap.get?_push_size _ rfl] at e
  cases e
  rfl
section
variable (P : Program) (w : World)
def ObjOk (H : Hp) (h : Heap) (a : Addr) : HO → Prop
  | .lst xs => xs.length ≤ sizeLine ∧ ∃ (its : List Value) (n : Nat), Vals xs its ∧ h.get? a = some { cls := .type "list", data := .seq its.toArray n }
  | .tup xs => (xs.length ≤ sizeLine ∧ NoD h a) ∧ ∃ its : List Value, Vals xs its ∧ IsTup h a its.toArray
  | .dK kvs => kvs.length ≤ sizeLine ∧ (a == sysModules) = false ∧ ∃ vs, KV kvs vs ∧ h.DictOf (mixKind P w) a vs
  | .dT kvs => kvs.length ≤ sizeLine ∧ (a == sysModules) = false ∧ ∃ xs : List (List Key × Addr × Value),
      Paired (fun (p : List Key × V) (q : List Key × Addr × Value) => p.1 = q.1 ∧ H q.2.1 = some (.tup (p.1.map kV)) ∧ RelV p.2 q.2.2) kvs xs ∧
      ∃ o es ep, h.get? a = some o ∧ o.ExactDict ∧ o.data = .dict es ep ∧ es.toList = xs.map (entryOfKey (tupleKind (mixKind P w))) ∧ (xs.map (·.1)).Nodup
  | .set S n => h.SetOf (intKind P w) a S n
  | .ins C dx fs => H dx = some (.own a) ∧ fs.length ≤ 1000 ∧ dx ≠ a ∧ h.get? a = some (PySem.W.instObj C dx) ∧
      ∃ mA, h.Ns1 dx mA ∧ (∀ f, RelO (fs.lookup f) (mA f)) ∧ PySem.Within mA (fs.map (·.1))
  | .own _ => ∃ o, h.get? a = some o
  | .xd fs => ∃ mA, h.Ns1 a mA ∧ ∀ f, RelO (fs.lookup f) (mA f)
  | .rng lo hi => ∃ t u v, h.get? a = some { cls := .type "range", data := .fields #[.int lo t, .int hi u, .int 1 v] }
  | .frz o u => h.get? a = some o ∧ ObjOk H h a u
  | .tbl ps => h.get? a = some { cls := .none, data := .fields ps }
  | .met f x => h.get? a = some (PySem.W.methodObj (.ref f) (.ref x))
  | .ext φ => φ h ∧ (∃ o, h.get? a = some o) ∧ ∀ h1 h2 : Heap, φ h1 → (∀ o, h1.get? a = some o → h2.get? a = some o) → φ h2
def HOk (H : Hp) (h : Heap) : Prop := ∀ a o, H a = some o → ObjOk P w H h a o
end
section
variable {P : Program} {w : World} {H H' : Hp} {h h' : Heap} {a : Addr} {o : HO}
theorem ObjOk.lt (x : ObjOk P w H h a o) : a < h.objs.size := by
  cases o with
  | lst xs => obtain ⟨_, _, _, _, e⟩ := x; exact Heap.lt_size e
  | tup xs => obtain ⟨_, _, _, p⟩ := x; exact p.lt
  | dK kvs => obtain ⟨_, _, _, _, o, _, _, e, _⟩ := x; exact Heap.lt_size e
  | dT kvs => obtain ⟨_, _, _, _, o, _, _, e, _⟩ := x; exact Heap.lt_size e
  | set S n => obtain ⟨o, _, _, _, e, _⟩ := x; exact Heap.lt_size e
  | ins C dx fs => obtain ⟨_, _, _, e, _⟩ := x; exact Heap.lt_size e
  | own y => obtain ⟨_, e⟩ := x; exact Heap.lt_size e
  | xd fs => obtain ⟨_, ⟨_, _, _, e, _⟩, _⟩ := x; exact Heap.lt_size e
  | rng lo hi => obtain ⟨_, _, _, e⟩ := x; exact Heap.lt_size e
  | frz ob u => obtain ⟨e, _⟩ := x; exact Heap.lt_size e
  | tbl ps => exact Heap.lt_size (show h.get? a = some _ from x)
  | met f y => exact Heap.lt_size (show h.get? a = some _ from x)
  | ext φ => obtain ⟨_, ⟨_, e⟩, _⟩ := x; exact Heap.lt_size e
theorem Paired.mapP {α β : Type} {F G : α → β → Prop} : ∀ {l₁ : List α} {l₂ : List β}, Paired F l₁ l₂ → (∀ a b, F a b → G a b) → Paired G l₁ l₂
  | _, _, .nil, _ => .nil
  | _, _, .cons r t, f => .cons (f _ _ r) (Paired.mapP t f)
theorem ObjOk.stay (x : ObjOk P w H h a o) (k : ∀ b u, (b = a ∨ H b = some (.own a)) → h.get? b = some u → h'.get? b = some u)
    (ho : ∀ b, H b = some (.own a) → H' b = some (.own a)) (ht : ∀ b xs, H b = some (.tup xs) → H' b = some (.tup xs)) : ObjOk P w H' h' a o := by
  induction o with
  | lst xs => obtain ⟨z, its, n, r, e⟩ := x; exact ⟨z, its, n, r, k _ _ (.inl rfl) e⟩
  | tup xs =>
    obtain ⟨z, its, r, ob, e, c⟩ := x
    have e' := k _ _ (.inl rfl) e
    exact ⟨⟨z.1, fun o q => by rw [e'] at q; cases q; exact z.2 _ e⟩, its, r, ob, e', c⟩
  | dK kvs => obtain ⟨z, y, vs, r, ob, es, ep, e, c⟩ := x; exact ⟨z, y, vs, r, ob, es, ep, k _ _ (.inl rfl) e, c⟩
  | dT kvs =>
    obtain ⟨z, y, xs, r, ob, es, ep, e, c⟩ := x
    exact ⟨z, y, xs, Paired.mapP r fun p q z => ⟨z.1, ht _ _ z.2.1, z.2.2⟩, ob, es, ep, k _ _ (.inl rfl) e, c⟩
  | set S n => obtain ⟨ob, es, ep, t, e, c⟩ := x; exact ⟨ob, es, ep, t, k _ _ (.inl rfl) e, c⟩
  | ins C dx fs =>
    obtain ⟨d, z, ne, e, mA, ⟨od, es, ep, e2, c⟩, r⟩ := x
    exact ⟨ho _ d, z, ne, k _ _ (.inl rfl) e, mA, ⟨od, es, ep, k _ _ (.inr d) e2, c⟩, r⟩
  | own y => obtain ⟨ob, e⟩ := x; exact ⟨ob, k _ _ (.inl rfl) e⟩
  | xd fs => obtain ⟨mA, ⟨od, es, ep, e, c⟩, r⟩ := x; exact ⟨mA, ⟨od, es, ep, k _ _ (.inl rfl) e, c⟩, r⟩
  | rng lo hi => obtain ⟨t, u, v, e⟩ := x; exact ⟨t, u, v, k _ _ (.inl rfl) e⟩
  | frz ob u ih => obtain ⟨e, q⟩ := x; exact ⟨k _ _ (.inl rfl) e, ih q⟩
  | tbl ps =>
    have e : h.get? a = some { cls := .none, data := .fields ps } := x
    show h'.get? a = some { cls := .none, data := .fields ps }
    exact k a _ (.inl rfl) e
  | met f y =>
    have e : h.get? a = some (PySem.W.methodObj (.ref f) (.ref y)) := x
    show h'.get? a = some (PySem.W.methodObj (.ref f) (.ref y))
    exact k a _ (.inl rfl) e
  | ext φ => obtain ⟨p, ⟨o, e⟩, st⟩ := x; exact ⟨st _ _ p fun o q => k _ _ (.inl rfl) q, ⟨o, k _ _ (.inl rfl) e⟩, st⟩
theorem HOk.lt (x : HOk P w H h) (e : H a = some o) : a < h.objs.size := (x a o e).lt
theorem HOk.fresh (x : HOk P w H h) (e : h.objs.size ≤ a) : H a = none := by
  cases q : H a with
  | none => rfl
  | some u => exact absurd (Nat.lt_of_lt_of_le (x.lt q) e) (Nat.lt_irrefl _)
theorem HOk.kept (x : HOk P w H h) (k : ∀ b u, h.get? b = some u → h'.get? b = some u) : HOk P w H h' := fun a o e =>
  (x a o e).stay (fun b u _ q => k b u q) (fun _ q => q) fun _ _ q => q
theorem HOk.laid (x : HOk P w H h) (k : ∀ b u, h.get? b = some u → h'.get? b = some u) (hp : h.objs.size ≤ a) (new : ObjOk P w (upd H a o) h' a o) : HOk P w (upd H a o) h' := fun b u e => by
  have hn := x.fresh hp
  by_cases hb : b = a
  · subst hb; rw [upd_same] at e; cases e; exact new
  · rw [upd_ne hb] at e
    exact (x b u e).stay (fun c v _ q => k c v q) (fun c q => by rw [upd_ne (ne_of_none q hn)]; exact q) fun c xs q => by rw [upd_ne (ne_of_none q hn)]; exact q
end
def Rd (H : Hp) (a : Addr) (u : HO) : Prop := H a = some u ∨ ∃ o, H a = some (.frz o u)
theorem Rd.ok {P : Program} {w : World} {H : Hp} {h : Heap} {a : Addr} {u : HO} (r : Rd H a u) (x : HOk P w H h) : ObjOk P w H h a u := by
  rcases r with r | ⟨o, r⟩
  · exact x a u r
  · obtain ⟨_, q⟩ := x a _ r
    exact q
def Mut : Option HO → Prop
  | some (.lst _) => True
  | some (.dK _) => True
  | some (.dT _) => True
  | some (.set _ _) => True
  | some (.ins _ _ _) => True
  | some (.ext _) => True
  | _ => False
section
variable {P : Program} {w : World} {H : Hp} {h h' : Heap} {x e : Addr} {o' : HO}
theorem HOk.write (ok : HOk P w H h) (mu : Mut (H x)) (he : e = x ∨ H e = some (.own x)) (k : ∀ b u, b ≠ e → h.get? b = some u → h'.get? b = some u) (heo : ∃ u, h'.get? e = some u)
    (new : ObjOk P w (upd H x o') h' x o') : HOk P w (upd H x o') h' := fun b u q => by
  have nown : ∀ c y, H c = some (.own y) → c ≠ x := fun c y r z => by subst z; rw [r] at mu; exact mu
  have ntup : ∀ c xs, H c = some (.tup xs) → c ≠ x := fun c xs r z => by subst z; rw [r] at mu; exact mu
  by_cases hb : b = x
  · subst hb; rw [upd_same] at q; cases q; exact new
  · rw [upd_ne hb] at q
    by_cases hbe : b = e
    · have q' : H b = some (.own x) := by
        rcases he with z | z
        · exact absurd (hbe.trans z) hb
        · rw [hbe]; exact z
      rw [q] at q'; cases q'
      obtain ⟨v, hv⟩ := heo
      exact ⟨v, by rw [hbe]; exact hv⟩
    · refine (ok b u q).stay (fun c v hc r => k c v ?_ r) (fun c r => by rw [upd_ne (nown c b r)]; exact r) fun c xs r => by rw [upd_ne (ntup c xs r)]; exact r
      rcases hc with rfl | hc
      · exact hbe
      · rintro rfl
        rcases he with z | z
        · exact nown c b hc z
        · rw [hc] at z; cases z; exact hb rfl
end
structure Un (fs ex : List Addr) (H H' : Hp) (h h' : Heap) : Prop where
  keep : ∀ b o, h.get? b = some o → H b = none → b ∉ fs → b ∉ ex → h'.get? b = some o
  slot : ∀ b o, h.get? b = some o → H b = none → b ∈ fs → b ∉ ex → ∃ sl, h'.get? b = some { o with slots := sl }
  free : ∀ b o, h.get? b = some o → H b = none → b ∉ ex → H' b = none
  there : ∀ b o, h.get? b = some o → b ∉ ex → ∃ o', h'.get? b = some o'
  tups : ∀ b xs, H b = some (.tup xs) → H' b = some (.tup xs)
  frzs : ∀ b o u, H b = some (.frz o u) → H' b = some (.frz o u)
  tbls : ∀ b ps, H b = some (.tbl ps) → ∃ more, H' b = some (.tbl (ps ++ more))
section
variable {fs fs' ex ex' : List Addr} {H H1 H2 : Hp} {h h1 h2 h' : Heap} {a x e : Addr} {o : HO}
theorem Un.any (u : Un fs ex H H1 h h1) {b : Addr} {ob : Obj} (q : h.get? b = some ob) (n : H b = none) (hx : b ∉ ex) : ∃ sl, h1.get? b = some { ob with slots := sl } := by
  by_cases hb : b ∈ fs
  · exact u.slot b ob q n hb hx
  · exact ⟨ob.slots, u.keep b ob q n hb hx⟩
theorem Un.kept (k : ∀ b u, h.get? b = some u → h'.get? b = some u) : Un fs ex H H h h' :=
  ⟨fun b ob q _ _ _ => k b ob q, fun b ob q _ _ _ => ⟨ob.slots, k b ob q⟩, fun _ _ _ n _ => n, fun b ob q _ => ⟨ob, k b ob q⟩, fun _ _ q => q, fun _ _ _ q => q, fun _ ps q => ⟨#[], by rw [q]; simp⟩⟩
theorem Un.refl : Un fs ex H H h h := Un.kept fun _ _ q => q
theorem Un.laid (k : ∀ b u, h.get? b = some u → h'.get? b = some u) (hp : h.objs.size ≤ a) (hn : H a = none) : Un fs ex H (upd H a o) h h' where
  keep := fun b u q _ _ _ => k b u q
  slot := fun b u q _ _ _ => ⟨u.slots, k b u q⟩
  free := fun b u q n _ => by rw [upd_ne (Nat.ne_of_lt (Nat.lt_of_lt_of_le (Heap.lt_size q) hp))]; exact n
  there := fun b u q _ => ⟨u, k b u q⟩
  tups := fun b xs q => by rw [upd_ne (ne_of_none q hn)]; exact q
  frzs := fun b u xs q => by rw [upd_ne (ne_of_none q hn)]; exact q
  tbls := fun b ps q => ⟨#[], by rw [upd_ne (ne_of_none q hn), q]; simp⟩
theorem Un.write (mu : Mut (H x)) (he : e = x ∨ H e = some (.own x)) (k : ∀ b u, b ≠ e → h.get? b = some u → h'.get? b = some u) (heo : ∃ u, h'.get? e = some u) : Un fs ex H (upd H x o) h h' := by
  have hx : ∀ b, H b = none → b ≠ x := fun b n z => by subst z; rw [n] at mu; exact mu
  have hb : ∀ b, H b = none → b ≠ e := fun b n z => by
    subst z
    rcases he with r | r
    · exact hx b n r
    · rw [n] at r; cases r
  have hm : ∀ b u, H b = some u → ¬ Mut (some u) → b ≠ x := fun b u q nm z => by subst z; rw [q] at mu; exact nm mu
  refine ⟨fun b u q n _ _ => k b u (hb b n) q, fun b u q n _ _ => ⟨u.slots, k b u (hb b n) q⟩, fun b u q n _ => by rw [upd_ne (hx b n)]; exact n, fun b u q _ => ?_,
    fun b xs q => by rw [upd_ne (hm b _ q fun z => z)]; exact q, fun b u xs q => by rw [upd_ne (hm b _ q fun z => z)]; exact q, fun b ps q => ⟨#[], by rw [upd_ne (hm b _ q fun z => z), q]; simp⟩⟩
  by_cases hbe : b = e
  · subst hbe; exact heo
  · exact ⟨u, k b u hbe q⟩
end
def trk (h : Heap) (H : Hp) : List Addr := (List.range h.objs.size).filter fun a => (H a).isSome
def hidT (h : Heap) (H : Hp) : Heap := PySem.W.hideAll h (trk h H)
theorem hidT_size (h : Heap) (H : Hp) : (hidT h H).objs.size = h.objs.size := PySem.W.hideAll_size _ _
theorem hidT_get {h : Heap} {H : Hp} {b : Addr} {o : Obj} (e : h.get? b = some o) (n : H b = none) : (hidT h H).get? b = some o :=
  PySem.W.hideAll_get _ e fun hm => by
    have q : (H b).isSome = true := (List.mem_filter.mp hm).2
    rw [n] at q; simp at q
theorem of_hidT {h : Heap} {H : Hp} {b : Addr} {o : Obj} (e : (hidT h H).get? b = some o) : h.get? b = some o ∧ H b = none := by
  have e' : h.get? b = some o := PySem.W.of_hideAll (trk h H) e
  refine ⟨e', ?_⟩
  cases q : H b with
  | none => rfl
  | some x =>
    have hm : b ∈ trk h H := List.mem_filter.mpr ⟨List.mem_range.mpr (Heap.lt_size e'), by simp [q]⟩
    have z : (hidT h H).get? b = none := PySem.W.hideAll_none (trk h H) hm
    rw [z] at e; cases e
def allNews (g h : Heap) (L : Addr) : List (Addr × Obj) := (List.range h.objs.size).filterMap fun a => if a = L ∨ (g.get? a).isSome = true then none else (h.get? a).map fun o => (a, o)
def rest (g h : Heap) (L d : Addr) : List (Addr × Obj) := (allNews g h L).filter fun p => decide (p.1 ≠ d)
end L2
namespace L2
open PySem PySem.Spec PyProof.Rows
structure Mod (K : PySem.W.Frag) (mg : Str → Option Value) (base : Heap) : Prop where
  kin : K.In base
  glob : base.Ns mainGlobals mg
  blt : ∃ mb, base.Ns builtinsNs mb ∧ ∀ x : Str, x ≠ "__name__" → mb x = bootBuiltins x
  nolimit : base.NoLimit
/-- the context: a def's body (or a comprehension's block) running. base: fixed through the whole law; s₀, H₀: the entry; outer: the frames whose slots others may change (a def's callers); stack: all frames that run;
   ex: iterators that were made ahead of the entry and are walked here (a comprehension's); fn: the names whose cells were made at the entry (a def: all; a comprehension's block: its own); calm: not within an except suite; pn: pins that every state bears; xe: what is wanted of an exception that leaves the code -/
structure Cx where
  prog : Program
  w : World
  K : PySem.W.Frag
  mg : Str → Option Value
  base : Heap
  A : Around
  N : List Str
  s₀ : Shared
  H₀ : Hp
  env : Env
  outer : List Env
  stack : List Env
  ex : List Addr
  fn : Str → Bool
  calm : Bool
  pn : List (Addr × Obj)
  xe : Value → Shared → Prop
def frs (l : List Env) : List Addr := l.filterMap (·.frame)
abbrev Cx.fs (X : Cx) : List Addr := frs X.outer
def Vis (sc : Scope) (x : Str) : Prop := sc.names.lookup x = some .local ∨ sc.names.lookup x = some .cell ∨ sc.names.lookup x = some .free
def Loc (sc : Scope) (x : Str) : Prop := sc.names.lookup x = some .local ∨ sc.names.lookup x = some .cell
def Look (env : Env) (h : Heap) (m : Str → Option Value) (x : Str) (u : Value) : Prop :=
  (env.kindOf x = some .local ∧ m x = some u) ∨ ((env.kindOf x = some .cell ∨ env.kindOf x = some .free) ∧ ∃ c, env.cells.lookup x = some c ∧ h.IsCell c (some u))
structure Cx.Ok (X : Cx) : Prop where
  mod : Mod X.K X.mg X.base
  kind : X.env.scope.kind = .function
  glob : X.env.globals = mainGlobals
  blt : X.env.builtins = builtinsNs
  above : X.s₀.heap.objs.size ≤ X.env.locals
  inj : ∀ x y c, X.env.cells.lookup x = some c → X.env.cells.lookup y = some c → x = y
  has : ∀ x, (X.env.kindOf x = some .cell ∨ X.env.kindOf x = some .free) → ∃ c, X.env.cells.lookup x = some c
  cab : ∀ x c, X.fn x = true → X.env.cells.lookup x = some c → X.s₀.heap.objs.size ≤ c
  hd : X.calm = true → X.A.handled = none
  frames : X.A.frames = some X.stack
  stk : X.stack = X.outer ∨ (X.stack = X.env :: X.outer ∧ X.env.frame = some X.env.locals)
  exf : ∀ b ∈ X.ex, b ≠ X.env.locals ∧ ∀ x c, X.env.cells.lookup x = some c → c ≠ b
  bs : ∀ b o, X.base.get? b = some o → X.s₀.heap.get? b = some o ∧ X.H₀ b = none
  bsz : X.base.objs.size ≤ X.s₀.heap.objs.size
  noex : ∀ b o, X.base.get? b = some o → b ∉ X.ex
  exfs : ∀ b ∈ X.ex, b ∉ X.fs
  funs : X.s₀.heap.FunFrames X.base X.outer
  frf : ∀ b ∈ X.fs, X.H₀ b = none
structure Inv (X : Cx) (pins : List (Addr × Obj)) (σ : List (Option V)) (H : Hp) (s : Shared) : Prop where
  ok : X.Ok
  os : s.os = X.s₀.os
  bare : AllBare s.gens
  base : Un X.fs X.ex X.H₀ H X.s₀.heap s.heap
  loc : ∃ m, s.heap.Ns X.env.locals m ∧ ∀ (i : Nat) (x : Str) (v : V), X.N[i]? = some x → σ[i]? = some (some v) → Vis X.env.scope x → ∃ u, RelV v u ∧ Look X.env s.heap m x u
  cell : ∀ x c, X.env.cells.lookup x = some c → ∃ v, s.heap.IsCell c v
  free : H X.env.locals = none
  freeC : ∀ x c, X.env.cells.lookup x = some c → H c = none
  pin : ∀ p ∈ X.pn ++ pins, s.heap.get? p.1 = some p.2 ∧ H p.1 = none ∧ p.1 ≠ X.env.locals ∧ p.1 ∉ X.fs ∧ ∀ v, p.2.data ≠ .cell v
  hok : HOk X.prog X.w H s.heap
  len : σ.length = X.N.length
section
variable {X : Cx} {pins : List (Addr × Obj)} {σ : List (Option V)} {H H' : Hp} {s : Shared} {h' : Heap}
theorem Cx.Ok.nofr (ok : X.Ok) {b : Addr} {o : Obj} (e : X.base.get? b = some o) : b ∉ X.fs := fun hb => by
  have := (ok.funs.mem hb).1
  rw [e] at this; cases this
theorem Inv.bs (I : Inv X pins σ H s) : ∀ b o, X.base.get? b = some o → s.heap.get? b = some o ∧ H b = none := fun b o e =>
  ⟨I.base.keep b o (I.ok.bs b o e).1 (I.ok.bs b o e).2 (I.ok.nofr e) (I.ok.noex b o e), I.base.free b o (I.ok.bs b o e).1 (I.ok.bs b o e).2 (I.ok.noex b o e)⟩
theorem Inv.bk (I : Inv X pins σ H s) : ∀ b o, X.base.get? b = some o → s.heap.get? b = some o := fun b o e => (I.bs b o e).1
theorem Inv.mod (I : Inv X pins σ H s) : Mod X.K X.mg X.base := I.ok.mod
theorem Inv.kIn (I : Inv X pins σ H s) : X.K.In s.heap := I.ok.mod.kin.keeps I.bk
theorem Inv.nolimit (I : Inv X pins σ H s) : s.heap.NoLimit := I.ok.mod.nolimit.keeps I.bk
theorem Inv.lt (I : Inv X pins σ H s) : X.env.locals < s.heap.objs.size := let ⟨_, hn, _⟩ := I.loc; hn.lt
theorem Inv.sz (I : Inv X pins σ H s) : X.s₀.heap.objs.size ≤ s.heap.objs.size := Nat.le_trans I.ok.above (Nat.le_of_lt I.lt)
theorem Inv.nofs (I : Inv X pins σ H s) {a : Addr} (h : s.heap.objs.size ≤ a) : a ∉ X.fs := fun hb => by
  obtain ⟨_, o, ho, _⟩ := I.ok.funs.mem hb
  exact absurd (Nat.lt_of_lt_of_le (Heap.lt_size ho) (Nat.le_trans I.sz h)) (Nat.lt_irrefl _)
theorem Inv.cne (I : Inv X pins σ H s) : ∀ x c, X.env.cells.lookup x = some c → c ≠ X.env.locals := fun x c e z => by
  obtain ⟨v, o, ho, hd⟩ := I.cell x c e
  obtain ⟨m, ⟨o', es, ep, ho', hd', _⟩, _⟩ := I.loc
  rw [z, ho'] at ho; cases ho; rw [hd'] at hd; cases hd
theorem Inv.funs (I : Inv X pins σ H s) : s.heap.FunFrames X.base X.outer := by
  have all : ∀ (l : List Env), (∀ b ∈ frs l, b ∈ X.fs) → X.s₀.heap.FunFrames X.base l → s.heap.FunFrames X.base l := by
    intro l
    induction l with
    | nil => intro _ _; trivial
    | cons env r ih =>
      intro hs hl
      obtain ⟨hk, ⟨L, o, hf, hn, ho, hd⟩, hr⟩ := hl
      have hL : L ∈ X.fs := hs L (by unfold frs; rw [List.filterMap_cons, hf]; exact List.mem_cons_self)
      obtain ⟨sl, e⟩ := I.base.slot L o ho (I.ok.frf L hL) hL fun z => I.ok.exfs L z hL
      exact ⟨hk, ⟨L, _, hf, hn, e, hd⟩, ih (fun b hb => hs b (by unfold frs; rw [List.filterMap_cons, hf]; exact List.mem_cons_of_mem _ hb)) hr⟩
  exact all X.outer (fun _ hb => hb) I.ok.funs
theorem Inv.stack (I : Inv X pins σ H s) : s.heap.FunFrames X.base X.stack := by
  rcases I.ok.stk with e | ⟨e, hf⟩
  · rw [e]; exact I.funs
  · rw [e]
    obtain ⟨m, hn, _⟩ := I.loc
    refine .cons (by rw [I.ok.kind]; decide) hf hn ?_ I.funs
    exact Heap.get?_none_of_le (Nat.le_trans I.ok.bsz I.ok.above)
theorem Inv.stkSub (I : Inv X pins σ H s) : ∀ b ∈ frs X.stack, b ∈ X.env.locals :: X.fs := fun b hb => by
  rcases I.ok.stk with e | ⟨e, hf⟩
  · rw [e] at hb; exact List.mem_cons_of_mem _ hb
  · rw [e] at hb
    unfold frs at hb
    rw [List.filterMap_cons, hf] at hb
    exact hb
theorem Inv.stkFree (I : Inv X pins σ H s) : ∀ b ∈ frs X.stack, H b = none := fun b hb => by
  rcases List.mem_cons.mp (I.stkSub b hb) with e | hb
  · rw [e]; exact I.free
  · obtain ⟨_, o, ho, _⟩ := I.ok.funs.mem hb
    exact I.base.free b o ho (I.ok.frf b hb) fun z => I.ok.exfs b z hb
theorem Inv.step {g' : Array GenState} {t' : Nat} {d' : Drawn} {ch : List Addr} (I : Inv X pins σ H s)
    (hch : ∀ b ∈ ch, (b ∈ X.ex ∨ X.s₀.heap.objs.size ≤ b) ∧ b ≠ X.env.locals ∧ (∀ x c, X.env.cells.lookup x = some c → c ≠ b) ∧ ∀ p ∈ X.pn ++ pins, p.1 ≠ b)
    (keep : ∀ b o, b ≠ X.env.locals → b ∉ X.fs → b ∉ ch → s.heap.get? b = some o → H b = none → h'.get? b = some o)
    (slot : ∀ b o, b ≠ X.env.locals → b ∈ X.fs → b ∉ ch → s.heap.get? b = some o → H b = none → ∃ sl, h'.get? b = some { o with slots := sl }) (free : ∀ b o, b ∉ ch → s.heap.get? b = some o → H b = none → H' b = none)
    (there : ∀ b o, b ∉ ch → s.heap.get? b = some o → ∃ o', h'.get? b = some o')
    (tups : ∀ b xs, H b = some (.tup xs) → H' b = some (.tup xs)) (frzs : ∀ b o u, H b = some (.frz o u) → H' b = some (.frz o u)) (tbls : ∀ b ps, H b = some (.tbl ps) → ∃ more, H' b = some (.tbl (ps ++ more)))
    (ns : ∀ m, s.heap.Ns X.env.locals m → h'.Ns X.env.locals m) (hok : HOk X.prog X.w H' h') (hg : AllBare g') :
    Inv X pins σ H' { s with heap := h', gens := g', drawn := d', toks := t' } := by
  have neL : ∀ b o, X.s₀.heap.get? b = some o → b ≠ X.env.locals := fun b o e => Nat.ne_of_lt (Nat.lt_of_lt_of_le (Heap.lt_size e) I.ok.above)
  have neC : ∀ b o, X.s₀.heap.get? b = some o → b ∉ X.ex → b ∉ ch := fun b o e hx hb => by
    rcases (hch b hb).1 with z | z
    · exact hx z
    · exact absurd (Nat.lt_of_lt_of_le (Heap.lt_size e) z) (Nat.lt_irrefl _)
  have cellK : ∀ x c, X.env.cells.lookup x = some c → ∀ v, s.heap.IsCell c v → h'.IsCell c v := fun x c e v ⟨o, ho, hd⟩ => by
    have nch : c ∉ ch := fun z => (hch c z).2.2.1 x c e rfl
    by_cases hc : c ∈ X.fs
    · obtain ⟨sl, q⟩ := slot c o (I.cne x c e) hc nch ho (I.freeC x c e)
      exact ⟨_, q, hd⟩
    · exact ⟨o, keep c o (I.cne x c e) hc nch ho (I.freeC x c e), hd⟩
  refine ⟨I.ok, I.os, hg, ⟨fun b o e n hb hx => ?_, fun b o e n hb hx => ?_, fun b o e n hx => ?_, fun b o e hx => ?_, fun b xs e => tups b xs (I.base.tups b xs e), fun b o xs e => frzs b o xs (I.base.frzs b o xs e), fun b ps e => ?_⟩, ?_, fun x c e => ?_, ?_, fun x c e => ?_, fun p hp => ?_, hok, I.len⟩
  · exact keep b o (neL b o e) hb (neC b o e hx) (I.base.keep b o e n hb hx) (I.base.free b o e n hx)
  · obtain ⟨sl, e1⟩ := I.base.slot b o e n hb hx
    obtain ⟨sl', e2⟩ := slot b _ (neL b o e) hb (neC b o e hx) e1 (I.base.free b o e n hx)
    exact ⟨sl', e2⟩
  · obtain ⟨o', e1⟩ := I.base.there b o e hx
    exact free b o' (neC b o e hx) e1 (I.base.free b o e n hx)
  · obtain ⟨o', e1⟩ := I.base.there b o e hx
    exact there b o' (neC b o e hx) e1
  · obtain ⟨m1, e1⟩ := I.base.tbls b ps e
    obtain ⟨m2, e2⟩ := tbls b _ e1
    exact ⟨m1 ++ m2, by rw [e2, Array.append_assoc]⟩
  · obtain ⟨m, hn, hl⟩ := I.loc
    refine ⟨m, ns m hn, fun i x v e1 e2 e3 => ?_⟩
    obtain ⟨u, r, l⟩ := hl i x v e1 e2 e3
    refine ⟨u, r, ?_⟩
    rcases l with l | ⟨k, c, e, z⟩
    · exact .inl l
    · exact .inr ⟨k, c, e, cellK x c e _ z⟩
  · obtain ⟨v, z⟩ := I.cell x c e
    exact ⟨v, cellK x c e v z⟩
  · obtain ⟨m, ⟨o, _, _, ho, _⟩, _⟩ := I.loc
    exact free _ o (fun z => (hch _ z).2.1 rfl) ho I.free
  · obtain ⟨v, o, ho, hd⟩ := I.cell x c e
    exact free c o (fun z => (hch c z).2.2.1 x c e rfl) ho (I.freeC x c e)
  · obtain ⟨e, n, ne, nf, d⟩ := I.pin p hp
    have nch : p.1 ∉ ch := fun z => (hch p.1 z).2.2.2 p hp rfl
    exact ⟨keep p.1 p.2 ne nf nch e n, free p.1 p.2 nch e n, ne, nf, d⟩
theorem Inv.un {t' : Nat} (I : Inv X pins σ H s) (u : Un X.fs [] H H' s.heap h') (hok : HOk X.prog X.w H' h') : Inv X pins σ H' { s with heap := h', toks := t' } := by
  obtain ⟨m, ⟨o, es, ep, ho, r⟩, _⟩ := id I.loc
  obtain ⟨sl, hL⟩ := u.any ho I.free (by simp)
  exact I.step (g' := s.gens) (d' := s.drawn) (ch := []) (fun _ z => nomatch z) (fun b o _ hb _ e n => u.keep b o e n hb (by simp)) (fun b o _ hb _ e n => u.slot b o e n hb (by simp)) (fun b o _ e n => u.free b o e n (by simp)) (fun b o _ e => u.there b o e (by simp)) u.tups u.frzs u.tbls (fun m' hm => by
    obtain ⟨o', es', ep', ho', r'⟩ := hm
    rw [ho] at ho'; cases ho'
    exact ⟨_, es', ep', hL, r'⟩) hok I.bare
theorem Inv.call {g' : Array GenState} {t' : Nat} {d' : Drawn} {ch : List Addr} (I : Inv X pins σ H s) (u : Un (frs X.stack) ch H H' s.heap h') (hok : HOk X.prog X.w H' h') (hg : AllBare g')
    (hch : ∀ b ∈ ch, (b ∈ X.ex ∨ X.s₀.heap.objs.size ≤ b) ∧ b ≠ X.env.locals ∧ (∀ x c, X.env.cells.lookup x = some c → c ≠ b) ∧ ∀ p ∈ X.pn ++ pins, p.1 ≠ b) :
    Inv X pins σ H' { s with heap := h', gens := g', drawn := d', toks := t' } := by
  obtain ⟨m, ⟨o, es, ep, ho, r⟩, _⟩ := id I.loc
  obtain ⟨sl, hL⟩ := u.any ho I.free fun z => (hch _ z).2.1 rfl
  exact I.step (ch := ch) hch (fun b o hL hb hc e n => u.keep b o e n (fun z => (List.mem_cons.mp (I.stkSub b z)).elim hL hb) hc) (fun b o _ _ hc e n => u.any e n hc) (fun b o hc e n => u.free b o e n hc) (fun b o hc e => u.there b o e hc) u.tups u.frzs u.tbls (fun m' hm => by
    obtain ⟨o', es', ep', ho', r'⟩ := hm
    rw [ho] at ho'; cases ho'
    exact ⟨_, es', ep', hL, r'⟩) hok hg
theorem Inv.turned {t' : Nat} {it : Addr} (I : Inv X pins σ H s) (k : ∀ b o, b ≠ it → s.heap.get? b = some o → h'.get? b = some o) (hn : H it = none) (hL : it ≠ X.env.locals)
    (h1 : it ∈ X.ex ∨ X.s₀.heap.objs.size ≤ it) (h2 : ∀ x c, X.env.cells.lookup x = some c → c ≠ it) (h3 : ∀ p ∈ X.pn ++ pins, p.1 ≠ it) : Inv X pins σ H { s with heap := h', toks := t' } := by
  have nit : ∀ b u, H b = some u → b ≠ it := fun b u e z => by rw [z, hn] at e; cases e
  refine I.step (g' := s.gens) (d' := s.drawn) (ch := [it]) (fun b hb => ?_) (fun b o _ _ hc e _ => k b o (fun z => hc (by simp [z])) e) (fun b o _ _ hc e _ => ⟨o.slots, k b o (fun z => hc (by simp [z])) e⟩) (fun _ _ _ _ n => n)
    (fun b o hc e => ⟨o, k b o (fun z => hc (by simp [z])) e⟩) (fun _ _ e => e) (fun _ _ _ e => e) (fun b ps e => ⟨#[], by rw [e]; simp⟩) (fun m hm => ?_) (fun b u e => ?_) I.bare
  · have e : b = it := by simpa using hb
    subst e
    exact ⟨h1, hL, h2, h3⟩
  · obtain ⟨o, es, ep, ho, r⟩ := hm
    exact ⟨o, es, ep, k _ o (Ne.symm hL) ho, r⟩
  · refine (I.hok b u e).stay (fun c v hc q => k c v ?_ q) (fun _ q => q) fun _ _ q => q
    rcases hc with z | z
    · rw [z]; exact nit b u e
    · exact nit c _ z
theorem Inv.tok (I : Inv X pins σ H s) (t : Nat) : Inv X pins σ H { s with toks := t } := I.un (h' := s.heap) (t' := t) Un.refl I.hok
theorem Inv.kept {t' : Nat} (I : Inv X pins σ H s) (k : ∀ b u, s.heap.get? b = some u → h'.get? b = some u) : Inv X pins σ H { s with heap := h', toks := t' } := I.un (Un.kept k) (I.hok.kept k)
theorem Inv.laid {a : Addr} {o : HO} {t' : Nat} (I : Inv X pins σ H s) (k : ∀ b u, s.heap.get? b = some u → h'.get? b = some u) (hp : s.heap.objs.size ≤ a) (new : ObjOk X.prog X.w (upd H a o) h' a o) :
    Inv X pins σ (upd H a o) { s with heap := h', toks := t' } := I.un (Un.laid k hp (I.hok.fresh hp)) (I.hok.laid k hp new)
theorem Inv.write {x e : Addr} {o : HO} {t' : Nat} (I : Inv X pins σ H s) (mu : Mut (H x)) (he : e = x ∨ H e = some (.own x)) (k : ∀ b u, b ≠ e → s.heap.get? b = some u → h'.get? b = some u) (heo : ∃ u, h'.get? e = some u)
    (new : ObjOk X.prog X.w (upd H x o) h' x o) : Inv X pins σ (upd H x o) { s with heap := h', toks := t' } := I.un (Un.write mu he k heo) (I.hok.write mu he k heo new)
theorem Inv.pins_of {pins' : List (Addr × Obj)} (I : Inv X pins σ H s) (h : ∀ p ∈ pins', s.heap.get? p.1 = some p.2 ∧ H p.1 = none ∧ p.1 ≠ X.env.locals ∧ p.1 ∉ X.fs ∧ ∀ v, p.2.data ≠ .cell v) : Inv X pins' σ H s :=
  ⟨I.ok, I.os, I.bare, I.base, I.loc, I.cell, I.free, I.freeC, fun p hp => (List.mem_append.mp hp).elim (fun z => I.pin p (List.mem_append_left _ z)) (h p), I.hok, I.len⟩
theorem nodup_ix {N : List Str} (hN : N.Nodup) {i j : Nat} {x : Str} (a : N[i]? = some x) (b : N[j]? = some x) : i = j := by
  obtain ⟨h1, e1⟩ := List.getElem?_eq_some_iff.mp a
  obtain ⟨h2, e2⟩ := List.getElem?_eq_some_iff.mp b
  exact (List.getElem_inj hN).mp (e1.trans e2.symm)
theorem store_ok2 {M : Model} {A : Around} {E : Value → Shared → Prop} {i : Nat} {x : Str} {v : V} {u : Value} {Q : Unit → Shared → Prop} (I : Inv X pins σ H s) (hN : X.N.Nodup) (hi : X.N[i]? = some x) (hx : Loc X.env.scope x) (r : RelV v u)
    (h : ∀ s', Inv X pins (σ.set i (some v)) H s' → (∃ a, Heap.SameBut a s.heap s'.heap ∧ (a = X.env.locals ∨ X.env.cells.lookup x = some a)) → Q () s') (hf : X.fn x = true ∨ X.env.scope.names.lookup x = some .local := by first | exact .inl rfl | exact .inr rfl | assumption) : wpAny M A (storeName X.env x u) Q E s := by
  obtain ⟨m, hn, hl⟩ := id I.loc
  have hcls : (X.env.scope.kind == .class || (X.env.scope.kind == .module && X.env.locals != X.env.globals)) = false := by rw [I.ok.kind]; rfl
  have hiσ : i < σ.length := by rw [I.len]; exact (List.getElem?_eq_some_iff.mp hi).1
  have cne := I.cne
  have tracked : ∀ {a : Addr} {h' : Heap}, (∃ o, s.heap.get? a = some o ∧ H a = none) → Heap.SameBut a s.heap h' → HOk X.prog X.w H h' := fun {a h'} ha hs b ob e => by
    obtain ⟨_, _, hfree⟩ := ha
    refine (I.hok b ob e).stay (fun c w' hc q => (hs.2 c ?_).trans q) (fun _ q => q) fun _ _ q => q
    rintro rfl
    rcases hc with rfl | hc
    · rw [hfree] at e; cases e
    · rw [hfree] at hc; cases hc
  rcases hx with hk | hk
  · refine wpAny_storeName_local hk hn (fun h' hn' hs => ?_) hcls
    obtain ⟨oL, _, _, hoL, _⟩ := id hn
    refine h _ ⟨I.ok, I.os, I.bare, ⟨fun b o e n hb hx => ?_, fun b o e n hb hx => ?_, I.base.free, fun b o e hx => ?_, I.base.tups, I.base.frzs, I.base.tbls⟩, ⟨_, hn', fun j y v' e1 e2 e3 => ?_⟩, fun y c e => ?_, I.free, I.freeC, fun p hp => ?_, tracked ⟨oL, hoL, I.free⟩ hs, by simpa using I.len⟩ ⟨_, hs, .inl rfl⟩
    · exact (hs.2 b (Nat.ne_of_lt (Nat.lt_of_lt_of_le (Heap.lt_size e) I.ok.above))).trans (I.base.keep b o e n hb hx)
    · obtain ⟨sl, e1⟩ := I.base.slot b o e n hb hx
      exact ⟨sl, (hs.2 b (Nat.ne_of_lt (Nat.lt_of_lt_of_le (Heap.lt_size e) I.ok.above))).trans e1⟩
    · obtain ⟨o', e1⟩ := I.base.there b o e hx
      exact ⟨o', (hs.2 b (Nat.ne_of_lt (Nat.lt_of_lt_of_le (Heap.lt_size e) I.ok.above))).trans e1⟩
    · by_cases hj : j = i
      · subst hj
        rw [hi] at e1; cases e1
        rw [List.getElem?_set_self hiσ] at e2
        cases e2
        exact ⟨u, r, .inl ⟨hk, by simp⟩⟩
      · rw [List.getElem?_set_ne (Ne.symm hj)] at e2
        obtain ⟨u', r', q⟩ := hl j y v' e1 e2 e3
        refine ⟨u', r', ?_⟩
        rcases q with ⟨k, e⟩ | ⟨k, c, e, z⟩
        · refine .inl ⟨k, ?_⟩
          have : y ≠ x := fun e => hj (nodup_ix hN e1 (e ▸ hi))
          simp [this, e]
        · exact .inr ⟨k, c, e, z.sameBut hs (cne y c e)⟩
    · obtain ⟨w', z⟩ := I.cell y c e
      exact ⟨w', z.sameBut hs (cne y c e)⟩
    · obtain ⟨e, n, ne, nf, d⟩ := I.pin p hp
      exact ⟨(hs.2 p.1 ne).trans e, n, ne, nf, d⟩
  · have hfn : X.fn x = true := by
      rcases hf with z | z
      · exact z
      · rw [z] at hk; cases hk
    obtain ⟨c, hc⟩ := I.ok.has x (.inl hk)
    obtain ⟨w', z⟩ := I.cell x c hc
    refine wpAny_storeName_cell I.ok.kind hk hc z (fun h' hc' hs => ?_)
    obtain ⟨oc, hoc, hocd⟩ := id z
    refine h { s with heap := h' } ⟨I.ok, I.os, I.bare, ⟨fun b o e n hb hx => ?_, fun b o e n hb hx => ?_, I.base.free, fun b o e hx => ?_, I.base.tups, I.base.frzs, I.base.tbls⟩, ⟨m, hn.sameBut hs (Ne.symm (cne x c hc)), fun j y v' e1 e2 e3 => ?_⟩, fun y c' e => ?_, I.free, I.freeC, fun p hp => ?_, tracked ⟨oc, hoc, I.freeC x c hc⟩ hs, by simpa using I.len⟩ ⟨c, hs, .inr hc⟩
    · exact (hs.2 b (Nat.ne_of_lt (Nat.lt_of_lt_of_le (Heap.lt_size e) (I.ok.cab x c hfn hc)))).trans (I.base.keep b o e n hb hx)
    · obtain ⟨sl, e1⟩ := I.base.slot b o e n hb hx
      exact ⟨sl, (hs.2 b (Nat.ne_of_lt (Nat.lt_of_lt_of_le (Heap.lt_size e) (I.ok.cab x c hfn hc)))).trans e1⟩
    · obtain ⟨o', e1⟩ := I.base.there b o e hx
      exact ⟨o', (hs.2 b (Nat.ne_of_lt (Nat.lt_of_lt_of_le (Heap.lt_size e) (I.ok.cab x c hfn hc)))).trans e1⟩
    · by_cases hj : j = i
      · subst hj
        rw [hi] at e1; cases e1
        rw [List.getElem?_set_self hiσ] at e2
        cases e2
        exact ⟨u, r, .inr ⟨.inl hk, c, hc, hc'⟩⟩
      · rw [List.getElem?_set_ne (Ne.symm hj)] at e2
        obtain ⟨u', r', q⟩ := hl j y v' e1 e2 e3
        refine ⟨u', r', ?_⟩
        rcases q with q | ⟨k, c', e, z'⟩
        · exact .inl q
        · refine .inr ⟨k, c', e, z'.sameBut hs ?_⟩
          rintro rfl
          exact hj (nodup_ix hN e1 (I.ok.inj _ _ _ e hc ▸ hi))
    · by_cases hcc : c' = c
      · subst hcc; exact ⟨_, hc'⟩
      · obtain ⟨w2, z2⟩ := I.cell y c' e
        exact ⟨w2, z2.sameBut hs hcc⟩
    · obtain ⟨e, n, ne, nf, d⟩ := I.pin p hp
      refine ⟨(hs.2 p.1 ?_).trans e, n, ne, nf, d⟩
      intro q
      rw [q, hoc] at e
      have q' : oc = p.2 := Option.some.inj e
      exact d w' (by rw [← q']; exact hocd)
theorem store_ok {M : Model} {A : Around} {E : Value → Shared → Prop} {i : Nat} {x : Str} {v : V} {u : Value} {Q : Unit → Shared → Prop} (I : Inv X pins σ H s) (hN : X.N.Nodup) (hi : X.N[i]? = some x) (hx : Loc X.env.scope x) (r : RelV v u)
    (h : ∀ s', Inv X pins (σ.set i (some v)) H s' → Q () s') (hf : X.fn x = true ∨ X.env.scope.names.lookup x = some .local := by first | exact .inl rfl | exact .inr rfl | assumption) : wpAny M A (storeName X.env x u) Q E s :=
  store_ok2 I hN hi hx r (fun s' I' _ => h s' I') hf
theorem Inv.call' {s' : Shared} {ch : List Addr} (I : Inv X pins σ H s) (ho : s'.os = s.os) (u : Un (frs X.stack) ch H H' s.heap s'.heap) (hok : HOk X.prog X.w H' s'.heap) (hg : AllBare s'.gens)
    (hch : ∀ b ∈ ch, (b ∈ X.ex ∨ X.s₀.heap.objs.size ≤ b) ∧ b ≠ X.env.locals ∧ (∀ x c, X.env.cells.lookup x = some c → c ≠ b) ∧ ∀ p ∈ X.pn ++ pins, p.1 ≠ b) : Inv X pins σ H' s' := by
  obtain ⟨h', g', d', t', o'⟩ := s'
  have e : o' = s.os := ho
  subst e
  exact I.call (g' := g') (t' := t') (d' := d') u hok hg hch
end
abbrev XK := Value → Option Addr → Hp → Prop
abbrev St := List (Option V)
abbrev VK := V → Hp → Prop
abbrev TE := St → Hp → VK → Prop
abbrev TT := St → Hp → (Bool → Hp → Prop) → Prop
abbrev TA := St → Hp → (List V → Hp → Prop) → Prop
structure Ends where
  nx : St → Hp → Prop
  rt : VK
  bk : St → Hp → Prop := fun _ _ => False
  ct : St → Hp → Prop := fun _ _ => False
abbrev TS := Ends → St → Hp → Prop
def EP (X : Cx) (pins : List (Addr × Obj)) (σ : St) (Q : VK) (u : Value) (s' : Shared) : Prop := ∃ v H', Inv X pins σ H' s' ∧ RelV v u ∧ Q v H'
def TP (X : Cx) (pins : List (Addr × Obj)) (σ : St) (Q : Bool → Hp → Prop) (b : Bool) (s' : Shared) : Prop := ∃ H', Inv X pins σ H' s' ∧ Q b H'
def AP (X : Cx) (pins : List (Addr × Obj)) (σ : St) (Q : List V → Hp → Prop) (us : List Value) (s' : Shared) : Prop := ∃ vs H', Inv X pins σ H' s' ∧ Vals vs us ∧ Q vs H'
def SP (X : Cx) (pins : List (Addr × Obj)) (D : Ends) (f : Flow) (s' : Shared) : Prop :=
  match f with
  | .next => ∃ σ' H', Inv X pins σ' H' s' ∧ D.nx σ' H'
  | .brk => ∃ σ' H', Inv X pins σ' H' s' ∧ D.bk σ' H'
  | .cont => ∃ σ' H', Inv X pins σ' H' s' ∧ D.ct σ' H'
  | .ret u => ∃ v σ' H', Inv X pins σ' H' s' ∧ RelV v u ∧ D.rt v H'
def PE (X : Cx) (e : Expr) (t : TE) : Prop :=
  ∀ (pins : List (Addr × Obj)) (s : Shared) (σ : St) (H : Hp) (Q : VK), Inv X pins σ H s → t σ H Q → wpAny (model X.prog X.w) X.A (eval e X.env) (EP X pins σ Q) X.xe s
def PT (X : Cx) (e : Expr) (t : TT) : Prop :=
  ∀ (pins : List (Addr × Obj)) (s : Shared) (σ : St) (H : Hp) (Q : Bool → Hp → Prop), Inv X pins σ H s → t σ H Q → wpAny (model X.prog X.w) X.A (isTrue e X.env (eval e X.env)) (TP X pins σ Q) X.xe s
def PW (X : Cx) (e : Expr) (t : TT) : Prop :=
  ∀ (whole : Sem Value) (pins : List (Addr × Obj)) (s : Shared) (σ : St) (H : Hp) (Q : Bool → Hp → Prop), Inv X pins σ H s → t σ H Q → wpAny (model X.prog X.w) X.A (isTrue e X.env whole) (TP X pins σ Q) X.xe s
theorem PW.pt {X : Cx} {e : Expr} {t : TT} (h : PW X e t) : PT X e t := h _
def PA (X : Cx) (es : List Expr) (t : TA) : Prop :=
  ∀ (pos : Pos) (pins : List (Addr × Obj)) (s : Shared) (σ : St) (H : Hp) (Q : List V → Hp → Prop), Inv X pins σ H s → t σ H Q → wpAny (model X.prog X.w) X.A (spliced (backTo pos (starEach es X.env))) (AP X pins σ Q) X.xe s
def PS (X : Cx) (st : Stmt) (t : TS) : Prop :=
  ∀ (pins : List (Addr × Obj)) (s : Shared) (σ : St) (H : Hp) (D : Ends), Inv X pins σ H s → t D σ H → wpAny (model X.prog X.w) X.A (exec st X.env) (SP X pins D) X.xe s
def PSs (X : Cx) (st : List Stmt) (t : TS) : Prop :=
  ∀ (pins : List (Addr × Obj)) (s : Shared) (σ : St) (H : Hp) (D : Ends), Inv X pins σ H s → t D σ H → wpAny (model X.prog X.w) X.A (execs st X.env) (SP X pins D) X.xe s
theorem thn {α : Type} {t : Sem α} {Q Q' : α → Shared → Prop} {M : Model} {A : Around} {E : Value → Shared → Prop} {s : Shared} (h : wpAny M A t Q E s) (hQ : ∀ a s, Q a s → Q' a s) : wpAny M A t Q' E s := wpAny_mono h hQ fun _ _ x => x
end L2
namespace L2
open PySem PySem.Spec PyProof.Rows
section
variable {X : Cx}
def tVar (i : Nat) : TE := fun σ H Q => ∃ v, σ[i]? = some (some v) ∧ Q v H
def tC (v : V) : TE := fun _ H Q => Q v H
theorem pe_var {i : Nat} {x : Str} {pos : Pos} (hN : X.N[i]? = some x) (hv : Vis X.env.scope x) (hd : (x == ("__debug__" : Str)) = false := by decide) (hcd : (x == ("__classdict__" : Str)) = false := by decide) : PE X (.Name x pos) (tVar i) := by
  intro pins s σ H Q I h
  obtain ⟨v, e, h⟩ := h
  obtain ⟨m, hn, hl⟩ := I.loc
  obtain ⟨u, r, l⟩ := hl i x v hN e hv
  have fin : EP X pins σ Q u s := ⟨v, H, I, r, h⟩
  rcases l with ⟨hk, hm⟩ | ⟨hk, c, hc, hcell⟩
  · exact wpAny_Name (wpAny_loadName_local I.ok.kind hk hn hm fin) hd
  · rcases hk with hk | hk
    · exact wpAny_Name (wpAny_loadName_cell I.ok.kind hk hc hcell fin) hd
    · exact wpAny_Name (wpAny_loadName_free I.ok.kind hk hc hcell fin hcd) hd
theorem pe_int {i j pos} : PE X (.Constant (.int i) j pos) (tC (.int i)) := fun _ _ _ H _ I h => wpAny_Constant_int ⟨.int i, H, I.tok _, ⟨_, rfl⟩, h⟩
theorem pe_bl {b j pos} : PE X (.Constant (.bool b) j pos) (tC (.bl b)) := fun _ _ _ H _ I h => Constant_bool ⟨.bl b, H, I, rfl, h⟩
theorem pe_non {j pos} : PE X (.Constant .none j pos) (tC .non) := fun _ _ _ H _ I h => Constant_none ⟨.non, H, I, rfl, h⟩
theorem pe_str {x j pos} : PE X (.Constant (.str x) j pos) (tC (.str x)) := fun _ _ _ H _ I h => Calls.Constant_str ⟨.str x, H, I.tok _, ⟨_, rfl⟩, h⟩
def Gl (X : Cx) (x : Str) : Prop := X.env.kindOf x = some .globalImplicit
theorem ld_glob {E : Value → Shared → Prop} {pins : List (Addr × Obj)} {s : Shared} {σ : St} {H : Hp} {x : Str} {u : Value} {pos : Pos} {Q : Value → Shared → Prop} (I : Inv X pins σ H s) (hg : Gl X x) (hm : X.mg x = some u) (h : Q u s)
    (hd : (x == ("__debug__" : Str)) = false := by decide) : wpAny (model X.prog X.w) X.A (eval (.Name x pos) X.env) Q E s :=
  Calls.Name_function_global I.ok.kind hg (Calls.loadGlobal_global (by rw [I.ok.glob]; exact I.mod.glob.keeps I.bk) hm h) hd
theorem ld_blt {E : Value → Shared → Prop} {pins : List (Addr × Obj)} {s : Shared} {σ : St} {H : Hp} {x : Str} {u : Value} {pos : Pos} {Q : Value → Shared → Prop} (I : Inv X pins σ H s) (hg : Gl X x) (hm : X.mg x = none) (hv : bootBuiltins x = some u) (h : Q u s)
    (hn : x ≠ "__name__" := by decide) (hd : (x == ("__debug__" : Str)) = false := by decide) : wpAny (model X.prog X.w) X.A (eval (.Name x pos) X.env) Q E s := by
  obtain ⟨mb, h1, h2⟩ := I.mod.blt
  exact Calls.Name_function_global I.ok.kind hg (Calls.loadGlobal_builtin (by rw [I.ok.glob]; exact I.mod.glob.keeps I.bk) hm (by rw [I.ok.blt]; exact h1.keeps I.bk) ((h2 x hn).trans hv) h) hd
theorem pe_bltn {x : Str} {v : V} {u : Value} {pos : Pos} (hg : Gl X x) (hm : X.mg x = none) (hv : bootBuiltins x = some u) (r : RelV v u) (hn : x ≠ "__name__" := by decide) (hd : (x == ("__debug__" : Str)) = false := by decide) : PE X (.Name x pos) (tC v) :=
  fun _ _ _ H _ I h => ld_blt I hg hm hv ⟨v, H, I, r, h⟩ hn hd
variable {a b : Expr} {ta tb : TE} {pos : Pos}
def PC (X : Cx) (op : CmpOp) (a b : Expr) (t : TE) : Prop :=
  ∀ (pins : List (Addr × Obj)) (s : Shared) (σ : St) (H : Hp) (Q : VK), Inv X pins σ H s → t σ H Q →
    wpAny (model X.prog X.w) X.A (eval a X.env) (fun v s₁ => wpAny (model X.prog X.w) X.A (eval b X.env) (fun u s₂ => wpAny (model X.prog X.w) X.A (compareOp op v u) (EP X pins σ Q) X.xe s₂) X.xe s₁) X.xe s
def tB (t : TE) : TT := fun σ H Q => t σ H fun x H1 => ∃ c, x = .bl c ∧ Q c H1
theorem pe_cmp {op : CmpOp} {t : TE} (h : PC X op a b t) (h1 : behindInMarks op b = false := by first | exact nobehind _ (by decide) (by decide) | rfl) : PE X (.Compare a [op] [b] pos) t := fun pins s σ H Q I hw => wpAny_Compare1 (h pins s σ H Q I hw) h1
theorem pt_cmp {op : CmpOp} {t : TE} (h : PC X op a b t) (h1 : behindInMarks op b = false := by first | exact nobehind _ (by decide) (by decide) | rfl) : PT X (.Compare a [op] [b] pos) (tB t) := by
  intro pins s σ H Q I hw
  refine wpAny_isTrue_Compare1 (thn (h pins s σ H _ I hw) fun v s1 h1 => thn h1 fun u s2 h2 => thn h2 fun c s3 ⟨x, H1, I1, r1, q1⟩ => ?_) h1
  obtain ⟨d, rfl, q⟩ := q1
  cases r1
  exact wpAny_truthy_bool ⟨H1, I1, q⟩
theorem pt_val {e : Expr} {t : TE} (h : PE X e t) (he : ∀ whole, isTrue e X.env whole = (do let v ← whole; standAt e.pos; holding [v] (truthy v)) := by intro _; rfl) : PT X e (tB t) := by
  intro pins s σ H Q I hw
  refine isTrue_plain (thn (h pins s σ H _ I hw) fun v s1 ⟨x, H1, I1, r1, q1⟩ => ?_) (he _)
  obtain ⟨d, rfl, q⟩ := q1
  cases r1
  exact wpAny_truthy_bool ⟨H1, I1, q⟩
variable {tA tB' : TT} {rest : List Expr}
def tAnd (t u : TT) : TT := fun σ H Q => t σ H fun c H1 => if c = true then u σ H1 Q else Q false H1
def tOr (t u : TT) : TT := fun σ H Q => t σ H fun c H1 => if c = true then Q true H1 else u σ H1 Q
def tNot (t : TT) : TT := fun σ H Q => t σ H fun c H1 => Q (!c) H1
theorem pw_and1 (ha : PT X a tA) : PW X (.BoolOp .And [a] pos) tA := by
  intro wh pins s σ H Q I h
  refine isTrue_and (thn (ha pins s σ H Q I h) fun c s1 e => ?_)
  cases c with
  | true => exact isTrue_and_nil e
  | false => exact e
theorem pw_or1 (ha : PT X a tA) : PW X (.BoolOp .Or [a] pos) tA := by
  intro wh pins s σ H Q I h
  refine isTrue_or (thn (ha pins s σ H Q I h) fun c s1 e => ?_)
  cases c with
  | false => exact isTrue_or_nil e
  | true => exact e
theorem pw_and (ha : PT X a tA) (hb : PW X (.BoolOp .And (b :: rest) pos) tB') : PW X (.BoolOp .And (a :: b :: rest) pos) (tAnd tA tB') := by
  intro wh pins s σ H Q I h
  refine isTrue_and (thn (ha pins s σ H _ I h) fun c s1 ⟨H1, I1, q1⟩ => ?_)
  cases c with
  | true => exact hb wh pins s1 σ H1 Q I1 q1
  | false => exact ⟨H1, I1, q1⟩
theorem pw_or (ha : PT X a tA) (hb : PW X (.BoolOp .Or (b :: rest) pos) tB') : PW X (.BoolOp .Or (a :: b :: rest) pos) (tOr tA tB') := by
  intro wh pins s σ H Q I h
  refine isTrue_or (thn (ha pins s σ H _ I h) fun c s1 ⟨H1, I1, q1⟩ => ?_)
  cases c with
  | true => exact ⟨H1, I1, q1⟩
  | false => exact hb wh pins s1 σ H1 Q I1 q1
theorem pt_not (ha : PT X a tA) : PT X (.UnaryOp .Not a pos) (tNot tA) := by
  intro pins s σ H Q I h
  exact isTrue_not (ha pins s σ H (fun c H1 => Q (!c) H1) I h)
def tAndV (ta tb : TE) : TE := fun σ H Q => ta σ H fun x H1 => ∃ c, x = .bl c ∧ if c = true then tb σ H1 Q else Q (.bl false) H1
def tNotV (ta : TE) : TE := fun σ H Q => ta σ H fun x H1 => ∃ c, x = .bl c ∧ Q (.bl (!c)) H1
theorem pe_one {op} {t : TE} (h : PE X a t) : PE X (.BoolOp op [a] pos) t := fun pins s σ H Q I hw => BoolOp_one (h pins s σ H Q I hw)
theorem pe_and (ha : PE X a ta) (hb : PE X (.BoolOp .And (b :: rest) pos) tb) : PE X (.BoolOp .And (a :: b :: rest) pos) (tAndV ta tb) := by
  intro pins s σ H Q I h
  refine BoolOp_and (thn (ha pins s σ H _ I h) fun v s1 ⟨x, H1, I1, r1, q1⟩ => ?_)
  obtain ⟨c, rfl, q1⟩ := q1
  cases r1
  refine wpAny_truthy_bool ?_
  cases c with
  | true => exact hb pins s1 σ H1 Q I1 q1
  | false => exact ⟨.bl false, H1, I1, rfl, q1⟩
theorem pe_not (ha : PE X a ta) : PE X (.UnaryOp .Not a pos) (tNotV ta) := by
  intro pins s σ H Q I h
  refine UnaryOp_ (thn (ha pins s σ H _ I h) fun v s1 ⟨x, H1, I1, r1, q1⟩ => ?_)
  obtain ⟨c, rfl, q1⟩ := q1
  cases r1
  exact not_of (wpAny_truthy_bool ⟨.bl (!c), H1, I1, rfl, q1⟩)
end
end L2
namespace L2
open PySem PySem.Spec PyProof.Rows
def SqL (K : PySem.W.Frag) (H : Hp) (a : Addr) (xs : List V) : Prop :=
  Rd H a (.lst xs) ∨
    ∃ (o : Obj) (its : Array Value) (n : Nat), K.lookup a = some o ∧ o.cls = .type "list" ∧ o.dict = none ∧ o.data = .seq its n ∧ its.size ≤ sizeLine ∧ Vals xs its.toList
def SqT (K : PySem.W.Frag) (H : Hp) (a : Addr) (xs : List V) : Prop :=
  Rd H a (.tup xs) ∨
    ∃ (o : Obj) (its : Array Value) (n : Nat), K.lookup a = some o ∧ o.cls = .type "tuple" ∧ o.data = .seq its n ∧ its.size ≤ sizeLine ∧ Vals xs its.toList
def absV : Value → Option V
  | .none => some .non
  | .bool b => some (.bl b)
  | .int i _ => some (.int i)
  | .str x _ => some (.str x)
  | .bytes b _ => some (.byt b)
  | .float b _ => some (.flt b)
  | .ref a => some (.ref a)
  | .type n => some (.ty n)
  | _ => none
theorem RelV.abs {x : V} {u : Value} (r : RelV x u) : absV u = some x := by
  cases x with
  | non => cases r; rfl
  | bl _ => cases r; rfl
  | int _ => obtain ⟨t, rfl⟩ := r; rfl
  | str _ => obtain ⟨t, rfl⟩ := r; rfl
  | byt _ => obtain ⟨t, rfl⟩ := r; rfl
  | flt _ => obtain ⟨t, rfl⟩ := r; rfl
  | ref _ => cases r; rfl
  | ty _ => cases r; rfl
theorem RelV.inj {x y : V} {u : Value} (r : RelV x u) (q : RelV y u) : x = y := Option.some.inj (r.abs.symm.trans q.abs)
theorem Vals.inj : ∀ {xs ys : List V} {us : List Value}, Vals xs us → Vals ys us → xs = ys
  | _, _, _, .nil, .nil => rfl
  | _, _, _, .cons r t, .cons r' t' => by rw [r.inj r', Vals.inj t t']
section
variable {X : Cx} {pins : List (Addr × Obj)} {σ : St} {H : Hp} {s : Shared} {a : Addr} {xs ys : List V}
theorem SqL.of {K : PySem.W.Frag} (h : H a = some (.lst xs)) : SqL K H a xs := .inl (.inl h)
theorem SqT.of {K : PySem.W.Frag} (h : H a = some (.tup xs)) : SqT K H a xs := .inl (.inl h)
theorem Inv.list (I : Inv X pins σ H s) (h : SqL X.K H a xs) : ∃ its : List Value, Vals xs its ∧ PlainL s.heap a its.toArray ∧ xs.length ≤ sizeLine := by
  rcases h with h | ⟨o, its, n, hk, hc, hd, hs, hz, r⟩
  · obtain ⟨z, its, n, r, e⟩ := h.ok I.hok
    exact ⟨its, r, ⟨_, n, e, rfl, rfl, rfl⟩, z⟩
  · refine ⟨its.toList, r, ⟨o, n, I.kIn a o hk, hc, hd, by simpa using hs⟩, ?_⟩
    have e := r.length
    simp only [Array.length_toList] at e
    omega
theorem Inv.tuple (I : Inv X pins σ H s) (h : SqT X.K H a xs) : ∃ its : List Value, Vals xs its ∧ IsTup s.heap a its.toArray ∧ xs.length ≤ sizeLine := by
  rcases h with h | ⟨o, its, n, hk, hc, hs, hz, r⟩
  · obtain ⟨z, its, r, p⟩ := h.ok I.hok
    exact ⟨its, r, p, z.1⟩
  · refine ⟨its.toList, r, ⟨o, I.kIn a o hk, hc, n, by simpa using hs⟩, ?_⟩
    have e := r.length
    simp only [Array.length_toList] at e
    omega
theorem Inv.list_inj (I : Inv X pins σ H s) (h : SqL X.K H a xs) (h' : SqL X.K H a ys) : xs = ys := by
  obtain ⟨its, r, ⟨o, n, e, _, _, d⟩, _⟩ := I.list h
  obtain ⟨its', r', ⟨o', n', e', _, _, d'⟩, _⟩ := I.list h'
  rw [e] at e'; cases e'
  rw [d] at d'
  injection d' with d1 _
  have : its = its' := by simpa using congrArg Array.toList d1
  subst this
  exact r.inj r'
theorem Inv.tuple_inj (I : Inv X pins σ H s) (h : SqT X.K H a xs) (h' : SqT X.K H a ys) : xs = ys := by
  obtain ⟨its, r, ⟨o, e, _, n, d⟩, _⟩ := I.tuple h
  obtain ⟨its', r', ⟨o', e', _, n', d'⟩, _⟩ := I.tuple h'
  rw [e] at e'; cases e'
  rw [d] at d'
  injection d' with d1 _
  have : its = its' := by simpa using congrArg Array.toList d1
  subst this
  exact r.inj r'
end
abbrev Cx.wish (X : Cx) (E : Value → Shared → Prop) : Cx := { X with xe := E }
abbrev Cx.nox (X : Cx) : Cx := X.wish fun _ _ => False
theorem Cx.Ok.wish {X : Cx} (ok : X.Ok) (E : Value → Shared → Prop) : (X.wish E).Ok :=
  ⟨ok.mod, ok.kind, ok.glob, ok.blt, ok.above, ok.inj, ok.has, ok.cab, ok.hd, ok.frames, ok.stk, ok.exf, ok.bs, ok.bsz, ok.noex, ok.exfs, ok.funs, ok.frf⟩
theorem Cx.Ok.unwish {X : Cx} {E : Value → Shared → Prop} (ok : (X.wish E).Ok) : X.Ok :=
  ⟨ok.mod, ok.kind, ok.glob, ok.blt, ok.above, ok.inj, ok.has, ok.cab, ok.hd, ok.frames, ok.stk, ok.exf, ok.bs, ok.bsz, ok.noex, ok.exfs, ok.funs, ok.frf⟩
section
variable {X : Cx} {pins : List (Addr × Obj)} {σ : St} {H : Hp} {s : Shared} {E : Value → Shared → Prop}
theorem Inv.wish (I : Inv X pins σ H s) (E : Value → Shared → Prop) : Inv (X.wish E) pins σ H s := ⟨I.ok.wish E, I.os, I.bare, I.base, I.loc, I.cell, I.free, I.freeC, I.pin, I.hok, I.len⟩
theorem Inv.unwish (I : Inv (X.wish E) pins σ H s) : Inv X pins σ H s := ⟨I.ok.unwish, I.os, I.bare, I.base, I.loc, I.cell, I.free, I.freeC, I.pin, I.hok, I.len⟩
theorem SP.unwish {D : Ends} {f : Flow} {s' : Shared} (h : SP (X.wish E) pins D f s') : SP X pins D f s' := by
  cases f with
  | next => obtain ⟨σ', H', I, q⟩ := h; exact ⟨σ', H', I.unwish, q⟩
  | brk => obtain ⟨σ', H', I, q⟩ := h; exact ⟨σ', H', I.unwish, q⟩
  | cont => obtain ⟨σ', H', I, q⟩ := h; exact ⟨σ', H', I.unwish, q⟩
  | ret u => obtain ⟨v, σ', H', I, r, q⟩ := h; exact ⟨v, σ', H', I.unwish, r, q⟩
theorem PSs.nox {st : List Stmt} {t : TS} (h : PSs X.nox st t) : PSs X st t := fun pins s σ H D I hw =>
  wpAny_mono (h pins s σ H D (I.wish _) hw) (fun _ _ q => q.unwish) fun _ _ z => False.elim z
end
section
variable {X : Cx} {st : Stmt} {rest : List Stmt} {t u : TS} {e : Expr} {te : TE} {pos : Pos}
def tNext : TS := fun D σ H => D.nx σ H
def tSeq (t u : TS) : TS := fun D σ H => t { D with nx := u D } σ H
theorem pss_nil : PSs X [] tNext := fun _ _ σ H _ I h => wpAny_execs_nil ⟨σ, H, I, h⟩
theorem pss_cons (h1 : PS X st t) (h2 : PSs X rest u) : PSs X (st :: rest) (tSeq t u) := by
  intro pins s σ H D I h
  refine wpAny_execs_cons (thn (h1 pins s σ H { D with nx := u D } I h) fun f s1 q => ?_)
  cases f with
  | next =>
    obtain ⟨σ', H', I', q⟩ := q
    exact h2 pins s1 σ' H' D I' q
  | ret v => exact q
  | brk => exact q
  | cont => exact q
theorem pss_one (h1 : PS X st t) : PSs X [st] t := by
  intro pins s σ H D I h
  refine wpAny_execs_cons (thn (h1 pins s σ H D I h) fun f s1 q => ?_)
  cases f with
  | next => exact wpAny_execs_nil q
  | ret v => exact q
  | brk => exact q
  | cont => exact q
theorem Inv.quiet {pins : List (Addr × Obj)} {σ : St} {H : Hp} {s : Shared} (I : Inv X pins σ H s) : interactive X.env = false := by simp [interactive, I.ok.kind]
def tDrop (te : TE) : TS := fun D σ H => te σ H fun _ H1 => D.nx σ H1
theorem ps_expr (he : PE X e te) (hs : swapsWith e none pos.line X.env = pure false := by rfl) : PS X (.Expr e pos) (tDrop te) := by
  intro pins s σ H D I h
  exact wpAny_Expr_any (thn (he pins s σ H _ I h) fun v s1 ⟨x, H1, I1, r1, q1⟩ => ⟨σ, H1, I1, q1⟩) I.quiet hs
def tRet (te : TE) : TS := fun D σ H => te σ H D.rt
theorem ps_ret (he : PE X e te) : PS X (.Return (some e) pos) (tRet te) := by
  intro pins s σ H D I h
  exact wpAny_Return_some (thn (he pins s σ H _ I h) fun v s1 ⟨x, H1, I1, r1, q1⟩ => ⟨x, σ, H1, I1, r1, q1⟩)
def tIfS (c : TT) (t u : TS) : TS := fun D σ H => c σ H fun b H1 => if b = true then t D σ H1 else u D σ H1
theorem ps_if {c : Expr} {a b : List Stmt} {tc : TT} (hc : PT X c tc) (ha : PSs X a t) (hb : PSs X b u) : PS X (.If c a b pos) (tIfS tc t u) := by
  intro pins s σ H D I h
  refine wpAny_If (thn (hc pins s σ H _ I h) fun d s1 ⟨H1, I1, q1⟩ => ?_)
  cases d with
  | true => exact ha pins s1 σ H1 D I1 q1
  | false => exact hb pins s1 σ H1 D I1 q1
def tNever : TS := fun _ _ _ => False
theorem ps_never : PS X st tNever := fun _ _ _ _ _ _ h => h.elim
end
abbrev TG := V → St → Hp → (St → Hp → Prop) → Prop
abbrev TGs := List V → St → Hp → (St → Hp → Prop) → Prop
def PG (X : Cx) (target : Expr) (t : TG) : Prop :=
  ∀ (pins : List (Addr × Obj)) (s : Shared) (σ : St) (H : Hp) (v : V) (u : Value) (Q : St → Hp → Prop), Inv X pins σ H s → RelV v u → t v σ H Q →
    wpAny (model X.prog X.w) X.A (assign target X.env u) (fun _ s' => ∃ σ' H', Inv X pins σ' H' s' ∧ Q σ' H') X.xe s
def PGs (X : Cx) (ts : List Expr) (t : TGs) : Prop :=
  ∀ (pins : List (Addr × Obj)) (s : Shared) (σ : St) (H : Hp) (vs : List V) (us : List Value) (Q : St → Hp → Prop), Inv X pins σ H s → Vals vs us → t vs σ H Q →
    wpAny (model X.prog X.w) X.A (assignInOrder ((assignEach ts X.env).map (·.2)) us) (fun _ s' => ∃ σ' H', Inv X pins σ' H' s' ∧ Q σ' H') X.xe s
abbrev TSet := V → V → V → Hp → (Hp → Prop) → Prop
def PSet (X : Cx) (t : TSet) : Prop :=
  ∀ (pins : List (Addr × Obj)) (s : Shared) (σ : St) (H : Hp) (o i v : V) (ov iv u : Value) (Q : Hp → Prop), Inv X pins σ H s → RelV o ov → RelV i iv → RelV v u → t o i v H Q →
    wpAny (model X.prog X.w) X.A (setItem ov iv u) (fun _ s' => ∃ H', Inv X pins σ H' s' ∧ Q H') X.xe s
section
variable {X : Cx} {pos : Pos}
def gName (i : Nat) : TG := fun v σ H Q => Q (σ.set i (some v)) H
theorem pg_name {i : Nat} {x : Str} (hN : X.N.Nodup) (hi : X.N[i]? = some x) (hx : Loc X.env.scope x) (hf : X.fn x = true ∨ X.env.scope.names.lookup x = some .local := by first | exact .inl rfl | exact .inr rfl | assumption) : PG X (.Name x pos) (gName i) := by
  intro pins s σ H v u Q I r h
  exact wpAny_assign_Name (store_ok I hN hi hx r (fun s' I' => ⟨_, H, I', h⟩) hf)
def gNil : TGs := fun vs σ H Q => vs = [] ∧ Q σ H
def gCons (t : TG) (u : TGs) : TGs := fun vs σ H Q => ∃ v r, vs = v :: r ∧ t v σ H fun σ' H' => u r σ' H' Q
theorem pgs_nil : PGs X [] gNil := by
  intro pins s σ H vs us Q I r h
  obtain ⟨e, h⟩ := h
  subst e
  cases r
  exact assignInOrder_nil ⟨σ, H, I, h⟩
theorem pgs_cons {e : Expr} {es : List Expr} {t : TG} {u : TGs} (h1 : PG X e t) (h2 : PGs X es u)
    (hs : (assignEach (e :: es) X.env).map (·.2) = assign e X.env :: (assignEach es X.env).map (·.2) := by rfl) : PGs X (e :: es) (gCons t u) := by
  intro pins s σ H vs us Q I r h
  obtain ⟨v, vr, e1, h⟩ := h
  subst e1
  cases r with
  | cons r rr =>
    rw [hs]
    refine assignInOrder_cons (thn (h1 pins s σ H _ _ _ I r h) fun _ s1 ⟨σ1, H1, I1, q1⟩ => ?_)
    exact h2 pins s1 σ1 H1 _ _ Q I1 rr q1
def gTup (K : PySem.W.Frag) (n : Nat) (t : TGs) : TG := fun v σ H Q => ∃ a xs, v = .ref a ∧ SqT K H a xs ∧ xs.length = n ∧ t xs σ H Q
theorem pg_tup {es : List Expr} {k : Nat} {t : TGs} {n : Nat} (hc : X.calm = true) (h : PGs X es t)
    (hn : (assignEach es X.env).length = n := by rfl) (hst : (assignEach es X.env).findIdx? (·.1) = none := by rfl) : PG X (.Tuple es k pos) (gTup X.K n t) := by
  intro pins s σ H v u Q I r hw
  obtain ⟨a, xs, e1, hq, hl, hw⟩ := hw
  subst e1
  cases r
  obtain ⟨its, rv, ht, hz⟩ := I.tuple hq
  refine assign_Tuple_tuple (I.ok.hd hc) ht (by simp [hn, ← hl, rv.length]) hst fun h' hx => ?_
  have I1 : Inv X pins σ H { s with heap := h' } := I.kept (t' := s.toks) fun b o e => hx b o (Nat.ne_of_lt (Heap.lt_size e)) e
  exact h pins _ σ H xs _ Q I1 (by simpa using rv) hw
def gSub (to ti : TE) (t : TSet) : TG := fun v σ H Q => to σ H fun o H1 => ti σ H1 fun i H2 => t o i v H2 fun H3 => Q σ H3
theorem pg_sub {o i : Expr} {to ti : TE} {t : TSet} (ho : PE X o to) (hi : PE X i ti) (hs : PSet X t)
    (ha : ∀ v, assign (.Subscript o i pos) X.env v = (do
      let ov ← holding [v] (eval o X.env)
      let iv ← holding [v, ov] (eval i X.env)
      standAt pos
      holding [v, ov, iv] (setItem ov iv v)
      release [v, ov, iv] []) := by intro _; rfl) : PG X (.Subscript o i pos) (gSub to ti t) := by
  intro pins s σ H v u Q I r h
  rw [ha]
  refine wpAny_bind (wpAny_holding (thn (ho pins s σ H _ I h) fun ov s1 ⟨x, H1, I1, r1, q1⟩ => ?_))
  refine wpAny_bind (wpAny_holding (thn (hi pins s1 σ H1 _ I1 q1) fun iv s2 ⟨y, H2, I2, r2, q2⟩ => ?_))
  refine wpAny_bind (wpAny_standAt (wpAny_bind (wpAny_holding (thn (hs pins s2 σ H2 x y v ov iv u _ I2 r1 r2 r q2) fun _ s3 ⟨H3, I3, q3⟩ => ?_))))
  exact wpAny_release ⟨σ, H3, I3, q3⟩
def tAsg (te : TE) (g : TG) : TS := fun D σ H => te σ H fun x H1 => g x σ H1 D.nx
theorem ps_asg {tg e : Expr} {te : TE} {g : TG} (he : PE X e te) (hg : PG X tg g) (hs : swapsWithSole [tg] e pos.line X.env = pure false := by rfl) (hw : swappedStores [tg] e X.env = pure none := by rfl)
    (h1 : (assignEach [tg] X.env).map (·.2) = [assign tg X.env] := by rfl) : PS X (.Assign [tg] e pos) (tAsg te g) := by
  intro pins s σ H D I h
  refine wpAny_Assign_stores (thn (he pins s σ H _ I h) fun v s1 ⟨x, H1, I1, r1, q1⟩ => ?_) hs hw
  rw [h1]
  exact thn (hg pins s1 σ H1 x v _ I1 r1 q1) fun _ s2 q => q
theorem ps_set {i : Nat} {x : Str} {e : Expr} {te : TE} {pos' : Pos} (hN : X.N.Nodup) (hi : X.N[i]? = some x) (hx : Loc X.env.scope x) (he : PE X e te) (hs : swapsWith e (some (.Name x pos')) pos.line X.env = pure false := by rfl) (hf : X.fn x = true ∨ X.env.scope.names.lookup x = some .local := by first | exact .inl rfl | exact .inr rfl | assumption) :
    PS X (.Assign [.Name x pos'] e pos) (tAsg te (gName i)) := by
  intro pins s σ H D I h
  refine wpAny_Assign_Name (thn (he pins s σ H _ I h) fun v s1 ⟨y, H1, I1, r1, q1⟩ => ?_) hs
  exact store_ok I1 hN hi hx r1 (fun s2 I2 => ⟨_, H1, I2, q1⟩) hf
end
section
variable {X : Cx} {pos : Pos}
def tWhile (c : TT) (tb : TS) : TS := fun D σ H => ∃ W : Nat → St → Hp → Prop, (∃ m, W m σ H) ∧ ∀ m σ H, W m σ H →
  c σ H fun b H1 => if b = true then ∃ N : St → Hp → Prop, (∀ σ' H', N σ' H' → ∃ m', m' < m ∧ W m' σ' H') ∧ tb { D with nx := N, ct := N, bk := D.nx } σ H1 else D.nx σ H1
theorem ps_while {c : Expr} {body : List Stmt} {tc : TT} {tb : TS} (hp : PassesOwn (model X.prog X.w) X.A X.env X.xe) (hc : PT X c tc) (hb : PSs X body tb) : PS X (.While c body [] pos) (tWhile tc tb) := by
  intro pins s σ H D I h
  obtain ⟨W, ⟨m0, w0⟩, turn⟩ := h
  refine wpAny_While (codeAny_whileLoop (fun n s' => ∃ σ' H', Inv X pins σ' H' s' ∧ W n σ' H') ?_ m0 ⟨σ, H, I, w0⟩)
  rintro n s1 ⟨σ1, H1, I1, w1⟩
  refine wpAny_passesOwn hp (thn (hc pins s1 σ1 H1 _ I1 (turn n σ1 H1 w1)) fun b s2 ⟨H2, I2, q2⟩ => ?_)
  cases b with
  | true =>
    obtain ⟨N, hN, q2⟩ := q2
    rw [if_pos rfl]
    refine wpAny_passesOwn hp (thn (hb pins s2 σ1 H2 _ I2 q2) fun f s3 q3 => ?_)
    cases f with
    | next =>
      obtain ⟨σ3, H3, I3, n3⟩ := q3
      obtain ⟨m', hm, w3⟩ := hN σ3 H3 n3
      exact ⟨m', hm, σ3, H3, I3, w3⟩
    | cont =>
      obtain ⟨σ3, H3, I3, n3⟩ := q3
      obtain ⟨m', hm, w3⟩ := hN σ3 H3 n3
      exact ⟨m', hm, σ3, H3, I3, w3⟩
    | brk => exact q3
    | ret v => exact q3
  | false =>
    rw [if_neg Bool.false_ne_true]
    exact wpAny_execs_nil ⟨σ1, H2, I2, q2⟩
end
structure It where
  go : Nat → Hp → Prop
  yld : Nat → Hp → V → Hp → Prop
  stop : Nat → Hp → Prop
def FpOk (X : Cx) (pins : List (Addr × Obj)) (H : Hp) (b : Addr) : Prop :=
  H b = none ∧ b ≠ X.env.locals ∧ b ∉ X.fs ∧ (b ∈ X.ex ∨ X.s₀.heap.objs.size ≤ b) ∧ (∀ x c, X.env.cells.lookup x = some c → c ≠ b) ∧ ∀ p ∈ X.pn ++ pins, p.1 ≠ b
theorem Inv.fpOk {X : Cx} {pins : List (Addr × Obj)} {σ : St} {H H' : Hp} {s : Shared} {b : Addr} (I : Inv X pins σ H s) (hb : s.heap.objs.size ≤ b) (hn : H' b = none) : FpOk X pins H' b := by
  refine ⟨hn, Nat.ne_of_gt (Nat.lt_of_lt_of_le I.lt hb), I.nofs hb, .inr (Nat.le_trans I.sz hb), fun x c e z => ?_, fun p hp z => ?_⟩
  · obtain ⟨v, q⟩ := I.cell x c e
    exact absurd (Nat.lt_of_lt_of_le q.lt (by rw [z]; exact hb)) (Nat.lt_irrefl _)
  · exact absurd (Nat.lt_of_lt_of_le (Heap.lt_size (I.pin p hp).1) (by rw [z]; exact hb)) (Nat.lt_irrefl _)
structure Turn (P : Program) (w : World) (K : PySem.W.Frag) (tg : Expr) (J : It) (fp : List Addr) (it : Addr) (tn : Nat → Heap → Prop) : Prop where
  mem : it ∈ fp
  obj : ∀ i h, tn i h → ∀ b ∈ fp, ∃ o, h.get? b = some o ∧ ∀ v, o.data ≠ .cell v
  keep : ∀ i h h', tn i h → (∀ b ∈ fp, ∀ o, h.get? b = some o → h'.get? b = some o) → tn i h'
  item : ∀ (X : Cx), X.prog = P → X.w = w → X.K = K → X.calm = true → ∀ (i : Nat) (pins : List (Addr × Obj)) (s : Shared) (σ : St) (H : Hp) (E : Value → Shared → Prop), Inv X pins σ H s → (∀ b ∈ fp, FpOk X pins H b) → tn i s.heap → J.go i H →
    wpAny (model P w) X.A (pyNext (.ref it)) (fun r s1 => ∃ u, r = some u ∧
      wpAny (model P w) X.A (letOwnedTupleGo tg (.ref it) u) (fun _ s2 => ∃ x H', Inv X pins σ H' s2 ∧ RelV x u ∧ J.yld i H x H' ∧ tn (i + 1) s2.heap ∧ ∀ b ∈ fp, H' b = none) E s1) E s
  done : ∀ (X : Cx), X.prog = P → X.w = w → X.K = K → X.calm = true → ∀ (i : Nat) (pins : List (Addr × Obj)) (s : Shared) (σ : St) (H : Hp) (E : Value → Shared → Prop), Inv X pins σ H s → (∀ b ∈ fp, FpOk X pins H b) → tn i s.heap → J.stop i H →
    wpAny (model P w) X.A (pyNext (.ref it)) (fun r s1 => r = none ∧ Inv X pins σ H s1) E s
  self : ∀ (A : Around) (i : Nat) (s : Shared) (Q : Value → Shared → Prop) (E : Value → Shared → Prop), tn i s.heap → Q (.ref it) s → wpAny (model P w) A (pyIter (.ref it)) Q E s
abbrev TI := St → Hp → (It → Hp → Prop) → Prop
def PIE (X : Cx) (pins : List (Addr × Obj)) (σ : St) (tg : Expr) (R : It → Hp → Prop) (itv : Value) (s2 : Shared) : Prop :=
  ∃ (it : Addr) (fp : List Addr) (tn : Nat → Heap → Prop) (J : It) (H' : Hp), itv = .ref it ∧ Inv X pins σ H' s2 ∧ Turn X.prog X.w X.K tg J fp it tn ∧ tn 0 s2.heap ∧ (∀ b ∈ fp, FpOk X pins H' b) ∧ R J H'
def PI (X : Cx) (tg iter : Expr) (wi : TI) : Prop :=
  ∀ (pins : List (Addr × Obj)) (s : Shared) (σ : St) (H : Hp) (R : It → Hp → Prop), Inv X pins σ H s → wi σ H R →
    wpAny (model X.prog X.w) X.A (eval iter X.env) (fun v s1 => wpAny (model X.prog X.w) X.A (pyIter v) (PIE X pins σ tg R) X.xe s1) X.xe s
theorem go_of {M : Model} {A : Around} {E : Value → Shared → Prop} {s : Shared} {tg : Expr} {it : Addr} {u : Value} {o : Obj} {n : String} {vs : Array Value} {Q : Unit → Shared → Prop} (ho : s.heap.get? it = some o) (hc : o.cls = .type n) (hd : o.data = .fields vs)
    (hn : ["enumerate", "zip", "dict_itemiterator", "dict_reverseitemiterator", "odict_iterator", "itertools.zip_longest", "itertools.pairwise"].contains n = false) (hQ : Q () s) : wpAny M A (letOwnedTupleGo tg (.ref it) u) Q E s := by
  unfold letOwnedTupleGo
  cases tg <;> first
    | exact wpAny_pure hQ
    | (cases u <;> first
        | exact wpAny_pure hQ
        | (refine wpAny_bind (wpAny_load ho ?_)
           rw [hc, hd]
           show wpAny M A (if (["enumerate", "zip", "dict_itemiterator", "dict_reverseitemiterator", "odict_iterator", "itertools.zip_longest", "itertools.pairwise"].contains n && vs[0]? == some (rawInt _)) = true then _ else _) Q E s
           rw [if_neg (by intro h; rw [hn, Bool.false_and] at h; cases h)]
           exact wpAny_pure hQ))
def Itl (K : PySem.W.Frag) (a : Addr) : It :=
  ⟨fun i H => ∃ xs x, SqL K H a xs ∧ xs[i]? = some x, fun i H x H' => H' = H ∧ ∀ xs, SqL K H a xs → xs[i]? = some x, fun i H => ∃ xs, SqL K H a xs ∧ xs.length ≤ i⟩
def Itt (K : PySem.W.Frag) (a : Addr) : It :=
  ⟨fun i H => ∃ xs x, SqT K H a xs ∧ xs[i]? = some x, fun i H x H' => H' = H ∧ ∀ xs, SqT K H a xs → xs[i]? = some x, fun i H => ∃ xs, SqT K H a xs ∧ xs.length ≤ i⟩
def Itr (lo : Int) (n : Nat) : It := ⟨fun i _ => i < n, fun i H x H' => H' = H ∧ x = .int (lo + i), fun i _ => n ≤ i⟩
theorem turn_list {P : Program} {w : World} {K : PySem.W.Frag} {tg : Expr} (a it : Addr) : Turn P w K tg (Itl K a) [it] it (fun i h => h.IsListIter it a i) where
  mem := by simp
  obj := fun i h st b hb => by
    have e : b = it := by simpa using hb
    subst e
    obtain ⟨o, e, c, d⟩ := st
    exact ⟨o, e, fun v z => by rw [d] at z; cases z⟩
  keep := fun i h h' st k => st.at fun o e => k it (by simp) o e
  item := by
    intro X hP hw hK hc i pins s σ H E I hf st hg
    subst hP hw hK
    obtain ⟨xs, x, hq, hx⟩ := hg
    obtain ⟨its, rv, p, hz⟩ := I.list hq
    obtain ⟨u, hu, ru⟩ := rv.get hx
    obtain ⟨f0, f1, f2, f3, f4, f5⟩ := hf it (by simp)
    refine wpAny_pyNext_list_item st p.isList (x := u) (by simpa using hu) fun h' st' sb => ?_
    have I1 : Inv X pins σ H { s with heap := h' } := I.turned (t' := s.toks) (fun b o hb e => (sb.2 b hb).trans e) f0 f1 f3 f4 f5
    obtain ⟨o, e, c, d⟩ := id st'
    exact ⟨u, rfl, go_of (s := { s with heap := h' }) e c d (by decide) ⟨x, H, I1, ru, ⟨rfl, fun ys hy => by rw [I.list_inj hy hq]; exact hx⟩, st', fun b hb => (hf b hb).1⟩⟩
  done := by
    intro X hP hw hK hc i pins s σ H E I hf st hg
    subst hP hw hK
    obtain ⟨xs, hq, hx⟩ := hg
    obtain ⟨its, rv, p, hz⟩ := I.list hq
    obtain ⟨f0, f1, f2, f3, f4, f5⟩ := hf it (by simp)
    have hl := rv.length
    exact wpAny_pyNext_list_end (I.ok.hd hc) st p.isList (by simp; omega) fun h' eb => ⟨rfl, I.turned (t' := s.toks) (fun b o hb e => eb b o hb e) f0 f1 f3 f4 f5⟩
  self := fun _ _ _ _ _ st h => wpAny_pyIter_listiter st h
theorem turn_tuple {P : Program} {w : World} {K : PySem.W.Frag} {tg : Expr} (a it : Addr) : Turn P w K tg (Itt K a) [it] it (fun i h => h.IsTupleIter it a i) where
  mem := by simp
  obj := fun i h st b hb => by
    have e : b = it := by simpa using hb
    subst e
    obtain ⟨o, e, c, d⟩ := st
    exact ⟨o, e, fun v z => by rw [d] at z; cases z⟩
  keep := fun i h h' st k => st.at fun o e => k it (by simp) o e
  item := by
    intro X hP hw hK hc i pins s σ H E I hf st hg
    subst hP hw hK
    obtain ⟨xs, x, hq, hx⟩ := hg
    obtain ⟨its, rv, p, hz⟩ := I.tuple hq
    obtain ⟨u, hu, ru⟩ := rv.get hx
    obtain ⟨f0, f1, f2, f3, f4, f5⟩ := hf it (by simp)
    refine wpAny_pyNext_tuple_item st (show s.heap.IsTuple a its.toArray from p) (x := u) (by simpa using hu) fun h' st' sb => ?_
    have I1 : Inv X pins σ H { s with heap := h' } := I.turned (t' := s.toks) (fun b o hb e => (sb.2 b hb).trans e) f0 f1 f3 f4 f5
    obtain ⟨o, e, c, d⟩ := id st'
    exact ⟨u, rfl, go_of (s := { s with heap := h' }) e c d (by decide) ⟨x, H, I1, ru, ⟨rfl, fun ys hy => by rw [I.tuple_inj hy hq]; exact hx⟩, st', fun b hb => (hf b hb).1⟩⟩
  done := by
    intro X hP hw hK hc i pins s σ H E I hf st hg
    subst hP hw hK
    obtain ⟨xs, hq, hx⟩ := hg
    obtain ⟨its, rv, p, hz⟩ := I.tuple hq
    obtain ⟨f0, f1, f2, f3, f4, f5⟩ := hf it (by simp)
    have hl := rv.length
    exact wpAny_pyNext_tuple_end (I.ok.hd hc) st (show s.heap.IsTuple a its.toArray from p) (by simp; omega) fun h' eb => ⟨rfl, I.turned (t' := s.toks) (fun b o hb e => eb b o hb e) f0 f1 f3 f4 f5⟩
  self := fun _ _ _ _ _ st h => wpAny_pyIter_tupleiter st h
theorem turn_range {P : Program} {w : World} {K : PySem.W.Frag} {tg : Expr} (it : Addr) (lo : Int) (n : Nat) : Turn P w K tg (Itr lo n) [it] it (fun i h => IsRangeIter h it (lo + (i : Nat) * 1) ((n : Int) - (i : Nat)) 1) where
  mem := by simp
  obj := fun i h st b hb => by
    have e : b = it := by simpa using hb
    subst e
    exact ⟨_, st, fun v z => by
      have z' : Data.fields _ = Data.cell v := z
      cases z'⟩
  keep := fun i h h' st k => k it (by simp) _ st
  item := by
    intro X hP hw hK hc i pins s σ H E I hf st hg
    subst hP hw hK
    obtain ⟨f0, f1, f2, f3, f4, f5⟩ := hf it (by simp)
    have W := Walks.range (prog := X.prog) (w := X.w) (I.ok.hd hc) it lo 1 n
    refine W.item i s _ _ hg st fun v h' tk hv st' kk => ?_
    obtain ⟨t, rfl⟩ := hv
    have I1 : Inv X pins σ H { s with heap := h', toks := tk } := I.turned (fun b o hb e => kk b o (by simpa using hb) e) f0 f1 f3 f4 f5
    refine ⟨_, rfl, go_of (s := { s with heap := h', toks := tk }) (n := "range_iterator") st' rfl rfl (by decide) ⟨.int (lo + i), H, I1, ⟨t, ?_⟩, ⟨rfl, rfl⟩, st', fun b hb => (hf b hb).1⟩⟩
    rw [Int.mul_one]
  done := by
    intro X hP hw hK hc i pins s σ H E I hf st hg
    subst hP hw hK
    obtain ⟨f0, f1, f2, f3, f4, f5⟩ := hf it (by simp)
    exact wpAny_pyNext_range_end (I.ok.hd hc) st (by have : n ≤ i := hg; omega) fun h' eb => ⟨rfl, I.turned (t' := s.toks) (fun b o hb e => eb b o hb e) f0 f1 f3 f4 f5⟩
  self := fun _ _ _ _ _ st h => wpAny_pyIter_rangeiter st h
end L2
namespace L2
open PySem PySem.Spec PyProof.Rows
section
variable {X : Cx} {tg : Expr}
def iList (K : PySem.W.Frag) (tl : TE) : TI := fun σ H R => tl σ H fun x H1 => ∃ a, x = .ref a ∧ (∃ xs, SqL K H1 a xs) ∧ R (Itl K a) H1
def iTup (K : PySem.W.Frag) (tl : TE) : TI := fun σ H R => tl σ H fun x H1 => ∃ a, x = .ref a ∧ (∃ xs, SqT K H1 a xs) ∧ R (Itt K a) H1
theorem pi_list {l : Expr} {tl : TE} (hl : PE X l tl) : PI X tg l (iList X.K tl) := by
  intro pins s σ H R I h
  refine thn (hl pins s σ H _ I h) fun v s1 ⟨x, H1, I1, r1, q1⟩ => ?_
  obtain ⟨a, e, ⟨xs, hq⟩, q⟩ := q1
  subst e
  cases r1
  obtain ⟨its, rv, p, hz⟩ := I1.list hq
  refine wpAny_pyIter_list p.isList ?_
  refine ⟨s1.heap.objs.size, [s1.heap.objs.size], _, _, H1, rfl, I1.kept (t' := s1.toks) fun b o e => Heap.get?_push_of_some _ e, turn_list a _, ⟨_, Heap.get?_push_size _ rfl, rfl, rfl⟩, fun b hb => ?_, q⟩
  have e : b = s1.heap.objs.size := by simpa using hb
  subst e
  exact I1.fpOk (Nat.le_refl _) (I1.hok.fresh (Nat.le_refl _))
theorem pi_tup {l : Expr} {tl : TE} (hl : PE X l tl) : PI X tg l (iTup X.K tl) := by
  intro pins s σ H R I h
  refine thn (hl pins s σ H _ I h) fun v s1 ⟨x, H1, I1, r1, q1⟩ => ?_
  obtain ⟨a, e, ⟨xs, hq⟩, q⟩ := q1
  subst e
  cases r1
  obtain ⟨its, rv, p, hz⟩ := I1.tuple hq
  refine wpAny_pyIter_tuple (show s1.heap.IsTuple a its.toArray from p) ?_
  refine ⟨s1.heap.objs.size, [s1.heap.objs.size], _, _, H1, rfl, I1.kept (t' := s1.toks) fun b o e => Heap.get?_push_of_some _ e, turn_tuple a _, ⟨_, Heap.get?_push_size _ rfl, rfl, rfl⟩, fun b hb => ?_, q⟩
  have e : b = s1.heap.objs.size := by simpa using hb
  subst e
  exact I1.fpOk (Nat.le_refl _) (I1.hok.fresh (Nat.le_refl _))
theorem range_it {pins : List (Addr × Obj)} {σ : St} {H : Hp} {s : Shared} {R : It → Hp → Prop} {E : Value → Shared → Prop} {lo hi : Int} {t u v : Tok} {tk : Nat} (I : Inv X pins σ H s) (h1 : -(2 ^ 62) ≤ lo) (h2 : lo < 2 ^ 62) (h3 : -(2 ^ 62) ≤ hi) (h4 : hi < 2 ^ 62)
    (q : R (Itr lo (hi - lo).toNat) H) : wpAny (model X.prog X.w) X.A (pyIter (.ref s.heap.objs.size)) (PIE X pins σ tg R) E { s with heap := s.heap.push { cls := .type "range", data := .fields #[.int lo t, .int hi u, .int 1 v] }, toks := tk } := by
  refine wpAny_pyIter_range (IsRange.new ..) (small_one h1 h2 h3 h4) ?_
  have I1 : Inv X pins σ H { s with heap := s.heap.push { cls := .type "range", data := .fields #[.int lo t, .int hi u, .int 1 v] }, toks := tk } := I.kept fun b o e => Heap.get?_push_of_some _ e
  refine ⟨(s.heap.push { cls := .type "range", data := .fields #[.int lo t, .int hi u, .int 1 v] }).objs.size, [(s.heap.push { cls := .type "range", data := .fields #[.int lo t, .int hi u, .int 1 v] }).objs.size], _, _, H, rfl,
    I1.kept (t' := tk) fun b o e => Heap.get?_push_of_some _ e, turn_range _ lo (hi - lo).toNat, ?_, fun b hb => ?_, q⟩
  · have e1 : lo + ((0 : Nat) : Int) * 1 = lo := by simp
    have e2 : (((hi - lo).toNat : Nat) : Int) - ((0 : Nat) : Int) = Builtin.Range.rangeSize lo hi 1 := by rw [rangeSize_one]; split <;> omega
    show IsRangeIter _ _ (lo + ((0 : Nat) : Int) * 1) ((((hi - lo).toNat : Nat) : Int) - ((0 : Nat) : Int)) 1
    rw [e1, e2]
    exact Heap.get?_push_size _ rfl
  · have e : b = (s.heap.push { cls := .type "range", data := .fields #[.int lo t, .int hi u, .int 1 v] }).objs.size := by simpa using hb
    subst e
    exact I1.fpOk (Nat.le_refl _) (I1.hok.fresh (Nat.le_refl _))
def iRng1 (ta : TA) : TI := fun σ H R => ta σ H fun vs H1 => ∃ j : Int, vs = [.int j] ∧ -(2 ^ 62) ≤ j ∧ j < 2 ^ 62 ∧ R (Itr 0 j.toNat) H1
theorem pi_range1 {a : Expr} {ta : TA} {p pos : Pos} (hg : Gl X "range") (hm : X.mg "range" = none) (ha : PA X [a] ta) (hs : starEach [a] X.env = [(false, eval a X.env)] := by rfl) : PI X tg (.Call (.Name "range" p) [a] [] pos) (iRng1 ta) := by
  intro pins s σ H R I h
  refine Call_ (ld_blt I hg hm boot_range (PyProof.Rows.callWith_type1 (thn (ha pos pins s σ H _ I h) fun us s1 ⟨vs, H1, I1, r1, q1⟩ => ?_) hs rfl))
  obtain ⟨j, e, q1, q2, q⟩ := q1
  subst e
  cases r1 with
  | cons r rr =>
    cases rr
    obtain ⟨t, rfl⟩ := r
    exact call_range_1 (range_it I1 (by omega) (by omega) q1 q2 (by simpa using q))
def tFor (wi : TI) (g : TG) (tb : TS) : TS := fun D σ H => wi σ H fun J H1 => ∃ W : Nat → Nat → St → Hp → Prop, (∃ m, W 0 m σ H1) ∧ ∀ i m σ H, W i m σ H →
  (J.stop i H ∧ D.nx σ H) ∨ (J.go i H ∧ ∃ N : St → Hp → Prop, (∀ σ' H', N σ' H' → ∃ m', m' < m ∧ W (i + 1) m' σ' H') ∧ ∀ x H', J.yld i H x H' → g x σ H' fun σ2 H2 => tb { D with nx := N, ct := N, bk := D.nx } σ2 H2)
def pinsAt (fp : List Addr) (h : Heap) : List (Addr × Obj) := fp.filterMap fun b => (h.get? b).map fun o => (b, o)
theorem mem_pinsAt {fp : List Addr} {h : Heap} {b : Addr} {o : Obj} (hb : b ∈ fp) (e : h.get? b = some o) : (b, o) ∈ pinsAt fp h := List.mem_filterMap.mpr ⟨b, hb, by rw [e]; rfl⟩
theorem of_pinsAt {fp : List Addr} {h : Heap} {p : Addr × Obj} (hp : p ∈ pinsAt fp h) : p.1 ∈ fp ∧ h.get? p.1 = some p.2 := by
  obtain ⟨b, hb, e⟩ := List.mem_filterMap.mp hp
  cases q : h.get? b with
  | none => rw [q] at e; cases e
  | some o =>
    rw [q] at e
    have e' : (b, o) = p := Option.some.inj e
    subst e'
    exact ⟨hb, q⟩
theorem Inv.pinned {pins : List (Addr × Obj)} {σ : St} {H : Hp} {s : Shared} {fp : List Addr} (I : Inv X pins σ H s) (hf : ∀ b ∈ fp, FpOk X pins H b) (ho : ∀ b ∈ fp, ∃ o, s.heap.get? b = some o ∧ ∀ v, o.data ≠ .cell v) : Inv X (pins ++ pinsAt fp s.heap) σ H s :=
  I.pins_of fun p hp => (List.mem_append.mp hp).elim (fun z => I.pin p (List.mem_append_right _ z)) fun z => by
    obtain ⟨hb, e⟩ := of_pinsAt z
    obtain ⟨f0, f1, f2, _⟩ := hf p.1 hb
    obtain ⟨o, e', d⟩ := ho p.1 hb
    rw [e] at e'; cases e'
    exact ⟨e, f0, f1, f2, d⟩
theorem Inv.unpinned {pins pl : List (Addr × Obj)} {σ : St} {H : Hp} {s : Shared} (I : Inv X (pins ++ pl) σ H s) : Inv X pins σ H s := I.pins_of fun p hp => I.pin p (List.mem_append_right _ (List.mem_append_left _ hp))
theorem ps_for {iter : Expr} {body : List Stmt} {wi : TI} {g : TG} {tb : TS} {pos : Pos} (hp : PassesOwn (model X.prog X.w) X.A X.env X.xe) (hc : X.calm = true) (hi : PI X tg iter wi) (hg : PG X tg g) (hb : PSs X body tb)
    (hs : ∀ x, foldedSetIterable iter X.env x = pure x := by intro _; rfl) : PS X (.For tg iter body [] pos) (tFor wi g tb) := by
  intro pins s σ H D I h
  refine wpAny_For (thn (hi pins s σ H _ I h) fun v s1 h1 => thn h1 fun itv s2 h2 => ?_) hs
  obtain ⟨it, fp, tn, J, H2, e, I2, T, st2, f2, W, ⟨m0, w0⟩, turn⟩ := h2
  subst e
  have stat : ∀ {H' : Hp}, (∀ b ∈ fp, H' b = none) → ∀ b ∈ fp, FpOk X pins H' b := fun hn b hb => ⟨hn b hb, (f2 b hb).2⟩
  refine codeAny_forLoop_any (fun n s' => ∃ i σ' H', Inv X pins σ' H' s' ∧ tn i s'.heap ∧ (∀ b ∈ fp, H' b = none) ∧ W i n σ' H') ?_ m0 ⟨0, σ, H2, I2, st2, fun b hb => (f2 b hb).1, w0⟩
  rintro n s3 ⟨i, σ3, H3, I3, st3, fr3, w3⟩
  rcases turn i n σ3 H3 w3 with ⟨stop, qn⟩ | ⟨go, N, hN, step⟩
  · refine wpAny_passesOwn hp (thn (T.done X rfl rfl rfl hc i pins s3 σ3 H3 X.xe I3 (stat fr3) st3 stop) fun r s4 ⟨hr, I4⟩ => ?_)
    subst hr
    exact wpAny_execs_nil ⟨σ3, H3, I4, qn⟩
  · refine wpAny_passesOwn hp (thn (T.item X rfl rfl rfl hc i pins s3 σ3 H3 X.xe I3 (stat fr3) st3 go) fun r s4 ⟨u, hr, h4⟩ => ?_)
    subst hr
    refine wpAny_passesOwn hp (thn h4 fun _ s5 ⟨x, H5, I5, r5, y5, st5, fr5⟩ => ?_)
    have I5' := I5.pinned (stat fr5) (T.obj _ _ st5)
    refine wpAny_passesOwn hp (thn (hg _ s5 σ3 H5 x u _ I5' r5 (step x H5 y5)) fun _ s6 ⟨σ6, H6, I6, q6⟩ => ?_)
    refine wpAny_passesOwn hp (thn (hb _ s6 σ6 H6 _ I6 q6) fun f s7 q7 => ?_)
    have again : ∀ {σ7 : St} {H7 : Hp}, Inv X (pins ++ pinsAt fp s5.heap) σ7 H7 s7 → N σ7 H7 → ∃ m, m < n ∧ ∃ i σ' H', Inv X pins σ' H' s7 ∧ tn i s7.heap ∧ (∀ b ∈ fp, H' b = none) ∧ W i m σ' H' := fun {σ7 H7} I7 n7 => by
      obtain ⟨m', hm, w7⟩ := hN σ7 H7 n7
      refine ⟨m', hm, i + 1, σ7, H7, I7.unpinned, T.keep _ _ _ st5 fun b hb o e => (I7.pin (b, o) (List.mem_append_right _ (List.mem_append_right _ (mem_pinsAt hb e)))).1, fun b hb => ?_, w7⟩
      obtain ⟨o, e, d⟩ := T.obj _ _ st5 b hb
      exact (I7.pin (b, o) (List.mem_append_right _ (List.mem_append_right _ (mem_pinsAt hb e)))).2.1
    cases f with
    | next => obtain ⟨σ7, H7, I7, n7⟩ := q7; exact again I7 n7
    | cont => obtain ⟨σ7, H7, I7, n7⟩ := q7; exact again I7 n7
    | brk => obtain ⟨σ7, H7, I7, q7⟩ := q7; exact ⟨σ7, H7, I7.unpinned, q7⟩
    | ret v => obtain ⟨x7, σ7, H7, I7, r7, q7⟩ := q7; exact ⟨x7, σ7, H7, I7.unpinned, r7, q7⟩
end
theorem for_list {K : PySem.W.Frag} {a : Addr} {xs : List V} {g : TG} {tb : TS} {D : Ends} {σ : St} {H : Hp} (Pv : Nat → St → Hp → Prop) (h0 : Pv 0 σ H) (hl : ∀ i σ H, i ≤ xs.length → Pv i σ H → SqL K H a xs)
    (hs : ∀ i x σ H, xs[i]? = some x → Pv i σ H → g x σ H fun σ2 H2 => tb { D with nx := Pv (i + 1), ct := Pv (i + 1), bk := D.nx } σ2 H2) (hd : ∀ σ H, Pv xs.length σ H → D.nx σ H) :
    ∃ W : Nat → Nat → St → Hp → Prop, (∃ m, W 0 m σ H) ∧ ∀ i m σ H, W i m σ H →
      ((Itl K a).stop i H ∧ D.nx σ H) ∨ ((Itl K a).go i H ∧ ∃ N : St → Hp → Prop, (∀ σ' H', N σ' H' → ∃ m', m' < m ∧ W (i + 1) m' σ' H') ∧ ∀ x H', (Itl K a).yld i H x H' → g x σ H' fun σ2 H2 => tb { D with nx := N, ct := N, bk := D.nx } σ2 H2) := by
  refine ⟨fun i m σ H => m = xs.length - i ∧ i ≤ xs.length ∧ Pv i σ H, ⟨xs.length, by simp, Nat.zero_le _, h0⟩, ?_⟩
  rintro i m σ H ⟨rfl, hi, p⟩
  have q := hl i σ H hi p
  by_cases hlt : i < xs.length
  · refine .inr ⟨⟨xs, xs[i], q, by simp [hlt]⟩, Pv (i + 1), fun σ' H' p' => ⟨xs.length - (i + 1), by omega, rfl, hlt, p'⟩, fun x H' y => ?_⟩
    obtain ⟨e, y⟩ := y
    subst e
    exact hs i x σ _ (y xs q) p
  · have e : i = xs.length := by omega
    subst e
    exact .inl ⟨⟨xs, q, Nat.le_refl _⟩, hd σ H p⟩
theorem for_tup {K : PySem.W.Frag} {a : Addr} {xs : List V} {g : TG} {tb : TS} {D : Ends} {σ : St} {H : Hp} (Pv : Nat → St → Hp → Prop) (h0 : Pv 0 σ H) (hl : ∀ i σ H, i ≤ xs.length → Pv i σ H → SqT K H a xs)
    (hs : ∀ i x σ H, xs[i]? = some x → Pv i σ H → g x σ H fun σ2 H2 => tb { D with nx := Pv (i + 1), ct := Pv (i + 1), bk := D.nx } σ2 H2) (hd : ∀ σ H, Pv xs.length σ H → D.nx σ H) :
    ∃ W : Nat → Nat → St → Hp → Prop, (∃ m, W 0 m σ H) ∧ ∀ i m σ H, W i m σ H →
      ((Itt K a).stop i H ∧ D.nx σ H) ∨ ((Itt K a).go i H ∧ ∃ N : St → Hp → Prop, (∀ σ' H', N σ' H' → ∃ m', m' < m ∧ W (i + 1) m' σ' H') ∧ ∀ x H', (Itt K a).yld i H x H' → g x σ H' fun σ2 H2 => tb { D with nx := N, ct := N, bk := D.nx } σ2 H2) := by
  refine ⟨fun i m σ H => m = xs.length - i ∧ i ≤ xs.length ∧ Pv i σ H, ⟨xs.length, by simp, Nat.zero_le _, h0⟩, ?_⟩
  rintro i m σ H ⟨rfl, hi, p⟩
  have q := hl i σ H hi p
  by_cases hlt : i < xs.length
  · refine .inr ⟨⟨xs, xs[i], q, by simp [hlt]⟩, Pv (i + 1), fun σ' H' p' => ⟨xs.length - (i + 1), by omega, rfl, hlt, p'⟩, fun x H' y => ?_⟩
    obtain ⟨e, y⟩ := y
    subst e
    exact hs i x σ _ (y xs q) p
  · have e : i = xs.length := by omega
    subst e
    exact .inl ⟨⟨xs, q, Nat.le_refl _⟩, hd σ H p⟩
theorem for_range {lo : Int} {n : Nat} {g : TG} {tb : TS} {D : Ends} {σ : St} {H : Hp} (Pv : Nat → St → Hp → Prop) (h0 : Pv 0 σ H)
    (hs : ∀ i σ H, i < n → Pv i σ H → g (.int (lo + i)) σ H fun σ2 H2 => tb { D with nx := Pv (i + 1), ct := Pv (i + 1), bk := D.nx } σ2 H2) (hd : ∀ σ H, Pv n σ H → D.nx σ H) :
    ∃ W : Nat → Nat → St → Hp → Prop, (∃ m, W 0 m σ H) ∧ ∀ i m σ H, W i m σ H →
      ((Itr lo n).stop i H ∧ D.nx σ H) ∨ ((Itr lo n).go i H ∧ ∃ N : St → Hp → Prop, (∀ σ' H', N σ' H' → ∃ m', m' < m ∧ W (i + 1) m' σ' H') ∧ ∀ x H', (Itr lo n).yld i H x H' → g x σ H' fun σ2 H2 => tb { D with nx := N, ct := N, bk := D.nx } σ2 H2) := by
  refine ⟨fun i m σ H => m = n - i ∧ i ≤ n ∧ Pv i σ H, ⟨n, by simp, Nat.zero_le _, h0⟩, ?_⟩
  rintro i m σ H ⟨rfl, hi, p⟩
  by_cases hlt : i < n
  · refine .inr ⟨hlt, Pv (i + 1), fun σ' H' p' => ⟨n - (i + 1), by omega, rfl, hlt, p'⟩, fun x H' y => ?_⟩
    obtain ⟨e, y⟩ := y
    subst e y
    exact hs i σ _ hlt p
  · have e : i = n := by omega
    subst e
    exact .inl ⟨Nat.le_refl _, hd σ H p⟩
end L2
namespace L2
open PySem PySem.Spec PyProof.Rows
abbrev R2 := V → V → Hp → VK → Prop
def OpR (X : Cx) (f : Value → Value → Sem Value) (r : R2) : Prop :=
  ∀ (pins : List (Addr × Obj)) (s : Shared) (σ : St) (H : Hp) (x y : V) (v u : Value) (Q : VK), Inv X pins σ H s → RelV x v → RelV y u → r x y H Q →
    wpAny (model X.prog X.w) X.A (f v u) (EP X pins σ Q) X.xe s
def UnR (X : Cx) (f : Value → Sem Value) (r : V → Hp → VK → Prop) : Prop :=
  ∀ (pins : List (Addr × Obj)) (s : Shared) (σ : St) (H : Hp) (x : V) (v : Value) (Q : VK), Inv X pins σ H s → RelV x v → r x H Q →
    wpAny (model X.prog X.w) X.A (f v) (EP X pins σ Q) X.xe s
def CallR (X : Cx) (f : Value) (r : List V → Hp → VK → Prop) : Prop :=
  ∀ (pins : List (Addr × Obj)) (s : Shared) (σ : St) (H : Hp) (xs : List V) (us : List Value) (Q : VK), Inv X pins σ H s → Vals xs us → r xs H Q →
    wpAny (model X.prog X.w) X.A (call f us) (EP X pins σ Q) X.xe s
def TruR (X : Cx) (r : V → Hp → (Bool → Hp → Prop) → Prop) : Prop :=
  ∀ (pins : List (Addr × Obj)) (s : Shared) (σ : St) (H : Hp) (x : V) (v : Value) (Q : Bool → Hp → Prop), Inv X pins σ H s → RelV x v → r x H Q →
    wpAny (model X.prog X.w) X.A (truthy v) (TP X pins σ Q) X.xe s
def tOp (r : R2) (ta tb : TE) : TE := fun σ H Q => ta σ H fun x H1 => tb σ H1 fun y H2 => r x y H2 Q
def tUn (r : V → Hp → VK → Prop) (ta : TE) : TE := fun σ H Q => ta σ H fun x H1 => r x H1 Q
def rI (C : Int → Int → Prop) (g : Int → Int → V) : R2 := fun x y H Q => ∃ i j, x = .int i ∧ y = .int j ∧ C i j ∧ Q (g i j) H
def rI0 (g : Int → Int → V) : R2 := fun x y H Q => ∃ i j, x = .int i ∧ y = .int j ∧ Q (g i j) H
def rU (g : Int → V) : V → Hp → VK → Prop := fun x H Q => ∃ i, x = .int i ∧ Q (g i) H
section
variable {X : Cx} {a b c : Expr} {ta tb tc : TE} {pos : Pos}
theorem binT (ha : PE X a ta) (hb : PE X b tb) {pins : List (Addr × Obj)} {s : Shared} {σ : St} {H : Hp} {R : V → V → Hp → Prop} (I : Inv X pins σ H s)
    (h : ta σ H fun x H1 => tb σ H1 fun y H2 => R x y H2) {Q : Value → Shared → Prop} {f : Value → Value → Sem Value}
    (hf : ∀ v u s2 x y H2, Inv X pins σ H2 s2 → RelV x v → RelV y u → R x y H2 → wpAny (model X.prog X.w) X.A (f v u) Q X.xe s2) :
    wpAny (model X.prog X.w) X.A (eval a X.env) (fun v s₁ => wpAny (model X.prog X.w) X.A (eval b X.env) (fun u s₂ => wpAny (model X.prog X.w) X.A (f v u) Q X.xe s₂) X.xe s₁) X.xe s := by
  refine thn (ha pins s σ H _ I h) fun v s1 ⟨x, H1, I1, r1, q1⟩ => ?_
  refine thn (hb pins s1 σ H1 _ I1 q1) fun u s2 ⟨y, H2, I2, r2, q2⟩ => ?_
  exact hf v u s2 x y H2 I2 r1 r2 q2
theorem pe_op {op : Operator} {r : R2} (ho : OpR X (binaryOp op) r) (ha : PE X a ta) (hb : PE X b tb) : PE X (.BinOp a op b pos) (tOp r ta tb) := by
  intro pins s σ H Q I h
  exact wpAny_BinOp (binT ha hb I h fun v u s2 x y H2 I2 rx ry q => ho pins s2 σ H2 x y v u Q I2 rx ry q)
theorem pe_un {op : UnaryOp} {r : V → Hp → VK → Prop} (ho : UnR X (unaryOp op) r) (ha : PE X a ta) : PE X (.UnaryOp op a pos) (tUn r ta) := by
  intro pins s σ H Q I h
  exact UnaryOp_ (thn (ha pins s σ H _ I h) fun v s1 ⟨x, H1, I1, r1, q1⟩ => ho pins s1 σ H1 x v Q I1 r1 q1)
theorem opI {f : Value → Value → Sem Value} {C : Int → Int → Prop} {g : Int → Int → Int}
    (rule : ∀ (i j : Int) (t u : Tok) (s : Shared) (Q : Value → Shared → Prop) (E : Value → Shared → Prop), C i j → Q (.int (g i j) s.toks) { s with toks := s.toks + 1 } → wpAny (model X.prog X.w) X.A (f (.int i t) (.int j u)) Q E s) :
    OpR X f (rI C fun i j => .int (g i j)) := by
  intro pins s σ H x y v u Q I rx ry h
  obtain ⟨i, j, rfl, rfl, hc, q⟩ := h
  obtain ⟨t, rfl⟩ := rx
  obtain ⟨t', rfl⟩ := ry
  exact rule i j t t' s _ _ hc ⟨.int (g i j), H, I.tok _, ⟨_, rfl⟩, q⟩
theorem opI0 {f : Value → Value → Sem Value} {g : Int → Int → Int}
    (rule : ∀ (i j : Int) (t u : Tok) (s : Shared) (Q : Value → Shared → Prop) (E : Value → Shared → Prop), Q (.int (g i j) s.toks) { s with toks := s.toks + 1 } → wpAny (model X.prog X.w) X.A (f (.int i t) (.int j u)) Q E s) :
    OpR X f (rI0 fun i j => .int (g i j)) := by
  intro pins s σ H x y v u Q I rx ry h
  obtain ⟨i, j, rfl, rfl, q⟩ := h
  obtain ⟨t, rfl⟩ := rx
  obtain ⟨t', rfl⟩ := ry
  exact rule i j t t' s _ _ ⟨.int (g i j), H, I.tok _, ⟨_, rfl⟩, q⟩
theorem opB0 {f : Value → Value → Sem Value} {g : Int → Int → Bool}
    (rule : ∀ (i j : Int) (t u : Tok) (s : Shared) (Q : Value → Shared → Prop) (E : Value → Shared → Prop), Q (.bool (g i j)) s → wpAny (model X.prog X.w) X.A (f (.int i t) (.int j u)) Q E s) :
    OpR X f (rI0 fun i j => .bl (g i j)) := by
  intro pins s σ H x y v u Q I rx ry h
  obtain ⟨i, j, rfl, rfl, q⟩ := h
  obtain ⟨t, rfl⟩ := rx
  obtain ⟨t', rfl⟩ := ry
  exact rule i j t t' s _ _ ⟨.bl (g i j), H, I, rfl, q⟩
def CDiv (i j : Int) : Prop := 0 < j ∧ j < 1073741824
def CPow (i j : Int) : Prop := 0 ≤ j ∧ j ≤ 1000000 ∧ i.natAbs < 2 ^ 64
def CMul (i j : Int) : Prop := (-(2 ^ 64) < i ∧ i < 2 ^ 64) ∨ (-(2 ^ 64) < j ∧ j < 2 ^ 64)
theorem CMul.ok {i j : Int} (h : CMul i j) : IntMulOk i j := by
  rcases h with ⟨h1, h2⟩ | ⟨h1, h2⟩
  · exact .of_left (intBits_le_64 h1 h2)
  · exact .of_right (intBits_le_64 h1 h2)
theorem op_add : OpR X (binaryOp .Add) (rI0 fun i j => .int (i + j)) := opI0 fun _ _ _ _ _ _ _ q => add_int q
theorem op_sub : OpR X (binaryOp .Sub) (rI0 fun i j => .int (i - j)) := opI0 fun _ _ _ _ _ _ _ q => sub_int q
theorem op_mul : OpR X (binaryOp .Mult) (rI CMul fun i j => .int (i * j)) := opI fun _ _ _ _ _ _ _ hc q => mul_int q hc.ok
theorem op_fdiv : OpR X (binaryOp .FloorDiv) (rI CDiv fun i j => .int (i / j)) := opI fun i j _ _ _ _ _ hc q => by
  have h1 : (0 : Int) < j := hc.1
  have h2 : j < 1073741824 := hc.2
  exact floordiv_int (by omega) (by rw [Int.fdiv_eq_ediv_of_nonneg i (by omega)]; exact q) (.inl (PyProof.noPylong_small (by omega)))
theorem op_mod : OpR X (binaryOp .Mod) (rI (fun _ j => 0 < j) fun i j => .int (i % j)) := opI fun i j _ _ _ _ _ hc q => by
  have h1 : (0 : Int) < j := hc
  exact mod_int' (by omega) (by rw [Int.fmod_eq_emod_of_nonneg i (by omega)]; exact q)
theorem op_pow : OpR X (binaryOp .Pow) (rI CPow fun i j => .int (i ^ j.toNat)) := opI fun _ _ _ _ _ _ _ hc q => pow_int_small hc.1 hc.2.1 hc.2.2 q
theorem unI {f : Value → Sem Value} {g : Int → Int}
    (rule : ∀ (i : Int) (t : Tok) (s : Shared) (Q : Value → Shared → Prop) (E : Value → Shared → Prop), Q (.int (g i) s.toks) { s with toks := s.toks + 1 } → wpAny (model X.prog X.w) X.A (f (.int i t)) Q E s) :
    UnR X f (rU fun i => .int (g i)) := by
  intro pins s σ H x v Q I rx h
  obtain ⟨i, rfl, q⟩ := h
  obtain ⟨t, rfl⟩ := rx
  exact rule i t s _ _ ⟨.int (g i), H, I.tok _, ⟨_, rfl⟩, q⟩
theorem un_neg : UnR X (unaryOp .USub) (rU fun i => .int (-i)) := unI fun _ _ _ _ _ q => neg_int q
end
def scal : V → V → Bool
  | .non, .non => true | .non, .int _ => true | .int _, .non => true | .non, .bl _ => true | .bl _, .non => true | .non, .str _ => true | .str _, .non => true
  | .int _, .int _ => true | .bl _, .bl _ => true | .str _, .str _ => true | .byt _, .byt _ => true
  | .int _, .str _ => true | .str _, .int _ => true | .bl _, .str _ => true | .str _, .bl _ => true
  | _, _ => false
def rEq : R2 := fun x y H Q => scal x y = true ∧ Q (.bl (decide (x = y))) H
def rNe : R2 := fun x y H Q => scal x y = true ∧ Q (.bl (!decide (x = y))) H
theorem dec_int {i j : Int} : decide (V.int i = V.int j) = (i == j) := by
  rw [Bool.eq_iff_iff]
  simp
theorem dec_bl {i j : Bool} : decide (V.bl i = V.bl j) = (i == j) := by
  rw [Bool.eq_iff_iff]
  simp
theorem dec_str {i j : Str} : decide (V.str i = V.str j) = (i == j) := by
  rw [Bool.eq_iff_iff]
  simp
theorem dec_byt {i j : Array UInt8} : decide (V.byt i = V.byt j) = (i.toList == j.toList) := by
  rw [Bool.eq_iff_iff]
  cases i
  cases j
  simp
section
variable {X : Cx} {a b c : Expr} {ta tb tc : TE} {pos : Pos}
theorem fin_bl {pins : List (Addr × Obj)} {σ : St} {H : Hp} {s : Shared} {Q : VK} {k k' : Bool} (I : Inv X pins σ H s) (q : Q (.bl k) H) (e : k = k') : EP X pins σ Q (.bool k') s := by
  subst e
  exact ⟨.bl k, H, I, rfl, q⟩
theorem op_eq : OpR X (compareOp .Eq) rEq := by
  intro pins s σ H x y v u Q I rx ry h
  obtain ⟨hs, q⟩ := h
  cases x with
  | non =>
    cases rx
    cases y with
    | non => cases ry; exact PySem.EqNone.eq_none_none (fin_bl I q (by simp))
    | bl j => cases ry; exact PySem.EqNone.eq_none_bool (fin_bl I q (by simp))
    | int j => obtain ⟨t', rfl⟩ := ry; exact PySem.EqNone.eq_none_int (fin_bl I q (by simp))
    | str j => obtain ⟨t', rfl⟩ := ry; exact PySem.EqNone.eq_none_str (fin_bl I q (by simp))
    | _ => exact absurd (show false = true from hs) Bool.false_ne_true
  | bl i =>
    cases rx
    cases y with
    | non => cases ry; exact PySem.EqNone.eq_bool_none (fin_bl I q (by simp))
    | bl j => cases ry; exact eq_bool (fin_bl I q dec_bl)
    | str j => obtain ⟨t', rfl⟩ := ry; exact PySem.EqMixed.eq_bool_str (fin_bl I q (by simp))
    | _ => exact absurd (show false = true from hs) Bool.false_ne_true
  | int i =>
    obtain ⟨t, rfl⟩ := rx
    cases y with
    | non => cases ry; exact PySem.EqNone.eq_int_none (fin_bl I q (by simp))
    | int j => obtain ⟨t', rfl⟩ := ry; exact eq_int (fin_bl I q dec_int)
    | str j => obtain ⟨t', rfl⟩ := ry; exact PySem.EqMixed.eq_int_str (fin_bl I q (by simp))
    | _ => exact absurd (show false = true from hs) Bool.false_ne_true
  | str i =>
    obtain ⟨t, rfl⟩ := rx
    cases y with
    | non => cases ry; exact PySem.EqNone.eq_str_none (fin_bl I q (by simp))
    | bl j => cases ry; exact PySem.EqMixed.eq_str_bool (fin_bl I q (by simp))
    | int j => obtain ⟨t', rfl⟩ := ry; exact PySem.EqMixed.eq_str_int (fin_bl I q (by simp))
    | str j => obtain ⟨t', rfl⟩ := ry; exact eq_str (fin_bl I q dec_str)
    | _ => exact absurd (show false = true from hs) Bool.false_ne_true
  | byt i =>
    obtain ⟨t, rfl⟩ := rx
    cases y with
    | byt j => obtain ⟨t', rfl⟩ := ry; exact PySem.W.eq_bytes (fin_bl I q dec_byt)
    | _ => exact absurd (show false = true from hs) Bool.false_ne_true
  | _ => cases y <;> exact absurd (show false = true from hs) Bool.false_ne_true
theorem op_ne : OpR X (compareOp .NotEq) rNe := by
  intro pins s σ H x y v u Q I rx ry h
  obtain ⟨hs, q⟩ := h
  cases x with
  | non =>
    cases rx
    cases y with
    | non => cases ry; exact PySem.EqNone.ne_none_none (fin_bl I q (by simp))
    | bl j => cases ry; exact PySem.EqNone.ne_none_bool (fin_bl I q (by simp))
    | int j => obtain ⟨t', rfl⟩ := ry; exact PySem.EqNone.ne_none_int (fin_bl I q (by simp))
    | str j => obtain ⟨t', rfl⟩ := ry; exact PySem.EqNone.ne_none_str (fin_bl I q (by simp))
    | _ => exact absurd (show false = true from hs) Bool.false_ne_true
  | bl i =>
    cases rx
    cases y with
    | non => cases ry; exact PySem.EqNone.ne_bool_none (fin_bl I q (by simp))
    | bl j => cases ry; exact ne_bool (fin_bl I q (congrArg not dec_bl))
    | str j => obtain ⟨t', rfl⟩ := ry; exact PySem.EqMixed.ne_bool_str (fin_bl I q (by simp))
    | _ => exact absurd (show false = true from hs) Bool.false_ne_true
  | int i =>
    obtain ⟨t, rfl⟩ := rx
    cases y with
    | non => cases ry; exact PySem.EqNone.ne_int_none (fin_bl I q (by simp))
    | int j => obtain ⟨t', rfl⟩ := ry; exact ne_int (fin_bl I q (congrArg not dec_int))
    | str j => obtain ⟨t', rfl⟩ := ry; exact PySem.EqMixed.ne_int_str (fin_bl I q (by simp))
    | _ => exact absurd (show false = true from hs) Bool.false_ne_true
  | str i =>
    obtain ⟨t, rfl⟩ := rx
    cases y with
    | non => cases ry; exact PySem.EqNone.ne_str_none (fin_bl I q (by simp))
    | bl j => cases ry; exact PySem.EqMixed.ne_str_bool (fin_bl I q (by simp))
    | int j => obtain ⟨t', rfl⟩ := ry; exact PySem.EqMixed.ne_str_int (fin_bl I q (by simp))
    | str j => obtain ⟨t', rfl⟩ := ry; exact ne_str (fin_bl I q (congrArg not dec_str))
    | _ => exact absurd (show false = true from hs) Bool.false_ne_true
  | byt i =>
    obtain ⟨t, rfl⟩ := rx
    cases y with
    | byt j => obtain ⟨t', rfl⟩ := ry; exact PySem.W.ne_bytes (fin_bl I q (congrArg not dec_byt))
    | _ => exact absurd (show false = true from hs) Bool.false_ne_true
  | _ => cases y <;> exact absurd (show false = true from hs) Bool.false_ne_true
theorem op_lt : OpR X (compareOp .Lt) (rI0 fun i j => .bl (decide (i < j))) := opB0 fun _ _ _ _ _ _ _ q => lt_int q
theorem op_le : OpR X (compareOp .LtE) (rI0 fun i j => .bl (decide (i ≤ j))) := opB0 fun _ _ _ _ _ _ _ q => le_int q
theorem op_gt : OpR X (compareOp .Gt) (rI0 fun i j => .bl (decide (j < i))) := opB0 fun _ _ _ _ _ _ _ q => gt_int q
theorem op_ge : OpR X (compareOp .GtE) (rI0 fun i j => .bl (decide (j ≤ i))) := opB0 fun _ _ _ _ _ _ _ q => ge_int q
theorem nomark (b : Expr) {op : CmpOp} (h : op ≠ .In := by decide) (h2 : op ≠ .NotIn := by decide) : behindInMarks op b = false := by
  have e1 : (op == CmpOp.In) = false := by cases op <;> first | rfl | exact absurd rfl h
  have e2 : (op == CmpOp.NotIn) = false := by cases op <;> first | rfl | exact absurd rfl h2
  cases b <;> simp [behindInMarks, e1, e2]
theorem pe_cmpR {op : CmpOp} {r : R2} (ho : OpR X (compareOp op) r) (ha : PE X a ta) (hb : PE X b tb) (hm : behindInMarks op b = false) : PE X (.Compare a [op] [b] pos) (tOp r ta tb) := by
  intro pins s σ H Q I h
  exact wpAny_Compare1 (binT ha hb I h fun v u s2 x y H2 I2 rx ry q => ho pins s2 σ H2 x y v u Q I2 rx ry q) hm
def tTest (t : TE) : TT := fun σ H Q => t σ H fun x H' => ∃ k, x = .bl k ∧ Q k H'
theorem pt_cmpR {op : CmpOp} {r : R2} (ho : OpR X (compareOp op) r) (ha : PE X a ta) (hb : PE X b tb) (hm : behindInMarks op b = false) : PT X (.Compare a [op] [b] pos) (tTest (tOp r ta tb)) := by
  intro pins s σ H Q I h
  refine wpAny_isTrue_Compare1 (thn (ha pins s σ H _ I h) fun v s1 ⟨x, H1, I1, r1, q1⟩ => thn (hb pins s1 σ H1 _ I1 q1) fun u s2 ⟨y, H2, I2, r2, q2⟩ =>
    thn (ho pins s2 σ H2 x y v u _ I2 r1 r2 q2) fun c s3 ⟨z, H3, I3, r3, k, e, q3⟩ => ?_) hm
  subst e
  cases r3
  exact wpAny_truthy_bool ⟨H3, I3, q3⟩
def tChain (r r' : R2) (ta tb tc : TE) : TE := fun σ H Q => ta σ H fun x H1 => tb σ H1 fun y H2 => r x y H2 fun z H3 => ∃ k, z = .bl k ∧
  (if k = true then tc σ H3 fun w' H4 => r' y w' H4 Q else Q (.bl false) H3)
theorem pe_chain {op op' : CmpOp} {r r' : R2} (ho : OpR X (compareOp op) r) (ho' : OpR X (compareOp op') r') (ha : PE X a ta) (hb : PE X b tb) (hc : PE X c tc)
    (hm : lastMarks [op, op'] [b, c] = false := by with_unfolding_all rfl) : PE X (.Compare a [op, op'] [b, c] pos) (tChain r r' ta tb tc) := by
  intro pins s σ H Q I h
  refine Compare_chain (thn (ha pins s σ H _ I h) fun v s1 ⟨x, H1, I1, r1, q1⟩ => chain_link (thn (hb pins s1 σ H1 _ I1 q1) fun u s2 ⟨y, H2, I2, r2, q2⟩ =>
    thn (ho pins s2 σ H2 x y v u _ I2 r1 r2 q2) fun d s3 ⟨z, H3, I3, r3, k, e, q3⟩ => ?_)) hm
  subst e
  cases r3
  refine wpAny_truthy_bool ?_
  cases k with
  | false => exact ite_ff ⟨.bl false, H3, I3, rfl, q3⟩
  | true => exact ite_tt (chain_last (thn (hc pins s3 σ H3 _ I3 q3) fun w' s4 ⟨z', H4, I4, r4, q4⟩ => ho' pins s4 σ H4 y z' u w' Q I4 r2 r4 q4))
def TruV (K : PySem.W.Frag) (x : V) (H : Hp) (k : Bool) : Prop :=
  match x with
  | .non => k = false
  | .bl b => k = b
  | .int i => k = (i != 0)
  | .str y => y.length ≤ sizeLine ∧ k = ((y.length : Int) != 0)
  | .byt y => y.size ≤ sizeLine ∧ k = ((y.size : Int) != 0)
  | .ref p => (∃ xs, SqL K H p xs ∧ k = !xs.isEmpty) ∨ (∃ xs, SqT K H p xs ∧ k = !xs.isEmpty) ∨ ∃ kvs, H p = some (.dK kvs) ∧ k = !kvs.isEmpty
  | _ => False
theorem isEmpty_kv {κ : Type} {kvs : List (κ × V)} {vs : List (κ × Value)} (r : KV kvs vs) : (!vs.isEmpty) = !kvs.isEmpty := by
  cases r <;> rfl
theorem isEmpty_of {xs : List V} {its : List Value} (r : Vals xs its) : (!its.toArray.isEmpty) = !xs.isEmpty := by
  cases r <;> simp
theorem line63 : (sizeLine : Nat) < 2 ^ 63 := by rw [sizeLine_eq]; decide
theorem tru_ok : TruR X (fun x H Q => ∃ k, TruV X.K x H k ∧ Q k H) := by
  intro pins s σ H x v Q I rx h
  obtain ⟨k, e, q⟩ := h
  have hl := line63
  have hs : sizeLine = 16777216 := sizeLine_eq
  cases x with
  | non =>
    cases rx
    have e' : k = false := e
    subst e'
    exact truthy_none ⟨H, I, q⟩
  | bl b =>
    cases rx
    have e' : k = b := e
    subst e'
    exact wpAny_truthy_bool ⟨H, I, q⟩
  | int i =>
    obtain ⟨t, rfl⟩ := rx
    have e' : k = (i != 0) := e
    subst e'
    exact PySem.P.truthy_int ⟨H, I, q⟩
  | str y =>
    obtain ⟨t, rfl⟩ := rx
    obtain ⟨hy, e'⟩ : y.length ≤ sizeLine ∧ k = ((y.length : Int) != 0) := e
    subst e'
    exact PySem.P.truthy_str (by omega) ⟨H, I.tok _, q⟩
  | byt y =>
    obtain ⟨t, rfl⟩ := rx
    obtain ⟨hy, e'⟩ : y.size ≤ sizeLine ∧ k = ((y.size : Int) != 0) := e
    subst e'
    exact PySem.W.truthy_bytes (by omega) ⟨H, I.tok _, q⟩
  | ref p =>
    cases rx
    have e' : (∃ xs, SqL X.K H p xs ∧ k = !xs.isEmpty) ∨ (∃ xs, SqT X.K H p xs ∧ k = !xs.isEmpty) ∨ ∃ kvs, H p = some (.dK kvs) ∧ k = !kvs.isEmpty := e
    rcases e' with ⟨xs, hx, e'⟩ | ⟨xs, hx, e'⟩ | ⟨kvs, hx, e'⟩
    · subst e'
      obtain ⟨its, r, pl, hz⟩ := I.list hx
      have hlen := r.length
      exact wpAny_truthy_list pl.isList (by simp only [List.size_toArray]; omega) ⟨H, I.tok _, by rw [isEmpty_of r]; exact q⟩
    · subst e'
      obtain ⟨its, r, pl, hz⟩ := I.tuple hx
      have hlen := r.length
      exact truthy_tuple pl (by simp only [List.size_toArray]; omega) ⟨H, I.tok _, by rw [isEmpty_of r]; exact q⟩
    · subst e'
      obtain ⟨hz, hS, vs, r, m⟩ : kvs.length ≤ sizeLine ∧ (p == sysModules) = false ∧ ∃ vs, KV kvs vs ∧ s.heap.DictOf (mixKind X.prog X.w) p vs := I.hok p _ hx
      have hlen : kvs.length = vs.length := Paired.length r
      exact wpAny_truthy_dict hS m (by omega) ⟨H, I.tok _, by rw [isEmpty_kv r]; exact q⟩
  | _ => exact (show False from e).elim
theorem pt_truth (ha : PE X a ta) (he : ∀ whole, isTrue a X.env whole = (do let v ← whole; standAt a.pos; holding [v] (truthy v))) :
    PT X a (fun σ H Q => ta σ H fun x H' => ∃ k, TruV X.K x H' k ∧ Q k H') := by
  intro pins s σ H Q I h
  exact isTrue_plain (thn (ha pins s σ H _ I h) fun v s1 ⟨x, H1, I1, r1, q1⟩ => tru_ok pins s1 σ H1 x v Q I1 r1 q1) (he _)
theorem op_add_str : OpR X (binaryOp .Add) (fun x y H Q => ∃ i j, x = .str i ∧ y = .str j ∧ i.length + j.length ≤ sizeLine ∧ Q (.str (i ++ j)) H) := by
  intro pins s σ H x y v u Q I rx ry h
  obtain ⟨i, j, rfl, rfl, hz, q⟩ := h
  obtain ⟨t, rfl⟩ := rx
  obtain ⟨t', rfl⟩ := ry
  exact add_str (fun t' tk => ⟨.str (i ++ j), H, I.tok _, ⟨_, rfl⟩, q⟩) hz
theorem vals1 {x : V} {us : List Value} (r : Vals [x] us) : ∃ u, us = [u] ∧ RelV x u := by
  cases r with
  | cons r1 r2 => cases r2; exact ⟨_, rfl, r1⟩
theorem vals2 {x y : V} {us : List Value} (r : Vals [x, y] us) : ∃ u w', us = [u, w'] ∧ RelV x u ∧ RelV y w' := by
  cases r with
  | cons r1 r2 =>
    cases r2 with
    | cons r3 r4 => cases r4; exact ⟨_, _, rfl, r1, r3⟩
theorem call_abs : CallR X (.builtin "abs") (fun xs H Q => ∃ i, xs = [.int i] ∧ Q (.int (if i < 0 then -i else i)) H) := by
  intro pins s σ H xs us Q I r h
  obtain ⟨i, rfl, q⟩ := h
  obtain ⟨u, rfl, t, rfl⟩ := vals1 r
  exact call_abs_int fun u tk => ⟨.int (if i < 0 then -i else i), H, I.tok _, ⟨_, rfl⟩, q⟩
theorem call_int1 : CallR X (.type "int") (fun xs H Q => (∃ i, xs = [.int i] ∧ Q (.int i) H) ∨ ∃ k, xs = [.bl k] ∧ Q (.int (if k then 1 else 0)) H) := by
  intro pins s σ H xs us Q I r h
  rcases h with ⟨i, rfl, q⟩ | ⟨k, rfl, q⟩
  · obtain ⟨u, rfl, t, rfl⟩ := vals1 r
    exact call_int_int ⟨.int i, H, I, ⟨_, rfl⟩, q⟩
  · obtain ⟨u, rfl, r1⟩ := vals1 r
    cases r1
    exact call_int_bool ⟨.int (if k then 1 else 0), H, I.tok _, ⟨_, rfl⟩, q⟩
end
end L2
namespace L2
open PySem PySem.Spec PyProof.Rows
structure ObjM (h : Heap) (x dx C : Addr) (mA : Str → Option Value) : Prop where
  obj : h.get? x = some (PySem.W.instObj C dx)
  ns : h.Ns1 dx mA
  ne : dx ≠ x
theorem lookIn_ns {h : Heap} {dx : Addr} {mA : Str → Option Value} (n : h.Ns1 dx mA) : ∃ od, h.get? dx = some od ∧ ∀ name, PySem.W.lookIn name od = some (mA name) := by
  obtain ⟨o, es, ep, ho, hd, hk, _, hm⟩ := n
  refine ⟨o, ho, fun name => ?_⟩
  have e := hm name
  unfold nsFind findBy at e
  rw [← Array.find?_toList] at e
  unfold PySem.W.lookIn
  rw [hd]
  dsimp only
  split
  · rename_i y q
    rw [q] at e
    exact congrArg some e
  · rename_i q
    rw [q] at e
    have a : es.toList.any (·.refKey) = false := by
      rw [List.any_eq_false]
      intro y hy
      obtain ⟨z, t, hkey⟩ := hk y (Array.mem_toList_iff.mp hy)
      simp [DictEntry.refKey, hkey]
    have a' : ¬ es.toList.any (·.refKey) = true := by rw [a]; exact Bool.false_ne_true
    rw [if_neg a']
    exact congrArg some e
theorem ObjM.look {h : Heap} {x dx C : Addr} {mA : Str → Option Value} (I : ObjM h x dx C mA) : ∃ od, PySem.W.InstAt h x (PySem.W.instObj C dx) C (some od) ∧ ∀ name, PySem.W.lookIn name od = some (mA name) :=
  let ⟨od, ho, hl⟩ := lookIn_ns I.ns
  ⟨od, ⟨I.obj, rfl, rfl, ho⟩, hl⟩
theorem RelO.some_of {v : V} {o : Option Value} (r : RelO (some v) o) : ∃ u, o = some u ∧ RelV v u := by
  cases o with
  | none => exact (show False from r).elim
  | some u => exact ⟨u, rfl, r⟩
section
variable {P : Program} {w : World} {H H' : Hp} {h h' : Heap} {a C dx : Addr} {fs fs' : List (Str × V)}
theorem ins_get (hok : HOk P w H h) (e : H a = some (.ins C dx fs)) : ∃ mA, ObjM h a dx C mA ∧ (∀ f, RelO (fs.lookup f) (mA f)) ∧ PySem.Within mA (fs.map (·.1)) ∧ fs.length ≤ 1000 ∧ H dx = some (.own a) := by
  obtain ⟨d, z, ne, ob, mA, n, r, q⟩ := (show ObjOk P w H h a (.ins C dx fs) from hok a _ e)
  exact ⟨mA, ⟨ob, n, ne⟩, r, q, z, d⟩
end
structure Cls (K : PySem.W.Frag) (C : Addr) : Prop where
  pg : PySem.W.plainGet K C Str.empty = true
  hd : PySem.W.hasDictIn K C = true
  po : PySem.W.plainOver K C = true
  sa : PySem.W.findIn K (.ref C) "__setattr__" = some (some (.builtin "object.__setattr__"))
theorem Cls.get {K : PySem.W.Frag} {C : Addr} (c : Cls K C) (f : Str) : PySem.W.plainGet K C f = true := c.pg
structure Con (K : PySem.W.Frag) (C : Addr) (f : Str) (v : V) (u : Value) : Prop where
  at_ : PySem.W.findIn K (.ref C) f = some (some u)
  rel : RelV v u
  get : PySem.W.specialIn K u "__get__" = some none
  cp : PySem.W.copiedNames.contains f = false
structure Meth (K : PySem.W.Frag) (C : Addr) (m : Str) (f : Addr) : Prop where
  at_ : PySem.W.findIn K (.ref C) m = some (some (.ref f))
  fn : PySem.W.isFn K (.ref f) = true
  kp : PySem.W.keepIn K (.ref f) = true
section
variable {X : Cx} {pins : List (Addr × Obj)} {σ : St} {H : Hp} {s : Shared} {A : Around} {E : Value → Shared → Prop} {Q : Value → Shared → Prop} {c : Value} {b : Bool}
inductive TyOf (K : PySem.W.Frag) (H : Hp) : V → Value → Prop where
  | non : TyOf K H .non (.type "NoneType")
  | bl (x : Bool) : TyOf K H (.bl x) (.type "bool")
  | int (i : Int) : TyOf K H (.int i) (.type "int")
  | str (x : Str) : TyOf K H (.str x) (.type "str")
  | flt (x : UInt64) : TyOf K H (.flt x) (.type "float")
  | lst {a : Addr} {xs : List V} (e : H a = some (.lst xs)) : TyOf K H (.ref a) (.type "list")
  | frz {a : Addr} {o : Obj} {xs : List V} (e : H a = some (.frz o (.lst xs))) : TyOf K H (.ref a) (.type "list")
  | tup {a : Addr} {xs : List V} (e : H a = some (.tup xs)) : TyOf K H (.ref a) (.type "tuple")
  | dK {a : Addr} {kvs : List (Key × V)} (e : H a = some (.dK kvs)) : TyOf K H (.ref a) (.type "dict")
  | dT {a : Addr} {kvs : List (List Key × V)} (e : H a = some (.dT kvs)) : TyOf K H (.ref a) (.type "dict")
  | ins {a C dx : Addr} {fs : List (Str × V)} (e : H a = some (.ins C dx fs)) (cl : Cls K C) (ha : PySem.W.findIn K (.ref C) "__class__" = some (some (.builtin "object.__class__")))
      (hn : PySem.W.specialIn K (.builtin "object.__class__") "__get__" = some (some (.builtin "getset_descriptor.__get__"))) (htk : PySem.W.takesIn K (.builtin "object.__class__") = some true)
      (hm : PySem.W.mroIn K C (.type "object") = some true) : TyOf K H (.ref a) (.ref C)
theorem isinst_ok {x : V} {u t : Value} (I : Inv X pins σ H s) (rx : RelV x u) (ty : TyOf X.K H x t) (e : PySem.W.kitOne X.K t c = some b) (h : ∀ tk, Q (.bool b) { s with toks := tk }) :
    wpAny (model X.prog X.w) A (call (.builtin "isinstance") [u, c]) Q E s := by
  cases ty with
  | non => cases (show u = Value.none from rx); exact PySem.W.kia_one PySem.W.kitx_none I.kIn True.intro e (fun z => nomatch z) h
  | bl y => cases (show u = Value.bool y from rx); exact PySem.W.kia_one PySem.W.kitx_bool I.kIn True.intro e (fun z => nomatch z) h
  | int i => obtain ⟨t, q⟩ := (show ∃ t, u = Value.int i t from rx); cases q; exact PySem.W.kia_one PySem.W.kitx_int I.kIn True.intro e (fun z => nomatch z) h
  | str y => obtain ⟨t, q⟩ := (show ∃ t, u = Value.str y t from rx); cases q; exact PySem.W.kia_one PySem.W.kitx_str I.kIn True.intro e (fun z => nomatch z) h
  | flt y => obtain ⟨t, q⟩ := (show ∃ t, u = Value.float y t from rx); cases q; exact PySem.W.kia_one PySem.W.kitx_float I.kIn True.intro e (fun z => nomatch z) h
  | @lst a xs ea =>
    cases (show u = Value.ref a from rx)
    obtain ⟨_, _, n, _, h1⟩ := (show ObjOk X.prog X.w H s.heap a (.lst xs) from I.hok a _ ea)
    exact PySem.W.kia_one PySem.W.kitx_list I.kIn ⟨_, h1, rfl⟩ e (fun z => nomatch z) h
  | @frz a ob xs ea =>
    cases (show u = Value.ref a from rx)
    obtain ⟨_, _, _, n, _, h1⟩ := (show ObjOk X.prog X.w H s.heap a (.frz ob (.lst xs)) from I.hok a _ ea)
    exact PySem.W.kia_one PySem.W.kitx_list I.kIn ⟨_, h1, rfl⟩ e (fun z => nomatch z) h
  | @tup a xs ea =>
    cases (show u = Value.ref a from rx)
    obtain ⟨_, _, _, p⟩ := (show ObjOk X.prog X.w H s.heap a (.tup xs) from I.hok a _ ea)
    obtain ⟨o, h1, h2, _⟩ := p
    exact PySem.W.kia_one PySem.W.kitx_tuple I.kIn ⟨o, h1, h2⟩ e (fun z => nomatch z) h
  | @dK a kvs ea =>
    cases (show u = Value.ref a from rx)
    obtain ⟨_, _, vs, _, p⟩ := (show ObjOk X.prog X.w H s.heap a (.dK kvs) from I.hok a _ ea)
    obtain ⟨o, es, ep, h1, h2, _⟩ := p
    exact PySem.W.kia_one PySem.W.kitx_dict I.kIn ⟨o, h1, h2.1⟩ e (fun z => nomatch z) h
  | @dT a kvs ea =>
    cases (show u = Value.ref a from rx)
    obtain ⟨_, _, xs, _, o, es, ep, h1, h2, _⟩ := (show ObjOk X.prog X.w H s.heap a (.dT kvs) from I.hok a _ ea)
    exact PySem.W.kia_one PySem.W.kitx_dict I.kIn ⟨o, h1, h2.1⟩ e (fun z => nomatch z) h
  | @ins a C dx fs ea cl ha hn htk hm =>
    cases (show u = Value.ref a from rx)
    obtain ⟨mA, O, _⟩ := ins_get I.hok ea
    obtain ⟨od, J, _⟩ := O.look
    exact PySem.W.kia_one (PySem.W.kitx_own (cl.get _) cl.hd ha hn htk hm) I.kIn J e (fun z => nomatch z) h
end
end L2
namespace L2
open PySem PySem.Spec PyProof.Rows
structure Room (k : Nat) (A : Around) : Prop where
  hd : A.handled = none
  dp : A.depth + 3 * k + 5 < recursionLimit
  un : A.units + 16 * k + 200 < cLine
  gd : A.guards = some []
theorem Room.mono {j k : Nat} {A : Around} (r : Room k A) (h : j ≤ k) : Room j A := ⟨r.hd, by have := r.dp; omega, by have := r.un; omega, r.gd⟩
theorem Room.deeper {k : Nat} {A : Around} (r : Room (k + 1) A) (env : Env) : Room k (A.deeper env) :=
  ⟨r.hd, by have := r.dp; show A.depth + 1 + 3 * k + 5 < _; omega, by have := r.un; show A.units + 3 + 16 * k + 200 < _; omega, by have := r.gd; first | exact this | simp [Around.deeper, this, pushGuards]⟩
theorem Room.depth {k : Nat} {A : Around} (r : Room k A) : A.depth < recursionLimit := by have := r.dp; omega
theorem Room.units {k : Nat} {A : Around} (r : Room k A) : A.units + 64 < cLine := by have := r.un; omega
def tNil : TA := fun _ H Q => Q [] H
def tCons (ta : TE) (tr : TA) : TA := fun σ H Q => ta σ H fun x H1 => tr σ H1 fun xs H2 => Q (x :: xs) H2
section
variable {X : Cx} {e : Expr} {es : List Expr} {te : TE} {t : TA} {pos : Pos}
theorem pa_nil : PA X [] tNil := fun _ _ _ _ H Q I h => Calls.spliced_nil ⟨[], H, I, .nil, h⟩
theorem pa_cons (ha : PE X e te) (hr : PA X es t) (hs : starEach (e :: es) X.env = (false, eval e X.env) :: starEach es X.env := by rfl) : PA X (e :: es) (tCons te t) := by
  intro pos pins s σ H Q I h
  rw [hs]
  show wpAny _ _ (spliced ((false, eval e X.env) :: backTo pos (starEach es X.env))) _ _ s
  refine Calls.spliced_cons (thn (ha pins s σ H _ I h) fun u s1 ⟨x, H1, I1, r1, q1⟩ => ?_)
  exact thn (hr pos pins s1 σ H1 _ I1 q1) fun us s2 ⟨xs, H2, I2, r2, q2⟩ => ⟨x :: xs, H2, I2, .cons r1 r2, q2⟩
def tTup (t : TA) : TE := fun σ H Q => t σ H fun xs H1 => xs.length ≤ sizeLine ∧ ∀ p, H1 p = none → Q (.ref p) (upd H1 p (.tup xs))
def tLst (t : TA) : TE := fun σ H Q => t σ H fun xs H1 => xs.length ≤ sizeLine ∧ ∀ p, H1 p = none → Q (.ref p) (upd H1 p (.lst xs))
theorem pe_tup {x1} (h : PA X es t) : PE X (.Tuple es x1 pos) (tTup t) := by
  intro pins s σ H Q I hq
  refine wpAny_Tuple_spliced (thn (h pos pins s σ H _ I hq) fun us s1 ⟨xs, H1, I1, r, z, q⟩ => ⟨by rw [← r.length]; exact z, ?_⟩)
  have hf : H1 s1.heap.objs.size = none := I1.hok.fresh (Nat.le_refl _)
  refine ⟨.ref s1.heap.objs.size, upd H1 s1.heap.objs.size (.tup xs), I1.laid (t' := s1.toks) (fun b u e => Heap.get?_push_of_some _ e) (Nat.le_refl _) ?_, rfl, q _ hf⟩
  exact ⟨⟨z, nod_push _ _⟩, us, r, ⟨_, Heap.get?_push_size _ rfl, rfl, _, rfl⟩⟩
theorem pe_lst (h : PA X es t) : PE X (.List es pos) (tLst t) := by
  intro pins s σ H Q I hq
  refine wpAny_List_spliced (thn (h pos pins s σ H _ I hq) fun us s1 ⟨xs, H1, I1, r, z, q⟩ => ⟨by rw [← r.length]; exact z, ?_⟩)
  have hf : H1 s1.heap.objs.size = none := I1.hok.fresh (Nat.le_refl _)
  refine ⟨.ref s1.heap.objs.size, upd H1 s1.heap.objs.size (.lst xs), I1.laid (t' := s1.toks) (fun b u e => Heap.get?_push_of_some _ e) (Nat.le_refl _) ?_, rfl, q _ hf⟩
  exact ⟨z, us, 0, r, Heap.get?_push_size _ rfl⟩
end
abbrev Sp := List V → Hp → VK → XK → Prop
abbrev CXT := List Env → Hp → Shared → XK → Value → Shared → Prop
structure Env0 (P : Program) (w : World) (K : PySem.W.Frag) (mg : Str → Option Value) (base : Heap) (A : Around) (outer : List Env) (s : Shared) (H : Hp) : Prop where
  frames : A.frames = some outer
  mod : Mod K mg base
  bs : ∀ b o, base.get? b = some o → s.heap.get? b = some o ∧ H b = none
  bsz : base.objs.size ≤ s.heap.objs.size
  funs : s.heap.FunFrames base outer
  frf : ∀ b ∈ frs outer, H b = none
  hok : HOk P w H s.heap
  bare : AllBare s.gens
def CE (outer : List Env) (P : Program) (w : World) (H : Hp) (s : Shared) (Q : VK) (u : Value) (s' : Shared) : Prop :=
  ∃ v H', s'.os = s.os ∧ AllBare s'.gens ∧ Un (frs outer) [] H H' s.heap s'.heap ∧ HOk P w H' s'.heap ∧ RelV v u ∧ Q v H'
def CR (CX : CXT) (outer : List Env) (P : Program) (w : World) (H : Hp) (s : Shared) (Q : VK) (E : XK) (r : Result) (s' : Shared) : Prop :=
  match r with
  | .ok (.ret u) => CE outer P w H s Q u s'
  | .ok _ => False
  | .error e => CX outer H s E e s'
structure FnOk (P : Program) (w : World) (K : PySem.W.Frag) (mg : Str → Option Value) (base : Heap) (CX : CXT) (k : Nat) (f : Addr) (fd : FuncData) (ps : List Str) (sp : Sp) : Prop where
  len : ∀ vs H Q E, sp vs H Q E → vs.length = ps.length
  run : ∀ (A : Around) (outer : List Env) (s : Shared) (H : Hp) (args : Args) (us : List Value) (vs : List V) (Q : VK) (E : XK), Room k A → Env0 P w K mg base A outer s H → BindsTo s fd args (ps.zip us) → Vals vs us → sp vs H Q E →
    codeAny (model P w) A (.call (.ref f) args) (CR CX outer P w H s Q E) s
theorem Env0.in1 {P : Program} {w : World} {K : PySem.W.Frag} {mg : Str → Option Value} {base : Heap} {A : Around} {outer : List Env} {s : Shared} {H : Hp} (e : Env0 P w K mg base A outer s H) :
    Env0 P w K mg base A.in1 outer s H := ⟨e.frames, e.mod, e.bs, e.bsz, e.funs, e.frf, e.hok, e.bare⟩
section
variable {X : Cx} {pins : List (Addr × Obj)} {σ : St} {H : Hp} {s s' : Shared}
theorem Inv.env0 (I : Inv X pins σ H s) : Env0 X.prog X.w X.K X.mg X.base X.A X.stack s H :=
  ⟨I.ok.frames, I.ok.mod, I.bs, Nat.le_trans I.ok.bsz I.sz, I.stack, I.stkFree, I.hok, I.bare⟩
theorem Inv.after {Q : VK} {u : Value} (I : Inv X pins σ H s) (h : CE X.stack X.prog X.w H s Q u s') : EP X pins σ Q u s' := by
  obtain ⟨v, H', os, bare, un, hok, r, q⟩ := h
  obtain ⟨hh, g, d, t, os'⟩ := s'
  obtain rfl : os' = s.os := os
  exact ⟨v, H', I.call (h' := hh) (g' := g) (d' := d) (t' := t) (ch := []) un hok bare (fun b z => absurd z (by simp)), r, q⟩
end
def tCall (sp : Sp) (dvs : List V) (E : XK) (t : TA) : TE := fun σ H Q => t σ H fun vs H1 => sp (vs ++ dvs) H1 Q E
def Binds (K : PySem.W.Frag) (fd : FuncData) (ps : List Str) (ds : List Value) : Prop :=
  ∀ (s : Shared) (us : List Value), K.In s.heap → (us ++ ds).length = ps.length → BindsTo s fd ⟨us, []⟩ (ps.zip (us ++ ds))
theorem Binds.all {K : PySem.W.Frag} {fd : FuncData} {ps : List Str} (h : ∀ us : List Value, us.length = ps.length → bindArgs fd ⟨us, []⟩ = pure (ps.zip us)) : Binds K fd ps [] := fun s us _ hl => by
  rw [List.append_nil] at hl ⊢
  exact .of_eq (h us hl)
def Passes (CX : CXT) (X : Cx) (E : XK) : Prop := ∀ (pins : List (Addr × Obj)) (σ : St) (H : Hp) (s : Shared) (e : Value) (s' : Shared), Inv X pins σ H s → CX X.stack H s E e s' → X.xe e s'
section
variable {X : Cx} {CX : CXT} {k : Nat} {f C : Addr} {fd : FuncData} {ps : List Str} {sp : Sp} {dvs : List V} {ds : List Value} {E : XK} {x m : Str} {p pos apos : Pos} {e o : Expr} {es : List Expr} {ta : TE} {t : TA}
theorem run_fn {pins : List (Addr × Obj)} {σ : St} {H : Hp} {s : Shared} {Q : VK} {us : List Value} {vs : List V} (F : FnOk X.prog X.w X.K X.mg X.base CX k f fd ps sp) (hr : Room k X.A) (hb : Binds X.K fd ps ds) (hd : Vals dvs ds) (hx : Passes CX X E)
    (I : Inv X pins σ H s) (r : Vals vs us) (h : sp (vs ++ dvs) H Q E) : wpAny (model X.prog X.w) X.A (call (.ref f) us) (EP X pins σ Q) X.xe s := by
  have r2 : Vals (vs ++ dvs) (us ++ ds) := r.append hd
  have hl : (us ++ ds).length = ps.length := by rw [← r2.length]; exact F.len _ _ _ _ h
  refine wpAny_call (codeAny_mono (F.run X.A X.stack s H ⟨us, []⟩ (us ++ ds) (vs ++ dvs) Q E hr I.env0 (hb s us I.kIn hl) r2 h) fun r s' hq => ?_)
  cases r with
  | error e => exact hx pins σ H s e s' I hq
  | ok fl =>
    cases fl with
    | ret u => exact I.after hq
    | next => exact False.elim hq
    | brk => exact False.elim hq
    | cont => exact False.elim hq
theorem pe_call (F : FnOk X.prog X.w X.K X.mg X.base CX k f fd ps sp) (hr : Room k X.A) (hg : Gl X x) (hm : X.mg x = some (.ref f)) (hk : PySem.W.keepIn X.K (.ref f) = true) (hb : Binds X.K fd ps ds) (hd : Vals dvs ds) (hx : Passes CX X E)
    (ha : PA X (e :: es) t) (hdb : (x == ("__debug__" : Str)) = false := by decide) (he : starEach (e :: es) X.env = (false, eval e X.env) :: starEach es X.env := by rfl) (hpl : (backTo pos (starEach es X.env)).any (·.1) = false := by rfl) :
    PE X (.Call (.Name x p) (e :: es) [] pos) (tCall sp dvs E t) := by
  intro pins s σ H Q I h
  refine wpAny_Call_Name_kw (ld_glob I hg hm ?_ hdb)
  refine PySem.W.callWith_K (h₀ := X.base) I.ok.mod.kin hk (thn (ha pos pins s σ H _ I h) fun us s1 ⟨vs, H1, I1, r, q⟩ => ⟨I1.kIn, ?_⟩) he hpl
  exact run_fn F hr hb hd hx I1 r q
structure Mk (K : PySem.W.Frag) (C f : Addr) : Prop where
  makes : PySem.W.makesIn K C = true
  init : PySem.W.findIn K (.ref C) "__init__" = some (some (.ref f))
  fn : PySem.W.isFn K (.ref f) = true
  kp : PySem.W.keepIn K (.ref C) = true
end
section
variable {X : Cx} {CX : CXT} {k : Nat} {f C : Addr} {fd : FuncData} {ps ks : List Str} {sp : Sp} {E : XK} {x m : Str} {p pos apos kpos : Pos} {e o : Expr} {es : List Expr} {kws : List Keyword} {te ta : TE} {t tk : TA} {nm : Option Str}
structure KBinds (K : PySem.W.Frag) (fd : FuncData) (ps ks : List Str) (g : List Value → List Value → List Value) (gV : List V → List V → List V) : Prop where
  to : ∀ (s : Shared) (us ws : List Value), K.In s.heap → (g us ws).length = ps.length → BindsTo s fd ⟨us, ks.zip ws⟩ (ps.zip (g us ws))
  rel : ∀ {vs : List V} {us : List Value} {zs : List V} {ws : List Value}, Vals vs us → Vals zs ws → Vals (gV vs zs) (g us ws)
variable {g : List Value → List Value → List Value} {gV : List V → List V → List V}
end
structure FnScope (N P : List Str) (sc : Scope) : Prop where
  kind : sc.kind = .function
  co : sc.isCoroutine = false
  gen : sc.isGenerator = false
  nd : N.Nodup
  pre : N.take P.length = P
  par : ∀ x ∈ P, sc.names.lookup x = some .local ∨ sc.names.lookup x = some .cell
  nofree : ∀ y ∈ sc.names, y.2 ≠ .free
theorem bindL_out {kindOf : Str → Option NameKind} {x : Str} : ∀ {binds : List (Str × Value)} {m : Str → Option Value}, (∀ v, (x, v) ∉ binds) → bindL kindOf binds m x = m x
  | [], _, _ => rfl
  | (n, v) :: r, m, h => by
    unfold bindL
    rw [bindL_out fun w hw => h w (List.mem_cons_of_mem _ hw)]
    split
    · have : x ≠ n := by rintro rfl; exact h v List.mem_cons_self
      simp [this]
    · rfl
theorem bindC_out {kindOf : Str → Option NameKind} {x : Str} : ∀ {binds : List (Str × Value)} {m : Str → Option Value}, (∀ v, (x, v) ∉ binds) → bindC kindOf binds m x = m x
  | [], _, _ => rfl
  | (n, v) :: r, m, h => by
    unfold bindC
    rw [bindC_out fun w hw => h w (List.mem_cons_of_mem _ hw)]
    split
    · rfl
    · have : x ≠ n := by rintro rfl; exact h v List.mem_cons_self
      simp [this]
theorem bindL_get {kindOf : Str → Option NameKind} {x : Str} {v : Value} : ∀ {P : List Str} {vs : List Value} {i : Nat} {m : Str → Option Value}, P.Nodup → P[i]? = some x → vs[i]? = some v → kindOf x = some .local →
    bindL kindOf (P.zip vs) m x = some v
  | [], _, _, _, _, h, _, _ => by simp at h
  | _ :: _, [], _, _, _, _, h, _ => by simp at h
  | p :: P, w :: vs, 0, m, nd, h1, h2, hk => by
    simp at h1 h2; subst h1; subst h2
    show bindL kindOf ((p, w) :: P.zip vs) m p = _
    unfold bindL
    rw [bindL_out fun v hv => (List.nodup_cons.mp nd).1 (List.of_mem_zip hv).1, if_pos hk]
    simp
  | p :: P, w :: vs, i + 1, m, nd, h1, h2, hk => by
    show bindL kindOf ((p, w) :: P.zip vs) m x = _
    unfold bindL
    exact bindL_get (i := i) (List.nodup_cons.mp nd).2 (by simpa using h1) (by simpa using h2) hk
theorem bindC_get {kindOf : Str → Option NameKind} {x : Str} {v : Value} : ∀ {P : List Str} {vs : List Value} {i : Nat} {m : Str → Option Value}, P.Nodup → P[i]? = some x → vs[i]? = some v → kindOf x ≠ some .local →
    bindC kindOf (P.zip vs) m x = some v
  | [], _, _, _, _, h, _, _ => by simp at h
  | _ :: _, [], _, _, _, _, h, _ => by simp at h
  | p :: P, w :: vs, 0, m, nd, h1, h2, hk => by
    simp at h1 h2; subst h1; subst h2
    show bindC kindOf ((p, w) :: P.zip vs) m p = _
    unfold bindC
    rw [bindC_out fun v hv => (List.nodup_cons.mp nd).1 (List.of_mem_zip hv).1, if_neg hk]
    simp
  | p :: P, w :: vs, i + 1, m, nd, h1, h2, hk => by
    show bindC kindOf ((p, w) :: P.zip vs) m x = _
    unfold bindC
    exact bindC_get (i := i) (List.nodup_cons.mp nd).2 (by simpa using h1) (by simpa using h2) hk
def start (N : List Str) (vs : List V) : St := vs.map some ++ List.replicate (N.length - vs.length) none
def cxOf (CX : CXT) (P : Program) (w : World) (K : PySem.W.Frag) (mg : Str → Option Value) (base : Heap) (N : List Str) (qual : Str) (scope : Scope) (f : Addr) (cd : Value) (A : Around) (outer : List Env) (s : Shared) (H : Hp) (E : XK) : Cx where
  prog := P
  w := w
  K := K
  mg := mg
  base := base
  A := A.deeper (envOfC qual scope s.heap.objs.size f cd)
  N := N
  s₀ := s
  H₀ := H
  env := envOfC qual scope s.heap.objs.size f cd
  outer := outer
  stack := envOfC qual scope s.heap.objs.size f cd :: outer
  ex := []
  calm := true
  fn := fun _ => true
  pn := []
  xe := fun e s' => wpAny (model P w) (A.deeper (envOfC qual scope s.heap.objs.size f cd)) (leaving (envOfC qual scope s.heap.objs.size f cd) e) (fun _ s'' => CX outer H s E e s'') (fun e' s'' => CX outer H s E e' s'') s'
theorem cell_has {sc : Scope} {n : Nat} {x : Str} (h : sc.names.lookup x = some .cell) : ∃ c, (cellsFrom n sc.names []).lookup x = some c := by
  have q := PySem.W.cellsFrom_some sc.names n [] (.inl h)
  exact Option.isSome_iff_exists.mp q
theorem inv_start {CX : CXT} {P : Program} {w : World} {K : PySem.W.Frag} {mg : Str → Option Value} {base : Heap} {N ps : List Str} {qual : Str} {scope : Scope} {f : Addr} {cd : Value} {A : Around} {outer : List Env} {s s1 : Shared} {H : Hp} {E : XK} {us : List Value} {vs : List V}
    (S : FnScope N ps scope) (hd : A.handled = none) (e0 : Env0 P w K mg base A outer s H) (hl : vs.length = ps.length) (r : Vals vs us)
    (x : InCallC s s.heap.objs.size (bindL (envOfC qual scope s.heap.objs.size f cd).kindOf (ps.zip us) fun _ => none) (cellsFrom (s.heap.objs.size + 1) scope.names []) (bindC (envOfC qual scope s.heap.objs.size f cd).kindOf (ps.zip us) fun _ => none) s1) :
    Inv (cxOf CX P w K mg base N qual scope f cd A outer s H E) [] (start N vs) H s1 := by
  have hpl : ps.length ≤ N.length := by have := congrArg List.length S.pre; rw [List.length_take] at this; omega
  obtain ⟨h1, tk, rfl, hk⟩ := x.done
  have noA : ∀ b : Addr, b ∉ (cxOf CX P w K mg base N qual scope f cd A outer s H E).ex := fun b z => absurd (show b ∈ ([] : List Addr) from z) (by simp)
  refine ⟨⟨e0.mod, S.kind, rfl, rfl, Nat.le_refl _, fun y z c h1 h2 => ?_, fun y hy => ?_, fun y c _ h => ?_, fun _ => hd, Around.frames_deeper e0.frames, .inr ⟨rfl, rfl⟩, fun b z => absurd z (noA b), e0.bs, e0.bsz, fun b _ _ => noA b, fun b z => absurd z (noA b), e0.funs, e0.frf⟩,
    rfl, e0.bare, Un.kept hk, ⟨_, x.toInCall.ns, fun i y v h1 h2 h3 => ?_⟩, fun y c h => ⟨_, x.cell y c h⟩, e0.hok.fresh (Nat.le_refl _), fun y c h => ?_, fun p hp => absurd (show p ∈ ([] : List (Addr × Obj)) from hp) (by simp), e0.hok.kept hk, ?_⟩
  · exact name_of_addr x.apart (PySem.mem_of_lookup h1) (PySem.mem_of_lookup h2)
  · have hy : scope.names.lookup y = some .cell ∨ scope.names.lookup y = some .free := hy
    rcases hy with hy | hy
    · exact cell_has hy
    · exact absurd rfl (S.nofree _ (PySem.mem_of_lookup hy))
  · exact Nat.le_of_lt (x.above y c (PySem.mem_of_lookup h))
  · have hi : i < vs.length := by
      unfold start at h2
      by_cases hi : i < vs.length
      · exact hi
      · rw [List.getElem?_append_right (by simpa using hi)] at h2
        rw [List.getElem?_replicate] at h2
        split at h2 <;> cases h2
    have ha : vs[i]? = some v := by
      unfold start at h2
      rw [List.getElem?_append_left (by simpa using hi), List.getElem?_map] at h2
      cases e : vs[i]? with
      | none => rw [e] at h2; cases h2
      | some a => rw [e] at h2; cases h2; rfl
    obtain ⟨u, hu, rv⟩ := r.get ha
    have hp : ps[i]? = some y := by
      rw [← S.pre, List.getElem?_take_of_lt (by omega)]; exact h1
    have ndP : ps.Nodup := by rw [← S.pre]; exact S.nd.sublist (List.take_sublist _ _)
    refine ⟨u, rv, ?_⟩
    rcases S.par y (List.mem_of_getElem? hp) with k | k
    · exact .inl ⟨k, bindL_get ndP hp hu k⟩
    · obtain ⟨c, e⟩ := cell_has (n := s.heap.objs.size + 1) k
      refine .inr ⟨.inl k, c, e, ?_⟩
      have q := x.cell y c e
      rw [bindC_get ndP hp hu (by show scope.names.lookup y ≠ _; rw [k]; decide)] at q
      exact q
  · exact e0.hok.fresh (Nat.le_of_lt (x.above y c (PySem.mem_of_lookup h)))
  · unfold start
    show _ = N.length
    rw [List.length_append, List.length_map, List.length_replicate]
    omega
theorem fn_of {CX : CXT} {P : Program} {w : World} {K : PySem.W.Frag} {mg : Str → Option Value} {base : Heap} {k : Nat} {f : Addr} {name qual : Str} {params : Arguments} {body : List Stmt} {scope : Scope} {dV kV doc pm cdv ct oc : Value} {an od : Option Addr}
    {osl : Array (Option Value)} {N ps : List Str} {sp : Sp} (lk : K.lookup f = some ⟨oc, od, .func (PySem.W.fnOf name qual params body scope dV kV doc pm an cdv ct), osl⟩) (hcd : PySem.W.codeIn K cdv qual = true) (S : FnScope N ps scope)
    (len : ∀ vs H Q E, sp vs H Q E → vs.length = ps.length)
    (hbody : ∀ (A : Around) (outer : List Env) (s : Shared) (H : Hp) (vs : List V) (Q : VK) (E : XK), Room k (A.deeper (envOfC qual scope s.heap.objs.size f cdv)) → sp vs H Q E →
      ∃ t, PSs (cxOf CX P w K mg base N qual scope f cdv A outer s H E) body t ∧ t { nx := fun _ H' => Q .non H', rt := Q } (start N vs) H) :
    FnOk P w K mg base CX (k + 1) f (PySem.W.fnOf name qual params body scope dV kV doc pm an cdv ct) ps sp := by
  refine ⟨len, fun A outer s H args us vs Q E hr e0 hb r hsp => ?_⟩
  have hl := len _ _ _ _ hsp
  have KX : K.In s.heap := e0.mod.kin.keeps fun b o e => (e0.bs b o e).1
  have lim : s.heap.NoLimit := e0.mod.nolimit.keeps fun b o e => (e0.bs b o e).1
  have hkind : ∀ y ∈ ps.zip us, scope.names.lookup y.1 = some .local ∨ (scope.names.lookup y.1 = some .cell ∧ ((cellsFrom (s.heap.objs.size + 1) scope.names []).lookup y.1).isSome = true) := fun ⟨n, v⟩ hy => by
    rcases S.par n (List.of_mem_zip hy).1 with q | q
    · exact .inl q
    · exact .inr ⟨q, PySem.W.cellsFrom_some _ _ _ (.inl q)⟩
  refine codeAny_call_function hr.depth (KX _ _ lk) rfl S.co S.gen rfl (PySem.W.codeRec_of KX hcd) (hb _ _ _ _ ?_)
  refine wpAny_newFunctionEnv_cells S.kind hkind fun env he s1 x => ?_
  subst he
  refine ⟨lim.keeps x.toInCall.keep, codeAny_func ?_⟩
  obtain ⟨t, ht, hq⟩ := hbody A outer s H vs Q E (hr.deeper _) hsp
  have I : Inv (cxOf CX P w K mg base N qual scope f cdv A outer s H E) [] (start N vs) H s1 := inv_start S hr.hd e0 hl r x
  refine wpAny_mono (ht [] s1 (start N vs) H _ I hq) (fun fl s' hs => ?_) fun e s' hs => hs
  have fin : ∀ {σ' : St} {H' : Hp} {v : V} {u : Value}, Inv (cxOf CX P w K mg base N qual scope f cdv A outer s H E) [] σ' H' s' → RelV v u → Q v H' → CE outer P w H s Q u s' :=
    fun {σ' H' v u} J rv q => ⟨v, H', J.os, J.bare, J.base, J.hok, rv, q⟩
  cases fl with
  | ret u =>
    obtain ⟨v, σ', H', J, rv, q⟩ := hs
    exact fin J rv q
  | next =>
    obtain ⟨σ', H', J, q⟩ := hs
    exact fin (v := V.non) (u := Value.none) J rfl q
  | brk =>
    obtain ⟨_, _, _, q⟩ := hs
    exact False.elim q
  | cont =>
    obtain ⟨_, _, _, q⟩ := hs
    exact False.elim q
end L2
namespace L2
open PySem PySem.Spec PyProof.Rows
section
variable {X : Cx} {x : Str} {p pos : Pos} {e : Expr} {es : List Expr} {t : TA} {id T : String} {r : List V → Hp → VK → Prop}
def tCB (r : List V → Hp → VK → Prop) (t : TA) : TE := fun σ H Q => t σ H fun vs H1 => r vs H1 Q
theorem pe_callB (hc : CallR X (.builtin id) r) (hg : Gl X x) (hm : X.mg x = none) (hv : bootBuiltins x = some (.builtin id)) (ha : PA X (e :: es) t) (hn : x ≠ "__name__" := by decide) (hdb : (x == ("__debug__" : Str)) = false := by decide)
    (he : starEach (e :: es) X.env = (false, eval e X.env) :: starEach es X.env := by rfl) (hpl : (backTo pos (starEach es X.env)).any (·.1) = false := by rfl) : PE X (.Call (.Name x p) (e :: es) [] pos) (tCB r t) := by
  intro pins s σ H Q I h
  refine wpAny_Call_Name_kw (ld_blt I hg hm hv ?_ hn hdb)
  exact PyProof.Rows.callWith_builtin1 (thn (ha pos pins s σ H _ I h) fun us s1 ⟨vs, H1, I1, r1, q1⟩ => hc pins s1 σ H1 vs us Q I1 r1 q1) he hpl
theorem pe_callTy (hc : CallR X (.type T) r) (hg : Gl X x) (hm : X.mg x = none) (hv : bootBuiltins x = some (.type T)) (ha : PA X (e :: es) t) (hn : x ≠ "__name__" := by decide) (hdb : (x == ("__debug__" : Str)) = false := by decide)
    (he : starEach (e :: es) X.env = (false, eval e X.env) :: starEach es X.env := by rfl) (hpl : (backTo pos (starEach es X.env)).any (·.1) = false := by rfl) : PE X (.Call (.Name x p) (e :: es) [] pos) (tCB r t) := by
  intro pins s σ H Q I h
  refine wpAny_Call_Name_kw (ld_blt I hg hm hv ?_ hn hdb)
  exact PyProof.Rows.callWith_type1 (thn (ha pos pins s σ H _ I h) fun us s1 ⟨vs, H1, I1, r1, q1⟩ => hc pins s1 σ H1 vs us Q I1 r1 q1) he hpl
end
end L2
end
section
namespace HT
open PySem PyProof.Rows
section
open PySem.SeqAt
open PySem.AutoSeq1 (wpAny_loadPart')
open PySem.MeetsSeq PySem.MeetsSeq2 PySem.MeetsSeq3
end
section
variable {prog : Program} {w : World} {A : Around} {E : Value → Shared → Prop} {s : Shared}
theorem cat_tup {t b : Addr} {vs ws : List Value} {Q : Value → Shared → Prop} (ht : IsTup s.heap t vs.toArray) (hb : IsTup s.heap b ws.toArray) (hv : vs ≠ [])
    (h1 : ws = [] → Q (.ref t) s) (h2 : ws ≠ [] → Q (.ref s.heap.objs.size) { s with heap := s.heap.push { cls := .type "tuple", data := .seq (vs ++ ws).toArray } })
    (hsz : vs.length + ws.length ≤ sizeLine) : wpAny (model prog w) A (binaryOp .Add (.ref t) (.ref b)) Q E s := by
  obtain ⟨⟨cls, dd, data, sl⟩, ho, hc, n, hd⟩ := id ht
  obtain ⟨⟨cls2, dd2, data2, sl2⟩, ho2, hc2, n2, hd2⟩ := id hb
  simp only at hc hd hc2 hd2
  subst hc hd hc2 hd2
  have e : vs.toArray ++ ws.toArray = (vs ++ ws).toArray := by simp
  by_cases hw : ws = []
  · exact concat_meets ⟨_, ho, rfl⟩ ⟨_, ho2, rfl⟩ noFill_tuple_add seq_tuple_add PySem.F.slot_tuple_add PySem.F.entry_tuple_add (PySem.F.args_tuple_add_2 _ _)
      (tuple_addW1 t b vs.toArray ws.toArray n n2 dd dd2 sl sl2 (by simpa using hv) (by simp [hw])) ⟨ho, ho2, h1 hw⟩
  · refine concat_meets ⟨_, ho, rfl⟩ ⟨_, ho2, rfl⟩ noFill_tuple_add seq_tuple_add PySem.F.slot_tuple_add PySem.F.entry_tuple_add (PySem.F.args_tuple_add_2 _ _)
      (tuple_addW2 t b vs.toArray ws.toArray n n2 dd dd2 sl sl2 (by simpa using hv) (by simpa using hw) (by rw [List.size_toArray, List.size_toArray]; exact hsz)) ⟨ho, ho2, ?_⟩
    rw [e]
    exact h2 hw
def sIx (n d : Nat) : Option Int → Nat
  | none => d
  | some v => if v < 0 then (v + (n : Int)).toNat else min v.toNat n
theorem sIx_none (n d : Nat) : sIx n d none = d := rfl
theorem sIx_nat (n d k : Nat) : sIx n d (some (k : Int)) = min k n := by
  show (if (k : Int) < 0 then ((k : Int) + (n : Int)).toNat else min (k : Int).toNat n) = min k n
  rw [if_neg (by omega), Int.toNat_natCast]
theorem sIx_le (n d : Nat) (hd : d ≤ n) (o : Option Int) : sIx n d o ≤ n := by
  cases o with
  | none => exact hd
  | some v =>
    show (if v < 0 then (v + (n : Int)).toNat else min v.toNat n) ≤ n
    by_cases hv : v < 0
    · rw [if_pos hv]; omega
    · rw [if_neg hv]; exact Nat.min_le_right _ _
theorem clip_eq (v : Int) (n d : Nat) : (if v < 0 then max (v + (n : Int)) 0 else min v (n : Int)) = ((sIx n d (some v) : Nat) : Int) := by
  show (if v < 0 then max (v + (n : Int)) 0 else min v (n : Int)) = (((if v < 0 then (v + (n : Int)).toNat else min v.toNat n) : Nat) : Int)
  by_cases hv : v < 0
  · simp only [if_pos hv]; omega
  · simp only [if_neg hv]; omega
theorem adjust_gen (lo hi : Option Int) (n : Nat) : Builtin.Slice.sliceAdjust lo hi 1 (n : Int) = (((sIx n 0 lo : Nat) : Int), ((sIx n n hi : Nat) : Int)) := by
  have h1 : ¬ ((1 : Int) < 0) := by omega
  unfold Builtin.Slice.sliceAdjust
  simp only [h1, if_false]
  refine Prod.ext ?_ ?_
  · cases lo with
    | none => rfl
    | some v => exact clip_eq v n 0
  · cases hi with
    | none => rfl
    | some v => exact clip_eq v n n
theorem places_gen (i j : Nat) : Builtin.Slice.slicePlaces (i : Int) (j : Int) 1 = j - i := by
  unfold Builtin.Slice.slicePlaces
  have h1 : (1 : Int) > 0 := by omega
  simp only [h1, if_true, Int.ediv_one]
  split <;> omega
theorem slicePart_ {v : Value} {o : Option Int} {Q : Option Int → Shared → Prop} (p : IsPart v o) (h : Q o s) : wpAny (model prog w) A (Builtin.Slice.slicePartIndex v) Q E s := by
  cases p with
  | none => exact slicePart_none h
  | int i t => exact slicePart_int h
theorem sliceApplied_gen {sl : Addr} {vl vu : Value} {lo hi : Option Int} {n : Nat} {Q : Int × Int × Nat → Shared → Prop} (hs : s.heap.IsSliceOf sl vl vu .none) (pl : IsPart vl lo) (pu : IsPart vu hi)
    (h : Q (((sIx n 0 lo : Nat) : Int), 1, sIx n n hi - sIx n 0 lo) s) : wpAny (model prog w) A (Builtin.Slice.sliceApplied (.ref sl) (pure (n : Int))) Q E s := by
  obtain ⟨os, hos, hcs, hds⟩ := id hs
  unfold Builtin.Slice.sliceApplied Builtin.Slice.sliceFields
  refine wpAny_bind (wpAny_bind (wpAny_field hos hds (x := vl) rfl (wpAny_bind (wpAny_field hos hds (x := vu) rfl (wpAny_bind (wpAny_field hos hds (x := .none) rfl (wpAny_pure ?_)))))))
  refine wpAny_bind (slicePart_none ?_)
  show wpAny _ _ (if ((1 : Int) == 0) = true then _ else _) _ _ s
  rw [if_neg (by decide)]
  refine wpAny_bind (slicePart_ pl (wpAny_bind (slicePart_ pu (wpAny_bind (wpAny_pure ?_)))))
  show wpAny _ _ (match Builtin.Slice.sliceAdjust lo hi 1 (n : Int) with | (lo, hi) => pure (lo, (1 : Int), Builtin.Slice.slicePlaces lo hi 1)) _ _ s
  rw [adjust_gen lo hi n]
  show wpAny _ _ (pure (((sIx n 0 lo : Nat) : Int), (1 : Int), Builtin.Slice.slicePlaces ((sIx n 0 lo : Nat) : Int) ((sIx n n hi : Nat) : Int) 1)) _ _ s
  rw [places_gen]
  exact wpAny_pure h
theorem pick_gen (xs : Array Value) (i k : Nat) : ((List.range k).filterMap fun (m : Nat) => xs[((i : Int) + (m : Int) * 1).toNat]?).toArray = ((xs.toList.drop i).take k).toArray := by
  have e : (fun (m : Nat) => xs[((i : Int) + (m : Int) * 1).toNat]?) = fun m => xs[i + m]? := by
    funext m
    have : ((i : Int) + (m : Int) * 1).toNat = i + m := by omega
    rw [this]
  rw [e]
  have := pick_run xs i k
  rw [List.filterMap_map] at this
  have e2 : ((fun x => xs[x]?) ∘ fun x => i + x) = fun m => xs[i + m]? := rfl
  rw [e2] at this
  rw [this]
theorem getItem_tuple_cut {t sl : Addr} {items : Array Value} {vl vu : Value} {lo hi : Option Int} {Q : Value → Shared → Prop} (ht : IsTup s.heap t items) (hs : s.heap.IsSliceOf sl vl vu .none) (pl : IsPart vl lo) (pu : IsPart vu hi)
    (hw : ¬ (sIx items.size 0 lo = 0 ∧ sIx items.size items.size hi = items.size))
    (h : Q (.ref s.heap.objs.size) { s with heap := s.heap.push { cls := .type "tuple", data := .seq ((items.toList.drop (sIx items.size 0 lo)).take (sIx items.size items.size hi - sIx items.size 0 lo)).toArray } })
    (hsz : items.size ≤ sizeLine) : wpAny (model prog w) A (getItem (.ref t) (.ref sl)) Q E s := by
  have htake : sizeOk (.seq ((items.toList.drop (sIx items.size 0 lo)).take (sIx items.size items.size hi - sIx items.size 0 lo)).toArray) := by
    show ((items.toList.drop (sIx items.size 0 lo)).take (sIx items.size items.size hi - sIx items.size 0 lo)).toArray.size ≤ sizeLine
    rw [List.size_toArray, List.length_take, List.length_drop, Array.length_toList]
    omega
  have hj : sIx items.size items.size hi ≤ items.size := sIx_le _ _ (Nat.le_refl _) hi
  obtain ⟨os, hos, hcs, hds⟩ := id hs
  have hTs : s.TypeIs (.ref sl) "slice" := ⟨os, hos, hcs⟩
  unfold getItem
  try with_reducible refine wpAny_holding ?_
  first | refine wpAny_bind (wpAny_pure ?_) | skip
  refine wpAny_bind (wpAny_sequenceKey ht.typeIs (by decide) ?_)
  refine wpAny_bind (wpAny_callSpecial?_slot (name := Str.ofString "__getitem__") ht.typeIs PyProof.Rows.slot_tuple_getitem
    (wpAny_call_entry PyProof.Rows.slot_tuple_getitem ht.typeIs entry_tuple_getitem ?_ (args_tuple_getitem _ _)))
  show wpAny _ _ (Builtin.Tuple.tupleItemsOf (.ref t) >>= _) _ _ s
  refine wpAny_bind (tupleItemsOf_ ht ?_)
  refine wpAny_bind (wpAny_typeOf hTs ?_)
  rw [if_pos (by decide)]
  refine wpAny_bind (sliceApplied_gen hs pl pu ?_)
  have hno : ¬ ((((sIx items.size 0 lo : Nat) : Int) == 0 && (1 : Int) == 1 && (sIx items.size items.size hi - sIx items.size 0 lo) == items.size) = true) := by
    intro q
    rw [Bool.and_eq_true, Bool.and_eq_true] at q
    have q1 : ((sIx items.size 0 lo : Nat) : Int) = 0 := eq_of_beq q.1.1
    have q2 : sIx items.size items.size hi - sIx items.size 0 lo = items.size := eq_of_beq q.2
    exact hw ⟨by omega, by omega⟩
  show wpAny _ _ (if (((sIx items.size 0 lo : Nat) : Int) == 0 && (1 : Int) == 1 && (sIx items.size items.size hi - sIx items.size 0 lo) == items.size) = true then _ else _) _ _ s
  rw [if_neg hno, pick_gen]
  first
    | exact wpAny_bind (m := Builtin.Tuple.tupleExact _) (wpAny_newObj_type (wpAny_pure ⟨_, rfl, wpAny_pure h⟩) htake)
    | exact wpAny_bind (m := Builtin.Tuple.tupleExact _) (wpAny_newObj_type (wpAny_bind (wpAny_pure (wpAny_pure ⟨_, rfl, wpAny_pure h⟩))) htake)
    | exact wpAny_bind (wpAny_bind (m := Builtin.Tuple.tupleExact _) (wpAny_newObj_type (wpAny_pure (wpAny_pure ⟨_, rfl, wpAny_pure h⟩)) htake))
    | exact wpAny_bind (wpAny_bind (m := Builtin.Tuple.tupleExact _) (wpAny_newObj_type (wpAny_pure ⟨_, rfl, wpAny_pure h⟩) htake))
end
end HT
namespace L2
open PySem PySem.Spec PyProof.Rows
abbrev TO := St → Hp → (Option Int → Hp → Prop) → Prop
def PO (X : Cx) (e : Option Expr) (t : TO) : Prop :=
  ∀ (pins : List (Addr × Obj)) (s : Shared) (σ : St) (H : Hp) (Q : Option Int → Hp → Prop), Inv X pins σ H s → t σ H Q →
    wpAny (model X.prog X.w) X.A (evalPart e X.env) (fun u s' => ∃ o H', Inv X pins σ H' s' ∧ IsPart u o ∧ Q o H') X.xe s
def tNoPart : TO := fun _ H Q => Q none H
def tPart (t : TE) : TO := fun σ H Q => t σ H fun x H1 => ∃ i, x = .int i ∧ Q (some i) H1
section
variable {X : Cx} {e : Expr} {te : TE} {lo hi : Option Expr} {tl th : TO} {pos p2 : Pos}
theorem po_none : PO X none tNoPart := by
  intro pins s σ H Q I h
  rw [evalPart_none]
  exact wpAny_pure ⟨none, H, I, .none, h⟩
theorem po_some (h : PE X e te) : PO X (some e) (tPart te) := by
  intro pins s σ H Q I hw
  rw [evalPart_some]
  refine thn (h pins s σ H _ I hw) fun u s1 ⟨x, H1, I1, r1, q1⟩ => ?_
  obtain ⟨i, rfl, q⟩ := q1
  obtain ⟨t, rfl⟩ := r1
  exact ⟨some i, H1, I1, .int i t, q⟩
def SlR (X : Cx) (r : V → Option Int → Option Int → Hp → VK → Prop) : Prop :=
  ∀ (pins : List (Addr × Obj)) (s : Shared) (σ : St) (H : Hp) (x : V) (v vl vu : Value) (lo hi : Option Int) (sl : Addr) (Q : VK), Inv X pins σ H s → RelV x v → s.heap.IsSliceOf sl vl vu .none → IsPart vl lo → IsPart vu hi → r x lo hi H Q →
    ∃ T id, typeLookup (.type T) "__getitem__" = pure (some (.builtin id)) ∧ s.TypeIs v T ∧ wpAny (model X.prog X.w) X.A (getItem v (.ref sl)) (EP X pins σ Q) X.xe s
def tSl (r : V → Option Int → Option Int → Hp → VK → Prop) (te : TE) (tl th : TO) : TE := fun σ H Q => te σ H fun x H1 => tl σ H1 fun l H2 => th σ H2 fun u H3 => r x l u H3 Q
theorem pe_slice {r : V → Option Int → Option Int → Hp → VK → Prop} (hr : SlR X r) (he : PE X e te) (hl : PO X lo tl) (hu : PO X hi th) : PE X (.Subscript e (.Slice lo hi none p2) pos) (tSl r te tl th) := by
  intro pins s σ H Q I h
  refine Subscript_ (thn (he pins s σ H _ I h) fun v s1 ⟨x, H1, I1, r1, q1⟩ => ?_)
  refine wpAny_Slice (thn (hl pins s1 σ H1 _ I1 q1) fun vl s2 ⟨l, H2, I2, pl, q2⟩ => thn (hu pins s2 σ H2 _ I2 q2) fun vu s3 ⟨u, H3, I3, pu, q3⟩ => ?_)
  rw [evalPart_none]
  refine wpAny_pure ?_
  have I4 : Inv X pins σ H3 { s3 with heap := s3.heap.push { cls := .type "slice", data := .fields #[vl, vu, .none] } } := I3.kept (t' := s3.toks) fun b ob q => Heap.get?_push_of_some _ q
  obtain ⟨T, id, hT, ht, hg⟩ := hr pins { s3 with heap := s3.heap.push { cls := .type "slice", data := .fields #[vl, vu, .none] } } σ H3 x v vl vu l u s3.heap.objs.size Q I4 r1 (Heap.IsSliceOf.new ..) pl pu q3
  show wpAny (model X.prog X.w) X.A (subscriptTail e (.Slice lo hi none p2) v (.ref s3.heap.objs.size)) (EP X pins σ Q) X.xe { s3 with heap := s3.heap.push { cls := .type "slice", data := .fields #[vl, vu, .none] } }
  exact tail_any (ops := [.ref s3.heap.objs.size, v]) ht hT hg (by with_unfolding_all rfl)
def cutV (xs : List V) (lo hi : Option Int) : List V := (xs.drop (HT.sIx xs.length 0 lo)).take (HT.sIx xs.length xs.length hi - HT.sIx xs.length 0 lo)
theorem cutV_length (xs : List V) (lo hi : Option Int) : (cutV xs lo hi).length ≤ xs.length := by
  unfold cutV
  rw [List.length_take, List.length_drop]
  omega
def rSlT (K : PySem.W.Frag) : V → Option Int → Option Int → Hp → VK → Prop := fun x lo hi H Q => ∃ a xs, x = .ref a ∧ SqT K H a xs ∧
  ¬ (HT.sIx xs.length 0 lo = 0 ∧ HT.sIx xs.length xs.length hi = xs.length) ∧ ∀ p, H p = none → Q (.ref p) (upd H p (.tup (cutV xs lo hi)))
theorem sl_tup : SlR X (rSlT X.K) := by
  intro pins s σ H x v vl vu lo hi sl Q I rx hs pl pu h
  obtain ⟨a, xs, rfl, hx, hw, q⟩ := h
  cases rx
  obtain ⟨its, r, ht, hz⟩ := I.tuple hx
  have hlen : its.toArray.size = xs.length := by rw [List.size_toArray]; exact r.length.symm
  refine ⟨"tuple", _, PyProof.Rows.slot_tuple_getitem.lookup, ht.typeIs, ?_⟩
  refine HT.getItem_tuple_cut ht hs pl pu (by rw [hlen]; exact hw) ?_ (by rw [hlen]; exact hz)
  rw [hlen]
  refine ⟨.ref s.heap.objs.size, _, I.laid (t' := s.toks) (o := .tup (cutV xs lo hi)) (fun b ob q => Heap.get?_push_of_some _ q) (Nat.le_refl _) ?_, rfl, q _ (I.hok.fresh (Nat.le_refl _))⟩
  exact ⟨⟨Nat.le_trans (cutV_length xs lo hi) hz, nod_push _ _⟩, _, (r.drop (HT.sIx xs.length 0 lo)).take (HT.sIx xs.length xs.length hi - HT.sIx xs.length 0 lo), IsTup.new _ _⟩
def rCatT (K : PySem.W.Frag) : R2 := fun x y H Q => ∃ a b xs ys, x = .ref a ∧ y = .ref b ∧ SqT K H a xs ∧ SqT K H b ys ∧ xs ≠ [] ∧ xs.length + ys.length ≤ sizeLine ∧
  (ys = [] → Q (.ref a) H) ∧ (ys ≠ [] → ∀ p, H p = none → Q (.ref p) (upd H p (.tup (xs ++ ys))))
theorem Vals.nil_iff {xs : List V} {us : List Value} (r : Vals xs us) : us = [] ↔ xs = [] := by
  cases r with
  | nil => simp
  | cons _ _ => simp
theorem op_catT : OpR X (binaryOp .Add) (rCatT X.K) := by
  intro pins s σ H x y v u Q I rx ry h
  obtain ⟨a, b, xs, ys, rfl, rfl, ha, hb, hx, hz, q1, q2⟩ := h
  cases rx
  cases ry
  obtain ⟨its, r1, p1, _⟩ := I.tuple ha
  obtain ⟨its2, r2, p2, _⟩ := I.tuple hb
  refine HT.cat_tup p1 p2 (fun z => hx (r1.nil_iff.mp z)) (fun z => ⟨.ref a, H, I, rfl, q1 (r2.nil_iff.mp z)⟩) (fun z => ?_) (by rw [← r1.length, ← r2.length]; exact hz)
  refine ⟨.ref s.heap.objs.size, _, I.laid (t' := s.toks) (o := .tup (xs ++ ys)) (fun b ob q => Heap.get?_push_of_some _ q) (Nat.le_refl _) ?_, rfl, q2 (fun w => z (r2.nil_iff.mpr w)) _ (I.hok.fresh (Nat.le_refl _))⟩
  exact ⟨⟨by rw [List.length_append]; exact hz, nod_push _ _⟩, _, r1.append r2, IsTup.new _ _⟩
end
end L2
namespace L2
open PySem PySem.Spec PyProof.Rows
def ixN (n : Nat) (i : Int) : Option Nat := if 0 ≤ i then (if i < n then some i.toNat else none) else if -(n : Int) ≤ i then some (i + n).toNat else none
def atI {α : Type} (xs : List α) (i : Int) : Option α := (ixN xs.length i).bind fun j => xs[j]?
theorem ixN_seq {n : Nat} {i : Int} {j : Nat} (h : ixN n i = some j) : seqIndex? i n = some j ∧ j < n ∧ -(n : Int) ≤ i ∧ i < n := by
  unfold ixN at h
  by_cases h0 : 0 ≤ i
  · rw [if_pos h0] at h
    by_cases h1 : i < n
    · rw [if_pos h1] at h
      have e : i.toNat = j := Option.some.inj h
      exact ⟨by rw [seqIndex_of h0 h1, e], by omega, by omega, h1⟩
    · rw [if_neg h1] at h; cases h
  · rw [if_neg h0] at h
    by_cases h1 : -(n : Int) ≤ i
    · rw [if_pos h1] at h
      have e : (i + n).toNat = j := Option.some.inj h
      exact ⟨by rw [seqIndex_neg (by omega) h1, e], by omega, h1, by omega⟩
    · rw [if_neg h1] at h; cases h
theorem atI_get {α : Type} {xs : List α} {i : Int} {v : α} (h : atI xs i = some v) : ∃ j, seqIndex? i xs.length = some j ∧ xs[j]? = some v ∧ j < xs.length ∧ -(xs.length : Int) ≤ i ∧ i < xs.length := by
  unfold atI at h
  cases e : ixN xs.length i with
  | none => rw [e] at h; cases h
  | some j =>
    rw [e] at h
    obtain ⟨h1, h2, h3, h4⟩ := ixN_seq e
    exact ⟨j, h1, h, h2, h3, h4⟩
theorem atI_nat {α : Type} {xs : List α} {j : Nat} {v : α} (h : xs[j]? = some v) : atI xs (j : Int) = some v := by
  have hj : j < xs.length := (List.getElem?_eq_some_iff.mp h).1
  have e : ixN xs.length (j : Int) = some j := by
    unfold ixN
    rw [if_pos (by omega), if_pos (by omega)]; simp
  unfold atI; rw [e]; exact h
theorem atI_last {α : Type} (xs : List α) (v : α) : atI (xs ++ [v]) (-1) = some v := by
  have hl : (xs ++ [v]).length = xs.length + 1 := by simp
  have e : ixN (xs ++ [v]).length (-1) = some xs.length := by
    unfold ixN
    rw [hl, if_neg (by decide), if_pos (by omega)]
    congr 1
    omega
  unfold atI
  rw [e]
  show (xs ++ [v])[xs.length]? = some v
  simp
def PlainIx (b : Expr) : Prop := ∀ o i, subscripted b false o i = operate [o, i] (getItem o i)
def IxR (X : Cx) (r : R2) : Prop :=
  ∀ (value slice : Expr) (pins : List (Addr × Obj)) (s : Shared) (σ : St) (H : Hp) (x y : V) (v u : Value) (Q : VK), Inv X pins σ H s → RelV x v → RelV y u → r x y H Q →
    subscripted slice false v u = operate [v, u] (getItem v u) → wpAny (model X.prog X.w) X.A (subscriptTail value slice v u) (EP X pins σ Q) X.xe s
def MtR (X : Cx) (id : String) (r : V → List V → Hp → VK → Prop) : Prop :=
  ∀ (pins : List (Addr × Obj)) (s : Shared) (σ : St) (H : Hp) (x : V) (xs : List V) (v : Value) (us : List Value) (Q : VK), Inv X pins σ H s → RelV x v → Vals xs us → r x xs H Q →
    wpAny (model X.prog X.w) X.A (call (.builtin id) (v :: us)) (EP X pins σ Q) X.xe s
section
variable {X : Cx} {a b : Expr} {ta tb : TE} {pos : Pos}
theorem pe_ix {r : R2} (hr : IxR X r) (ha : PE X a ta) (hb : PE X b tb) (hs : PlainIx b) : PE X (.Subscript a b pos) (tOp r ta tb) := by
  intro pins s σ H Q I h
  exact Subscript_ (binT ha hb I h fun v u s2 x y H2 I2 rx ry q => hr a b pins s2 σ H2 x y v u Q I2 rx ry q (hs _ _))
def rIxL (K : PySem.W.Frag) : R2 := fun x y H Q => ∃ p xs i v, x = .ref p ∧ y = .int i ∧ SqL K H p xs ∧ atI xs i = some v ∧ Q v H
def rIxT (K : PySem.W.Frag) : R2 := fun x y H Q => ∃ p xs i v, x = .ref p ∧ y = .int i ∧ SqT K H p xs ∧ atI xs i = some v ∧ Q v H
def rIxS : R2 := fun x y H Q => ∃ z i c, x = .str z ∧ y = .int i ∧ z.length ≤ sizeLine ∧ atI z.cps.toList i = some c ∧ Q (.str ⟨#[c]⟩) H
theorem ix_list : IxR X (rIxL X.K) := by
  intro value slice pins s σ H x y v u Q I rx ry h hs
  obtain ⟨p, xs, i, z, rfl, rfl, hq, he, q⟩ := h
  cases rx
  obtain ⟨t, rfl⟩ := ry
  obtain ⟨its, r, pl, hz⟩ := I.list hq
  obtain ⟨j, h1, h2, h3, h4, h5⟩ := atI_get he
  obtain ⟨w, ew, rw'⟩ := r.get h2
  have hl := r.length
  have hn := line63
  have fin : EP X pins σ Q w s := ⟨z, H, I, rw', q⟩
  by_cases h0 : 0 ≤ i
  · have hj : i.toNat = j := by
      rw [seqIndex_of h0 h5] at h1
      exact Option.some.inj h1
    exact item_listR pl.isList h0 (by omega) (by rw [hj]; simpa using ew) fin hs
  · have hj : (i + (its.toArray.size : Int)).toNat = j := by
      rw [seqIndex_neg (by omega) h4] at h1
      rw [List.size_toArray, ← hl]
      exact Option.some.inj h1
    exact subscriptTail_builtinR (x := w) pl.isList.typeIs slot_list_getitem.lookup
      (wpAny_getItem_list_neg (Q := fun r s' => r = w ∧ EP X pins σ Q r s') pl.isList (by omega) (by rw [List.size_toArray] <;> omega) (by omega) (by rw [hj]; simpa using ew) ⟨rfl, fin⟩) hs
theorem ix_tup : IxR X (rIxT X.K) := by
  intro value slice pins s σ H x y v u Q I rx ry h hs
  obtain ⟨p, xs, i, z, rfl, rfl, hq, he, q⟩ := h
  cases rx
  obtain ⟨t, rfl⟩ := ry
  obtain ⟨its, r, pl, hz⟩ := I.tuple hq
  obtain ⟨j, h1, h2, h3, h4, h5⟩ := atI_get he
  obtain ⟨w, ew, rw'⟩ := r.get h2
  have hl := r.length
  have hn := line63
  have fin : EP X pins σ Q w s := ⟨z, H, I, rw', q⟩
  exact subscriptTail_builtinR (x := w) pl.typeIs slot_tuple_getitem.lookup
    (getItem_tuple (j := j) (Q := fun r s' => r = w ∧ EP X pins σ Q r s') pl (by omega) (by omega) (by rw [List.size_toArray, ← hl]; exact h1) (by simpa using ew) ⟨rfl, fin⟩) hs
theorem ix_str : IxR X rIxS := by
  intro value slice pins s σ H x y v u Q I rx ry h hs
  obtain ⟨z, i, c, rfl, rfl, hz, he, q⟩ := h
  obtain ⟨t, rfl⟩ := rx
  obtain ⟨t', rfl⟩ := ry
  obtain ⟨j, h1, h2, h3, h4, h5⟩ := atI_get he
  have hl : z.cps.toList.length = z.length := by simp [Str.length]
  rw [hl] at h1 h4 h5
  have hn := line63
  exact tail_any (typeIs_str s z t) slot_str_getitem.lookup (getItem_str (c := c) (by
    have e1 : decide (i < -(2 ^ 63 : Int)) = false := decide_eq_false (by omega)
    have e2 : decide (i ≥ 2 ^ 63) = false := decide_eq_false (by omega)
    rw [e1, e2, Bool.or_false]) (by rw [h1]; simpa using h2) ⟨.str ⟨#[c]⟩, H, I.tok _, ⟨_, rfl⟩, q⟩) hs
theorem mapSeq_set (its : List Value) (n j : Nat) (u : Value) : Obj.mapSeq (·.setIfInBounds j u) { cls := .type "list", data := .seq its.toArray n } = { cls := .type "list", data := .seq (its.set j u).toArray n } := by
  simp [Obj.mapSeq]
theorem Inv.lst {pins : List (Addr × Obj)} {σ : St} {H : Hp} {s : Shared} {p : Addr} {xs : List V} (I : Inv X pins σ H s) (h : H p = some (.lst xs)) :
    ∃ (its : List Value) (n : Nat), Vals xs its ∧ s.heap.get? p = some { cls := .type "list", data := .seq its.toArray n } ∧ xs.length ≤ sizeLine := by
  obtain ⟨z, its, n, r, e⟩ := I.hok p _ h
  exact ⟨its, n, r, e, z⟩
theorem Inv.lstUpd {pins : List (Addr × Obj)} {σ : St} {H : Hp} {s : Shared} {p : Addr} {xs ys : List V} {its its' : List Value} {n n' : Nat} {f : Obj → Obj} (I : Inv X pins σ H s) (h : H p = some (.lst xs))
    (ho : s.heap.get? p = some { cls := .type "list", data := .seq its.toArray n }) (hf : f { cls := .type "list", data := .seq its.toArray n } = { cls := .type "list", data := .seq its'.toArray n' }) (r : Vals ys its') (hz : ys.length ≤ sizeLine) (t : Nat) :
    Inv X pins σ (upd H p (.lst ys)) { s with heap := s.heap.update p f, toks := t } := by
  have e : (s.heap.update p f).get? p = some { cls := .type "list", data := .seq its'.toArray n' } := by
    rw [Heap.get?_update_self f ho (by rw [hf] <;> rfl), hf]
  refine I.write (x := p) (e := p) (by rw [h]; trivial) (.inl rfl) (fun b u hb q => (Heap.get?_update_other _ _ (Ne.symm hb)).trans q) ⟨_, e⟩ ?_
  exact ⟨hz, its', n', r, e⟩
def rSetL : V → V → V → Hp → (Hp → Prop) → Prop := fun o i v H Q => ∃ p xs k j, o = .ref p ∧ i = .int k ∧ H p = some (.lst xs) ∧ ixN xs.length k = some j ∧ Q (upd H p (.lst (xs.set j v)))
theorem set_list : PSet X rSetL := by
  intro pins s σ H o i v ov iv u Q I ro ri rv h
  obtain ⟨p, xs, k, j, rfl, rfl, hp, hj, q⟩ := h
  cases ro
  obtain ⟨t, rfl⟩ := ri
  obtain ⟨its, n, r, ho, hz⟩ := I.lst hp
  obtain ⟨h1, h2, h3, h4⟩ := ixN_seq hj
  have hl := r.length
  have hn := line63
  have I' : Inv X pins σ (upd H p (.lst (xs.set j v))) { s with heap := s.heap.update p (Obj.mapSeq (·.setIfInBounds j u)) } :=
    I.lstUpd hp ho (mapSeq_set its n j u) (r.set rv j) (by rw [List.length_set]; exact hz) s.toks
  by_cases h0 : 0 ≤ k
  · have hk : k.toNat = j := by
      rw [seqIndex_of h0 h4] at h1
      exact Option.some.inj h1
    exact PySem.W.ki_setAt ho h0 (by omega) (by rw [List.size_toArray, ← hl]; exact h4) (by rw [hk]; exact ⟨_, I', q⟩)
  · have hk : (k + (its.toArray.size : Int)).toNat = j := by
      rw [seqIndex_neg (by omega) h3] at h1
      rw [List.size_toArray, ← hl]
      exact Option.some.inj h1
    exact PySem.W.ki_setBack ho (by omega) (by rw [List.size_toArray, ← hl]; exact h3) (by omega) (by rw [hk]; exact ⟨_, I', q⟩)
theorem slice_bounds (lo hi : Option Int) (n : Nat) : (sliceBounds lo hi none n).1 = ((HT.sIx n 0 lo : Nat) : Int) ∧ (sliceBounds lo hi none n).2.1 = ((HT.sIx n n hi : Nat) : Int) ∧ (sliceBounds lo hi none n).2.2 = 1 := by
  refine ⟨?_, ?_, rfl⟩
  · cases lo with
    | none => simp [sliceBounds, HT.sIx]
    | some i =>
      simp only [sliceBounds, HT.sIx, Option.getD_none, show (1 : Int) > 0 by decide, if_true]
      by_cases h : i < 0
      · simp only [h, if_true] <;> omega
      · simp only [h, if_false] <;> omega
  · cases hi with
    | none => simp [sliceBounds, HT.sIx]
    | some i =>
      simp only [sliceBounds, HT.sIx, Option.getD_none, show (1 : Int) > 0 by decide, if_true]
      by_cases h : i < 0
      · simp only [h, if_true] <;> omega
      · simp only [h, if_false] <;> omega
theorem slicePick_cut (its : List Value) (lo hi : Option Int) : slicePick its.toArray lo hi none = ((its.drop (HT.sIx its.length 0 lo)).take (HT.sIx its.length its.length hi - HT.sIx its.length 0 lo)).toArray := by
  obtain ⟨h1, h2, h3⟩ := slice_bounds lo hi its.toArray.size
  unfold slicePick
  rw [h1, h2, h3]
  simp only [sliceRange_one, pick_run, List.size_toArray] <;> rfl
def rSlL (K : PySem.W.Frag) : V → Option Int → Option Int → Hp → VK → Prop := fun x lo hi H Q => ∃ a xs, x = .ref a ∧ SqL K H a xs ∧ ∀ p, H p = none → Q (.ref p) (upd H p (.lst (cutV xs lo hi)))
theorem sl_list : SlR X (rSlL X.K) := by
  intro pins s σ H x v vl vu lo hi sl Q I rx hs pl pu h
  obtain ⟨a, xs, rfl, hx, q⟩ := h
  cases rx
  obtain ⟨its, r, ht, hz⟩ := I.list hx
  have hlen := r.length
  refine ⟨"list", _, slot_list_getitem.lookup, ht.isList.typeIs, ?_⟩
  refine wpAny_getItem_list_slice ht.isList hs pl pu .none (by simp) ?_ (by rw [List.size_toArray] <;> omega)
  rw [slicePick_cut, ← hlen]
  refine ⟨.ref s.heap.objs.size, _, I.laid (t' := s.toks) (o := .lst (cutV xs lo hi)) (fun b ob q => Heap.get?_push_of_some _ q) (Nat.le_refl _) ?_, rfl, q _ (I.hok.fresh (Nat.le_refl _))⟩
  exact ⟨Nat.le_trans (cutV_length xs lo hi) hz, _, 0, (r.drop (HT.sIx xs.length 0 lo)).take (HT.sIx xs.length xs.length hi - HT.sIx xs.length 0 lo), Heap.get?_push_size _ rfl⟩
def flatV : V → Bool
  | .non => true
  | .bl _ => true
  | .int _ => true
  | .str _ => true
  | _ => false
def eqV : V → V → Bool
  | .non, .non => true
  | .bl a, .bl b => a == b
  | .bl a, .int b => (if a then 1 else 0) == b
  | .int a, .bl b => a == (if b then 1 else 0)
  | .int a, .int b => a == b
  | .str a, .str b => a == b
  | _, _ => false
theorem eqAt_V {A : Around} {s : Shared} {y x : V} {u v : Value} (ry : RelV y u) (rx : RelV x v) (fy : flatV y = true) (fx : flatV x = true) : SeqAt.EqAt A s u v (eqV y x) := by
  cases y with
  | non =>
    cases ry
    cases x with
    | non => cases rx; exact SeqAt.EqAt.same _
    | bl b => cases rx; exact SeqAt.EqAt.none_bool b
    | int b => obtain ⟨t, rfl⟩ := rx; exact SeqAt.EqAt.none_int b t
    | str b => obtain ⟨t, rfl⟩ := rx; exact SeqAt.EqAt.none_str b t
    | _ => exact absurd (show false = true from fx) Bool.false_ne_true
  | bl a =>
    cases ry
    cases x with
    | non => cases rx; exact SeqAt.EqAt.bool_none a
    | bl b => cases rx; exact SeqAt.EqAt.bool_bool a b
    | int b => obtain ⟨t, rfl⟩ := rx; exact SeqAt.EqAt.bool_int a b t
    | str b => obtain ⟨t, rfl⟩ := rx; exact SeqAt.EqAt.bool_str a b t
    | _ => exact absurd (show false = true from fx) Bool.false_ne_true
  | int a =>
    obtain ⟨t', rfl⟩ := ry
    cases x with
    | non => cases rx; exact SeqAt.EqAt.int_none a t'
    | bl b => cases rx; exact SeqAt.EqAt.int_bool a t' b
    | int b => obtain ⟨t, rfl⟩ := rx; exact SeqAt.EqAt.int_int a t' b t
    | str b => obtain ⟨t, rfl⟩ := rx; exact SeqAt.EqAt.int_str a t' b t
    | _ => exact absurd (show false = true from fx) Bool.false_ne_true
  | str a =>
    obtain ⟨t', rfl⟩ := ry
    cases x with
    | non => cases rx; exact SeqAt.EqAt.str_none a t'
    | bl b => cases rx; exact SeqAt.EqAt.str_bool a t' b
    | int b => obtain ⟨t, rfl⟩ := rx; exact SeqAt.EqAt.str_int a t' b t
    | str b => obtain ⟨t, rfl⟩ := rx; exact SeqAt.EqAt.str_str a t' b t
    | _ => exact absurd (show false = true from fx) Bool.false_ne_true
  | _ => exact absurd (show false = true from fy) Bool.false_ne_true
def eqU (x : V) (u : Value) : Bool := match u with
  | .none => eqV .non x
  | .bool b => eqV (.bl b) x
  | .int i _ => eqV (.int i) x
  | .str z _ => eqV (.str z) x
  | _ => false
theorem eqU_of {x y : V} {u : Value} (r : RelV y u) (f : flatV y = true) : eqU x u = eqV y x := by
  cases y with
  | non => cases r; rfl
  | bl b => cases r; rfl
  | int i => obtain ⟨t, rfl⟩ := r; rfl
  | str z => obtain ⟨t, rfl⟩ := r; rfl
  | _ => exact absurd (show false = true from f) Bool.false_ne_true
theorem any_eqU {x : V} : ∀ {xs : List V} {us : List Value}, Vals xs us → xs.all flatV = true → us.any (eqU x) = xs.any fun y => eqV y x
  | _, _, .nil, _ => rfl
  | y :: xs, u :: us, .cons r t, f => by
    rw [List.all_cons, Bool.and_eq_true] at f
    rw [List.any_cons, List.any_cons, eqU_of r f.1, any_eqU t f.2]
theorem mem_eqAt {A : Around} {s : Shared} {x : V} {v : Value} (rx : RelV x v) (fx : flatV x = true) : ∀ {xs : List V} {us : List Value}, Vals xs us → xs.all flatV = true → ∀ u ∈ us, SeqAt.EqAt A s u v (eqU x u)
  | _, _, .nil, _ => fun u hu => by cases hu
  | y :: xs, u :: us, .cons r t, f => fun u' hu => by
    rw [List.all_cons, Bool.and_eq_true] at f
    rcases List.mem_cons.mp hu with rfl | hu
    · rw [eqU_of r f.1]; exact eqAt_V r rx f.1 fx
    · exact mem_eqAt rx fx t f.2 u' hu
def inV (x : V) (xs : List V) : Bool := xs.any fun y => eqV y x
def rIn (K : PySem.W.Frag) (neg : Bool) : R2 := fun x y H Q => ∃ p xs, y = .ref p ∧ (SqL K H p xs ∨ SqT K H p xs) ∧ flatV x = true ∧ xs.all flatV = true ∧ Q (.bl (if neg then !inV x xs else inV x xs)) H
theorem op_in_seq : OpR X (compareOp .In) (rIn X.K false) := by
  intro pins s σ H x y v u Q I rx ry h
  obtain ⟨p, xs, rfl, hq, fx, fs, q⟩ := h
  cases ry
  rcases hq with hq | hq
  · obtain ⟨its, r, pl, hz⟩ := I.list hq
    refine SeqAt.in_listAt (eqU x) pl.isList (fun w hw => mem_eqAt rx fx r fs w (by simpa using hw)) ⟨.bl _, H, I, rfl, ?_⟩
    rw [show its.toArray.any (eqU x) = its.any (eqU x) by simp, any_eqU r fs]
    exact q
  · obtain ⟨its, r, pl, hz⟩ := I.tuple hq
    refine SeqAt.in_tupleAt (eqU x) pl (fun w hw => mem_eqAt rx fx r fs w (by simpa using hw)) ⟨.bl _, H, I, rfl, ?_⟩
    rw [show its.toArray.any (eqU x) = its.any (eqU x) by simp, any_eqU r fs]
    exact q
theorem op_notIn_seq : OpR X (compareOp .NotIn) (rIn X.K true) := by
  intro pins s σ H x y v u Q I rx ry h
  obtain ⟨p, xs, rfl, hq, fx, fs, q⟩ := h
  cases ry
  rcases hq with hq | hq
  · obtain ⟨its, r, pl, hz⟩ := I.list hq
    refine SeqAt.notIn_listAt (eqU x) pl.isList (fun w hw => mem_eqAt rx fx r fs w (by simpa using hw)) ⟨.bl _, H, I, rfl, ?_⟩
    rw [show its.toArray.any (eqU x) = its.any (eqU x) by simp, any_eqU r fs]
    exact q
  · obtain ⟨its, r, pl, hz⟩ := I.tuple hq
    refine SeqAt.notIn_tupleAt (eqU x) pl (fun w hw => mem_eqAt rx fx r fs w (by simpa using hw)) ⟨.bl _, H, I, rfl, ?_⟩
    rw [show its.toArray.any (eqU x) = its.any (eqU x) by simp, any_eqU r fs]
    exact q
theorem call_len_seq : CallR X (.builtin "len") (fun xs H Q => ∃ p ys, xs = [.ref p] ∧ (SqL X.K H p ys ∨ SqT X.K H p ys) ∧ Q (.int ys.length) H) := by
  intro pins s σ H xs us Q I r h
  obtain ⟨p, ys, rfl, hq, q⟩ := h
  obtain ⟨u, rfl, rx⟩ := vals1 r
  cases rx
  have hn := line63
  rcases hq with hq | hq
  · obtain ⟨its, r', pl, hz⟩ := I.list hq
    have hlen := r'.length
    exact Calls.call_len_list pl.isList (by simp only [List.size_toArray] <;> omega) ⟨.int ys.length, H, I.tok _, ⟨s.toks + 1, by rw [List.size_toArray, hlen]⟩, q⟩
  · obtain ⟨its, r', pl, hz⟩ := I.tuple hq
    have hlen := r'.length
    exact len_tuple pl (by simp only [List.size_toArray] <;> omega) ⟨.int ys.length, H, I.tok _, ⟨s.toks + 1, by rw [List.size_toArray, hlen]⟩, q⟩
theorem call_tuple_of : CallR X (.type "tuple") (fun xs H Q => ∃ p ys, xs = [.ref p] ∧ ((SqL X.K H p ys ∧ ∀ l, H l = none → Q (.ref l) (upd H l (.tup ys))) ∨ (SqT X.K H p ys ∧ Q (.ref p) H))) := by
  intro pins s σ H xs us Q I r h
  obtain ⟨p, ys, rfl, h⟩ := h
  obtain ⟨u, rfl, rx⟩ := vals1 r
  cases rx
  rcases h with ⟨hq, q⟩ | ⟨hq, q⟩
  · obtain ⟨its, r', pl, hz⟩ := I.list hq
    have hlen := r'.length
    refine call_tuple_list pl.isList (fun h' kp => ?_) (by simp only [List.size_toArray] <;> omega)
    have I1 : Inv X pins σ H { s with heap := h' } := I.kept (t' := s.toks) kp
    have I2 : Inv X pins σ (upd H h'.objs.size (.tup ys)) { s with heap := h'.push { cls := .type "tuple", data := .seq its.toArray } } :=
      I1.laid (t' := s.toks) (fun b o e => Heap.get?_push_of_some _ e) (Nat.le_refl _) (show ObjOk X.prog X.w _ _ _ (.tup ys) from ⟨⟨hz, nod_push _ _⟩, its, r', IsTup.new _ _⟩)
    exact ⟨.ref h'.objs.size, _, I2, rfl, q _ (I1.hok.fresh (Nat.le_refl _))⟩
  · obtain ⟨its, r', pl, hz⟩ := I.tuple hq
    exact call_tuple_same pl ⟨.ref p, H, I, rfl, q⟩
def tyV (K : PySem.W.Frag) (T : String) (x : V) (H : Hp) : Prop := match x with
  | .str _ => T = "str"
  | .int _ => T = "int"
  | .ref p => (T = "list" ∧ ∃ xs, SqL K H p xs) ∨ (T = "tuple" ∧ ∃ o, K.lookup p = some o ∧ o.cls = .type "tuple" ∧ o.dict = none) ∨
      (T = "dict" ∧ ((∃ kvs, H p = some (.dK kvs)) ∨ ∃ kvs, H p = some (.dT kvs))) ∨ (T = "set" ∧ ∃ S n, H p = some (.set S n))
  | _ => False
theorem tyV_is {pins : List (Addr × Obj)} {σ : St} {H : Hp} {s : Shared} {T : String} {x : V} {v : Value} (I : Inv X pins σ H s) (r : RelV x v) (ty : tyV X.K T x H) :
    s.TypeIs v T ∧ ∀ a, v = .ref a → ∃ ob, s.heap.get? a = some ob ∧ ob.dict = none := by
  cases x with
  | str z =>
    obtain ⟨t, rfl⟩ := r
    cases (show T = "str" from ty)
    exact ⟨typeIs_str s z t, fun _ e => nomatch e⟩
  | int i =>
    obtain ⟨t, rfl⟩ := r
    cases (show T = "int" from ty)
    exact ⟨typeIs_int s i t, fun _ e => nomatch e⟩
  | ref p =>
    cases r
    rcases ty with ⟨rfl, xs, hq⟩ | ⟨rfl, o, hk, hc, hd⟩ | ⟨rfl, hk⟩ | ⟨rfl, S, n, hk⟩
    · obtain ⟨its, _, pl, _⟩ := I.list hq
      refine ⟨pl.isList.typeIs, fun a e => ?_⟩
      cases e
      obtain ⟨o, n, e, c, hd, _⟩ := pl
      exact ⟨o, e, hd⟩
    · refine ⟨⟨o, I.kIn p o hk, hc⟩, fun a e => ?_⟩
      cases e
      exact ⟨o, I.kIn _ o hk, hd⟩
    · have z : ∃ o, s.heap.get? p = some o ∧ o.ExactDict := by
        rcases hk with ⟨kvs, hk⟩ | ⟨kvs, hk⟩
        · obtain ⟨_, _, _, _, o, _, _, e, ex, _⟩ := I.hok p _ hk
          exact ⟨o, e, ex⟩
        · obtain ⟨_, _, _, _, o, _, _, e, ex, _⟩ := I.hok p _ hk
          exact ⟨o, e, ex⟩
      obtain ⟨o, e, ex⟩ := z
      refine ⟨⟨o, e, ex.1⟩, fun a e2 => ?_⟩
      cases e2
      exact ⟨o, e, ex.2.1⟩
    · obtain ⟨o, _, _, _, e, ex, _⟩ := I.hok p _ hk
      refine ⟨⟨o, e, ex.1⟩, fun a e2 => ?_⟩
      cases e2
      exact ⟨o, e, ex.2.1⟩
  | _ => exact False.elim ty
def tBM (K : PySem.W.Frag) (T : String) (r : V → List V → Hp → VK → Prop) (to : TE) (t : TA) : TE := fun σ H Q => to σ H fun x H1 => tyV K T x H1 ∧ t σ H1 fun xs H2 => r x xs H2 Q
variable {o e : Expr} {es : List Expr} {to : TE} {t : TA} {name : Str} {apos cpos : Pos} {T id : String} {r : V → List V → Hp → VK → Prop}
theorem pe_bm (pa : PlainAttrs T) (slot : Slot T name id) (hty : typeOf (.builtin id) = pure (.type "method_descriptor")) (hm : MtR X id r) (ho : PE X o to) (ha : PA X (e :: es) t)
    (hbase : attributeBase o name X.env (eval o X.env) = eval o X.env := by rfl)
    (hfew : ((backTo cpos (starEach (e :: es) X.env)).all (fun x => !x.1) && (backToKw cpos (keywordEach [] X.env)).all (fun x => x.1.isSome)
      && decide ((e :: es).length + ([] : List Keyword).length + (if ([] : List Keyword).isEmpty then 0 else 1) < 30)) = true := by rfl)
    (hline : (apos.endLine == cpos.line) = true := by rfl) (hs : starEach (e :: es) X.env = (false, eval e X.env) :: starEach es X.env := by rfl) (hplain : (backTo cpos (starEach es X.env)).any (·.1) = false := by rfl) :
    PE X (.Call (.Attribute o name apos) (e :: es) [] cpos) (tBM X.K T r to t) := by
  intro pins s σ H Q I h
  refine wpAny_Call_method_late hbase hfew hline rfl (thn (ho pins s σ H _ I h) fun v s1 ⟨x, H1, I1, r1, ty, q1⟩ => ?_)
  obtain ⟨h1, h2⟩ := tyV_is I1 r1 ty
  refine ⟨T, id, pa, slot, hty, h1, h2, ?_⟩
  have hA := ha cpos pins s1 σ H1 _ I1 q1
  rw [hs] at hA ⊢
  refine Calls.callWith_builtin (by show (false || (backTo cpos (starEach es X.env)).any (·.1)) = false; rw [hplain] <;> rfl) (Calls.evalArgs_plain ?_)
  exact thn hA fun us s2 ⟨vs, H2, I2, r2, q2⟩ => hm pins s2 σ H2 x vs v us Q I2 r1 r2 q2
/- xs.append(e), list.index on a module's tuple .. are MtR facts of 06m -/
end
end L2
namespace L2
open PySem PySem.Spec PyProof.Rows
def MtM (X : Cx) (id : String) (r : V → List V → Hp → VK → Prop) : Prop :=
  ∀ (pins : List (Addr × Obj)) (s : Shared) (σ : St) (H : Hp) (x : V) (xs : List V) (v : Value) (us : List Value) (Q : VK), Inv X pins σ H s → RelV x v → Vals xs us → r x xs H Q →
    wpAny (model X.prog X.w) X.A (call (.builtin id) (v :: us)) (EP X pins σ Q) X.xe s
theorem Vals.one : ∀ {x : V} {us : List Value}, Vals [x] us → ∃ u, us = [u] ∧ RelV x u
  | _, _, .cons r .nil => ⟨_, rfl, r⟩
theorem Vals.eraseIdx : ∀ {xs : List V} {us : List Value} (i : Nat), Vals xs us → Vals (xs.eraseIdx i) (us.eraseIdx i)
  | _, _, _, .nil => .nil
  | _, _, 0, .cons _ t => t
  | _, _, i + 1, .cons r t => .cons r (Vals.eraseIdx i t)
theorem Vals.reverse {xs : List V} {us : List Value} (h : Vals xs us) : Vals xs.reverse us.reverse := by
  induction h with
  | nil => exact .nil
  | cons r t ih => rw [List.reverse_cons, List.reverse_cons]; exact Vals.append ih (.cons r .nil)
section
variable {X : Cx} {pins : List (Addr × Obj)} {σ : St} {H : Hp} {s : Shared} {l b : Addr} {xs ys zs : List V}
theorem Inv.lset {its its' : List Value} {n : Nat} {f : Array Value → Array Value} {t' : Nat} (I : Inv X pins σ H s) (hH : H l = some (.lst xs))
    (e : s.heap.get? l = some { cls := .type "list", data := .seq its.toArray n }) (hf : f its.toArray = its'.toArray) (hv : Vals ys its') (hz : ys.length ≤ sizeLine) :
    Inv X pins σ (upd H l (.lst ys)) { s with heap := s.heap.update l (Obj.mapSeq f), toks := t' } := by
  have q := PySem.IsL.update e f
  rw [hf] at q
  refine I.write (x := l) (e := l) (by rw [hH]; exact trivial) (.inl rfl) (fun b' u hb hu => (Heap.get?_update_other s.heap (Obj.mapSeq f) (Ne.symm hb)).trans hu) ⟨_, q⟩ ?_
  exact ⟨hz, its', _, hv, q⟩
theorem Inv.lnew {its : List Value} {t' : Nat} (I : Inv X pins σ H s) (hv : Vals ys its) (hz : ys.length ≤ sizeLine) :
    Inv X pins σ (upd H s.heap.objs.size (.lst ys)) { s with heap := s.heap.push { cls := .type "list", data := .seq its.toArray }, toks := t' } :=
  I.laid (fun _ _ q => Heap.get?_push_of_some _ q) (Nat.le_refl _) ⟨hz, its, 0, hv, Heap.get?_push_size _ rfl⟩
theorem Inv.fresh (I : Inv X pins σ H s) : H s.heap.objs.size = none := I.hok.fresh (Nat.le_refl _)
theorem Inv.lstM (I : Inv X pins σ H s) (hH : H l = some (.lst xs)) : xs.length ≤ sizeLine ∧ ∃ (its : List Value) (n : Nat), Vals xs its ∧ xs.length = its.length ∧ s.heap.get? l = some { cls := .type "list", data := .seq its.toArray n } := by
  obtain ⟨z, its, n, r, e⟩ := I.hok l _ hH
  exact ⟨z, its, n, r, r.length, e⟩
end
section
variable {X : Cx}
def rAppend : V → List V → Hp → VK → Prop := fun x vs H Q => ∃ l xs y, x = .ref l ∧ vs = [y] ∧ H l = some (.lst xs) ∧ xs.length < sizeLine ∧ Q .non (upd H l (.lst (xs ++ [y])))
theorem mt_append : MtM X "list.append" rAppend := by
  intro pins s σ H x vs v us Q I rx rv h
  obtain ⟨l, xs, y, rfl, rfl, hH, hz, q⟩ := h
  cases rx
  obtain ⟨u, rfl, ru⟩ := rv.one
  obtain ⟨z, its, n, r, hl, e⟩ := I.lstM hH
  refine call_meets F.slot_list_append ⟨_, e, rfl⟩ F.entry_list_append (F.args_list_append_2 _ _) (PySem.list_append l its.toArray n u (by rw [List.size_toArray]; omega)) ⟨e, ?_⟩
  refine ⟨.non, _, I.lset (its' := its ++ [u]) hH e (by simp) (r.append (.cons ru .nil)) ?_, rfl, q⟩
  rw [List.length_append, List.length_singleton]
  omega
def rCat : R2 := fun x y H Q => ∃ l b xs zs, x = .ref l ∧ y = .ref b ∧ H l = some (.lst xs) ∧ H b = some (.lst zs) ∧ xs.length + zs.length ≤ sizeLine ∧ ∀ p, H p = none → Q (.ref p) (upd H p (.lst (xs ++ zs)))
theorem op_cat : OpR X (binaryOp .Add) rCat := by
  intro pins s σ H x y v u Q I rx ry h
  obtain ⟨l, b, xs, zs, rfl, rfl, hH, hB, hz, q⟩ := h
  cases rx
  cases ry
  obtain ⟨z, its, n, r, hl, e⟩ := I.lstM hH
  obtain ⟨z2, its2, n2, r2, hl2, e2⟩ := I.lstM hB
  refine PySem.P.add_list e e2 ?_ (by rw [List.size_toArray, List.size_toArray]; omega)
  have ea : its.toArray ++ its2.toArray = (its ++ its2).toArray := by simp
  rw [ea]
  exact ⟨.ref _, _, I.lnew (t' := s.toks) (r.append r2) (by rw [List.length_append]; omega), rfl, q _ I.fresh⟩
end
section
variable {prog : Program} {w : World} {A : Around} {E : Value → Shared → Prop} {s : Shared}
set_option maxRecDepth 100000 in
end
end L2
end
section
namespace L2
open PySem PySem.Spec PyProof.Rows
section
variable {κ : Type} [DecidableEq κ]
theorem RelO.isSome_eq {o : Option V} {u : Option Value} (r : RelO o u) : o.isSome = u.isSome := by
  cases o with
  | none => cases u with
    | none => rfl
    | some _ => exact (show False from r).elim
  | some _ => cases u with
    | none => exact (show False from r).elim
    | some _ => rfl
end
theorem kV_is {P : Program} {w : World} {k : Key} {u : Value} (r : RelV (kV k) u) : (mixKind P w).is k u = true := by
  cases k with
  | inl i => obtain ⟨t, e⟩ := (show ∃ t, u = Value.int i t from r); subst e; exact mixKind_int P w i t
  | inr x => obtain ⟨t, e⟩ := (show ∃ t, u = Value.str x t from r); subst e; exact mixKind_str P w x t
section
variable {X : Cx} {pins : List (Addr × Obj)} {σ : St} {H : Hp} {s : Shared} {a : Addr} {y v : V} {u r : Value} {o : Option V} {A : Around} {E : Value → Shared → Prop}
theorem Inv.big (I : Inv X pins σ H s) : sysModules < s.heap.objs.size := by
  have h : mainGlobals < s.heap.objs.size := (I.mod.glob.keeps I.bk).lt
  exact Nat.lt_trans (by decide) h
theorem d_write {h' : Heap} {t' : Nat} {ob : HO} (I : Inv X pins σ H s) (mu : Mut (H a)) (hs : Heap.SameBut a s.heap h') (he : ∃ q, h'.get? a = some q) (new : ObjOk X.prog X.w (upd H a ob) h' a ob) :
    Inv X pins σ (upd H a ob) { s with heap := h', toks := t' } :=
  I.write (x := a) (e := a) mu (.inl rfl) (fun b q hb z => (hs.2 b hb).trans z) he new
end
def NoSl (i : Expr) : Prop := ∀ ov iv, subscripted i false ov iv = operate [ov, iv] (getItem ov iv)
theorem subD_of {prog : Program} {w : World} {A : Around} {E : Value → Shared → Prop} {s : Shared} {env : Env} {value slice : Expr} {pos : Pos} {T id : String} {Q : Value → Shared → Prop}
    (hl : typeLookup (.type T) "__getitem__" = pure (some (.builtin id))) (hs : NoSl slice)
    (h : wpAny (model prog w) A (eval value env) (fun o s₁ => wpAny (model prog w) A (eval slice env) (fun i s₂ => s₂.TypeIs o T ∧ wpAny (model prog w) A (getItem o i) Q E s₂) E s₁) E s) :
    wpAny (model prog w) A (eval (.Subscript value slice pos) env) Q E s := by
  refine Subscript_ (wpAny_mono h (fun o s₁ h₁ => wpAny_mono h₁ (fun i s₂ h₂ => ?_) fun _ _ x => x) fun _ _ x => x)
  obtain ⟨hT, h₂⟩ := h₂
  unfold subscriptTail
  refine wpAny_bind ?_
  rw [getitemInPython_of_ne hT.not_modules]
  refine wpAny_bind (wpAny_specialOf hT hl ?_)
  have fin : wpAny (model prog w) A (subscripted slice false o i) (fun r s₃ => wpAny (model prog w) A (letTemporaryGo value o r >>= fun _ => pure r) Q E s₃) E s₂ := by
    rw [hs o i]
    exact wpAny_operating (wpAny_mono h₂ (fun r s₃ h₃ => wpAny_bind (wpAny_letTemporaryGo (wpAny_pure h₃))) fun _ _ x => x)
  first
    | exact wpAny_pure (wpAny_bind fin)
    | exact wpAny_bind (wpAny_pure (wpAny_bind fin))
    | exact wpAny_bind fin
structure M1 (X : Cx) (o : Expr) (m : Str) (apos : Pos) (e : Expr) (cpos : Pos) : Prop where
  base : attributeBase o m X.env (eval o X.env) = eval o X.env
  few : ((backTo cpos (starEach [e] X.env)).all (fun x => !x.1) && (backToKw cpos (keywordEach [] X.env)).all (fun x => x.1.isSome)
    && decide (([e] : List Expr).length + ([] : List Keyword).length + (if ([] : List Keyword).isEmpty then 0 else 1) < 30)) = true
  line : (apos.endLine == cpos.line) = true
  trees : backTo cpos (starEach [e] X.env) = [(false, eval e X.env)]
structure M2 (X : Cx) (o : Expr) (m : Str) (apos : Pos) (e f : Expr) (cpos : Pos) : Prop where
  base : attributeBase o m X.env (eval o X.env) = eval o X.env
  few : ((backTo cpos (starEach [e, f] X.env)).all (fun x => !x.1) && (backToKw cpos (keywordEach [] X.env)).all (fun x => x.1.isSome)
    && decide (([e, f] : List Expr).length + ([] : List Keyword).length + (if ([] : List Keyword).isEmpty then 0 else 1) < 30)) = true
  line : (apos.endLine == cpos.line) = true
  trees : backTo cpos (starEach [e, f] X.env) = [(false, eval e X.env), (false, eval f X.env)]
end L2
end
section
namespace Att
open PySem PySem.W PySem.Calls PyProof.Rows
theorem ints_of_wellAll {P : Params} {h : Heap} : ∀ (ns : List Int) (vs : List Value), WellAll P h vs (ns.map WData.int) → IntsAre vs ns := by
  intro ns
  induction ns with
  | nil =>
    intro vs w
    rw [List.map_nil] at w
    cases w
    exact .nil
  | cons n ns ih =>
    intro vs w
    rw [List.map_cons] at w
    cases w with
    | cons a b =>
      cases a
      exact .cons _ _ (ih _ b)
theorem script_of {l : OpenLaw} {n : Nat} (hn : l.most = some n) {P : Params} {h : Heap} {args : List WData} {vals : List Value}
    (hpre : l.row.toRowW.claim.pre args = true) (hwl : WellAll P h vals args) :
    ∃ a vs ns, vals = [Value.ref a] ∧ args = [WData.list (ns.map WData.int)] ∧ h.get? a = some { cls := .type "list", data := .seq vs.toArray } ∧ IntsAre vs ns ∧ ns.length ≤ n := by
  have hsh : WShape.hasAll [] args [.list .int] = true := (pre_splitW hpre).1
  have hc : l.pre.holds [] { args := args } = true := (pre_splitW hpre).2
  obtain ⟨d, r, rfl, h1, h2⟩ := hasAllW_cons hsh
  obtain rfl := hasAllW_nil h2
  obtain ⟨xs, rfl, h3⟩ := hasW_list h1
  obtain ⟨ns, rfl⟩ := items_int h3
  have hlen : ns.length ≤ n := by
    unfold OpenLaw.pre at hc
    have h4 : (WTm.not (.lt (.lit (.int (n : Int))) (.len (.arg 0)))).holds [] { args := [.list (ns.map .int)] } = true := by
      have h4 := (holds_andW hc).1
      rw [hn] at h4
      exact h4
    have h5 := condW_of h4 (w_not (w_lt w_lit (w_len_list (w_arg rfl))))
    rw [List.length_map] at h5
    refine Nat.le_of_not_lt fun q => ?_
    have q' : (n : Int) < ((ns.length : Nat) : Int) := by omega
    first
      | (rw [decide_eq_true q'] at h5; exact absurd h5 (by decide))
      | (simp at h5; omega)
  cases hwl with
  | cons w1 w2 =>
    cases w2
    cases w1 with
    | list ho hall => exact ⟨_, _, ns, rfl, rfl, ho, ints_of_wellAll ns _ hall, hlen⟩
theorem post_true (l : OpenLaw) (args : List WData) : l.row.toRowW.claim.post args (.bool true) args = true :=
  postW_of (r := l.row.toRowW) (X := (true == true))
    (show WShape.has [] (.bool true) .bool = true by first | rfl | decide | simp [WShape.has, WShape.arms, WShape.armsAll])
    (show (WTm.eq .res (.lit (.bool true))).value [] { args := args, res := some (.bool true), after := args } = some (.bool (true == true)) from w_eq_bool (w_res rfl) w_lit) rfl
theorem attach_call {l : OpenLaw} {n : Nat} {q : Program} {loose : List Str} {XP : (Str → Option Value) → Heap → Prop} {YP : World → Heap → Prop} {d : DefRec}
    (hn : l.most = some n) (hdf : d.params.defaults = [])
    (call : ∀ (w : World) (s₀ s₁ : Shared) (mg mb : Str → Option Value) (fa : Addr) (o : Obj) (pm cd doc : Value) (a : Addr) (vs : List Value) (ns : List Int),
      Ground q loose [] XP w s₀ mg mb s₁.heap → YP w s₁.heap →
      s₁.heap.get? fa = some o → o.data = .func (docDef d.name d.params d.body d.scope pm cd doc) → s₁.heap.CodeRec cd d.name → mg d.name = some (.ref fa) →
      s₁.heap.get? a = some { cls := .type "list", data := .seq vs.toArray } → IntsAre vs ns → ns.length ≤ n → s₁.gens = #[] →
      codeAny (model l.prog w) callerA (.call (.ref fa) ⟨[.ref a], []⟩) (fun r s' => r = .ok (.ret (.bool true)) ∧ OldK s₁.heap s'.heap ∧ s'.os = s₁.os ∧ AllBare s'.gens) s₁) :
    WalkO q loose XP YP l.row.toRowW d [] (fun f vs => PySem.call f vs) := by
  intro w s₀ s₁ mg mb G Y fa o pm cd doc dV kV ho hd hcd hD hmg hg args vals as hpre hlay hrd hwl hlo
  obtain rfl : dV = .none := Dflts.none hD hdf
  obtain rfl : kV = .none := Dflts.noKw hD
  obtain ⟨a, vs, ns, rfl, rfl, hobj, hints, hlen⟩ := script_of hn hpre hwl
  refine enter_call (codeAny_mono (call w s₀ s₁ mg mb fa o pm cd doc a vs ns G Y ho (fd_plain hd) hcd hmg hobj hints hlen hg) fun r s' hq => ?_)
  obtain ⟨rfl, h2, h3, h4⟩ := hq
  exact ⟨.inl ⟨.bool true, .bool true, [], rfl, fun _ => rfl, .bool true, post_true l _, fun _ => ⟨List.Pairwise.nil, fun _ hm => (nomatch hm)⟩⟩, h2, h3, h4⟩
end Att
namespace L2
open PySem PySem.Spec PyProof.Rows
theorem vals_ints : ∀ {vs : List Value} {ns : List Int}, IntsAre vs ns → Vals (ns.map V.int) vs
  | _, _, .nil => .nil
  | _, _, .cons n t h => .cons ⟨t, rfl⟩ (vals_ints h)
end L2
namespace L2
open PySem PySem.Spec PyProof.Rows
end L2
/- THE LAST THEOREM (shape; LID, My.* are yours):
   My.Adr: a structure of the addresses that your layer names (classes, functions); My.Txt K t: a structure (Prop) of the equations over K;
   My.txt_mk : {K} {implicit addresses ..} (e1 : nsIn K mainGlobals "law" = some (some (.ref f))) (e2 : K.lookup f = some ⟨oc, od, .func (fnOf "law" "law" params body scope dV kV doc pm an cdv ct), sl⟩) (e3 : codeIn K cdv "law" = true) .. : ∃ t, My.Txt K t
set_option maxRecDepth 100000 in
set_option maxHeartbeats 0 in
(the tactic k_is has no namespace: write k_is) -/
namespace L2
open PySem PySem.Spec PyProof.Rows
def defArgs (s : Stmt) : Arguments := match s with
  | .FunctionDef _ a _ _ _ _ _ _ _ _ => a
  | _ => { posonlyargs := [], args := [], vararg := none, kwonlyargs := [], kw_defaults := [], kwarg := none, defaults := [] }
def defBody (s : Stmt) : List Stmt := match s with
  | .FunctionDef _ _ b _ _ _ _ _ _ _ => b
  | _ => []
def defScope (s : Stmt) : Scope := match s with
  | .FunctionDef _ _ _ _ _ _ sc _ _ _ => sc
  | _ => { kind := .function, names := [], isGenerator := false, isCoroutine := false }
abbrev CX0 : CXT := fun _ _ _ _ _ _ => False
abbrev E0 : XK := fun _ _ _ => False
theorem pass0 {X : Cx} : Passes CX0 X E0 := fun _ _ _ _ _ _ _ h => h.elim
structure Fun (K : PySem.W.Frag) (x qual : Str) (st : Stmt) (f : Addr) (fd : FuncData) : Prop where
  ex : ∃ (oc : Value) (od : Option Addr) (kV doc pm : Value) (an : Option Addr) (cdv ct : Value) (osl : Array (Option Value)),
    fd = PySem.W.fnOf x qual (defArgs st) (defBody st) (defScope st) .none kV doc pm an cdv ct ∧ K.lookup f = some ⟨oc, od, .func fd, osl⟩ ∧ PySem.W.codeIn K cdv qual = true
  kp : PySem.W.keepIn K (.ref f) = true
section
variable {P : Program} {w : World} {K : PySem.W.Frag} {mg : Str → Option Value} {base : Heap}
theorem Fun.ok {x qual : Str} {st : Stmt} {f : Addr} {fd : FuncData} {N ps : List Str} {k : Nat} {sp : Sp} (F : Fun K x qual st f fd) (S : FnScope N ps (defScope st)) (len : ∀ vs H Q E, sp vs H Q E → vs.length = ps.length)
    (hbody : ∀ (cdv : Value) (A : Around) (outer : List Env) (s : Shared) (H : Hp) (vs : List V) (Q : VK) (E : XK), Room k (A.deeper (envOfC qual (defScope st) s.heap.objs.size f cdv)) → sp vs H Q E →
      ∃ t, PSs (cxOf CX0 P w K mg base N qual (defScope st) f cdv A outer s H E).nox (defBody st) t ∧ t { nx := fun _ H' => Q .non H', rt := Q } (start N vs) H) : FnOk P w K mg base CX0 (k + 1) f fd ps sp := by
  obtain ⟨oc, od, kV, doc, pm, an, cdv, ct, osl, rfl, lk, hcd⟩ := F.ex
  refine fn_of lk hcd S len fun A outer s H vs Q E hr hsp => ?_
  obtain ⟨t, h, q⟩ := hbody cdv A outer s H vs Q E hr hsp
  exact ⟨t, h.nox, q⟩
theorem Fun.binds {x qual : Str} {st : Stmt} {f : Addr} {fd : FuncData} {ps : List Str} (F : Fun K x qual st f fd)
    (h : ∀ (kV doc pm : Value) (an : Option Addr) (cdv ct : Value) (us : List Value), us.length = ps.length → bindArgs (PySem.W.fnOf x qual (defArgs st) (defBody st) (defScope st) .none kV doc pm an cdv ct) ⟨us, []⟩ = pure (ps.zip us)) : Binds K fd ps [] := by
  obtain ⟨oc, od, kV, doc, pm, an, cdv, ct, osl, rfl, lk, hcd⟩ := F.ex
  exact .all (h kV doc pm an cdv ct)
theorem fun_mk {x qual : Str} {st : Stmt} {f : Addr} {oc : Value} {od an : Option Addr} {osl : Array (Option Value)} {kV doc pm cdv ct : Value} (l : K.lookup f = some ⟨oc, od, .func (PySem.W.fnOf x qual (defArgs st) (defBody st) (defScope st) .none kV doc pm an cdv ct), osl⟩)
    (c : PySem.W.codeIn K cdv qual = true) (k : PySem.W.keepIn K (.ref f) = true) : Fun K x qual st f (PySem.W.fnOf x qual (defArgs st) (defBody st) (defScope st) .none kV doc pm an cdv ct) := ⟨⟨oc, od, kV, doc, pm, an, cdv, ct, osl, rfl, l, c⟩, k⟩
end
section
variable {X : Cx}
theorem pv (i : Nat) {x : Str} {pos : Pos} (hN : X.N[i]? = some x := by rfl) (hv : Vis X.env.scope x := by first | exact Or.inl rfl | exact Or.inr (Or.inl rfl) | exact Or.inr (Or.inr rfl)) (hd : (x == ("__debug__" : Str)) = false := by decide)
    (hcd : (x == ("__classdict__" : Str)) = false := by decide) : PE X (.Name x pos) (tVar i) := pe_var hN hv hd hcd
end
theorem iteF {A B : Prop} (h : B) : if false = true then A else B := by
  rw [if_neg Bool.false_ne_true]
  exact h
theorem iteT {A B : Prop} (h : A) : if true = true then A else B := by
  rw [if_pos rfl]
  exact h
theorem ite2 {c A B : Prop} [Decidable c] (h1 : c → A) (h2 : ¬ c → B) : if c then A else B := by
  by_cases h : c
  · rw [if_pos h]
    exact h1 h
  · rw [if_neg h]
    exact h2 h
def Same (H H' : Hp) : Prop := ∀ b o, H b = some o → H' b = some o
theorem Same.refl (H : Hp) : Same H H := fun _ _ h => h
theorem Same.trans {H H1 H2 : Hp} (a : Same H H1) (b : Same H1 H2) : Same H H2 := fun c o h => b c o (a c o h)
theorem Same.free {H H' : Hp} (e : Same H H') {l : Addr} (h : H' l = Option.none) : H l = Option.none := by
  cases q : H l with
  | none => rfl
  | some o =>
    rw [e l o q] at h
    cases h
end L2
end
section
set_option autoImplicit false
namespace L2
open PySem PySem.Spec PyProof.Rows
def clo (cells : List (Str × Addr)) : List (Str × NameKind) → List (Str × Addr) → List (Str × Addr)
  | [], acc => acc
  | (n, k) :: r, acc => if k == .free then clo cells r ((n, (cells.lookup n).getD 0) :: acc) else clo cells r acc
theorem clo_of {cells : List (Str × Addr)} : ∀ {names : List (Str × NameKind)} {acc : List (Str × Addr)} {x : Str} {c : Addr}, (∀ y ∈ names, y.2 = .free → ∃ c, cells.lookup y.1 = some c) →
    (clo cells names acc).lookup x = some c → cells.lookup x = some c ∨ acc.lookup x = some c
  | [], acc, x, c, _, h => .inr h
  | (n, k) :: r, acc, x, c, ha, h => by
    have har : ∀ y ∈ r, y.2 = .free → ∃ c, cells.lookup y.1 = some c := fun y hy => ha y (List.mem_cons_of_mem _ hy)
    unfold clo at h
    by_cases hk : k = .free
    · subst hk
      rw [if_pos (by rfl)] at h
      rcases clo_of har h with q | q
      · exact .inl q
      · obtain ⟨c', e⟩ := ha (n, .free) List.mem_cons_self rfl
        rw [List.lookup_cons] at q
        cases hx : x == n with
        | true =>
          rw [hx] at q
          have hx' : x = n := by simpa using hx
          have e' : cells.lookup n = some c' := e
          rw [e'] at q
          rw [hx', e']
          exact .inl q
        | false =>
          rw [hx] at q
          exact .inr q
    · rw [if_neg (by simpa using hk)] at h
      exact clo_of har h
theorem clo_acc {cells : List (Str × Addr)} : ∀ {names : List (Str × NameKind)} {acc : List (Str × Addr)} {x : Str}, (∃ c, acc.lookup x = some c) → ∃ c, (clo cells names acc).lookup x = some c
  | [], _, _, h => h
  | (n, k) :: r, acc, x, h => by
    unfold clo
    split
    · refine clo_acc ?_
      rw [List.lookup_cons]
      cases hx : x == n with
      | true => exact ⟨_, rfl⟩
      | false => exact h
    · exact clo_acc h
theorem clo_has {cells : List (Str × Addr)} : ∀ {names : List (Str × NameKind)} {acc : List (Str × Addr)} {x : Str}, (x, NameKind.free) ∈ names → ∃ c, (clo cells names acc).lookup x = some c
  | [], _, _, h => by simp at h
  | (n, k) :: r, acc, x, h => by
    unfold clo
    rcases List.mem_cons.mp h with e | e
    · cases e
      rw [if_pos (by rfl)]
      exact clo_acc ⟨(cells.lookup n).getD 0, by simp [List.lookup_cons]⟩
    · split
      · exact clo_has e
      · exact clo_has e
theorem closure_go {env : Env} {scope : Scope}
    (ha : ∀ y ∈ scope.names, y.2 = .free → ∃ c, env.cells.lookup y.1 = some c) : closureFor scope env = pure (clo env.cells scope.names []) := by
  have go : ∀ (names : List (Str × NameKind)) (acc : List (Str × Addr)), (∀ y ∈ names, y.2 = .free → ∃ c, env.cells.lookup y.1 = some c) →
      (forIn names acc fun (x : Str × NameKind) (cs : List (Str × Addr)) => (do
        if x.2 == .free then
          let c ← cellOf env x.1
          pure (ForInStep.yield ((x.1, c) :: cs))
        else pure (ForInStep.yield cs) : Sem (ForInStep (List (Str × Addr))))) = pure (clo env.cells names acc) := by
    intro names
    induction names with
    | nil => intro acc _; rfl
    | cons y r ih =>
      intro acc h
      obtain ⟨n, k⟩ := y
      have hr : ∀ y ∈ r, y.2 = .free → ∃ c, env.cells.lookup y.1 = some c := fun y hy => h y (List.mem_cons_of_mem _ hy)
      rw [List.forIn_cons]
      unfold clo
      by_cases hk : k = .free
      · subst hk
        obtain ⟨c, e⟩ := h (n, .free) List.mem_cons_self rfl
        have e' : env.cells.lookup n = some c := e
        have hc : cellOf env n = pure c := by
          unfold cellOf
          rw [e']
        simp only [beq_self_eq_true, if_true, hc, pure_bind, e', Option.getD_some]
        exact ih _ hr
      · have hb : (k == NameKind.free) = false := by simpa using hk
        simp only [hb, Bool.false_eq_true, if_false, pure_bind]
        exact ih _ hr
  have q := go scope.names [] ha
  unfold closureFor
  simp only [bind_pure]
  exact q
theorem relabel_lookup {scope : Scope} {env : Env} {x : Str} : ∀ {names : List (Str × NameKind)},
    (names.map fun (n, k) => if (k == NameKind.free && env.scope.kind == .function && env.kindOf n == some .cell) then (n, NameKind.cell) else (n, k)).lookup x =
      (names.lookup x).map fun k => if (k == NameKind.free && env.scope.kind == .function && env.kindOf x == some .cell) then NameKind.cell else k
  | [] => rfl
  | (n, k) :: r => by
    have ih := @relabel_lookup scope env x r
    show List.lookup x ((if (k == NameKind.free && env.scope.kind == .function && env.kindOf n == some .cell) = true then (n, NameKind.cell) else (n, k)) :: _) = _
    cases hx : x == n with
    | true =>
      have hx' : x = n := by simpa using hx
      subst hx'
      by_cases hc : (k == NameKind.free && env.scope.kind == .function && env.kindOf x == some .cell) = true
      · rw [if_pos hc]
        simp only [List.lookup_cons, hx, Option.map_some, hc, if_true]
      · rw [if_neg hc]
        simp only [List.lookup_cons, hx, Option.map_some, if_neg hc]
    | false =>
      by_cases hc : (k == NameKind.free && env.scope.kind == .function && env.kindOf n == some .cell) = true
      · rw [if_pos hc]
        simp only [List.lookup_cons, hx]
        exact ih
      · rw [if_neg hc]
        simp only [List.lookup_cons, hx]
        exact ih
theorem cells_app : ∀ (names : List (Str × NameKind)) (n : Nat) (acc : List (Str × Addr)), cellsFrom n names acc = cellsFrom n names [] ++ acc
  | [], _, _ => rfl
  | (x, k) :: r, n, acc => by
    unfold cellsFrom
    split
    · rw [cells_app r (n + 1) ((x, n) :: acc), cells_app r (n + 1) [(x, n)], List.append_assoc]
      rfl
    · exact cells_app r n acc
theorem cells_mem : ∀ {names : List (Str × NameKind)} {n : Nat} {x : Str} {c : Addr}, (x, c) ∈ cellsFrom n names [] → (x, NameKind.cell) ∈ names ∧ n ≤ c
  | [], _, _, _, h => by cases h
  | (y, k) :: r, n, x, c, h => by
    unfold cellsFrom at h
    split at h
    · rename_i hk
      rw [cells_app] at h
      rcases List.mem_append.mp h with q | q
      · obtain ⟨h1, h2⟩ := cells_mem q
        exact ⟨List.mem_cons_of_mem _ h1, by omega⟩
      · cases List.mem_singleton.mp q
        have e : k = .cell := by simpa using hk
        rw [e]
        exact ⟨List.mem_cons_self, Nat.le_refl _⟩
    · obtain ⟨h1, h2⟩ := cells_mem h
      exact ⟨List.mem_cons_of_mem _ h1, h2⟩
theorem look_app {α : Type} {x : Str} : ∀ (l m : List (Str × α)), (l ++ m).lookup x = (l.lookup x).or (m.lookup x)
  | [], m => by simp
  | (k, v) :: r, m => by
    rw [List.cons_append, List.lookup_cons, List.lookup_cons]
    cases x == k with
    | true => rfl
    | false => exact look_app r m
theorem nd_kind : ∀ {names : List (Str × NameKind)} {x : Str} {k k' : NameKind}, (names.map (·.1)).Nodup → names.lookup x = some k → (x, k') ∈ names → k' = k
  | [], _, _, _, _, h, _ => by cases h
  | (y, j) :: r, x, k, k', hn, h, hm => by
    rw [List.map_cons] at hn
    obtain ⟨n1, n2⟩ := List.nodup_cons.mp hn
    rw [List.lookup_cons] at h
    rcases List.mem_cons.mp hm with e | e
    · cases e
      rw [show (y == y) = true by simp] at h
      exact Option.some.inj h
    · cases hx : x == y with
      | true =>
        have hx' : x = y := by simpa using hx
        subst hx'
        exact absurd (List.mem_map.mpr ⟨_, e, rfl⟩) n1
      | false =>
        rw [hx] at h
        exact nd_kind n2 h e
abbrev allC (C : Addr) (cells : List (Str × Addr)) (names : List (Str × NameKind)) : List (Str × Addr) := cellsFrom (C + 1) names (clo cells names [])
theorem allC_cases {C : Addr} {cells : List (Str × Addr)} {names : List (Str × NameKind)} {x : Str} {c : Addr} (h : (allC C cells names).lookup x = some c) :
    ((x, c) ∈ cellsFrom (C + 1) names [] ∧ (x, NameKind.cell) ∈ names ∧ C + 1 ≤ c) ∨ (clo cells names []).lookup x = some c := by
  unfold allC at h
  rw [cells_app, look_app] at h
  cases q : (cellsFrom (C + 1) names []).lookup x with
  | none =>
    rw [q] at h
    exact .inr h
  | some d =>
    rw [q] at h
    cases h
    have m := PySem.mem_of_lookup q
    exact .inl ⟨m, cells_mem m⟩
theorem allC_free {C : Addr} {cells : List (Str × Addr)} {names : List (Str × NameKind)} {x : Str} (hn : (names.map (·.1)).Nodup) (h : names.lookup x = some .free) : (allC C cells names).lookup x = (clo cells names []).lookup x := by
  unfold allC
  rw [cells_app, look_app]
  cases q : (cellsFrom (C + 1) names []).lookup x with
  | none => rfl
  | some d =>
    have m := (cells_mem (PySem.mem_of_lookup q)).1
    cases nd_kind hn h m
theorem newEnv_comp {M : Model} {A : Around} {E : Value → Shared → Prop} {s : Shared} {scope : Scope} {cl : List (Str × Addr)} {env : Env} {Q : Env → Shared → Prop}
    (hQ : ∀ h', h'.Ns s.heap.objs.size (fun _ => none) → (∀ b o, s.heap.get? b = some o → h'.get? b = some o) → CellsOk h' (s.heap.objs.size + 1) (cellsFrom (s.heap.objs.size + 1) scope.names []) →
      Q { scope := scope, locals := s.heap.objs.size, globals := env.globals, cells := cellsFrom (s.heap.objs.size + 1) scope.names cl, qual := env.qual, func := none, code := env.code, frame := env.frame, builtins := env.builtins } { s with heap := h' }) :
    wpAny M A (newFunctionEnv scope env.globals cl [] env.qual none .none (some env)) Q E s := by
  simp only [newFunctionEnv, Option.isSome_some, if_true]
  refine wpAny_bind (wpAny_alloc ?_)
  refine wpAny_bind (wpAny_layCells _ (fun name kind cells => by cases hkc : kind == NameKind.cell <;> simp [hkc]) _ _ _ _ ?_)
  have ok := cellsFrom_ok scope.names (s.heap.push { cls := .type "dict", data := .dict #[] }) (s.heap.objs.size + 1) [] ⟨fun _ _ hm => (nomatch hm), List.Pairwise.nil⟩ (by rw [Heap.size_push]; exact Nat.le_refl _)
  rw [Heap.size_push] at ok
  rw [show ({ s with heap := s.heap.push { cls := .type "dict", data := .dict #[] } } : Shared).heap.objs.size = s.heap.objs.size + 1 from Heap.size_push ..]
  refine wpAny_bind ?_
  rw [List.forIn_nil]
  exact wpAny_pure (wpAny_pure (hQ _ ((Heap.Ns.new s.heap (.type "dict")).keeps (pushCells_keeps _ _)) (fun b o e => pushCells_keeps _ _ b o (Heap.get?_push_of_some _ e)) ok))
def cxComp (X : Cx) (scope : Scope) (cl : List (Str × Addr)) (N : List Str) (C : Addr) (s₃ : Shared) (H₃ : Hp) (fp : List Addr) : Cx where
  prog := X.prog
  w := X.w
  K := X.K
  mg := X.mg
  base := X.base
  A := X.A
  N := N
  s₀ := s₃
  H₀ := H₃
  env := compEnvC scope cl C X.env
  outer := X.stack
  stack := X.stack
  ex := fp
  calm := X.calm
  fn := fun x => scope.names.lookup x == some .cell
  pn := []
  xe := fun _ _ => False
structure CompScope (X : Cx) (scope : Scope) (own : List Str) (fr : List Nat) (N : List Str) : Prop where
  kind : scope.kind = .function
  nodup : (scope.names.map (·.1)).Nodup
  names : ∀ y ∈ scope.names, y.2 = .local → scope.names.lookup y.1 = some .local
  free : ∀ y ∈ scope.names, y.2 = .free → X.env.kindOf y.1 = some .cell ∨ X.env.kindOf y.1 = some .free
  len : N.length = own.length + fr.length
  isfr : ∀ (j i : Nat), fr[j]? = some i → ∃ x, N[own.length + j]? = some x ∧ X.N[i]? = some x ∧ scope.names.lookup x = some .free
  frs : ∀ (j : Nat) (x : Str), N[j]? = some x → j < own.length → own[j]? = some x
def frv (σ : St) (fr : List Nat) : St := fr.map fun i => (σ[i]?).join
def PTs (X : Cx) (ifs : List Expr) (t : TT) : Prop :=
  ∀ (pins : List (Addr × Obj)) (s : Shared) (σ : St) (H : Hp) (Q : Bool → Hp → Prop), Inv X pins σ H s → t σ H Q →
    wpAny (model X.prog X.w) X.A (forIn ifs true fun c r => if r = true then do let ok ← isTrue c X.env (eval c X.env); pure (ForInStep.yield ok) else pure (ForInStep.yield r)) (TP X pins σ Q) X.xe s
def tYes : TT := fun _ H Q => Q true H
theorem pts_nil {X : Cx} : PTs X [] tYes := fun _ _ _ H _ I h => wpAny_tests_nil ⟨H, I, h⟩
theorem pts_one {X : Cx} {c : Expr} {t : TT} (h : PT X c t) : PTs X [c] t := fun pins s σ H Q I hq => wpAny_tests_one (h pins s σ H Q I hq)
theorem compLoop_any {prog : Program} {w : World} {A : Around} {R : Result → Shared → Prop} {s : Shared} {elt target iter : Expr} {ifs : List Expr} {scope : Scope} {pos : Pos} {it acc : Value} {env : Env} (I : Nat → Shared → Prop)
    (turn : ∀ n s, I n s → wpAny (model prog w) A (pyNext it) (fun r s₁ => match r with
      | none => R (.ok .next) s₁
      | some v => wpAny (model prog w) A (letOwnedTupleGo target it v) (fun _ s₁' => wpAny (model prog w) A (assign target env v) (fun _ s₂ =>
          wpAny (model prog w) A (forIn ifs true fun c r => if r = true then do let ok ← isTrue c env (eval c env); pure (ForInStep.yield ok) else pure (ForInStep.yield r)) (fun ok s₃ =>
            if ok = true then wpAny (model prog w) A (eval elt env) (fun x s₄ =>
              wpAny (model prog w) A (call (.builtin "list.append") [acc, x]) (fun _ s₅ => ∃ m, m < n ∧ I m s₅) (fun _ _ => False) s₄) (fun _ _ => False) s₃
            else ∃ m, m < n ∧ I m s₃) (fun _ _ => False) s₂) (fun _ _ => False) s₁') (fun _ _ => False) s₁) (fun _ _ => False) s)
    (n : Nat) (h : I n s) :
    codeAny (model prog w) A (.compLoop (.ListComp elt [⟨target, iter, ifs, 0⟩] scope pos) 0 it acc env) R s := by
  refine codeAny_loop rfl I (fun n s hI => ?_) n h
  show wpAny _ A ((compTurn (.ListComp elt [⟨target, iter, ifs, 0⟩] scope pos) 0 it acc env).onRaise (fun x => do noteFrame x env; theTreesLotGoes x)) _ _ s
  refine wpAny_noted ?_
  rw [compTurn_list]
  refine wpAny_bind (wpAny_standAt (wpAny_bind (wpAny_mono (turn n s hI) (fun r s₁ h₁ => ?_) fun _ _ h' => h'.elim)))
  cases r with
  | none => exact wpAny_pure h₁
  | some v =>
    refine wpAny_bind (wpAny_mono h₁ (fun _ s₁' h₁' => ?_) fun _ _ h' => h'.elim)
    refine wpAny_bind (wpAny_mono h₁' (fun _ s₂ h₂ => wpAny_bind (wpAny_mono h₂ (fun ok s₃ h₃ => ?_) fun _ _ h' => h'.elim)) fun _ _ h' => h'.elim)
    cases ok with
    | false => exact wpAny_pure ⟨rfl, h₃⟩
    | true =>
      exact wpAny_bind (wpAny_bind (wpAny_mono h₃ (fun x s₄ h₄ => wpAny_bind (wpAny_mono h₄ (fun _ s₅ h₅ => wpAny_pure (wpAny_pure ⟨rfl, h₅⟩)) fun _ _ h' => h'.elim)) fun _ _ h' => h'.elim))
section
variable {X : Cx} {scope : Scope} {own N : List Str} {fr : List Nat} {pins : List (Addr × Obj)} {σ : St} {H2 H3 : Hp} {s2 s3 : Shared}
theorem CompScope.clo (S : CompScope X scope own fr N) (ok : X.Ok) : ∀ y ∈ scope.names, y.2 = .free → ∃ c, X.env.cells.lookup y.1 = some c := fun y hy e => ok.has y.1 (S.free y hy e)
theorem CompScope.sub (S : CompScope X scope own fr N) (ok : X.Ok) {x : Str} {c : Addr} (h : (L2.clo X.env.cells scope.names []).lookup x = some c) : X.env.cells.lookup x = some c := by
  rcases clo_of (S.clo ok) h with q | q
  · exact q
  · simp at q
theorem CompScope.look (S : CompScope X scope own fr N) (ok : X.Ok) {x : Str} (h : scope.names.lookup x = some .free) {cl : List (Str × Addr)} {C : Addr} :
    (compEnvC scope cl C X.env).kindOf x = some .cell ∨ (compEnvC scope cl C X.env).kindOf x = some .free := by
  show ((relabel scope X.env).names.lookup x) = _ ∨ ((relabel scope X.env).names.lookup x) = _
  unfold relabel
  show List.lookup x (List.map _ _) = _ ∨ List.lookup x (List.map _ _) = _
  rw [relabel_lookup (scope := scope), h]
  simp only [Option.map_some]
  split
  · exact .inl rfl
  · exact .inr rfl
theorem comp_ok (S : CompScope X scope own fr N) (I : Inv X pins σ H3 s3) {fp : List Addr} (hf : ∀ b ∈ fp, FpOk X pins H3 b) (hlt : ∀ b ∈ fp, b < s3.heap.objs.size) :
    (cxComp X scope (allC s3.heap.objs.size X.env.cells scope.names) N s3.heap.objs.size s3 H3 fp).Ok where
  mod := I.ok.mod
  kind := S.kind
  glob := I.ok.glob
  blt := I.ok.blt
  above := Nat.le_refl _
  inj := fun x y c h1 h2 => by
    have old : ∀ {z : Str}, (L2.clo X.env.cells scope.names []).lookup z = some c → c < s3.heap.objs.size := fun {z} h => by
      obtain ⟨v, q⟩ := I.cell z c (S.sub I.ok h)
      exact q.lt
    have ap := (cellsFrom_ok scope.names (s3.heap.push { cls := .type "dict", data := .dict #[] }) (s3.heap.objs.size + 1) [] ⟨fun _ _ hm => (nomatch hm), List.Pairwise.nil⟩ (by rw [Heap.size_push]; exact Nat.le_refl _)).apart
    rw [Heap.size_push] at ap
    rcases allC_cases h1 with ⟨m1, _, l1⟩ | q1
    · rcases allC_cases h2 with ⟨m2, _, _⟩ | q2
      · exact name_of_addr ap m1 m2
      · exact absurd (Nat.lt_trans l1 (old q2)) (Nat.lt_irrefl _)
    · rcases allC_cases h2 with ⟨m2, _, l2⟩ | q2
      · exact absurd (Nat.lt_trans l2 (old q1)) (Nat.lt_irrefl _)
      · exact I.ok.inj x y c (S.sub I.ok q1) (S.sub I.ok q2)
  has := fun x hx => by
    have hx : (relabel scope X.env).names.lookup x = some .cell ∨ (relabel scope X.env).names.lookup x = some .free := hx
    unfold relabel at hx
    have hx : List.lookup x (scope.names.map _) = some NameKind.cell ∨ List.lookup x (scope.names.map _) = some NameKind.free := hx
    rw [relabel_lookup (scope := scope)] at hx
    cases e : scope.names.lookup x with
    | none => rw [e] at hx; simp at hx
    | some k =>
      have hm := PySem.mem_of_lookup e
      rw [e] at hx
      simp only [Option.map_some] at hx
      have hk : k = .free ∨ k = .cell := by
        by_cases hk : k = .free
        · exact .inl hk
        · have hb : (k == NameKind.free) = false := by simpa using hk
          simp only [hb, Bool.false_and, Bool.false_eq_true, if_false] at hx
          rcases hx with z | z
          · exact .inr (Option.some.inj z)
          · exact .inl (Option.some.inj z)
      rcases hk with hk | hk
      · subst hk
        obtain ⟨c, q⟩ := clo_has (cells := X.env.cells) (acc := []) hm
        exact ⟨c, (allC_free S.nodup e).trans q⟩
      · subst hk
        exact Option.isSome_iff_exists.mp (PySem.W.cellsFrom_some scope.names _ _ (.inl e))
  cab := fun x c h q => by
    have e : scope.names.lookup x = some .cell := beq_iff_eq.mp h
    show s3.heap.objs.size ≤ c
    have q' : (allC s3.heap.objs.size X.env.cells scope.names).lookup x = some c := q
    unfold allC at q'
    rw [cells_app, look_app] at q'
    obtain ⟨d, z⟩ := Option.isSome_iff_exists.mp (PySem.W.cellsFrom_some scope.names (s3.heap.objs.size + 1) [] (.inl e))
    rw [z] at q'
    cases q'
    have := (cells_mem (PySem.mem_of_lookup z)).2
    omega
  hd := I.ok.hd
  frames := I.ok.frames
  stk := .inl rfl
  exf := fun b hb => ⟨Nat.ne_of_lt (hlt b hb), fun x c e => by
    rcases allC_cases e with ⟨_, _, l⟩ | q
    · exact Nat.ne_of_gt (Nat.lt_trans (hlt b hb) l)
    · exact (hf b hb).2.2.2.2.1 x c (S.sub I.ok q)⟩
  bs := I.bs
  bsz := Nat.le_trans I.ok.bsz I.sz
  noex := fun b o e hb => by
    rcases (hf b hb).2.2.2.1 with z | z
    · exact I.ok.noex b o e z
    · exact absurd (Nat.lt_of_lt_of_le (Nat.lt_of_lt_of_le (Heap.lt_size e) I.ok.bsz) z) (Nat.lt_irrefl _)
  exfs := fun b hb hm => by
    rcases List.mem_cons.mp (I.stkSub b hm) with z | z
    · exact (hf b hb).2.1 z
    · exact (hf b hb).2.2.1 z
  funs := I.stack
  frf := I.stkFree
theorem comp_inv (S : CompScope X scope own fr N) (I : Inv X pins σ H3 s3) {fp : List Addr} (hf : ∀ b ∈ fp, FpOk X pins H3 b) (hlt : ∀ b ∈ fp, b < s3.heap.objs.size) {h1 : Heap} {t : Nat} {m : Str → Option Value}
    (hn : h1.Ns s3.heap.objs.size m) (hk : ∀ b o, s3.heap.get? b = some o → h1.get? b = some o) (hco : CellsOk h1 (s3.heap.objs.size + 1) (cellsFrom (s3.heap.objs.size + 1) scope.names [])) :
    Inv (cxComp X scope (allC s3.heap.objs.size X.env.cells scope.names) N s3.heap.objs.size s3 H3 fp) [] (List.replicate own.length none ++ frv σ fr) H3 { s3 with heap := h1, toks := t } where
  ok := comp_ok S I hf hlt
  os := rfl
  bare := I.bare
  base := Un.kept hk
  loc := by
    refine ⟨m, hn, fun j x v e1 e2 e3 => ?_⟩
    have e1 : N[j]? = some x := e1
    by_cases hj : j < own.length
    · rw [List.getElem?_append_left (by simpa using hj), List.getElem?_replicate] at e2
      split at e2 <;> cases e2
    · rw [List.getElem?_append_right (by simpa using hj), List.length_replicate] at e2
      unfold frv at e2
      rw [List.getElem?_map] at e2
      cases ef : fr[j - own.length]? with
      | none => rw [ef] at e2; cases e2
      | some i =>
        rw [ef] at e2
        obtain ⟨x', n1, n2, n3⟩ := S.isfr _ _ ef
        rw [show own.length + (j - own.length) = j by omega, e1] at n1
        cases n1
        have e4 : (σ[i]?).join = some v := by simpa using e2
        have e5 : σ[i]? = some (some v) := by
          cases q : σ[i]? with
          | none => rw [q] at e4; cases e4
          | some z => rw [q] at e4; have e4 : z = some v := e4; rw [e4]
        have hfree := S.free _ (PySem.mem_of_lookup n3) rfl
        obtain ⟨mX, hnX, hl⟩ := I.loc
        have hv : Vis X.env.scope x := by
          rcases hfree with z | z
          · exact .inr (.inl z)
          · exact .inr (.inr z)
        obtain ⟨u, r, l⟩ := hl i x v n2 e5 hv
        refine ⟨u, r, .inr ⟨S.look I.ok n3, ?_⟩⟩
        rcases l with ⟨z, _⟩ | ⟨_, c, ec, hc⟩
        · rcases hfree with y | y
          · rw [z] at y; cases y
          · rw [z] at y; cases y
        · obtain ⟨c', e'⟩ := clo_has (cells := X.env.cells) (acc := []) (PySem.mem_of_lookup n3)
          have := S.sub I.ok e'
          rw [ec] at this
          cases this
          exact ⟨c, (allC_free S.nodup n3).trans e', hc.keeps hk⟩
  cell := fun x c e => by
    rcases allC_cases e with ⟨mm, _, _⟩ | q
    · exact ⟨none, (hco.empty x c mm).1⟩
    · obtain ⟨v, z⟩ := I.cell x c (S.sub I.ok q)
      exact ⟨v, z.keeps hk⟩
  free := I.hok.fresh (Nat.le_refl _)
  freeC := fun x c e => by
    rcases allC_cases e with ⟨_, _, l⟩ | q
    · exact I.hok.fresh (Nat.le_of_lt l)
    · exact I.freeC x c (S.sub I.ok q)
  pin := fun p hp => by
    have hp : p ∈ ([] : List (Addr × Obj)) := hp
    simp at hp
  hok := I.hok.kept hk
  len := by
    show _ = N.length
    rw [S.len, List.length_append, List.length_replicate]
    unfold frv
    rw [List.length_map]
end
def CompB (own : Nat) (fr : List Nat) (g : TG) (tc : TT) (te : TE) (σ : St) (Q : VK) (J : It) (D : Addr) (H0 : Hp) : Prop := ∃ W : Nat → Nat → List V → Hp → Prop, (∃ m, W 0 m [] H0) ∧
  ∀ i m ys H, W i m ys H → (J.stop i H ∧ Q (.ref D) H) ∨ (J.go i H ∧ ∀ x H', J.yld i H x H' → ∀ σo : St, σo.length = own → g x (σo ++ frv σ fr) H' fun σ2 H2 => (∃ σo' : St, σo'.length = own ∧ σ2 = σo' ++ frv σ fr) ∧
    tc σ2 H2 fun b H3 => if b = true then te σ2 H3 fun y H4 => ys.length < sizeLine ∧ H4 D = some (.lst ys) ∧ ∃ m', m' < m ∧ W (i + 1) m' (ys ++ [y]) (upd H4 D (.lst (ys ++ [y]))) else ∃ m', m' < m ∧ W (i + 1) m' ys H3)
def tComp (own : Nat) (fr : List Nat) (wi : TI) (g : TG) (tc : TT) (te : TE) : TE := fun σ H Q => wi σ H fun J H1 => ∀ D, H1 D = none → CompB own fr g tc te σ Q J D (upd H1 D (.lst []))
structure CompParts (X : Cx) (scope : Scope) (N : List Str) (tg elt : Expr) (ifs : List Expr) (g : TG) (tc : TT) (te : TE) : Prop where
  tg : ∀ (cl : List (Str × Addr)) (C : Addr) (s₃ : Shared) (H₃ : Hp) (fp : List Addr), PG (cxComp X scope cl N C s₃ H₃ fp) tg g
  ifs : ∀ (cl : List (Str × Addr)) (C : Addr) (s₃ : Shared) (H₃ : Hp) (fp : List Addr), PTs (cxComp X scope cl N C s₃ H₃ fp) ifs tc
  elt : ∀ (cl : List (Str × Addr)) (C : Addr) (s₃ : Shared) (H₃ : Hp) (fp : List Addr), PE (cxComp X scope cl N C s₃ H₃ fp) elt te
section
variable {X : Cx} {scope : Scope} {own N : List Str} {fr : List Nat} {tg elt iter : Expr} {ifs : List Expr} {g : TG} {tc : TT} {te : TE} {wi : TI} {pos : Pos}
theorem comp_run (hc : X.calm = true) (S : CompScope X scope own fr N) (CP : CompParts X scope N tg elt ifs g tc te) {pins : List (Addr × Obj)} {σ : St} {H2 : Hp} {s2 : Shared} (I2 : Inv X pins σ H2 s2) {it : Addr} {fp : List Addr} {tn : Nat → Heap → Prop} {J : It}
    (T : Turn X.prog X.w X.K tg J fp it tn) (st2 : tn 0 s2.heap) (f2 : ∀ b ∈ fp, FpOk X pins H2 b) {Q : VK} {E : Value → Shared → Prop} {RR : Value → Addr → Result → Shared → Prop}
    (hw : ∀ D, H2 D = none → CompB own.length fr g tc te σ Q J D (upd H2 D (.lst [])))
    (hR : ∀ D C s' H' m, Inv X pins σ H' s' → FpOk X pins H' C → s'.heap.Ns C m → Q (.ref D) H' → RR (.ref D) C (.ok .next) s') :
    wpAny (model X.prog X.w) X.A (newList []) (fun acc s₃ => wpAny (model X.prog X.w) X.A (newFunctionEnv scope X.env.globals (clo X.env.cells scope.names []) [] X.env.qual none .none (some X.env)) (fun cenv s₄ =>
      codeAny (model X.prog X.w) X.A (.compStart (.ListComp elt [⟨tg, iter, ifs, 0⟩] scope pos) 0 (.ref it) acc { cenv with scope := relabel scope X.env }) (RR acc cenv.locals) s₄) E s₃) E s2 := by
  have hD : H2 s2.heap.objs.size = none := I2.hok.fresh (Nat.le_refl _)
  have I3 : Inv X pins σ (upd H2 s2.heap.objs.size (.lst [])) { s2 with heap := s2.heap.push { cls := .type "list", data := .seq ([] : List Value).toArray } } :=
    I2.lnew (t' := s2.toks) (ys := []) (its := []) .nil (Nat.zero_le _)
  have hltf : ∀ b ∈ fp, b < s2.heap.objs.size := fun b hb => by
    obtain ⟨o, e, _⟩ := T.obj _ _ st2 b hb
    exact Heap.lt_size e
  have f3 : ∀ b ∈ fp, FpOk X pins (upd H2 s2.heap.objs.size (.lst [])) b := fun b hb => ⟨by rw [upd_ne (Nat.ne_of_lt (hltf b hb))]; exact (f2 b hb).1, (f2 b hb).2⟩
  obtain ⟨W, ⟨m0, w0⟩, turn⟩ := hw _ hD
  refine wpAny_newObj_type (newEnv_comp fun h₁ hns₁ old₁ hco₁ => ?_)
  suffices main : ∀ s3 : Shared, s3 = { s2 with heap := s2.heap.push { cls := .type "list", data := .seq ([] : List Value).toArray } } → Inv X pins σ (upd H2 s2.heap.objs.size (.lst [])) s3 → ∀ m : Str → Option Value, h₁.Ns s3.heap.objs.size m →
      (∀ b o, s3.heap.get? b = some o → h₁.get? b = some o) → CellsOk h₁ (s3.heap.objs.size + 1) (cellsFrom (s3.heap.objs.size + 1) scope.names []) → codeAny (model X.prog X.w) X.A (.compStart (.ListComp elt [⟨tg, iter, ifs, 0⟩] scope pos) 0 (.ref it) (.ref s2.heap.objs.size) (compEnvC scope (allC s3.heap.objs.size X.env.cells scope.names) s3.heap.objs.size X.env))
        (RR (.ref s2.heap.objs.size) s3.heap.objs.size) { s3 with heap := h₁, toks := s3.toks } from
    main _ rfl I3 _ hns₁ old₁ hco₁
  clear hns₁ old₁ hco₁
  intro s3 hH3 I3 m3 hns₁ old hco
  have e3 : s3.heap = s2.heap.push { cls := .type "list", data := .seq ([] : List Value).toArray } := by rw [hH3]
  have hs3 : s2.heap.objs.size < s3.heap.objs.size := by rw [e3, Heap.size_push]; exact Nat.lt_succ_self _
  have hlt3 : ∀ b ∈ fp, b < s3.heap.objs.size := fun b hb => Nat.lt_trans (hltf b hb) hs3
  have I4 := comp_inv S I3 f3 hlt3 (t := s3.toks) hns₁ old hco
  have ok' := comp_ok S I3 f3 hlt3
  have st4 : tn 0 h₁ := T.keep 0 s2.heap h₁ st2 fun b hb o e => old b o (by rw [e3]; exact Heap.get?_push_of_some _ e)
  have stat : ∀ {H' : Hp}, (∀ b ∈ fp, H' b = none) → ∀ b ∈ fp, FpOk (cxComp X scope (allC s3.heap.objs.size X.env.cells scope.names) N s3.heap.objs.size s3 (upd H2 s2.heap.objs.size (.lst [])) fp) [] H' b := fun {H'} hn b hb =>
    ⟨hn b hb, Nat.ne_of_lt (hlt3 b hb), ok'.exfs b hb, .inl hb, (ok'.exf b hb).2, fun p hp => by
      have hp : p ∈ ([] : List (Addr × Obj)) := hp
      simp at hp⟩
  have loop : ∀ s₄ : Shared, s₄ = { s3 with heap := h₁, toks := s3.toks } →
      codeAny (model X.prog X.w) X.A (.compLoop (.ListComp elt [⟨tg, iter, ifs, 0⟩] scope pos) 0 (.ref it) (.ref s2.heap.objs.size) (compEnvC scope (allC s3.heap.objs.size X.env.cells scope.names) s3.heap.objs.size X.env))
        (RR (.ref s2.heap.objs.size) s3.heap.objs.size) s₄ := by
    rintro s₄ rfl
    refine compLoop_any (fun n s' => ∃ i ys σo H', σo.length = own.length ∧ Inv (cxComp X scope (allC s3.heap.objs.size X.env.cells scope.names) N s3.heap.objs.size s3 (upd H2 s2.heap.objs.size (.lst [])) fp) [] (σo ++ frv σ fr) H' s' ∧
      tn i s'.heap ∧ (∀ b ∈ fp, H' b = none) ∧ W i n ys H') ?_ m0 ⟨0, [], List.replicate own.length none, _, List.length_replicate, I4, st4, fun b hb => (f3 b hb).1, w0⟩
    rintro n s5 ⟨i, ys, σo, H5, hσ, I5, st5, fr5, w5⟩
    rcases turn i n ys H5 w5 with ⟨stop, qn⟩ | ⟨go, step⟩
    · refine thn (T.done (cxComp X scope (allC s3.heap.objs.size X.env.cells scope.names) N s3.heap.objs.size s3 (upd H2 s2.heap.objs.size (.lst [])) fp) rfl rfl rfl hc i [] s5 (σo ++ frv σ fr) H5 _ I5 (stat fr5) st5 stop) fun r s6 ⟨hr, I6⟩ => ?_
      subst hr
      obtain ⟨m, hn6, _⟩ := I6.loc
      refine hR _ _ s6 H5 m (I3.call' (ch := fp) I6.os I6.base I6.hok I6.bare fun b hb => ⟨(f3 b hb).2.2.2.1, (f3 b hb).2.1, (f3 b hb).2.2.2.2.1, (f3 b hb).2.2.2.2.2⟩) (I3.fpOk (Nat.le_refl _) I6.free) hn6 qn
    · refine thn (T.item (cxComp X scope (allC s3.heap.objs.size X.env.cells scope.names) N s3.heap.objs.size s3 (upd H2 s2.heap.objs.size (.lst [])) fp) rfl rfl rfl hc i [] s5 (σo ++ frv σ fr) H5 _ I5 (stat fr5) st5 go) fun r s6 ⟨u, hr, h6⟩ => ?_
      subst hr
      refine thn h6 fun _ s7 ⟨x, H7, I7, r7, y7, st7, fr7⟩ => ?_
      have I7' := I7.pinned (stat fr7) (T.obj _ _ st7)
      have again : ∀ {σ8 : St} {H8 : Hp} {s8 : Shared} {zs : List V}, Inv (cxComp X scope (allC s3.heap.objs.size X.env.cells scope.names) N s3.heap.objs.size s3 (upd H2 s2.heap.objs.size (.lst [])) fp) ([] ++ pinsAt fp s7.heap) (σ8 ++ frv σ fr) H8 s8 → σ8.length = own.length →
          (∃ m', m' < n ∧ W (i + 1) m' zs H8) → ∃ m, m < n ∧ ∃ i ys σo H', σo.length = own.length ∧ Inv (cxComp X scope (allC s3.heap.objs.size X.env.cells scope.names) N s3.heap.objs.size s3 (upd H2 s2.heap.objs.size (.lst [])) fp) [] (σo ++ frv σ fr) H' s8 ∧
            tn i s8.heap ∧ (∀ b ∈ fp, H' b = none) ∧ W i m ys H' := fun {σ8 H8 s8 zs} I8 h8 ⟨m', hm, w8⟩ => by
        refine ⟨m', hm, i + 1, zs, σ8, H8, h8, I8.unpinned, T.keep _ _ _ st7 fun b hb o e => (I8.pin (b, o) (List.mem_append_right _ (List.mem_append_right _ (mem_pinsAt hb e)))).1, fun b hb => ?_, w8⟩
        obtain ⟨o, e, d⟩ := T.obj _ _ st7 b hb
        exact (I8.pin (b, o) (List.mem_append_right _ (List.mem_append_right _ (mem_pinsAt hb e)))).2.1
      refine thn (CP.tg _ _ _ _ _ _ s7 _ H7 x u _ I7' r7 (step x H7 y7 σo hσ)) fun _ s8 ⟨σ8, H8, I8, ⟨σo', hσ', eσ⟩, q8⟩ => ?_
      subst eσ
      refine thn (CP.ifs _ _ _ _ _ _ s8 _ H8 _ I8 q8) fun b s9 ⟨H9, I9, q9⟩ => ?_
      cases b with
      | false =>
        rw [if_neg Bool.false_ne_true] at q9 ⊢
        exact again I9 hσ' q9
      | true =>
        rw [if_pos rfl] at q9 ⊢
        refine thn (CP.elt _ _ _ _ _ _ s9 _ H9 _ I9 q9) fun z s10 ⟨y, H10, I10, r10, hz, hD10, q10⟩ => ?_
        exact thn (mt_append _ s10 _ H10 (.ref s2.heap.objs.size) [y] (.ref s2.heap.objs.size) [z] (fun _ H => ∃ m', m' < n ∧ W (i + 1) m' (ys ++ [y]) H) I10 rfl (.cons r10 .nil) ⟨_, ys, y, rfl, rfl, hD10, hz, q10⟩)
          fun _ s11 ⟨_, H11, I11, _, q11⟩ => again I11 hσ' q11
  exact codeAny_compStart_list (loop _ rfl) (T.self _ 0 _ _ _ st4 (loop _ rfl))
theorem pe_comp (hc : X.calm = true) (S : CompScope X scope own fr N) (CP : CompParts X scope N tg elt ifs g tc te) (hi : PI X tg iter wi) (hs : ∀ x, foldedSetIterable iter X.env x = pure x := by intro _; rfl) :
    PE X (.ListComp elt [⟨tg, iter, ifs, 0⟩] scope pos) (tComp own.length fr wi g tc te) := by
  intro pins s σ H Q I h
  rw [eval_ListComp]
  refine wpAny_comprehension_free (use := none) (g := ⟨tg, iter, ifs, 0⟩) (gs := []) rfl hs (closure_go (S.clo I.ok)) S.kind S.names (thn (hi pins s σ H _ I h) fun v s1 h1 => thn h1 fun itv s2 h2 => ?_)
  obtain ⟨it, fp, tn, J, H2, e, I2, T, st2, f2, hw⟩ := h2
  subst e
  exact comp_run (RR := fun acc C => compPost (model X.prog X.w) X.A X.xe none (EP X pins σ Q) acc C) hc S CP I2 T st2 f2 hw fun D C s' H' m I' fC hn q =>
    ⟨m, hn, fun h' hb => ⟨.ref D, H', I'.turned (t' := s'.toks) (fun b o hne e => hb.extBut b o hne e) fC.1 fC.2.1 fC.2.2.2.1 fC.2.2.2.2.1 fC.2.2.2.2.2, rfl, q⟩⟩
theorem ps_setc {i : Nat} {x : Str} {posc pos' : Pos} (hc : X.calm = true) (hN : X.N.Nodup) (hi' : X.N[i]? = some x) (hx : Loc X.env.scope x) (S : CompScope X scope own fr N) (CP : CompParts X scope N tg elt ifs g tc te) (hi : PI X tg iter wi)
    (hsw : swapsWith (.ListComp elt [⟨tg, iter, ifs, 0⟩] scope posc) (some (.Name x pos')) pos.line X.env = pure true := by rfl)
    (hf : X.fn x = true ∨ X.env.scope.names.lookup x = some .local := by first | exact .inl rfl | exact .inr rfl | assumption) (hs : ∀ x, foldedSetIterable iter X.env x = pure x := by intro _; rfl) :
    PS X (.Assign [.Name x pos'] (.ListComp elt [⟨tg, iter, ifs, 0⟩] scope posc) pos) (tAsg (tComp own.length fr wi g tc te) (gName i)) := by
  intro pins s σ H D I h
  rw [exec_Assign_Name_used _ _ _ _ hsw]
  refine wpAny_bind (wpAny_standAt (wpAny_bind ?_))
  show wpAny _ X.A (do let _ ← comprehension (.ListComp elt [⟨tg, iter, ifs, 0⟩] scope posc) scope X.env _ (newList []) false (eval iter X.env) (some (assign (.Name x pos') X.env))) _ _ s
  refine wpAny_bind (wpAny_mono (wpAny_comprehension_free (use := some (assign (.Name x pos') X.env)) (g := ⟨tg, iter, ifs, 0⟩) (gs := []) (Q := fun _ s' => SP X pins D .next s') rfl hs (closure_go (S.clo I.ok)) S.kind S.names
    (thn (hi pins s σ H _ I h) fun v s1 h1 => thn h1 fun itv s2 h2 => ?_)) (fun _ _ q => wpAny_pure (wpAny_pure q)) fun _ _ e => e)
  obtain ⟨it, fp, tn, J, H2, e, I2, T, st2, f2, hw⟩ := h2
  subst e
  refine comp_run (Q := fun x H1 => gName i x σ H1 D.nx) (RR := fun acc C => compPost (model X.prog X.w) X.A X.xe (some (assign (.Name x pos') X.env)) (fun _ s' => SP X pins D .next s') acc C) hc S CP I2 T st2 f2 hw fun Dd C s' H' m I' fC hn q => ?_
  refine wpAny_assign_Name (store_ok2 I' hN hi' hx (show RelV (.ref Dd) (.ref Dd) from rfl) (fun s'' I'' ⟨a, hsb, ha⟩ => ?_) hf)
  have hCa : C ≠ a := by
    rcases ha with z | z
    · rw [z]; exact fC.2.1
    · exact fun e => fC.2.2.2.2.1 x a z e.symm
  refine ⟨m, hn.sameBut hsb hCa, fun h' hb => ?_⟩
  exact ⟨_, H', I''.turned (t' := s''.toks) (fun b o hne e => hb.extBut b o hne e) fC.1 fC.2.1 fC.2.2.2.1 fC.2.2.2.2.1 fC.2.2.2.2.2, q⟩
end
end L2
end
section
set_option autoImplicit false
namespace L2
open PySem PySem.Spec PyProof.Rows
inductive T where
  | non | int (i : Int) | str (x : Str) | tup (ts : List T)
mutual
def Dp (H : Hp) : T → V → Prop
  | .non, v => v = V.non
  | .int i, v => v = V.int i
  | .str x, v => v = V.str x
  | .tup ts, v => ∃ a xs, v = V.ref a ∧ H a = some (.tup xs) ∧ DpL H ts xs
def DpL (H : Hp) : List T → List V → Prop
  | [], xs => xs = []
  | t :: ts, xs => ∃ x r, xs = x :: r ∧ Dp H t x ∧ DpL H ts r
end
def Tups (H H' : Hp) : Prop := ∀ a xs, H a = some (.tup xs) → H' a = some (.tup xs)
theorem Tups.refl (H : Hp) : Tups H H := fun _ _ h => h
theorem Tups.trans {H H1 H2 : Hp} (a : Tups H H1) (b : Tups H1 H2) : Tups H H2 := fun c o h => b c o (a c o h)
theorem Same.tups {H H' : Hp} (h : Same H H') : Tups H H' := fun a xs e => h a _ e
mutual
theorem Dp.mono {H H' : Hp} (h : Tups H H') : ∀ {t : T} {v : V}, Dp H t v → Dp H' t v
  | .non, _, e => by rw [Dp] at e ⊢; exact e
  | .int _, _, e => by rw [Dp] at e ⊢; exact e
  | .str _, _, e => by rw [Dp] at e ⊢; exact e
  | .tup ts, v, e => by
    rw [Dp] at e ⊢
    obtain ⟨a, xs, e, ha, hl⟩ := e
    exact ⟨a, xs, e, h a xs ha, DpL.mono h hl⟩
theorem DpL.mono {H H' : Hp} (h : Tups H H') : ∀ {ts : List T} {xs : List V}, DpL H ts xs → DpL H' ts xs
  | [], _, e => by rw [DpL] at e ⊢; exact e
  | t :: ts, xs, e => by
    rw [DpL] at e ⊢
    obtain ⟨x, r, e, h1, h2⟩ := e
    exact ⟨x, r, e, Dp.mono h h1, DpL.mono h h2⟩
end
theorem DpL.nil {H : Hp} : DpL H [] [] := by rw [DpL]
theorem DpL.cons {H : Hp} {t : T} {ts : List T} {x : V} {xs : List V} (h : Dp H t x) (r : DpL H ts xs) : DpL H (t :: ts) (x :: xs) := by
  rw [DpL]
  exact ⟨x, xs, rfl, h, r⟩
theorem DpL.cases {H : Hp} {t : T} {ts : List T} {xs : List V} (h : DpL H (t :: ts) xs) : ∃ x r, xs = x :: r ∧ Dp H t x ∧ DpL H ts r := by
  rw [DpL] at h
  exact h
theorem DpL.of_nil {H : Hp} {xs : List V} (h : DpL H [] xs) : xs = [] := by
  rw [DpL] at h
  exact h
theorem Dp.int {H : Hp} (i : Int) : Dp H (.int i) (.int i) := by rw [Dp]
theorem Dp.str {H : Hp} (x : Str) : Dp H (.str x) (.str x) := by rw [Dp]
theorem Dp.of_int {H : Hp} {i : Int} {v : V} (h : Dp H (.int i) v) : v = .int i := by
  rw [Dp] at h
  exact h
theorem Dp.of_str {H : Hp} {x : Str} {v : V} (h : Dp H (.str x) v) : v = .str x := by
  rw [Dp] at h
  exact h
theorem Dp.of_tup {H : Hp} {ts : List T} {v : V} (h : Dp H (.tup ts) v) : ∃ a xs, v = V.ref a ∧ H a = some (.tup xs) ∧ DpL H ts xs := by
  rw [Dp] at h
  exact h
theorem Dp.tup {H : Hp} {ts : List T} {a : Addr} {xs : List V} (h : H a = some (.tup xs)) (r : DpL H ts xs) : Dp H (.tup ts) (.ref a) := by
  rw [Dp]
  exact ⟨a, xs, rfl, h, r⟩
theorem DpL.length {H : Hp} : ∀ {ts : List T} {xs : List V}, DpL H ts xs → xs.length = ts.length
  | [], xs, h => by rw [h.of_nil]; rfl
  | t :: ts, xs, h => by
    obtain ⟨x, r, rfl, _, h2⟩ := h.cases
    rw [List.length_cons, List.length_cons, h2.length]
theorem DpL.get {H : Hp} : ∀ {ts : List T} {xs : List V} {i : Nat} {t : T}, DpL H ts xs → ts[i]? = some t → ∃ x, xs[i]? = some x ∧ Dp H t x
  | [], _, _, _, _, e => by simp at e
  | t :: ts, xs, 0, t', h, e => by
    obtain ⟨x, r, rfl, h1, _⟩ := h.cases
    simp at e
    subst e
    exact ⟨x, rfl, h1⟩
  | t :: ts, xs, i + 1, t', h, e => by
    obtain ⟨x, r, rfl, _, h2⟩ := h.cases
    obtain ⟨y, e1, e2⟩ := h2.get (i := i) (t := t') (by simpa using e)
    exact ⟨y, by simpa using e1, e2⟩
theorem DpL.append {H : Hp} : ∀ {ts us : List T} {xs ys : List V}, DpL H ts xs → DpL H us ys → DpL H (ts ++ us) (xs ++ ys)
  | [], _, xs, _, h, g => by rw [h.of_nil]; exact g
  | t :: ts, us, xs, ys, h, g => by
    obtain ⟨x, r, rfl, h1, h2⟩ := h.cases
    exact .cons h1 (h2.append g)
theorem DpL.strs {H : Hp} : ∀ (ns : List Str), DpL H (ns.map T.str) (ns.map V.str)
  | [] => .nil
  | n :: ns => .cons (Dp.str n) (DpL.strs ns)
theorem DpL.of_strs {H : Hp} : ∀ {ns : List Str} {xs : List V}, DpL H (ns.map T.str) xs → xs = ns.map V.str
  | [], _, h => h.of_nil
  | n :: ns, xs, h => by
    obtain ⟨x, r, rfl, h1, h2⟩ := DpL.cases (t := T.str n) (ts := ns.map T.str) h
    rw [h1.of_str, DpL.of_strs h2]
    rfl
mutual
theorem Dp.fn {H : Hp} : ∀ {t t' : T} {v : V}, Dp H t v → Dp H t' v → t = t'
  | .non, t', v, h, g => by
    rw [Dp] at h
    subst h
    cases t' <;> rw [Dp] at g
    all_goals first | rfl | (cases g; done) | (obtain ⟨_, _, e, _⟩ := g; cases e)
  | .int i, t', v, h, g => by
    rw [Dp] at h
    subst h
    cases t' <;> rw [Dp] at g
    all_goals first | (cases g; rfl) | (cases g; done) | (obtain ⟨_, _, e, _⟩ := g; cases e)
  | .str i, t', v, h, g => by
    rw [Dp] at h
    subst h
    cases t' <;> rw [Dp] at g
    all_goals first | (cases g; rfl) | (cases g; done) | (obtain ⟨_, _, e, _⟩ := g; cases e)
  | .tup ts, t', v, h, g => by
    obtain ⟨a, xs, rfl, ha, hl⟩ := h.of_tup
    cases t' with
    | tup us =>
      obtain ⟨b, ys, e, hb, gl⟩ := g.of_tup
      cases e
      rw [ha] at hb
      cases hb
      rw [DpL.fn hl gl]
    | _ => rw [Dp] at g; cases g
theorem DpL.fn {H : Hp} : ∀ {ts us : List T} {xs : List V}, DpL H ts xs → DpL H us xs → ts = us
  | [], us, xs, h, g => by
    have e := h.of_nil
    subst e
    cases us with
    | nil => rfl
    | cons u us =>
      obtain ⟨_, _, e, _⟩ := g.cases
      cases e
  | t :: ts, us, xs, h, g => by
    obtain ⟨x, r, rfl, h1, h2⟩ := h.cases
    cases us with
    | nil =>
      have e := g.of_nil
      cases e
    | cons u us =>
      obtain ⟨_, _, e, g1, g2⟩ := g.cases
      cases e
      rw [Dp.fn h1 g1, DpL.fn h2 g2]
end
def Lv : Nat → T → Prop
  | _, .non => True
  | _, .int _ => True
  | _, .str _ => True
  | 0, .tup _ => False
  | n + 1, .tup ts => ∀ t ∈ ts, Lv n t
noncomputable def dcd (p : Prop) : Bool := @decide p (Classical.propDecidable p)
theorem dcd_t {p : Prop} (h : p) : dcd p = true := @decide_eq_true p (Classical.propDecidable p) h
theorem dcd_f {p : Prop} (h : ¬ p) : dcd p = false := @decide_eq_false p (Classical.propDecidable p) h
theorem dcd_iff {p : Prop} : dcd p = true ↔ p := ⟨fun h => @of_decide_eq_true p (Classical.propDecidable p) h, dcd_t⟩
theorem dcd_eq {p q : Prop} (h : p ↔ q) : dcd p = dcd q := by rw [propext h]
theorem dcd_of {p : Prop} {b : Bool} (h : b = true ↔ p) : b = dcd p := by
  by_cases hp : p
  · rw [dcd_t hp]
    exact h.mpr hp
  · rw [dcd_f hp]
    cases b with
    | false => rfl
    | true => exact absurd (h.mp rfl) hp
section
variable {X : Cx} {pins : List (Addr × Obj)} {σ : St} {H : Hp} {s : Shared}
theorem tup_at (I : Inv X pins σ H s) {a : Addr} {xs : List V} (h : H a = some (.tup xs)) : ∃ its : List Value, Vals xs its ∧ s.heap.IsTuple a its.toArray := by
  obtain ⟨its, r, p, _⟩ := I.tuple (SqT.of h)
  exact ⟨its, r, p⟩
theorem eqAt_T (I : Inv X pins σ H s) : ∀ (n : Nat) (A : Around) (t1 t2 : T) (v1 v2 : V) (u1 u2 : Value), Lv n t1 → A.units + n < cLine → Dp H t1 v1 → Dp H t2 v2 → RelV v1 u1 → RelV v2 u2 → SeqAt.EqAt A s u1 u2 (dcd (t1 = t2)) := by
  have flat : ∀ (A : Around) (t1 t2 : T) (v1 v2 : V) (u1 u2 : Value), flatV v1 = true → flatV v2 = true → Dp H t1 v1 → Dp H t2 v2 → RelV v1 u1 → RelV v2 u2 → eqV v1 v2 = dcd (t1 = t2) → SeqAt.EqAt A s u1 u2 (dcd (t1 = t2)) :=
    fun A t1 t2 v1 v2 u1 u2 f1 f2 _ _ r1 r2 e => by
      rw [← e]
      exact eqAt_V r1 r2 f1 f2
  intro n
  induction n with
  | zero =>
    intro A t1 t2 v1 v2 u1 u2 hn hu d1 d2 r1 r2
    have hu0 : A.units < cLine := by omega
    cases t1 with
    | tup ts => exact (show False from hn).elim
    | non =>
      rw [Dp] at d1
      subst d1
      cases t2 with
      | tup us =>
        obtain ⟨b, ys, rfl, hb, _⟩ := d2.of_tup
        obtain ⟨its, r, p⟩ := tup_at I hb
        cases r1
        cases r2
        rw [dcd_f (by intro h; cases h)]
        exact SeqAt.EqAt.none_tuple p hu0
      | non => rw [Dp] at d2; subst d2; exact flat A _ _ _ _ _ _ rfl rfl (by rw [Dp]) (by rw [Dp]) r1 r2 (dcd_t rfl).symm
      | int j => rw [Dp] at d2; subst d2; exact flat A _ _ _ _ _ _ rfl rfl (by rw [Dp]) (by rw [Dp]) r1 r2 (dcd_f (by intro h; cases h)).symm
      | str j => rw [Dp] at d2; subst d2; exact flat A _ _ _ _ _ _ rfl rfl (by rw [Dp]) (by rw [Dp]) r1 r2 (dcd_f (by intro h; cases h)).symm
    | int i =>
      rw [Dp] at d1
      subst d1
      cases t2 with
      | tup us =>
        obtain ⟨b, ys, rfl, hb, _⟩ := d2.of_tup
        obtain ⟨its, r, p⟩ := tup_at I hb
        obtain ⟨t, rfl⟩ := r1
        cases r2
        rw [dcd_f (by intro h; cases h)]
        exact SeqAt.EqAt.int_tuple i t p hu0
      | non => rw [Dp] at d2; subst d2; exact flat A _ _ _ _ _ _ rfl rfl (by rw [Dp]) (by rw [Dp]) r1 r2 (dcd_f (by intro h; cases h)).symm
      | int j =>
        rw [Dp] at d2
        subst d2
        exact flat A _ _ _ _ _ _ rfl rfl (by rw [Dp]) (by rw [Dp]) r1 r2 (dcd_of (by show (i == j) = true ↔ _; rw [beq_iff_eq]; exact ⟨fun h => by rw [h], fun h => by cases h; rfl⟩))
      | str j => rw [Dp] at d2; subst d2; exact flat A _ _ _ _ _ _ rfl rfl (by rw [Dp]) (by rw [Dp]) r1 r2 (dcd_f (by intro h; cases h)).symm
    | str i =>
      rw [Dp] at d1
      subst d1
      cases t2 with
      | tup us =>
        obtain ⟨b, ys, rfl, hb, _⟩ := d2.of_tup
        obtain ⟨its, r, p⟩ := tup_at I hb
        obtain ⟨t, rfl⟩ := r1
        cases r2
        rw [dcd_f (by intro h; cases h)]
        exact SeqAt.EqAt.str_tuple i t p hu0
      | non => rw [Dp] at d2; subst d2; exact flat A _ _ _ _ _ _ rfl rfl (by rw [Dp]) (by rw [Dp]) r1 r2 (dcd_f (by intro h; cases h)).symm
      | int j => rw [Dp] at d2; subst d2; exact flat A _ _ _ _ _ _ rfl rfl (by rw [Dp]) (by rw [Dp]) r1 r2 (dcd_f (by intro h; cases h)).symm
      | str j =>
        rw [Dp] at d2
        subst d2
        exact flat A _ _ _ _ _ _ rfl rfl (by rw [Dp]) (by rw [Dp]) r1 r2 (dcd_of (by show (i == j) = true ↔ _; rw [beq_iff_eq]; exact ⟨fun h => by rw [h], fun h => by cases h; rfl⟩))
  | succ n ih =>
    intro A t1 t2 v1 v2 u1 u2 hn hu d1 d2 r1 r2
    cases t1 with
    | non => exact (ih A .non t2 v1 v2 u1 u2 (by cases n <;> trivial) (by omega) d1 d2 r1 r2)
    | int i => exact (ih A (.int i) t2 v1 v2 u1 u2 (by cases n <;> trivial) (by omega) d1 d2 r1 r2)
    | str i => exact (ih A (.str i) t2 v1 v2 u1 u2 (by cases n <;> trivial) (by omega) d1 d2 r1 r2)
    | tup ts =>
      have hn : ∀ t ∈ ts, Lv n t := hn
      have hu0 : A.units < cLine := by omega
      obtain ⟨a, xs, rfl, ha, hl⟩ := d1.of_tup
      obtain ⟨its, r, p⟩ := tup_at I ha
      cases r1
      cases t2 with
      | non =>
        rw [Dp] at d2
        subst d2
        cases r2
        rw [dcd_f (by intro h; cases h)]
        exact SeqAt.EqAt.tuple_none p hu0
      | int j =>
        rw [Dp] at d2
        subst d2
        obtain ⟨t, rfl⟩ := r2
        rw [dcd_f (by intro h; cases h)]
        exact SeqAt.EqAt.tuple_int j t p hu0
      | str j =>
        rw [Dp] at d2
        subst d2
        obtain ⟨t, rfl⟩ := r2
        rw [dcd_f (by intro h; cases h)]
        exact SeqAt.EqAt.tuple_str j t p hu0
      | tup us =>
        obtain ⟨b, ys, rfl, hb, gl⟩ := d2.of_tup
        obtain ⟨its2, q, p2⟩ := tup_at I hb
        cases r2
        by_cases hab : a = b
        · subst hab
          rw [ha] at hb
          cases hb
          rw [dcd_t (by rw [DpL.fn hl gl])]
          exact SeqAt.EqAt.same _
        · have l1 : its.toArray.size = ts.length := by rw [List.size_toArray, ← r.length, hl.length]
          have l2 : its2.toArray.size = us.length := by rw [List.size_toArray, ← q.length, gl.length]
          have key := SeqAt.RcAt.tuples (A := A) (s := s) (e := fun j => dcd (ts[j]? = us[j]?)) p p2 hu0 (fun j h1 h2 => by
            have j1 : j < ts.length := by omega
            have j2 : j < us.length := by omega
            have e1 : ts[j]? = some ts[j] := List.getElem?_eq_getElem j1
            have e2 : us[j]? = some us[j] := List.getElem?_eq_getElem j2
            obtain ⟨x1, f1, g1⟩ := hl.get e1
            obtain ⟨x2, f2, g2⟩ := gl.get e2
            obtain ⟨w1, k1, m1⟩ := r.get f1
            obtain ⟨w2, k2, m2⟩ := q.get f2
            have n1 : its.toArray[j] = w1 := by
              have : its.toArray[j]? = some w1 := by simpa using k1
              rw [Array.getElem?_eq_getElem h1] at this
              exact Option.some.inj this
            have n2 : its2.toArray[j] = w2 := by
              have : its2.toArray[j]? = some w2 := by simpa using k2
              rw [Array.getElem?_eq_getElem h2] at this
              exact Option.some.inj this
            rw [n1, n2]
            have := ih A.in1 ts[j] us[j] x1 x2 w1 w2 (hn _ (List.getElem_mem j1)) (by show A.units + 1 + n < cLine; omega) g1 g2 m1 m2
            rw [show dcd (ts[j]? = us[j]?) = dcd (ts[j] = us[j]) from dcd_eq (by rw [e1, e2]; exact ⟨fun h => Option.some.inj h, fun h => by rw [h]⟩)]
            exact this)
          have fin := SeqAt.EqAt.of_refs hab key
          have ee : ((List.range (min its.toArray.size its2.toArray.size)).all (fun j => dcd (ts[j]? = us[j]?)) && its.toArray.size == its2.toArray.size) = dcd (T.tup ts = T.tup us) := by
            refine dcd_of ?_
            rw [l1, l2, Bool.and_eq_true, List.all_eq_true, beq_iff_eq]
            constructor
            · rintro ⟨h1, h2⟩
              have : ts = us := by
                apply List.ext_getElem?
                intro j
                by_cases hj : j < ts.length
                · exact dcd_iff.mp (h1 j (List.mem_range.mpr (by omega)))
                · rw [List.getElem?_eq_none (by omega), List.getElem?_eq_none (by omega)]
              rw [this]
            · intro h
              cases h
              exact ⟨fun j _ => dcd_t rfl, rfl⟩
          rw [ee] at fin
          exact fin
noncomputable def isT (H : Hp) (t : T) (u : Value) : Bool := dcd (∃ v, RelV v u ∧ Dp H t v)
theorem isT_of {t t' : T} {v : V} {u : Value} (r : RelV v u) (d : Dp H t' v) : isT H t u = dcd (t' = t) := by
  refine dcd_eq ⟨?_, ?_⟩
  · rintro ⟨v', r', d'⟩
    rw [r'.inj r] at d'
    exact (d'.fn d).symm
  · intro h
    subst h
    exact ⟨v, r, d⟩
theorem items_T : ∀ {ts : List T} {xs : List V} {us : List Value}, DpL H ts xs → Vals xs us → ∀ u ∈ us, ∃ t ∈ ts, ∃ v, RelV v u ∧ Dp H t v
  | [], xs, us, h, r => by
    have e := h.of_nil
    subst e
    cases r
    exact fun u hu => by cases hu
  | t :: ts, xs, us, h, r => by
    obtain ⟨x, xr, rfl, h1, h2⟩ := h.cases
    cases r with
    | cons r1 r2 =>
      intro u hu
      rcases List.mem_cons.mp hu with e | e
      · rw [e]
        exact ⟨t, List.mem_cons_self, x, r1, h1⟩
      · obtain ⟨t', m, z⟩ := items_T h2 r2 u e
        exact ⟨t', List.mem_cons_of_mem _ m, z⟩
theorem any_T {t : T} : ∀ {ts : List T} {xs : List V} {us : List Value}, DpL H ts xs → Vals xs us → us.any (isT H t) = dcd (t ∈ ts)
  | [], xs, us, h, r => by
    have e := h.of_nil
    subst e
    cases r
    rw [dcd_f (by simp)]
    rfl
  | t' :: ts, xs, us, h, r => by
    obtain ⟨x, xr, rfl, h1, h2⟩ := h.cases
    cases r with
    | cons r1 r2 =>
      rw [List.any_cons, isT_of r1 h1, any_T h2 r2]
      refine dcd_of ?_
      rw [Bool.or_eq_true, dcd_iff, dcd_iff, List.mem_cons]
      exact ⟨fun h => h.imp (fun z => z.symm) id, fun h => h.imp (fun z => z.symm) id⟩
end
section
variable {X : Cx}
def rInT (neg : Bool) : R2 := fun x y H Q => ∃ p xs t ts, y = .ref p ∧ (H p = some (.lst xs) ∨ H p = some (.tup xs)) ∧ Dp H t x ∧ DpL H ts xs ∧ (∀ t ∈ ts, Lv 6 t) ∧ Q (.bl (if neg then !dcd (t ∈ ts) else dcd (t ∈ ts))) H
theorem op_inT (hu : X.A.units + 10 < cLine) : OpR X (compareOp .In) (rInT false) := by
  intro pins s σ H x y v u Q I rx ry h
  obtain ⟨p, xs, t, ts, rfl, hq, dx, dl, lv, q⟩ := h
  cases ry
  have fin : ∀ its : List Value, Vals xs its → (∀ w, w ∈ its.toArray → SeqAt.EqAt X.A.in1 s w v (isT H t w)) ∧ its.toArray.any (isT H t) = dcd (t ∈ ts) := fun its r => by
    refine ⟨fun w hw => ?_, by rw [show its.toArray.any (isT H t) = its.any (isT H t) by simp, any_T dl r]⟩
    obtain ⟨t', m, v', r', d'⟩ := items_T dl r w (by simpa using hw)
    rw [isT_of r' d']
    exact eqAt_T I 6 _ t' t v' x w v (lv t' m) (by show X.A.units + 1 + 6 < cLine; omega) d' dx r' rx
  rcases hq with hq | hq
  · obtain ⟨its, r, pl, hz⟩ := I.list (SqL.of hq)
    obtain ⟨f1, f2⟩ := fin its r
    refine SeqAt.in_listAt (isT H t) pl.isList f1 ⟨.bl _, H, I, rfl, ?_⟩
    rw [f2]
    exact q
  · obtain ⟨its, r, pl, hz⟩ := I.tuple (SqT.of hq)
    obtain ⟨f1, f2⟩ := fin its r
    refine SeqAt.in_tupleAt (isT H t) pl f1 ⟨.bl _, H, I, rfl, ?_⟩
    rw [f2]
    exact q
end
end L2
end
section
set_option autoImplicit false
namespace L2
open PySem PySem.Spec PyProof.Rows
section
variable {X : Cx}
def rSlS : V → Option Int → Option Int → Hp → VK → Prop := fun x lo hi H Q => ∃ z, x = .str z ∧ z.length ≤ sizeLine ∧ Q (.str (Txt.slice z lo hi)) H
theorem sl_str : SlR X rSlS := by
  intro pins s σ H x v vl vu lo hi sl Q I rx hs pl pu h
  obtain ⟨z, rfl, hz, q⟩ := h
  obtain ⟨t, rfl⟩ := rx
  obtain ⟨o, ho, hc, hd⟩ := hs
  have fin : ∀ (t' : Tok) (k : Nat), EP X pins σ Q (.str (Txt.slice z lo hi) t') { s with toks := k } := fun t' k => ⟨.str _, H, I.tok k, ⟨_, rfl⟩, q⟩
  refine ⟨"str", _, F.slot_str_getitem.lookup, typeIs_str _ _ _, ?_⟩
  cases pl with
  | none =>
    cases pu with
    | none => exact wpAny_getItem_str_slice (l := none) (u := none) (st := none) ⟨o, ho, hc, hd⟩ rfl (post_val_or_str ⟨Nat.le_trans (Txt.slice_le z _ _) hz, fin⟩)
    | int j uj => exact wpAny_getItem_str_slice (l := none) (u := some (j, uj)) (st := none) ⟨o, ho, hc, hd⟩ rfl (post_val_or_str ⟨Nat.le_trans (Txt.slice_le z _ _) hz, fin⟩)
  | int i ui =>
    cases pu with
    | none => exact wpAny_getItem_str_slice (l := some (i, ui)) (u := none) (st := none) ⟨o, ho, hc, hd⟩ rfl (post_val_or_str ⟨Nat.le_trans (Txt.slice_le z _ _) hz, fin⟩)
    | int j uj => exact wpAny_getItem_str_slice (l := some (i, ui)) (u := some (j, uj)) (st := none) ⟨o, ho, hc, hd⟩ rfl (post_val_or_str ⟨Nat.le_trans (Txt.slice_le z _ _) hz, fin⟩)
def tSlK (K : PySem.W.Frag) (te tk : TE) : TE := fun σ H Q => te σ H fun x H1 => tk σ H1 fun y H2 => ∃ a xs i, x = .ref a ∧ y = .int i ∧ SqL K H2 a xs ∧
  ((i = 1 ∧ ∀ p, H2 p = none → Q (.ref p) (upd H2 p (.lst xs))) ∨ (i = -1 ∧ ∀ p, H2 p = none → Q (.ref p) (upd H2 p (.lst xs.reverse))))
theorem pick_one (its : List Value) : slicePick its.toArray none none (some 1) = its.toArray := by
  have e : slicePick its.toArray none none (some 1) = slicePick its.toArray none none none := rfl
  rw [e, slicePick_cut]
  simp [HT.sIx]
theorem pe_slK {e k : Expr} {te tk : TE} {pos p2 : Pos} (he : PE X e te) (hk : PE X k tk) : PE X (.Subscript e (.Slice none none (some k) p2) pos) (tSlK X.K te tk) := by
  intro pins s σ H Q I h
  refine Subscript_ (thn (he pins s σ H _ I h) fun v s1 ⟨x, H1, I1, r1, q1⟩ => ?_)
  refine wpAny_Slice ?_
  rw [evalPart_none]
  refine wpAny_pure ?_
  refine wpAny_pure ?_
  rw [evalPart_some]
  refine thn (hk pins s1 σ H1 _ I1 q1) fun vk s3 ⟨y, H3, I3, r3, q3⟩ => ?_
  obtain ⟨a, xs, i, rfl, rfl, hq, q⟩ := q3
  cases r1
  obtain ⟨t, rfl⟩ := r3
  have I4 : Inv X pins σ H3 { s3 with heap := s3.heap.push { cls := .type "slice", data := .fields #[.none, .none, .int i t] } } := I3.kept (t' := s3.toks) fun b ob q => Heap.get?_push_of_some _ q
  obtain ⟨its, r, ht, hz⟩ := I4.list hq
  have hlen : its.toArray.size = xs.length := by rw [List.size_toArray]; exact r.length.symm
  show wpAny (model X.prog X.w) X.A (subscriptTail e (.Slice none none (some k) p2) (.ref a) (.ref s3.heap.objs.size)) (EP X pins σ Q) X.xe { s3 with heap := s3.heap.push { cls := .type "slice", data := .fields #[.none, .none, .int i t] } }
  have fin : ∀ ys : List V, ys.length ≤ sizeLine → ∀ jts : List Value, Vals ys jts → (∀ p, H3 p = none → Q (.ref p) (upd H3 p (.lst ys))) →
      EP X pins σ Q (.ref (s3.heap.push { cls := .type "slice", data := .fields #[.none, .none, .int i t] }).objs.size)
        { s3 with heap := (s3.heap.push { cls := .type "slice", data := .fields #[.none, .none, .int i t] }).push { cls := .type "list", data := .seq jts.toArray } } := fun ys hy jts rj hQ =>
    ⟨.ref _, _, I4.lnew (t' := s3.toks) rj hy, rfl, hQ _ I4.fresh⟩
  rcases q with ⟨rfl, q⟩ | ⟨rfl, q⟩
  · refine tail_any (ops := [.ref a, .ref s3.heap.objs.size]) ht.isList.typeIs slot_list_getitem.lookup (wpAny_getItem_list_slice ht.isList (Heap.IsSliceOf.new ..) .none .none (.int 1 t) (by decide) ?_ (by rw [hlen]; exact hz)) (by with_unfolding_all rfl)
    rw [pick_one]
    exact fin xs hz its r q
  · refine tail_any (ops := [.ref a, .ref s3.heap.objs.size]) ht.isList.typeIs slot_list_getitem.lookup (wpAny_getItem_list_slice ht.isList (Heap.IsSliceOf.new ..) .none .none (.int (-1) t) (by decide) ?_ (by rw [hlen]; exact hz)) (by with_unfolding_all rfl)
    rw [PySem.W.krv_pick, List.toList_toArray]
    exact fin xs.reverse (by rw [List.length_reverse]; exact hz) its.reverse r.reverse q
def rRemoveS : V → List V → Hp → VK → Prop := fun x vs H Q => ∃ (l : Addr) (ns : List Str) (n : Str), x = .ref l ∧ vs = [.str n] ∧ H l = some (.lst (ns.map V.str)) ∧ n ∈ ns ∧ Q .non (upd H l (.lst ((ns.erase n).map V.str)))
theorem first_at {α : Type} [BEq α] [LawfulBEq α] {n : α} : ∀ {ns : List α}, n ∈ ns → ∃ j, ns[j]? = some n ∧ (∀ m, m < j → ns[m]? ≠ some n) ∧ ns.erase n = ns.eraseIdx j
  | [], h => by simp at h
  | a :: r, h => by
    by_cases e : a = n
    · subst e
      exact ⟨0, rfl, fun m hm => absurd hm (Nat.not_lt_zero _), by simp⟩
    · have h' : n ∈ r := by
        rcases List.mem_cons.mp h with z | z
        · exact absurd z.symm e
        · exact z
      obtain ⟨j, h1, h2, h3⟩ := first_at h'
      refine ⟨j + 1, by simpa using h1, fun m hm => ?_, ?_⟩
      · cases m with
        | zero => simpa using e
        | succ m => simpa using h2 m (by omega)
      · rw [List.erase_cons_tail (by simpa using e), h3]
        rfl
def strU (n : Str) (u : Value) : Bool := match u with
  | .str x _ => x.cps.toList == n.cps.toList
  | _ => false
theorem vals_strs : ∀ {ns : List Str} {us : List Value}, Vals (ns.map V.str) us → ∀ (j : Nat) (n : Str), ns[j]? = some n → ∃ t, us[j]? = some (.str n t)
  | ns, us, r, j, n, e => by
    obtain ⟨u, h1, t, h2⟩ := r.get (i := j) (x := V.str n) (by rw [List.getElem?_map, e]; rfl)
    exact ⟨t, by rw [h1, h2]⟩
theorem mt_removeS : MtM X "list.remove" rRemoveS := by
  intro pins s σ H x vs v us Q I rx rv h
  obtain ⟨l, ns, n, rfl, rfl, hH, hm, q⟩ := h
  cases rx
  obtain ⟨u, rfl, tu, rfl⟩ := rv.one
  obtain ⟨z, its, c, r, hl, e⟩ := I.lstM hH
  obtain ⟨j, h1, h2, h3⟩ := first_at hm
  have hjn : j < ns.length := (List.getElem?_eq_some_iff.mp h1).1
  have hlen : its.toArray.size = ns.length := by rw [List.size_toArray, ← hl, List.length_map]
  have at_ : ∀ (m : Nat) (hm : m < its.toArray.size), ∃ k t, ns[m]? = some k ∧ its.toArray[m] = .str k t := fun m hm => by
    have hm' : m < ns.length := by omega
    obtain ⟨t, ht⟩ := vals_strs r m ns[m] (List.getElem?_eq_getElem hm')
    refine ⟨ns[m], t, List.getElem?_eq_getElem hm', ?_⟩
    have z : its.toArray[m]? = some (.str ns[m] t) := by simpa using ht
    rw [Array.getElem?_eq_getElem hm] at z
    exact Option.some.inj z
  have eqs : ∀ a b : Str, (a.cps.toList == b.cps.toList) = true ↔ a = b := fun a b => by
    rw [beq_iff_eq]
    constructor
    · intro h
      cases a
      cases b
      congr
      exact Array.toList_inj.mp h
    · intro h
      rw [h]
  refine call_meets F.slot_list_remove ⟨_, e, rfl⟩ F.entry_list_remove (F.args_list_remove_2 _ _) (MeetsSeq.list_remove l its.toArray c (.str n tu) (strU n) ?_ j (by omega) ?_ ?_ (by rw [hlen, ← List.length_map (f := V.str)]; exact z)) ⟨e, ?_⟩
  · intro y hy
    obtain ⟨m, hm, rfl⟩ := Array.mem_iff_getElem.mp hy
    obtain ⟨k, t, _, ek⟩ := at_ m hm
    rw [ek]
    exact SeqRoads2.EqGives.str k n t tu
  · obtain ⟨k, t, e1, ek⟩ := at_ j (by omega)
    rw [h1] at e1
    cases e1
    rw [ek]
    exact (eqs n n).mpr rfl
  · intro m hm hlt
    obtain ⟨k, t, e1, ek⟩ := at_ m hm
    rw [ek]
    cases hb : strU n (.str k t) with
    | false => rfl
    | true =>
      have := (eqs k n).mp hb
      rw [this] at e1
      exact absurd e1 (h2 m hlt)
  · refine ⟨.non, _, I.lset (its' := its.eraseIdx j) hH e (by simp) (ys := (ns.erase n).map V.str) ?_ ?_, rfl, q⟩
    · have ee : ((ns.eraseIdx j).map V.str) = (ns.map V.str).eraseIdx j := by
        apply List.ext_getElem?
        intro i
        simp only [List.getElem?_map, List.getElem?_eraseIdx]
        split <;> rfl
      rw [h3, ee]
      exact r.eraseIdx j
    · rw [List.length_map]
      have := List.length_erase_le (a := n) (l := ns)
      rw [List.length_map] at z
      omega
end
end L2
end
section
set_option autoImplicit false
namespace L2
open PySem PySem.Spec PyProof.Rows
open AutoSeq1 (wpAny_loadPart') in
open MeetsSeq MeetsSeq2 MeetsSeq3 SeqRoads2 SeqAt in
theorem tupIndex (l : Addr) (items : Array Value) (n : Nat) (dd : Option Addr) (sl : Array (Option Value)) (x : Value) (e : Value → Bool) (j : Nat) (hj : j < items.size) (hit : e items[j] = true) (hno : ∀ m (hm : m < items.size), m < j → e items[m] = false) :
    Meets (Builtin.«tuple.index» ⟨[.ref l, x], []⟩) (fun A R s => s.heap.get? l = some { cls := .type "tuple", dict := dd, data := .seq items n, slots := sl } ∧ (∀ y, y ∈ items → EqAt A.in1 s y x (e y)) ∧ R (.ok (.ret (.int j s.toks))) { s with toks := s.toks + 1 }) :=
  .of_wp fun prog w A R s h => by
    obtain ⟨hp, g, d, tk, os⟩ := s
    obtain ⟨hl, he, h⟩ := h
    unfold Builtin.«tuple.index»
    simp only [Std.Legacy.Range.forIn_eq_forIn_range', Std.Legacy.Range.size]
    have hmin : (min items.size items.size - 0 + 1 - 1) / 1 = items.size := by simp
    wp_walk using wpAny_loadPart' hl
    rw [hmin]
    change wpAny _ _ (forIn (List.range' 0 items.size) (none, ()) _) _ _ _
    refine wpAny_forIn_list _ (fun rest b s' => b.1 = none ∧ s' = ⟨hp, g, d, tk, os⟩ ∧ ∃ i, i ≤ j ∧ rest = (List.range' 0 items.size).drop i) _ ?_ ?_ (List.range' 0 items.size) (none, ()) ⟨rfl, rfl, 0, Nat.zero_le _, by simp⟩
    · rintro i rest b s' ⟨hb, rfl, k, hk, hr⟩
      have hkl : k < items.size := by omega
      have e0 : (List.range' 0 items.size).drop k = k :: (List.range' 0 items.size).drop (k + 1) := by
        rw [List.drop_eq_getElem_cons (by simpa using hkl)]
        simp
      rw [e0] at hr
      injection hr with h1 h2
      subst h1
      have hi : items[i]? = some items[i] := by simp [hkl]
      rw [hi]
      refine wpAny_bind (he _ (Array.getElem_mem hkl) prog w _ _ ?_)
      by_cases hij : i = j
      · subst hij
        rw [hit]
        wp_walk
        exact ⟨_, rfl, h⟩
      · rw [hno i hkl (by omega)]
        wp_walk
        exact ⟨rfl, rfl, i + 1, by omega, h2⟩
    · rintro b s' ⟨hb, rfl, k, hk, hr⟩
      exfalso
      have : ((List.range' 0 items.size).drop k).length = 0 := by rw [← hr]; rfl
      simp at this
      omega
section
variable {prog : Program} {w : World} {A : Around} {E : Value → Shared → Prop} {s : Shared}
theorem nextT_item {it t : Addr} {i : Nat} {items : Array Value} {x : Value} {Q : Value → Shared → Prop} (hit : s.heap.IsTupleIter it t i) (ht : s.heap.IsTuple t items) (hx : items[i]? = some x)
    (hQ : ∀ h', h'.IsTupleIter it t (i + 1) → Heap.SameBut it s.heap h' → Q x { s with heap := h' }) : wpAny (model prog w) A (Builtin.SmallTypes.nextOf (.ref it)) Q E s := by
  obtain ⟨ob, e1, e2, e3⟩ := id hit
  obtain ⟨ot, g1, _, nn, g2⟩ := ht
  unfold Builtin.SmallTypes.nextOf
  refine wpAny_bind (wpAny_callSpecial?_slot (name := Str.ofString "__next__") hit.typeIs F.slot_tuple_iterator_next (wpAny_call_entry F.slot_tuple_iterator_next hit.typeIs F.entry_tuple_iterator_next ?_ (F.args_tuple_iterator_next_1 _)))
  show wpAny _ _ (field (.ref it) 0 >>= _) _ _ s; refine wpAny_bind (wpAny_field e1 e3 (x := .ref t) rfl ?_)
  show wpAny _ _ (if (Value.ref t == Value.none) = true then _ else _) _ _ s; rw [if_neg (show ¬ ((Value.ref t == Value.none) = true) from Bool.false_ne_true)]
  show wpAny _ _ (field (.ref it) 1 >>= _) _ _ s; refine wpAny_bind (wpAny_field e1 e3 (x := .int i 0) rfl ?_)
  show wpAny _ _ (seqItems? (.ref t) >>= _) _ _ s; refine wpAny_bind (wpAny_seqItems g1 g2 ?_)
  simp only [Int.toNat_natCast, hx]
  refine wpAny_bind (wpAny_setField e1 e3 (by simp) (wpAny_pure ⟨x, rfl, wpAny_pure (hQ _ ⟨_, Heap.get?_update_self _ e1 (Obj.isFreed_of_fields (Obj.data_mapFields e3 _)), (Obj.cls_mapFields ..).trans e2, ?_⟩ (Heap.SameBut.update ..))⟩))
  rw [Obj.data_mapFields e3]; simp [rawInt]
theorem nextT_end {it t : Addr} {i : Nat} {items : Array Value} {Q : Value → Shared → Prop} (hh : A.handled = none) (hit : s.heap.IsTupleIter it t i) (ht : s.heap.IsTuple t items) (hx : items[i]? = none)
    (hE : ∀ h' e, Heap.ExtBut it s.heap h' → (∃ o, h'.get? e = some o ∧ o.cls = .type "StopIteration") → E (.ref e) { s with heap := h' }) : wpAny (model prog w) A (Builtin.SmallTypes.nextOf (.ref it)) Q E s := by
  obtain ⟨ob, e1, e2, e3⟩ := id hit
  obtain ⟨ot, g1, _, nn, g2⟩ := ht
  unfold Builtin.SmallTypes.nextOf
  refine wpAny_bind (wpAny_callSpecial?_slot (name := Str.ofString "__next__") hit.typeIs F.slot_tuple_iterator_next (wpAny_call_entry F.slot_tuple_iterator_next hit.typeIs F.entry_tuple_iterator_next ?_ (F.args_tuple_iterator_next_1 _)))
  show wpAny _ _ (field (.ref it) 0 >>= _) _ _ s; refine wpAny_bind (wpAny_field e1 e3 (x := .ref t) rfl ?_)
  show wpAny _ _ (if (Value.ref t == Value.none) = true then _ else _) _ _ s; rw [if_neg (show ¬ ((Value.ref t == Value.none) = true) from Bool.false_ne_true)]
  show wpAny _ _ (field (.ref it) 1 >>= _) _ _ s; refine wpAny_bind (wpAny_field e1 e3 (x := .int i 0) rfl ?_)
  show wpAny _ _ (seqItems? (.ref t) >>= _) _ _ s; refine wpAny_bind (wpAny_seqItems g1 g2 ?_)
  simp only [Int.toNat_natCast, hx]
  refine wpAny_bind (wpAny_rule (wpAny_bind (wpAny_setField e1 e3 (by simp) ?_)))
  show wpAny _ _ (newExc (.type "StopIteration") [] >>= _) _ _ _; refine wpAny_bind ?_
  simp only [newExc, newTuple]; refine wpAny_bind (wpAny_newObj_type ?_ (by size_fits))
  refine wpAny_bind (m := firstArgMember _ _) (wpAny_of_eq (a := Value.none) (by first | rfl | (simp only [firstArgMember]; rfl)) ?_)
  refine wpAny_newObj_type ?_ (by size_fits); simp only [raiseNew]; refine wpAny_bind (wpAny_handled ?_)
  first | rw [show A.in1.handled = none from hh] | rw [hh]
  refine wpAny_bind (wpAny_pure (wpAny_throw (hE _ _ (((Heap.SameBut.update ..).extBut.push _).push _) ⟨_, Heap.get?_push_size _ rfl, rfl⟩)))
structure ZA (z TI TO i1 i2 t1 t2 : Addr) : Prop where
  a1 : TI ≠ z
  a2 : TO ≠ z
  a3 : i1 ≠ z
  a4 : i2 ≠ z
  a5 : TI ≠ TO
  a6 : TI ≠ i1
  a7 : TI ≠ i2
  a8 : TO ≠ i1
  a9 : TO ≠ i2
  b1 : i1 ≠ i2
  b2 : t1 ≠ z
  b3 : t1 ≠ TO
  b4 : t1 ≠ i1
  b5 : t1 ≠ i2
  b6 : t2 ≠ z
  b7 : t2 ≠ TO
  b8 : t2 ≠ i1
  b9 : t2 ≠ i2
theorem zipT_item {z TI TO i1 i2 t1 t2 : Addr} {k : Nat} {xs ys : Array Value} {x y a b : Value} {Q : Value → Shared → Prop} (D : ZA z TI TO i1 i2 t1 t2)
    (hz : IsZip s.heap z TI TO .none) (hTI : IsPair s.heap TI (.ref i1) (.ref i2)) (hTO : IsPair s.heap TO a b) (h1 : s.heap.IsTupleIter i1 t1 k) (h2 : s.heap.IsTupleIter i2 t2 k)
    (hl1 : s.heap.IsTuple t1 xs) (hl2 : s.heap.IsTuple t2 ys) (hx : xs[k]? = some x) (hy : ys[k]? = some y)
    (hQ : ∀ h', IsZip h' z TI TO (rawInt s.heap.objs.size) → IsPair h' TO x y → h'.IsTupleIter i1 t1 (k + 1) → h'.IsTupleIter i2 t2 (k + 1) → IsPair h' s.heap.objs.size x y →
      (∀ c o, c ≠ z → c ≠ TO → c ≠ i1 → c ≠ i2 → s.heap.get? c = some o → h'.get? c = some o) → Q (.ref s.heap.objs.size) { s with heap := h' }) :
    wpAny (model prog w) A (Builtin.«zip.__next__» ⟨[.ref z], []⟩) (fun fin s' => ∃ v, fin = .done (.ret v) ∧ Q v s') E s := by
  show wpAny _ _ (field (.ref z) 2 >>= _) _ _ _; refine wpAny_bind (wpAny_field hz rfl (x := .bool false) rfl ?_)
  show wpAny _ _ (field (.ref z) 3 >>= _) _ _ _; refine wpAny_bind (wpAny_field hz rfl (x := .ref TI) rfl (wpAny_bind (wpAny_seqItems hTI rfl ?_)))
  show wpAny _ _ (Builtin.SmallTypes.ownedTupleIsFree (.ref z) >>= _) _ _ _
  unfold Builtin.SmallTypes.ownedTupleIsFree
  refine wpAny_bind (wpAny_bind (wpAny_field hz rfl (x := .none) rfl (wpAny_pure ?_)))
  simp only [if_true]
  refine wpAny_bind (wpAny_rule (wpAny_bind (wpAny_field hz rfl (x := .ref TO) rfl (wpAny_bind (wpAny_setField_rec hz (by simp) fun g1 z1 q1 => ?_)))))
  replace z1 : IsZip g1 z TI TO .ellipsis := z1
  simp only [List.zipIdx_cons, List.zipIdx_nil, List.forIn_cons, List.forIn_nil]
  refine wpAny_bind (wpAny_bind (wpAny_bind (wpAny_onRaise ?_)))
  show wpAny _ _ (Builtin.SmallTypes.nextOf (.ref i1) >>= _) _ _ _
  refine wpAny_bind (nextT_item (h1.extBut q1.extBut D.a3) (hl1.extBut q1.extBut D.b2) hx fun g2 j2 q2 => wpAny_pure ?_)
  have p2 : IsPair g2 TO a b := q2.extBut _ _ D.a8 (q1.extBut _ _ D.a2 hTO)
  refine wpAny_bind (wpAny_seqItems p2 rfl (wpAny_bind (wpAny_updateSeq_pair p2 fun g3 p3 q3 => wpAny_bind (wpAny_letGo (wpAny_pure ?_)))))
  replace p3 : IsPair g3 TO x b := p3
  refine wpAny_bind (wpAny_bind (wpAny_onRaise ?_))
  show wpAny _ _ (Builtin.SmallTypes.nextOf (.ref i2) >>= _) _ _ _
  refine wpAny_bind (nextT_item (((h2.extBut q1.extBut D.a4).extBut q2.extBut D.b1.symm).extBut q3.extBut D.a9.symm) (((hl2.extBut q1.extBut D.b6).extBut q2.extBut D.b8).extBut q3.extBut D.b7) hy fun g4 j4 q4 => wpAny_pure ?_)
  have p4 : IsPair g4 TO x b := q4.extBut _ _ D.a9 p3
  refine wpAny_bind (wpAny_seqItems p4 rfl (wpAny_bind (wpAny_updateSeq_pair p4 fun g5 p5 q5 => wpAny_bind (wpAny_letGo (wpAny_pure (wpAny_pure ?_))))))
  replace p5 : IsPair g5 TO x y := p5
  refine wpAny_bind (wpAny_seqItems p5 rfl (wpAny_bind (wpAny_newTuple ?_)))
  have sz : g5.objs.size = s.heap.objs.size := by rw [q5.1, q4.1, q3.1, q2.1, q1.1]
  have z5 : IsZip g5 z TI TO .ellipsis := q5.extBut _ _ D.a2.symm (q4.extBut _ _ D.a4.symm (q3.extBut _ _ D.a2.symm (q2.extBut _ _ D.a3.symm z1)))
  have k5 : ∀ c o, c ≠ z → c ≠ TO → c ≠ i1 → c ≠ i2 → s.heap.get? c = some o → g5.get? c = some o := fun c o c1 c2 c3 c4 e => q5.extBut _ _ c2 (q4.extBut _ _ c4 (q3.extBut _ _ c2 (q2.extBut _ _ c3 (q1.extBut _ _ c1 e))))
  have j5 : g5.IsTupleIter i1 t1 (k + 1) := ((j2.extBut q3.extBut D.a8.symm).extBut q4.extBut D.b1).extBut q5.extBut D.a8.symm
  have l5 : g5.IsTupleIter i2 t2 (k + 1) := j4.extBut q5.extBut D.a9.symm
  have zl : z < g5.objs.size := Heap.lt_size z5
  show wpAny _ _ (Builtin.SmallTypes.ownedTupleHandOut (.ref z) (.ref g5.objs.size) >>= _) _ _ _
  refine wpAny_bind ?_
  unfold Builtin.SmallTypes.ownedTupleHandOut
  have z6 : IsZip (g5.push { cls := .type "tuple", data := .seq #[x, y] }) z TI TO .ellipsis := Heap.get?_push_of_some _ z5
  refine wpAny_bind (wpAny_setField_rec z6 (by simp) fun g7 z7 q7 => ?_)
  replace z7 : IsZip g7 z TI TO (rawInt g5.objs.size) := z7
  refine wpAny_setField_rec z7 (by simp) fun g8 z8 q8 => ?_
  replace z8 : IsZip g8 z TI TO (rawInt g5.objs.size) := z8
  have up : ∀ c o, c ≠ z → g5.get? c = some o → g8.get? c = some o := fun c o c1 e => q8.extBut _ _ c1 (q7.extBut _ _ c1 (Heap.get?_push_of_some _ e))
  have n8 : IsPair g8 g5.objs.size x y := q8.extBut _ _ (Nat.ne_of_gt zl) (q7.extBut _ _ (Nat.ne_of_gt zl) (Heap.get?_push_size _ rfl))
  rw [sz] at z8 n8
  refine wpAny_pure ⟨_, rfl, ?_⟩
  show Q (.ref g5.objs.size) _
  rw [sz]
  refine hQ g8 z8 (up _ _ D.a2 p5) ?_ ?_ n8 fun c o c1 c2 c3 c4 e => up c o c1 (k5 c o c1 c2 c3 c4 e)
  · obtain ⟨o, e, r⟩ := j5; exact ⟨o, up _ o D.a3 e, r⟩
  · obtain ⟨o, e, r⟩ := l5; exact ⟨o, up _ o D.a4 e, r⟩
theorem zipT_end {z TI TO i1 i2 t1 t2 : Addr} {k : Nat} {xs : Array Value} {a b : Value} {Q : Fin → Shared → Prop} (hh : A.handled = none) (D : ZA z TI TO i1 i2 t1 t2)
    (hz : IsZip s.heap z TI TO .none) (hTI : IsPair s.heap TI (.ref i1) (.ref i2)) (hTO : IsPair s.heap TO a b) (h1 : s.heap.IsTupleIter i1 t1 k) (hl1 : s.heap.IsTuple t1 xs) (hx : xs[k]? = none)
    (hE : ∀ h' e, (∀ c o, c ≠ z → c ≠ TO → c ≠ i1 → c ≠ i2 → s.heap.get? c = some o → h'.get? c = some o) → (∃ o, h'.get? e = some o ∧ o.cls = .type "StopIteration") → E (.ref e) { s with heap := h' }) :
    wpAny (model prog w) A (Builtin.«zip.__next__» ⟨[.ref z], []⟩) Q E s := by
  show wpAny _ _ (field (.ref z) 2 >>= _) _ _ _; refine wpAny_bind (wpAny_field hz rfl (x := .bool false) rfl ?_)
  show wpAny _ _ (field (.ref z) 3 >>= _) _ _ _; refine wpAny_bind (wpAny_field hz rfl (x := .ref TI) rfl (wpAny_bind (wpAny_seqItems hTI rfl ?_)))
  show wpAny _ _ (Builtin.SmallTypes.ownedTupleIsFree (.ref z) >>= _) _ _ _
  unfold Builtin.SmallTypes.ownedTupleIsFree
  refine wpAny_bind (wpAny_bind (wpAny_field hz rfl (x := .none) rfl (wpAny_pure ?_)))
  simp only [if_true]
  refine wpAny_bind (wpAny_rule (wpAny_bind (wpAny_field hz rfl (x := .ref TO) rfl (wpAny_bind (wpAny_setField_rec hz (by simp) fun g1 z1 q1 => ?_)))))
  replace z1 : IsZip g1 z TI TO .ellipsis := z1
  simp only [List.zipIdx_cons, List.zipIdx_nil, List.forIn_cons, List.forIn_nil]
  refine wpAny_bind (wpAny_bind (wpAny_bind (wpAny_onRaise ?_)))
  show wpAny _ _ (Builtin.SmallTypes.nextOf (.ref i1) >>= _) _ _ _
  refine wpAny_bind (nextT_end hh (h1.extBut q1.extBut D.a3) (hl1.extBut q1.extBut D.b2) hx fun g2 e q2 ⟨oe, e1, e2⟩ => ?_)
  have z2 : IsZip g2 z TI TO .ellipsis := q2 _ _ D.a3.symm z1
  have hez : e ≠ z := fun x => by subst x; rw [z2] at e1; cases e1; simp at e2
  exact wpAny_setField_rec z2 (by simp) fun g3 _ q3 => hE g3 e (fun c o c1 _ c3 _ x => q3.extBut _ _ c1 (q2 _ _ c3 (q1.extBut _ _ c1 x))) ⟨oe, q3.extBut _ _ hez e1, e2⟩
end
theorem Inv.turnLaid {X : Cx} {pins : List (Addr × Obj)} {σ : St} {H : Hp} {s : Shared} {h' : Heap} {fp : List Addr} {a : Addr} {o : HO} {t' : Nat} (I : Inv X pins σ H s) (hf : ∀ b ∈ fp, FpOk X pins H b)
    (k : ∀ b u, b ∉ fp → s.heap.get? b = some u → h'.get? b = some u) (hp : s.heap.objs.size ≤ a) (new : ObjOk X.prog X.w (upd H a o) h' a o) : Inv X pins σ (upd H a o) { s with heap := h', toks := t' } := by
  have hn : H a = none := I.hok.fresh hp
  have nf : ∀ b u, H b = some u → b ∉ fp := fun b u e hb => by rw [(hf b hb).1] at e; cases e
  refine I.step (g' := s.gens) (d' := s.drawn) (ch := fp) (fun b hb => ⟨(hf b hb).2.2.2.1, (hf b hb).2.1, (hf b hb).2.2.2.2.1, (hf b hb).2.2.2.2.2⟩) (fun b u _ _ hc e _ => k b u hc e) (fun b u _ _ hc e _ => ⟨u.slots, k b u hc e⟩)
    (fun b u _ e n => by rw [upd_ne (Nat.ne_of_lt (Nat.lt_of_lt_of_le (Heap.lt_size e) hp))]; exact n) (fun b u hc e => ⟨u, k b u hc e⟩) (fun b xs e => by rw [upd_ne (ne_of_none e hn)]; exact e)
    (fun b u v e => by rw [upd_ne (ne_of_none e hn)]; exact e) (fun b ps e => ⟨#[], by rw [upd_ne (ne_of_none e hn), e]; simp⟩) (fun m hm => ?_) (fun b u e => ?_) I.bare
  · obtain ⟨ob, es, ep, ho, r⟩ := hm
    exact ⟨ob, es, ep, k _ ob (fun z => (hf _ z).2.1 rfl) ho, r⟩
  · by_cases hb : b = a
    · subst hb
      rw [upd_same] at e
      cases e
      exact new
    · rw [upd_ne hb] at e
      refine (I.hok b u e).stay (fun c v hc q => k c v ?_ q) (fun c q => by rw [upd_ne (ne_of_none q hn)]; exact q) fun c xs q => by rw [upd_ne (ne_of_none q hn)]; exact q
      rcases hc with z | z
      · rw [z]; exact nf b u e
      · exact nf c _ z
theorem Inv.turnedL {X : Cx} {pins : List (Addr × Obj)} {σ : St} {H : Hp} {s : Shared} {h' : Heap} {fp : List Addr} {t' : Nat} (I : Inv X pins σ H s) (hf : ∀ b ∈ fp, FpOk X pins H b)
    (k : ∀ b u, b ∉ fp → s.heap.get? b = some u → h'.get? b = some u) : Inv X pins σ H { s with heap := h', toks := t' } := by
  have nf : ∀ b u, H b = some u → b ∉ fp := fun b u e hb => by rw [(hf b hb).1] at e; cases e
  refine I.step (g' := s.gens) (d' := s.drawn) (ch := fp) (fun b hb => ⟨(hf b hb).2.2.2.1, (hf b hb).2.1, (hf b hb).2.2.2.2.1, (hf b hb).2.2.2.2.2⟩) (fun b u _ _ hc e _ => k b u hc e) (fun b u _ _ hc e _ => ⟨u.slots, k b u hc e⟩)
    (fun b u _ e n => n) (fun b u hc e => ⟨u, k b u hc e⟩) (fun b xs e => e) (fun b u v e => e) (fun b ps e => ⟨#[], by rw [e]; simp⟩) (fun m hm => ?_) (fun b u e => ?_) I.bare
  · obtain ⟨ob, es, ep, ho, r⟩ := hm
    exact ⟨ob, es, ep, k _ ob (fun z => (hf _ z).2.1 rfl) ho, r⟩
  · refine (I.hok b u e).stay (fun c v hc q => k c v ?_ q) (fun c q => q) fun c xs q => q
    rcases hc with z | z
    · rw [z]; exact nf b u e
    · exact nf c _ z
def Itz (K : PySem.W.Frag) (t1 t2 : Addr) : It :=
  ⟨fun i H => ∃ xs ys x y, SqT K H t1 xs ∧ SqT K H t2 ys ∧ xs[i]? = some x ∧ ys[i]? = some y, fun i H v H' => ∃ p, H p = none ∧ v = .ref p ∧ ∀ xs ys x y, SqT K H t1 xs → SqT K H t2 ys → xs[i]? = some x → ys[i]? = some y → H' = upd H p (.tup [x, y]),
    fun i H => ∃ xs, SqT K H t1 xs ∧ xs.length ≤ i⟩
theorem turn_zip {P : Program} {w : World} {K : PySem.W.Frag} {elts : List Expr} {x1 : Nat} {tpos : Pos} {z TI TO i1 i2 t1 t2 : Addr} (D : ZA z TI TO i1 i2 t1 t2) : Turn P w K (.Tuple elts x1 tpos) (Itz K t1 t2) [z, TI, TO, i1, i2] z
    (fun i h => IsZip h z TI TO .none ∧ IsPair h TI (.ref i1) (.ref i2) ∧ (∃ a b, IsPair h TO a b) ∧ h.IsTupleIter i1 t1 i ∧ h.IsTupleIter i2 t2 i) where
  mem := by simp
  obj := fun i h st b hb => by
    obtain ⟨hz, hTI, ⟨a, c, hTO⟩, ⟨o1, e1, _, d1⟩, ⟨o2, e2, _, d2⟩⟩ := st
    simp only [List.mem_cons, List.not_mem_nil, or_false] at hb
    rcases hb with rfl | rfl | rfl | rfl | rfl
    · exact ⟨_, hz, fun v q => nomatch q⟩
    · exact ⟨_, hTI, fun v q => nomatch q⟩
    · exact ⟨_, hTO, fun v q => nomatch q⟩
    · exact ⟨_, e1, fun v q => by rw [d1] at q; cases q⟩
    · exact ⟨_, e2, fun v q => by rw [d2] at q; cases q⟩
  keep := fun i h h' st k => by
    obtain ⟨hz, hTI, ⟨a, c, hTO⟩, ⟨o1, e1, r1⟩, ⟨o2, e2, r2⟩⟩ := st
    exact ⟨k z (by simp) _ hz, k TI (by simp) _ hTI, ⟨a, c, k TO (by simp) _ hTO⟩, ⟨o1, k i1 (by simp) _ e1, r1⟩, ⟨o2, k i2 (by simp) _ e2, r2⟩⟩
  item := by
    intro X hP hw hK hc i pins s σ H E I hf st hg
    subst hP hw hK
    obtain ⟨xs, ys, x, y, q1, q2, e1, e2⟩ := hg
    obtain ⟨its, rv, p, hz'⟩ := I.tuple q1
    obtain ⟨jts, rw', p', hz''⟩ := I.tuple q2
    obtain ⟨u, hu, ru⟩ := rv.get e1
    obtain ⟨u', hu', ru'⟩ := rw'.get e2
    obtain ⟨hz, hTI, ⟨a, c, hTO⟩, h1, h2⟩ := st
    have hT : s.TypeIs (.ref z) "zip" := ⟨_, hz, rfl⟩
    unfold pyNext
    refine wpAny_bind (wpAny_attempt (wpAny_callSpecial?_slot (name := Str.ofString "__next__") hT F.slot_zip_next (wpAny_call_entry F.slot_zip_next hT F.entry_zip_next
      (zipT_item D hz hTI hTO h1 h2 (show s.heap.IsTuple t1 its.toArray from p) (show s.heap.IsTuple t2 jts.toArray from p') (x := u) (y := u') (by simpa using hu) (by simpa using hu') fun h' a1 a2 a3 a4 a5 a6 => wpAny_pure ?_) (F.args_zip_next_1 _))))
    refine ⟨_, rfl, wpAny_letOwnedTupleGo_zip a1 fun h2' a1' q' => ?_⟩
    have hn : H s.heap.objs.size = none := I.hok.fresh (Nat.le_refl _)
    have zlt : z < s.heap.objs.size := Heap.lt_size hz
    have tlt : TO < s.heap.objs.size := Heap.lt_size hTO
    have i1lt : i1 < s.heap.objs.size := by obtain ⟨_, e, _⟩ := h1; exact Heap.lt_size e
    have i2lt : i2 < s.heap.objs.size := by obtain ⟨_, e, _⟩ := h2; exact Heap.lt_size e
    have kk : ∀ b ob, b ∉ [z, TI, TO, i1, i2] → s.heap.get? b = some ob → h2'.get? b = some ob := fun b ob hb e => by
      simp only [List.mem_cons, List.not_mem_nil, or_false, not_or] at hb
      exact q'.extBut _ _ hb.1 (a6 b ob hb.1 hb.2.2.1 hb.2.2.2.1 hb.2.2.2.2 e)
    have I1 : Inv X pins σ (upd H s.heap.objs.size (.tup [x, y])) { s with heap := h2' } := I.turnLaid (t' := s.toks) hf kk (Nat.le_refl _)
      ⟨⟨by show 2 ≤ sizeLine; decide, fun o e => by rw [q'.extBut _ _ (Nat.ne_of_gt zlt) a5] at e; cases e; rfl⟩, [u, u'], .cons ru (.cons ru' .nil), ⟨_, q'.extBut _ _ (Nat.ne_of_gt zlt) a5, rfl, _, rfl⟩⟩
    refine ⟨.ref s.heap.objs.size, _, I1, rfl, ⟨_, hn, rfl, fun xs' ys' x' y' k1 k2 k3 k4 => ?_⟩, ⟨a1', q'.extBut _ _ D.a1 (a6 _ _ D.a1 D.a5 D.a6 D.a7 hTI), ⟨_, _, q'.extBut _ _ D.a2 a2⟩, a3.extBut q'.extBut D.a3, a4.extBut q'.extBut D.a4⟩, fun b hb => ?_⟩
    · rw [I.tuple_inj k1 q1, e1] at k3
      rw [I.tuple_inj k2 q2, e2] at k4
      cases k3
      cases k4
      rfl
    · have hb' := hb
      simp only [List.mem_cons, List.not_mem_nil, or_false] at hb'
      have hlt : b < s.heap.objs.size := by
        rcases hb' with rfl | rfl | rfl | rfl | rfl
        · exact zlt
        · exact Heap.lt_size hTI
        · exact tlt
        · exact i1lt
        · exact i2lt
      rw [upd_ne (Nat.ne_of_lt hlt)]
      exact (hf b hb).1
  done := by
    intro X hP hw hK hc i pins s σ H E I hf st hg
    subst hP hw hK
    obtain ⟨xs, q1, e1⟩ := hg
    obtain ⟨its, rv, p, hz'⟩ := I.tuple q1
    obtain ⟨hz, hTI, ⟨a, c, hTO⟩, h1, h2⟩ := st
    have hT : s.TypeIs (.ref z) "zip" := ⟨_, hz, rfl⟩
    have hl := rv.length
    unfold pyNext
    refine wpAny_bind (wpAny_attempt (wpAny_callSpecial?_slot (name := Str.ofString "__next__") hT F.slot_zip_next (wpAny_call_entry F.slot_zip_next hT F.entry_zip_next
      (zipT_end (I.ok.hd hc) D hz hTI hTO h1 (show s.heap.IsTuple t1 its.toArray from p) (by simp; omega) fun h' e kk ⟨o, ho, hcl⟩ => ?_) (F.args_zip_next_1 _))))
    refine wpAny_bind (wpAny_isInstance (T := "StopIteration") (b := true) ⟨o, ho, hcl⟩ isSubtype_stop (wpAny_pure ⟨rfl, I.turnedL (t' := s.toks) hf fun b u hb q => ?_⟩))
    simp only [List.mem_cons, List.not_mem_nil, or_false, not_or] at hb
    exact kk b u hb.1 hb.2.2.1 hb.2.2.2.1 hb.2.2.2.2 q
  self := fun _ _ _ _ _ st h => wpAny_pyIter_zip st.1 h
abbrev zq1 (h : Heap) (l1 : Addr) : Heap := h.push { cls := .type "tuple_iterator", data := .fields #[.ref l1, .int 0 0] }
abbrev zq2 (h : Heap) (l1 l2 : Addr) : Heap := (zq1 h l1).push { cls := .type "tuple_iterator", data := .fields #[.ref l2, .int 0 0] }
abbrev zq3 (h : Heap) (l1 l2 : Addr) : Heap := (zq2 h l1 l2).push { cls := .type "tuple", data := .seq #[.ref h.objs.size, .ref (zq1 h l1).objs.size] }
abbrev zq4 (h : Heap) (l1 l2 : Addr) : Heap := (zq3 h l1 l2).push { cls := .type "tuple", data := .seq #[.none, .none] }
abbrev zq5 (h : Heap) (l1 l2 : Addr) : Heap := (zq4 h l1 l2).push { cls := .type "zip", data := .fields #[.none, .bool false, .bool false, .ref (zq2 h l1 l2).objs.size, .ref (zq3 h l1 l2).objs.size] }
theorem zq_new (l1 l2 : Addr) (xs ys : Array Value) : Meets (Builtin.«zip.__new__» ⟨[.type "zip", .ref l1, .ref l2], []⟩) (fun _ R s => s.heap.IsTuple l1 xs ∧ s.heap.IsTuple l2 ys ∧ R (.ok (.ret (.ref (zq4 s.heap l1 l2).objs.size))) { s with heap := zq5 s.heap l1 l2 }) :=
  .of_wp fun prog w A R s h => by
    obtain ⟨hp, g, d, tk, os⟩ := s
    obtain ⟨hl1, hl2, h⟩ := h
    have hsub := sub_zip
    have hL1 : Heap.IsTuple (Shared.heap ⟨hp, g, d, tk, os⟩) l1 xs := hl1
    have hL2 : Heap.IsTuple (Shared.heap ⟨hp.push { cls := .type "tuple_iterator", data := .fields #[.ref l1, .int 0 0] }, g, d, tk, os⟩) l2 ys := Heap.IsTuple.push hl2 _
    wp_walk using wpAny_pyIter_tuple hL1, wpAny_pyIter_tuple hL2
    exact ⟨_, rfl, h⟩
theorem zq_call {prog : Program} {w : World} {A : Around} {E : Value → Shared → Prop} {s : Shared} {l1 l2 : Addr} {xs ys : Array Value} {Q : Value → Shared → Prop} (hl1 : s.heap.IsTuple l1 xs) (hl2 : s.heap.IsTuple l2 ys)
    (h : Q (.ref (zq4 s.heap l1 l2).objs.size) { s with heap := zq5 s.heap l1 l2 }) : wpAny (model prog w) A (call (.type "zip") [.ref l1, .ref l2]) Q E s := by
  refine callType_new F.called_zip (by decide) (F.typeCall_zip_2 _ _) (F.newCall_zip_2 _ _) (fun obj => F.args_object_init_3 obj _ _) F.entry_zip_new (zq_new l1 l2 xs ys) ⟨hl1, hl2, ?_⟩
  show _ ∧ _
  exact ⟨⟨_, Heap.get?_push_size _ rfl, rfl⟩, h⟩
theorem za_of {n t1 t2 : Nat} (h1 : t1 < n) (h2 : t2 < n) : ZA (n + 4) (n + 2) (n + 3) n (n + 1) t1 t2 := by
  constructor <;> (change @Ne Nat _ _; omega)
section
variable {X : Cx}
def iZip (K : PySem.W.Frag) (ta : TA) : TI := fun σ H R => ta σ H fun vs H1 => ∃ a b xs ys, vs = [.ref a, .ref b] ∧ SqT K H1 a xs ∧ SqT K H1 b ys ∧ R (Itz K a b) H1
theorem pi_zip {elts : List Expr} {x1 : Nat} {tpos : Pos} {a b : Expr} {ta : TA} {p pos : Pos} (hg : Gl X "zip") (hm : X.mg "zip" = none) (ha : PA X [a, b] ta)
    (he : starEach [a, b] X.env = (false, eval a X.env) :: starEach [b] X.env := by rfl) (hpl : (backTo pos (starEach [b] X.env)).any (·.1) = false := by rfl) : PI X (.Tuple elts x1 tpos) (.Call (.Name "zip" p) [a, b] [] pos) (iZip X.K ta) := by
  intro pins s σ H R I h
  refine wpAny_Call_Name_kw (ld_blt I hg hm boot_zip ?_)
  refine PyProof.Rows.callWith_type1 (thn (ha pos pins s σ H _ I h) fun us s1 ⟨vs, H1, I1, r1, t1, t2, xs, ys, e, q1, q2, q⟩ => ?_) he hpl
  subst e
  obtain ⟨u, w', rfl, ru, rw'⟩ := vals2 r1
  cases ru
  cases rw'
  obtain ⟨its, rv, p1, hz1⟩ := I1.tuple q1
  obtain ⟨jts, rv2, p2, hz2⟩ := I1.tuple q2
  refine zq_call (show s1.heap.IsTuple t1 its.toArray from p1) (show s1.heap.IsTuple t2 jts.toArray from p2) ?_
  have b1 : (zq1 s1.heap t1).objs.size = s1.heap.objs.size + 1 := Heap.size_push ..
  have b2 : (zq2 s1.heap t1 t2).objs.size = s1.heap.objs.size + 2 := by rw [Heap.size_push, b1]
  have b3 : (zq3 s1.heap t1 t2).objs.size = s1.heap.objs.size + 3 := by rw [Heap.size_push, b2]
  have b4 : (zq4 s1.heap t1 t2).objs.size = s1.heap.objs.size + 4 := by rw [Heap.size_push, b3]
  have c1 : t1 < s1.heap.objs.size := p1.lt
  have c2 : t2 < s1.heap.objs.size := p2.lt
  have hz : IsZip (zq5 s1.heap t1 t2) (zq4 s1.heap t1 t2).objs.size (zq2 s1.heap t1 t2).objs.size (zq3 s1.heap t1 t2).objs.size .none := Heap.get?_push_size _ rfl
  have DD : ZA (zq4 s1.heap t1 t2).objs.size (zq2 s1.heap t1 t2).objs.size (zq3 s1.heap t1 t2).objs.size s1.heap.objs.size (zq1 s1.heap t1).objs.size t1 t2 := by
    rw [b4, b2, b3, b1]
    exact za_of c1 c2
  refine wpAny_pyIter_zip hz ?_
  have I2 : Inv X pins σ H1 { s1 with heap := zq5 s1.heap t1 t2 } := I1.kept (t' := s1.toks) fun b o e => Heap.get?_push_of_some _ (Heap.get?_push_of_some _ (Heap.get?_push_of_some _ (Heap.get?_push_of_some _ (Heap.get?_push_of_some _ e))))
  refine ⟨(zq4 s1.heap t1 t2).objs.size, [(zq4 s1.heap t1 t2).objs.size, (zq2 s1.heap t1 t2).objs.size, (zq3 s1.heap t1 t2).objs.size, s1.heap.objs.size, (zq1 s1.heap t1).objs.size], _, Itz X.K t1 t2, H1, rfl, I2,
    turn_zip DD, ⟨hz, ?_, ⟨.none, .none, ?_⟩, ?_, ?_⟩, fun b hb => ?_, q⟩
  · exact Heap.get?_push_of_some _ (Heap.get?_push_of_some _ (Heap.get?_push_size _ rfl))
  · exact Heap.get?_push_of_some _ (Heap.get?_push_size _ rfl)
  · exact ⟨_, Heap.get?_push_of_some _ (Heap.get?_push_of_some _ (Heap.get?_push_of_some _ (Heap.get?_push_of_some _ (Heap.get?_push_size _ rfl)))), rfl, rfl⟩
  · exact ⟨_, Heap.get?_push_of_some _ (Heap.get?_push_of_some _ (Heap.get?_push_of_some _ (Heap.get?_push_size _ rfl))), rfl, rfl⟩
  · have hle : s1.heap.objs.size ≤ b := by
      rw [b4, b2, b3, b1] at hb
      simp only [List.mem_cons, List.not_mem_nil, or_false] at hb
      rcases hb with h | h | h | h | h <;> rw [h] <;> first | exact Nat.le_refl _ | exact Nat.le_add_right _ _
    exact I1.fpOk hle (I1.hok.fresh hle)
theorem call_all (hc : X.calm = true) : CallR X (.builtin "all") (fun xs H Q => ∃ (p : Addr) (bs : List Bool), xs = [.ref p] ∧ SqL X.K H p (bs.map V.bl) ∧ Q (.bl (bs.all id)) H) := by
  intro pins s σ H xs us Q I r h
  obtain ⟨p, bs, rfl, hq, q⟩ := h
  obtain ⟨u, rfl, ru⟩ := vals1 r
  cases ru
  obtain ⟨its, rv, pl, hz⟩ := I.list hq
  have hl := rv.length
  rw [List.length_map] at hl
  refine call_all_walk (wpAny_pyIter_list pl.isList ?_)
  have plt : p < s.heap.objs.size := by obtain ⟨o, e, _⟩ := pl.isList; exact Heap.lt_size e
  refine ⟨s.heap.objs.size, _, _, _, _, _, fun i => bs.getD i true, rfl, Walks.list (A := X.A.in1) (I.ok.hd hc) s.heap.objs.size p (Nat.ne_of_lt plt) its.toArray, ⟨⟨_, Heap.get?_push_size _ rfl, rfl, rfl⟩, pl.isList.push _⟩, fun i v s' Q' E' hv hQ => ?_, fun h' tk kk => ?_⟩
  · have hi : i < bs.length := by
      have := (Array.getElem?_eq_some_iff.mp hv).1
      rw [List.size_toArray] at this
      omega
    obtain ⟨u, hu, ru⟩ := rv.get (i := i) (x := V.bl bs[i]) (by simp [hi])
    have hv' : its[i]? = some v := by simpa using hv
    rw [hv'] at hu
    cases hu
    cases ru
    refine wpAny_truthy_bool ?_
    simpa [hi] using hQ
  · have ee : ((List.range its.toArray.size).all fun i => bs.getD i true) = bs.all id := by
      rw [List.size_toArray, ← hl]
      apply Bool.eq_iff_iff.mpr
      rw [List.all_eq_true, List.all_eq_true]
      constructor
      · intro h b hb
        obtain ⟨i, hi, rfl⟩ := List.getElem_of_mem hb
        have := h i (List.mem_range.mpr hi)
        simpa [hi] using this
      · intro h i hi
        have hi' := List.mem_range.mp hi
        have := h bs[i] (List.getElem_mem hi')
        simpa [hi'] using this
    rw [ee]
    have I1 : Inv X pins σ H { s with heap := s.heap.push { cls := .type "list_iterator", data := .fields #[.ref p, .int 0 0] } } := I.kept (t' := s.toks) fun b o e => Heap.get?_push_of_some _ e
    refine ⟨.bl _, H, I1.turned (t' := tk) (it := s.heap.objs.size) (fun b o hb e => kk b o (by simpa using hb) e) (I.hok.fresh (Nat.le_refl _)) (Nat.ne_of_gt I.lt) (.inr I.sz) ?_ ?_, rfl, q⟩
    · exact (I.fpOk (Nat.le_refl _) (I.hok.fresh (Nat.le_refl _))).2.2.2.2.1
    · exact (I.fpOk (Nat.le_refl _) (I.hok.fresh (Nat.le_refl _))).2.2.2.2.2
def Its (x : Str) : It := ⟨fun i _ => i < x.cps.size, fun i H v H' => H' = H ∧ ∃ c, x.cps[i]? = some c ∧ v = .str ⟨#[c]⟩, fun i _ => x.cps.size ≤ i⟩
theorem turn_str {P : Program} {w : World} {K : PySem.W.Frag} {tg : Expr} (x : Str) (t : Tok) (it : Addr) : Turn P w K tg (Its x) [it] it (fun i h => h.IsStrIter it "str_ascii_iterator" x t i) where
  mem := by simp
  obj := fun i h st b hb => by
    have e : b = it := by simpa using hb
    subst e
    obtain ⟨o, e, c, d⟩ := st
    exact ⟨o, e, fun v z => by rw [d] at z; cases z⟩
  keep := fun i h h' st k => by
    obtain ⟨o, e, r⟩ := st
    exact ⟨o, k it (by simp) o e, r⟩
  item := by
    intro X hP hw hK hc i pins s σ H E I hf st hg
    subst hP hw hK
    have hg : i < x.cps.size := hg
    obtain ⟨f0, f1, f2, f3, f4, f5⟩ := hf it (by simp)
    refine wpAny_pyNext_ascii_item st (c := x.cps[i]) (by simp [hg]) fun h' st' sb => ?_
    have I1 : Inv X pins σ H { s with heap := h', toks := s.toks + 1 } := I.turned (fun b o hb e => (sb.2 b hb).trans e) f0 f1 f3 f4 f5
    obtain ⟨o, e, c, d⟩ := id st'
    exact ⟨_, rfl, go_of (s := { s with heap := h', toks := s.toks + 1 }) e c d (by decide) ⟨.str ⟨#[x.cps[i]]⟩, H, I1, ⟨_, rfl⟩, ⟨rfl, _, by simp [hg], rfl⟩, st', fun b hb => (hf b hb).1⟩⟩
  done := by
    intro X hP hw hK hc i pins s σ H E I hf st hg
    subst hP hw hK
    have hg : x.cps.size ≤ i := hg
    obtain ⟨f0, f1, f2, f3, f4, f5⟩ := hf it (by simp)
    exact wpAny_pyNext_ascii_end (I.ok.hd hc) st (by simp [hg]) fun h' eb => ⟨rfl, I.turned (t' := s.toks) (fun b o hb e => eb b o hb e) f0 f1 f3 f4 f5⟩
  self := fun _ _ _ _ _ st h => wpAny_pyIter_striter_ascii st h
def iStr (te : TE) : TI := fun σ H R => te σ H fun v H1 => ∃ x, v = .str x ∧ x.cps.all (· < 128) = true ∧ R (Its x) H1
theorem pi_str {tg e : Expr} {te : TE} (he : PE X e te) : PI X tg e (iStr te) := by
  intro pins s σ H R I h
  refine thn (he pins s σ H _ I h) fun v s1 ⟨y, H1, I1, r1, x, e, hx, q⟩ => ?_
  subst e
  obtain ⟨t, rfl⟩ := r1
  refine wpAny_pyIter_ascii hx ?_
  refine ⟨s1.heap.objs.size, [s1.heap.objs.size], _, _, H1, rfl, I1.kept (t' := s1.toks) fun b o e => Heap.get?_push_of_some _ e, turn_str x t _, ⟨_, Heap.get?_push_size _ rfl, rfl, rfl⟩, fun b hb => ?_, q⟩
  have e : b = s1.heap.objs.size := by simpa using hb
  subst e
  exact I1.fpOk (Nat.le_refl _) (I1.hok.fresh (Nat.le_refl _))
theorem call_isinst : CallR X (.builtin "isinstance") (fun xs H Q => ∃ x n t b, xs = [x, .ty n] ∧ TyOf X.K H x t ∧ PySem.W.kitOne X.K t (.type n) = some b ∧ Q (.bl b) H) := by
  intro pins s σ H xs us Q I r h
  obtain ⟨x, n, t, b, rfl, ty, e, q⟩ := h
  obtain ⟨u, w', rfl, ru, rw'⟩ := vals2 r
  cases rw'
  exact isinst_ok I ru ty e fun tk => ⟨.bl b, H, I.tok _, rfl, q⟩
theorem kit_same (K : PySem.W.Frag) (n : String) : PySem.W.kitOne K (.type n) (.type n) = some true := by
  unfold PySem.W.kitOne
  rw [if_pos (by simp)]
def tBMT (r : V → List V → Hp → VK → Prop) (to : TE) (t : TA) : TE := fun σ H Q => to σ H fun x H1 => (∃ p xs, x = .ref p ∧ H1 p = some (.tup xs)) ∧ t σ H1 fun xs H2 => r x xs H2 Q
theorem pe_bmT {o e : Expr} {es : List Expr} {to : TE} {t : TA} {name : Str} {apos cpos : Pos} {id : String} {r : V → List V → Hp → VK → Prop} (slot : Slot "tuple" name id) (hty : typeOf (.builtin id) = pure (.type "method_descriptor")) (hm : MtR X id r) (ho : PE X o to) (ha : PA X (e :: es) t)
    (hbase : attributeBase o name X.env (eval o X.env) = eval o X.env := by rfl)
    (hfew : ((backTo cpos (starEach (e :: es) X.env)).all (fun x => !x.1) && (backToKw cpos (keywordEach [] X.env)).all (fun x => x.1.isSome) && decide ((e :: es).length + ([] : List Keyword).length + (if ([] : List Keyword).isEmpty then 0 else 1) < 30)) = true := by rfl)
    (hline : (apos.endLine == cpos.line) = true := by rfl) (hs : starEach (e :: es) X.env = (false, eval e X.env) :: starEach es X.env := by rfl) (hplain : (backTo cpos (starEach es X.env)).any (·.1) = false := by rfl) : PE X (.Call (.Attribute o name apos) (e :: es) [] cpos) (tBMT r to t) := by
  intro pins s σ H Q I h
  refine wpAny_Call_method_late hbase hfew hline rfl (thn (ho pins s σ H _ I h) fun v s1 ⟨x, H1, I1, r1, ⟨p, xs, e1, e2⟩, q1⟩ => ?_)
  subst e1
  cases r1
  obtain ⟨⟨_, nd⟩, its, rv, ob, g1, g2, g3⟩ : (xs.length ≤ sizeLine ∧ NoD s1.heap p) ∧ ∃ its : List Value, Vals xs its ∧ IsTup s1.heap p its.toArray := I1.hok p _ e2
  refine ⟨"tuple", id, PySem.F.plainAttrs_tuple, slot, hty, ⟨ob, g1, g2⟩, fun a ea => ?_, ?_⟩
  · cases ea
    exact ⟨ob, g1, nd ob g1⟩
  have hA := ha cpos pins s1 σ H1 _ I1 q1
  rw [hs] at hA ⊢
  refine Calls.callWith_builtin (by show (false || (backTo cpos (starEach es X.env)).any (·.1)) = false; rw [hplain] <;> rfl) (Calls.evalArgs_plain ?_)
  exact thn hA fun us s2 ⟨vs, H2, I2, r2, q2⟩ => hm pins s2 σ H2 (.ref p) vs (.ref p) us Q I2 rfl r2 q2
def rIndexTt : V → List V → Hp → VK → Prop := fun x vs H Q => ∃ p y xs t ts j, x = .ref p ∧ vs = [y] ∧ H p = some (.tup xs) ∧ Dp H t y ∧ DpL H ts xs ∧ (∀ t ∈ ts, Lv 6 t) ∧ ts[j]? = some t ∧ (∀ m, m < j → ts[m]? ≠ some t) ∧ Q (.int (j : Nat)) H
theorem mt_indexTt (hu : X.A.units + 10 < cLine) : MtM X "tuple.index" rIndexTt := by
  intro pins s σ H x vs v us Q I rx rv h
  obtain ⟨p, y, xs, t, ts, j, rfl, rfl, hH, dy, dl, lv, hj, hno, q⟩ := h
  cases rx
  obtain ⟨u, rfl, ru⟩ := rv.one
  obtain ⟨⟨z, nd⟩, its, r, ob, g1, g2, n, g3⟩ : (xs.length ≤ sizeLine ∧ NoD s.heap p) ∧ ∃ its : List Value, Vals xs its ∧ IsTup s.heap p its.toArray := I.hok p _ hH
  have hl := r.length
  have hjl : j < its.toArray.size := by
    have := (List.getElem?_eq_some_iff.mp hj).1
    rw [List.size_toArray, ← hl, dl.length]
    exact this
  have at_ : ∀ (m : Nat) (hm : m < its.toArray.size) (t' : T), ts[m]? = some t' → isT H t its.toArray[m] = dcd (t' = t) := fun m hm t' e' => by
    obtain ⟨x', f, g⟩ := dl.get e'
    obtain ⟨w, k, m'⟩ := r.get f
    have : its.toArray[m] = w := by
      have z : its.toArray[m]? = some w := by simpa using k
      rw [Array.getElem?_eq_getElem hm] at z
      exact Option.some.inj z
    rw [this]
    exact isT_of m' g
  obtain ⟨oc, od, odt, osl⟩ := ob
  simp only at g2 g3
  subst g2 g3
  refine call_meets F.slot_tuple_index ⟨_, g1, rfl⟩ F.entry_tuple_index (F.args_tuple_index_2 _ _) (tupIndex p its.toArray n od osl u (isT H t) j hjl ?_ ?_) ⟨g1, ?_, ?_⟩
  · rw [at_ j hjl t hj]
    exact dcd_t rfl
  · intro m hm hlt
    have hm' : m < ts.length := by
      rw [List.size_toArray, ← hl, dl.length] at hm
      exact hm
    rw [at_ m hm _ (List.getElem?_eq_getElem hm')]
    refine dcd_f fun h => hno m hlt ?_
    rw [List.getElem?_eq_getElem hm', h]
  · intro w hw
    obtain ⟨t', m, v', r', d'⟩ := items_T dl r w (by simpa using hw)
    rw [isT_of r' d']
    exact eqAt_T I 6 _ t' t v' y w u (lv t' m) (by show X.A.units + 1 + 6 < cLine; omega) d' dy r' ru
  · exact ⟨.int j, H, I.tok _, ⟨_, rfl⟩, q⟩
end
end L2
end
section
set_option autoImplicit false
namespace L2
open PySem PySem.Spec PyProof.Rows
structure Flies (P : Program) (w : World) (outer : List Env) (H : Hp) (s : Shared) (e : Addr) (cls : Value) (H' : Hp) (B : Heap) (a0 : Value) (s' : Shared) : Prop where
  os : s'.os = s.os
  bare : AllBare s'.gens
  un : Un (frs outer) [] H H' s.heap s'.heap
  hok : HOk P w H' s'.heap
  fl : Heap.FlyingW B outer e cls a0 s'.heap
  covH : ∀ b, H' b ≠ none → ∃ o, B.get? b = some o
  covS : ∀ b o, s.heap.get? b = some o → b ∉ frs outer → ∃ o, B.get? b = some o
end L2
end
section
set_option autoImplicit false
namespace L2
open PySem PySem.Spec PyProof.Rows
structure XIn (K : PySem.W.Frag) (C : Addr) : Prop where
  ga : PySem.W.findIn K (.ref C) "__getattribute__" = some (some (.builtin "BaseException.__getattribute__"))
  hk : PySem.W.findIn K (.ref C) "__getattr__" = some none
  ca : PySem.W.findIn K (.ref C) "__class__" = some (some (.builtin "object.__class__"))
  gt : PySem.W.specialIn K (.builtin "object.__class__") "__get__" = some (some (.builtin "getset_descriptor.__get__"))
  tk : PySem.W.takesIn K (.builtin "object.__class__") = some true
  ob : PySem.W.mroIn K C (.type "object") = some true
  be : PySem.W.mroIn K C (.type "BaseException") = some true
  cl : (PySem.W.clsIn K C).isSome = true
section
open Builtin Builtin.ObjectAttr Builtin.Getset_descriptor PySem.W
variable {prog : Program} {w : World} {K : PySem.W.Frag} {ea C : Addr}
end
end L2
end
section
set_option autoImplicit false
namespace L2
open PySem PySem.Spec PyProof.Rows
structure XCls (K : PySem.W.Frag) (mg : Str → Option Value) (x : Str) (C : Addr) : Prop where
  m : mg x = some (.ref C)
  ex : PySem.W.excIn K C [.type "ValueError", .type "Exception", .type "BaseException", .type "object"] "ValueError.__new__" = true
  i : XIn K C
end L2
end
section
set_option autoImplicit false
namespace L2
open PySem PySem.Spec PyProof.Rows
structure Fnd (K : PySem.W.Frag) (mg : Str → Option Value) (x : Str) (st : Stmt) (ps : List Str) (f : Addr) (fd : FuncData) : Prop where
  fn : Fun K x x st f fd
  b : Binds K fd ps []
  m : mg x = some (.ref f)
theorem pe_callF {X : Cx} {x : Str} {st : Stmt} {ps : List Str} {f : Addr} {fd : FuncData} {k : Nat} {sp : Sp} {e : Expr} {es : List Expr} {t : TA} {p pos : Pos} (D : Fnd X.K X.mg x st ps f fd) (G : FnOk X.prog X.w X.K X.mg X.base CX0 k f fd ps sp) (hr : Room k X.A) (hg : Gl X x) (ha : PA X (e :: es) t)
    (hdb : (x == ("__debug__" : Str)) = false := by decide) (he : starEach (e :: es) X.env = (false, eval e X.env) :: starEach es X.env := by rfl) (hpl : (backTo pos (starEach es X.env)).any (·.1) = false := by rfl) : PE X (.Call (.Name x p) (e :: es) [] pos) (tCall sp [] E0 t) :=
  pe_call G hr hg D.m D.fn.kp D.b .nil pass0 ha hdb he hpl
theorem bt_len : bootBuiltins "len" = some (.builtin "len") := by decide +kernel
theorem bt_isinstance : bootBuiltins "isinstance" = some (.builtin "isinstance") := by decide +kernel
theorem bt_int : bootBuiltins "int" = some (.type "int") := by decide +kernel
theorem bt_bool : bootBuiltins "bool" = some (.type "bool") := by decide +kernel
theorem bt_str : bootBuiltins "str" = some (.type "str") := by decide +kernel
theorem bt_tuple : bootBuiltins "tuple" = some (.type "tuple") := by decide +kernel
theorem bt_abs : bootBuiltins "abs" = some (.builtin "abs") := by decide +kernel
theorem bt_all : bootBuiltins "all" = some (.builtin "all") := by decide +kernel
def tJoin (t u : TS) : TS := fun D σ H => ∃ M : St → Hp → Prop, t { D with nx := M } σ H ∧ ∀ σ' H', M σ' H' → u D σ' H'
theorem pss_join {X : Cx} {st : Stmt} {rest : List Stmt} {t u : TS} (h1 : PS X st t) (h2 : PSs X rest u) : PSs X (st :: rest) (tJoin t u) := by
  intro pins s σ H D I h
  obtain ⟨M, h, hM⟩ := h
  refine wpAny_execs_cons (thn (h1 pins s σ H _ I h) fun f s1 q => ?_)
  cases f with
  | next =>
    obtain ⟨σ1, H1, I1, m1⟩ := q
    exact h2 pins s1 σ1 H1 D I1 (hM σ1 H1 m1)
  | brk => exact q
  | cont => exact q
  | ret u => exact q
def Off (p : Addr) (H H' : Hp) : Prop := ∀ b o, b ≠ p → H b = some o → H' b = some o
theorem Off.trans {p : Addr} {H H1 H2 : Hp} (a : Off p H H1) (b : Off p H1 H2) : Off p H H2 := fun c o n e => b c o n (a c o n e)
theorem Off.upd {p : Addr} {H : Hp} {o : HO} : Off p H (upd H p o) := fun c u n e => by rw [upd_ne n]; exact e
theorem Off.new {p q : Addr} {H : Hp} {o : HO} (h : H q = none) : Off p H (L2.upd H q o) := fun c u _ e => by rw [upd_ne (ne_of_none e h)]; exact e
theorem Same.off {p : Addr} {H H' : Hp} (h : Same H H') : Off p H H' := fun c u _ e => h c u e
theorem Same.new {q : Addr} {H : Hp} {o : HO} (h : H q = none) : Same H (upd H q o) := fun c u e => by rw [upd_ne (ne_of_none e h)]; exact e
theorem atI_in {α : Type} {xs : List α} {i : Int} (h0 : 0 ≤ i) (h1 : i < xs.length) : ∃ v, atI xs i = some v ∧ v ∈ xs ∧ xs[i.toNat]? = some v := by
  have h : i.toNat < xs.length := by omega
  refine ⟨xs[i.toNat], ?_, List.getElem_mem h, List.getElem?_eq_getElem h⟩
  have := atI_nat (xs := xs) (j := i.toNat) (v := xs[i.toNat]) (List.getElem?_eq_getElem h)
  rw [Int.toNat_of_nonneg h0] at this
  exact this
theorem atI_strs {ns : List Str} {i : Int} (h0 : 0 ≤ i) (h1 : i < ns.length) : ∃ x, atI (ns.map V.str) i = some (.str x) ∧ x ∈ ns ∧ ns[i.toNat]? = some x := by
  obtain ⟨v, e, m, g⟩ := atI_in (xs := ns.map V.str) h0 (by rw [List.length_map]; exact h1)
  rw [List.getElem?_map] at g
  cases q : ns[i.toNat]? with
  | none => rw [q] at g; cases g
  | some x =>
    rw [q] at g
    cases g
    exact ⟨x, e, List.mem_of_getElem? q, rfl⟩
theorem strs_ne {as : List Str} {a b c : Int} : ¬ HO.lst [.int a, .int b, .int c] = HO.lst (as.map V.str) := by
  intro h
  cases as with
  | nil => cases h
  | cons x r =>
    injection h with h
    injection h with h
    cases h
theorem inV_strs {x : Str} {ns : List Str} : inV (.str x) (ns.map V.str) = decide (x ∈ ns) := by
  unfold inV
  rw [List.any_map]
  apply Bool.eq_iff_iff.mpr
  rw [List.any_eq_true, decide_eq_true_iff]
  constructor
  · rintro ⟨y, hy, e⟩
    have : (y == x) = true := e
    rw [beq_iff_eq] at this
    rw [← this]
    exact hy
  · intro h
    exact ⟨x, h, by show (x == x) = true; simp⟩
theorem flat_strs (ns : List Str) : (ns.map V.str).all flatV = true := by
  rw [List.all_map, List.all_eq_true]
  exact fun _ _ => rfl
def strsOf : List Expr → Option (List Str)
  | [] => some []
  | .Constant (.str x) _ _ :: r => (strsOf r).map (x :: ·)
  | _ => none
theorem pa_strs {X : Cx} : ∀ {es : List Expr} (ns : List Str), strsOf es = some ns → PA X es (fun _ H Q => Q (ns.map V.str) H)
  | [], ns, h => by
    have e : ns = [] := by
      unfold strsOf at h
      exact (Option.some.inj h).symm
    subst e
    exact pa_nil
  | e :: es, ns, h => by
    cases e with
    | Constant c j pos =>
      cases c with
      | str x =>
        unfold strsOf at h
        cases q : strsOf es with
        | none => rw [q] at h; cases h
        | some ms =>
          rw [q] at h
          have e : ns = x :: ms := (Option.some.inj h).symm
          subst e
          exact pa_cons pe_str (pa_strs ms q)
      | _ => unfold strsOf at h; cases h
    | _ => unfold strsOf at h; cases h
theorem op_notIn_K {X : Cx} {K : PySem.W.Frag} (h : X.K = K) : OpR X (compareOp .NotIn) (rIn K true) := by subst h; exact op_notIn_seq
theorem ix_list_K {X : Cx} {K : PySem.W.Frag} (h : X.K = K) : IxR X (rIxL K) := by subst h; exact ix_list
theorem ix_tup_K {X : Cx} {K : PySem.W.Frag} (h : X.K = K) : IxR X (rIxT K) := by subst h; exact ix_tup
theorem sl_list_K {X : Cx} {K : PySem.W.Frag} (h : X.K = K) : SlR X (rSlL K) := by subst h; exact sl_list
theorem pg_tup_K {X : Cx} {K : PySem.W.Frag} {es : List Expr} {k : Nat} {t : TGs} {n : Nat} {pos : Pos} (hk : X.K = K) (hc : X.calm = true) (h : PGs X es t) (hn : (assignEach es X.env).length = n := by rfl) (hst : (assignEach es X.env).findIdx? (·.1) = none := by rfl) :
    PG X (.Tuple es k pos) (gTup K n t) := by subst hk; exact pg_tup hc h hn hst
def okF (scope : Scope) (N0 N own : List Str) (fr : List Nat) (j : Nat) : Bool := match fr[j]? with
  | none => false
  | some i => match N[own.length + j]?, N0[i]? with
    | some x, some y => (x == y) && (scope.names.lookup x == some .free)
    | _, _ => false
def CSc (scX : Scope) (N0 : List Str) (scope : Scope) (own : List Str) (fr : List Nat) (N : List Str) : Prop :=
  scope.kind = .function ∧ (scope.names.map (·.1)).Nodup ∧ (∀ y ∈ scope.names, y.2 = .local → scope.names.lookup y.1 = some .local) ∧ (∀ y ∈ scope.names, y.2 = .free → scX.names.lookup y.1 = some .cell ∨ scX.names.lookup y.1 = some .free) ∧
    N.length = own.length + fr.length ∧ (∀ j ∈ List.range fr.length, okF scope N0 N own fr j = true) ∧ N.take own.length = own
instance (scX : Scope) (N0 : List Str) (scope : Scope) (own : List Str) (fr : List Nat) (N : List Str) : Decidable (CSc scX N0 scope own fr N) := by
  unfold CSc
  infer_instance
theorem CompScope.of {X : Cx} {scope : Scope} (own : List Str) (fr : List Nat) (N : List Str) (scX : Scope) (N0 : List Str) (hsc : X.env.scope = scX) (hN : X.N = N0) (h : CSc scX N0 scope own fr N) : CompScope X scope own fr N where
  kind := h.1
  nodup := h.2.1
  names := h.2.2.1
  free := fun y hy e => by
    show X.env.scope.names.lookup y.1 = _ ∨ X.env.scope.names.lookup y.1 = _
    rw [hsc]
    exact h.2.2.2.1 y hy e
  len := h.2.2.2.2.1
  isfr := fun j i e => by
    have hj : j < fr.length := (List.getElem?_eq_some_iff.mp e).1
    have q := h.2.2.2.2.2.1 j (List.mem_range.mpr hj)
    unfold okF at q
    rw [e] at q
    simp only at q
    cases e1 : N[own.length + j]? with
    | none => rw [e1] at q; simp at q
    | some x =>
      cases e2 : N0[i]? with
      | none => rw [e1, e2] at q; simp at q
      | some y =>
        rw [e1, e2] at q
        simp only [Bool.and_eq_true, beq_iff_eq] at q
        exact ⟨x, rfl, by rw [hN, e2, q.1], q.2⟩
  frs := fun j x e hj => by
    rw [← h.2.2.2.2.2.2, List.getElem?_take_of_lt hj]
    exact e
end L2
end
section
set_option autoImplicit false
namespace L2
open PySem PySem.Spec PyProof.Rows
section
variable {X : Cx} {pins : List (Addr × Obj)} {σ : St} {H : Hp} {s : Shared}
abbrev Cx.suite (X : Cx) (ea : Addr) : Cx := { X with A := X.A.mark (some (.ref ea)), calm := false, xe := fun _ _ => False }
end
def XP (X : Cx) (pins : List (Addr × Obj)) (σ : St) (E : XK) (e : Value) (s' : Shared) : Prop := ∃ ea C H s H' B a0, e = .ref ea ∧ Inv X pins σ H s ∧ Flies X.prog X.w X.stack H s ea (.ref C) H' B a0 s' ∧ E (.ref C) none H'
end L2
end
section
set_option autoImplicit false
namespace L2
open PySem PySem.Spec PyProof.Rows
structure RoomS (k : Nat) (A : Around) : Prop where
  dp : A.depth + 3 * k + 5 < recursionLimit
  un : A.units + 16 * k + 200 < cLine
structure FnOkS (P : Program) (w : World) (K : PySem.W.Frag) (mg : Str → Option Value) (base : Heap) (k : Nat) (f : Addr) (fd : FuncData) (ps : List Str) (sp : Sp) : Prop where
  len : ∀ vs H Q E, sp vs H Q E → vs.length = ps.length
  run : ∀ (A : Around) (outer : List Env) (s : Shared) (H : Hp) (args : Args) (us : List Value) (vs : List V) (Q : VK), RoomS k A → Env0 P w K mg base A outer s H → BindsTo s fd args (ps.zip us) → Vals vs us → sp vs H Q E0 →
    codeAny (model P w) A (.call (.ref f) args) (CR CX0 outer P w H s Q E0) s
end L2
end
section
set_option autoImplicit false
namespace L2
open PySem PySem.Spec PyProof.Rows
def CDivL (_ j : Int) : Prop := 0 < j ∧ j < 1606938044258990275541962092341162602522202993782792835301376
theorem op_fdivL {X : Cx} : OpR X (binaryOp .FloorDiv) (rI CDivL fun i j => .int (i / j)) := opI fun i j _ _ _ _ _ hc q => by
  have h1 : (0 : Int) < j := hc.1
  have h2 : j < 1606938044258990275541962092341162602522202993782792835301376 := hc.2
  refine floordiv_int (by omega) (by rw [Int.fdiv_eq_ediv_of_nonneg i (by omega)]; exact q) (.inl (PyProof.noPylong_of_log2 ?_))
  have h3 : j.natAbs ≠ 0 := by omega
  have h4 : j.natAbs < 2 ^ 200 := by
    have e : (2 : Nat) ^ 200 = 1606938044258990275541962092341162602522202993782792835301376 := by decide +kernel
    rw [e]
    omega
  exact Nat.lt_trans ((Nat.log2_lt h3).mpr h4) (by decide)
def rCatT0 : R2 := fun x y H Q => ∃ (a b : Addr) (ys : List V), x = .ref a ∧ y = .ref b ∧ H a = some (.tup []) ∧ H b = some (.tup ys) ∧ Q (.ref b) H
theorem op_catT0 {X : Cx} : OpR X (binaryOp .Add) rCatT0 := by
  intro pins s σ H x y v u Q I rx ry h
  obtain ⟨a, b, ys, rfl, rfl, ha, hb, q⟩ := h
  cases rx
  cases ry
  obtain ⟨its, r, p⟩ := tup_at I ha
  obtain ⟨its2, r2, p2⟩ := tup_at I hb
  have e0 : its = [] := r.nil_iff.mpr rfl
  subst e0
  obtain ⟨⟨cls, dd, data, sl⟩, ho, hc, n, hd⟩ := id p
  obtain ⟨⟨cls2, dd2, data2, sl2⟩, ho2, hc2, n2, hd2⟩ := id p2
  simp only at hc hd hc2 hd2
  subst hc hd hc2 hd2
  exact concat_meets ⟨_, ho, rfl⟩ ⟨_, ho2, rfl⟩ noFill_tuple_add seq_tuple_add PySem.F.slot_tuple_add PySem.F.entry_tuple_add (PySem.F.args_tuple_add_2 _ _) (tuple_addW0 a b [].toArray its2.toArray n n2 dd dd2 sl sl2 rfl) ⟨ho, ho2, ⟨.ref b, H, I, rfl, q⟩⟩
end L2
end
section
set_option autoImplicit false
namespace L2
open PySem PySem.Spec PyProof.Rows
section
variable {X : Cx} {pins : List (Addr × Obj)} {σ : St} {H : Hp} {s : Shared} {d : Addr} {u u' : HO}
theorem Inv.swap (I : Inv X pins σ H s) (e : H d = some u) (h1 : ∀ xs, u ≠ .tup xs) (h2 : ∀ o v, X.H₀ d ≠ some (.frz o v)) (h3 : ∀ ps, u ≠ .tbl ps) (h4 : ∀ y, u ≠ .own y) (new : ObjOk X.prog X.w (upd H d u') s.heap d u') : Inv X pins σ (upd H d u') s := by
  have nd : ∀ b, H b = none → b ≠ d := fun b h z => by rw [z, e] at h; cases h
  refine ⟨I.ok, I.os, I.bare, ⟨I.base.keep, I.base.slot, fun b o q n nx => ?_, I.base.there, fun b xs q => ?_, fun b o v q => ?_, fun b ps q => ?_⟩, I.loc, I.cell, ?_, fun x c q => ?_, fun p hp => ?_, fun b o q => ?_, I.len⟩
  · have := I.base.free b o q n nx
    rw [upd_ne (nd b this)]
    exact this
  · have := I.base.tups b xs q
    rw [upd_ne (fun z => by rw [z, e] at this; exact h1 xs (Option.some.inj this))]
    exact this
  · have := I.base.frzs b o v q
    rw [upd_ne (fun z => by rw [z] at q; exact h2 o v q)]
    exact this
  · obtain ⟨more, this⟩ := I.base.tbls b ps q
    exact ⟨more, by rw [upd_ne (fun z => by rw [z, e] at this; exact h3 _ (Option.some.inj this))]; exact this⟩
  · rw [upd_ne (nd _ I.free)]
    exact I.free
  · rw [upd_ne (nd _ (I.freeC x c q))]
    exact I.freeC x c q
  · obtain ⟨q1, q2, q3, q4, q5⟩ := I.pin p hp
    exact ⟨q1, by rw [upd_ne (nd _ q2)]; exact q2, q3, q4, q5⟩
  · by_cases hb : b = d
    · subst hb
      rw [upd_same] at q
      cases q
      exact new
    · rw [upd_ne hb] at q
      refine (I.hok b o q).stay (fun _ _ _ z => z) (fun c z => ?_) fun c xs z => ?_
      · rw [upd_ne (fun w => by rw [w, e] at z; exact h4 _ (Option.some.inj z))]
        exact z
      · rw [upd_ne (fun w => by rw [w, e] at z; exact h1 _ (Option.some.inj z))]
        exact z
end
theorem paired_get {α β : Type} {F : α → β → Prop} : ∀ {l₁ : List α} {l₂ : List β}, Paired F l₁ l₂ → ∀ (i : Nat) (h1 : i < l₁.length) (h2 : i < l₂.length), F l₁[i] l₂[i]
  | _, _, .nil, i, h1, _ => by simp at h1
  | _, _, .cons r t, 0, _, _ => r
  | _, _, .cons r t, i + 1, h1, h2 => paired_get t i (by simpa using h1) (by simpa using h2)
end L2
end
section
set_option autoImplicit false
namespace L2
open PySem PySem.Spec PyProof.Rows PySem.W
section
variable {n : Nat} (h0 : 0 < n)
include h0
end
section
variable {prog : Program} {w : World} {A : Around} {E : Value → Shared → Prop} {s : Shared}
structure Cmps (prog : Program) (w : World) (A : Around) (κ : SortKind) (vs : List Value) (h : Heap) : Prop where
  kind : ∀ (s' : Shared) (Q : SortKind → Shared → Prop) (E : Value → Shared → Prop), (∀ b o, h.get? b = some o → s'.heap.get? b = some o) → Q κ s' → wpAny (model prog w) A (keyKind' vs.toArray) Q E s'
  lt : ∀ x ∈ vs, ∀ y ∈ vs, ∀ (s' : Shared) (C : Bool → Shared → Prop), (∀ b o, h.get? b = some o → s'.heap.get? b = some o) → (∀ b, C b s') → wpAny (model prog w) A (keyLt' κ x y) C (fun _ _ => False) s'
end
end L2
end
section
set_option autoImplicit false
namespace L2
open PySem PyProof.Rows
theorem comp_by {J : It} {n own : Nat} {fr : List Nat} {g : TG} {tc : TT} {te : TE} {σ : St} {Q : VK} {D : Addr} {H0 : Hp} (Pv : Nat → List V → Hp → Prop) (h0 : Pv 0 [] H0) (stop : ∀ ys H, Pv n ys H → J.stop n H ∧ Q (.ref D) H)
    (go : ∀ i ys H, i < n → Pv i ys H → J.go i H ∧ ∀ x H', J.yld i H x H' → ∀ σo : St, σo.length = own → g x (σo ++ frv σ fr) H' fun σ2 H2 => (∃ σo' : St, σo'.length = own ∧ σ2 = σo' ++ frv σ fr) ∧
      tc σ2 H2 fun b H3 => if b = true then te σ2 H3 fun y H4 => ys.length < sizeLine ∧ H4 D = some (.lst ys) ∧ ∃ m', m' < n - i ∧ (m' = n - (i + 1) ∧ i + 1 ≤ n ∧ Pv (i + 1) (ys ++ [y]) (upd H4 D (.lst (ys ++ [y])))) else ∃ m', m' < n - i ∧ (m' = n - (i + 1) ∧ i + 1 ≤ n ∧ Pv (i + 1) ys H3)) :
    CompB own fr g tc te σ Q J D H0 := by
  refine ⟨fun i m ys H => m = n - i ∧ i ≤ n ∧ Pv i ys H, ⟨n, by simp, Nat.zero_le _, h0⟩, ?_⟩
  rintro i m ys H ⟨rfl, hi, p⟩
  by_cases hlt : i < n
  · exact .inr (go i ys H hlt p)
  · have e : i = n := by omega
    subst e
    exact .inl (stop ys H p)
theorem less_by {n i : Nat} (h : i < n) {P : Prop} (p : P) : ∃ m', m' < n - i ∧ (m' = n - (i + 1) ∧ i + 1 ≤ n ∧ P) := ⟨n - (i + 1), by omega, rfl, h, p⟩
theorem own1 {σo : St} (h : σo.length = 1) : ∃ o, σo = [o] := by
  cases σo with
  | nil => cases h
  | cons o r =>
    cases r with
    | nil => exact ⟨o, rfl⟩
    | cons _ _ => cases h
theorem own2 {σo : St} (h : σo.length = 2) : ∃ o o', σo = [o, o'] := by
  cases σo with
  | nil => cases h
  | cons o r =>
    cases r with
    | nil => cases h
    | cons o' r =>
      cases r with
      | nil => exact ⟨o, o', rfl⟩
      | cons _ _ => cases h
theorem nodup_map {α β : Type} {f : α → β} : ∀ {l : List α}, (∀ a ∈ l, ∀ b ∈ l, f a = f b → a = b) → l.Nodup → (l.map f).Nodup
  | [], _, _ => List.nodup_nil
  | a :: r, hi, hn => by
    obtain ⟨h1, h2⟩ := List.nodup_cons.mp hn
    rw [List.map_cons]
    refine List.nodup_cons.mpr ⟨fun m => ?_, nodup_map (fun x hx y hy => hi x (List.mem_cons_of_mem _ hx) y (List.mem_cons_of_mem _ hy)) h2⟩
    obtain ⟨b, hb, e⟩ := List.mem_map.mp m
    exact h1 (hi b (List.mem_cons_of_mem _ hb) a List.mem_cons_self e ▸ hb)
theorem nodup_le {α : Type} [DecidableEq α] : ∀ {l m : List α}, l.Nodup → (∀ x ∈ l, x ∈ m) → l.length ≤ m.length
  | [], _, _, _ => Nat.zero_le _
  | a :: r, m, hn, hs => by
    obtain ⟨h1, h2⟩ := List.nodup_cons.mp hn
    have hm : a ∈ m := hs a List.mem_cons_self
    have := nodup_le (l := r) (m := m.erase a) h2 fun x hx => by
      have ne : x ≠ a := fun e => h1 (e ▸ hx)
      exact (List.mem_erase_of_ne ne).mpr (hs x (List.mem_cons_of_mem _ hx))
    have e := List.length_erase_of_mem hm
    have p : 0 < m.length := List.length_pos_of_mem hm
    rw [List.length_cons]
    omega
theorem hu10 {A : Around} {k : Nat} (hr : Room k A) : A.units + 10 < cLine := by
  have := hr.units
  omega
def Pu (H : Hp) (p : Addr) : Prop := ∃ a b c : Int, H p = some (.lst [.int a, .int b, .int c])
theorem Pu.ne {H : Hp} {p u : Addr} {us : List Str} (h : Pu H p) (g : H u = some (.lst (us.map V.str))) : u ≠ p := by
  obtain ⟨a, b, c, e⟩ := h
  exact (ne_of e g strs_ne).symm
theorem Pu.upd {H : Hp} {p : Addr} {a b c : Int} : Pu (upd H p (.lst [.int a, .int b, .int c])) p := ⟨a, b, c, upd_same⟩
theorem Pu.same {H H' : Hp} {p : Addr} (h : Pu H p) (s : Same H H') : Pu H' p := by
  obtain ⟨a, b, c, e⟩ := h
  exact ⟨a, b, c, s p _ e⟩
def abc : Str := "abcdefghijklmnopqrstuvwxyz"
def letters : List Str := abc.cps.toList.map fun c => ⟨#[c]⟩
theorem letters_len : letters.length = 26 := by decide +kernel
theorem abc_len : abc.cps.size = 26 := by decide +kernel
theorem letters_one : ∀ x ∈ letters, x.length = 1 := by
  intro x hx
  obtain ⟨c, _, rfl⟩ := List.mem_map.mp hx
  rfl
theorem letters_nodup : letters.Nodup := by decide +kernel
theorem str_app_inj {a b z : Str} (ha : a.length = 1) (hb : b.length = 1) (h : a ++ z = b ++ z) : a = b := by
  obtain ⟨⟨a⟩⟩ := a
  obtain ⟨⟨b⟩⟩ := b
  have h' : (a ++ z.cps.toList) = (b ++ z.cps.toList) := by
    have e : ∀ y : List Nat, ((⟨⟨y⟩⟩ : Str) ++ z).cps.toList = y ++ z.cps.toList := fun y => by
      show ((⟨y⟩ : Array Nat) ++ z.cps).toList = _
      rw [Array.toList_append]
    rw [← e, ← e, h]
  have := List.append_cancel_right h'
  rw [this]
theorem str_len_app (a b : Str) : (a ++ b).length = a.length + b.length := by
  show (a.cps ++ b.cps).size = _
  rw [Array.size_append]
  rfl
theorem some_letter {us : List Str} (h : us.length ≤ 25) (z : Str) : ∃ c ∈ letters, ¬ (c ++ z) ∈ us := by
  apply Classical.byContradiction
  intro hn
  have all : ∀ c ∈ letters, (c ++ z) ∈ us := fun c hc => Classical.byContradiction fun hx => hn ⟨c, hc, hx⟩
  have nd : (letters.map (· ++ z)).Nodup := by
    exact nodup_map (fun a ha b hb e => str_app_inj (letters_one a ha) (letters_one b hb) e) letters_nodup
  have := nodup_le nd fun x hx => by
    obtain ⟨c, hc, rfl⟩ := List.mem_map.mp hx
    exact all c hc
  rw [List.length_map, letters_len] at this
  omega
theorem slice_len (z : Str) (lo hi : Option Int) : (Txt.slice z lo hi).length ≤ z.length := Txt.slice_le z lo hi
end L2
end
section
set_option autoImplicit false
namespace L2
open PySem PySem.Spec PyProof.Rows
section
variable {X : Cx} {K : PySem.W.Frag}
theorem call_len_seqK (hK : X.K = K) : CallR X (.builtin "len") (fun xs H Q => ∃ p ys, xs = [.ref p] ∧ (SqL K H p ys ∨ SqT K H p ys) ∧ Q (.int ys.length) H) := by subst hK; exact call_len_seq
end
end L2
end
section
set_option autoImplicit false
namespace K21
open PySem L2
def top (i : Nat) : Stmt := PySem.Challenge.pw_warmrows_k21_whole_stories_and_shapes.main.body.getD i (.Pass ⟨0, 0, 0, 0⟩)
structure Adr where
  is_whole : Addr × FuncData
  is_shape : Addr × FuncData
  fields_at : Addr × FuncData
  story_of : Addr × FuncData
  shape_by : Addr × FuncData
  can_come : Addr × FuncData
  _law_cell : Addr × FuncData
  _law_purse : Addr × FuncData
  _law_take : Addr × FuncData
  _law_word : Addr × FuncData
  _law_words : Addr × FuncData
  _law_is_whole : Addr × FuncData
  _law_same : Addr × FuncData
  _law_fields : Addr × FuncData
  _law_story : Addr × FuncData
  _law_turns : Addr × FuncData
  _law_number : Addr × FuncData
  _law_walked : Addr × FuncData
  _law_again : Addr × FuncData
  law : Addr × FuncData
structure Defs (K : PySem.W.Frag) (mg : Str → Option Value) (t : Adr) : Prop where
  is_whole : Fnd K mg "is_whole" (top 5) ["thing"] t.is_whole.1 t.is_whole.2
  is_shape : Fnd K mg "is_shape" (top 7) ["shapes", "thing"] t.is_shape.1 t.is_shape.2
  fields_at : Fnd K mg "fields_at" (top 8) ["shapes", "number"] t.fields_at.1 t.fields_at.2
  story_of : Fnd K mg "story_of" (top 9) ["shapes", "number"] t.story_of.1 t.story_of.2
  shape_by : Fnd K mg "shape_by" (top 10) ["shapes", "number", "deed", "field"] t.shape_by.1 t.shape_by.2
  can_come : Fnd K mg "can_come" (top 11) ["fields", "deed", "field"] t.can_come.1 t.can_come.2
  _law_cell : Fnd K mg "_law_cell" (top 13) ["_law_script", "_law_k"] t._law_cell.1 t._law_cell.2
  _law_purse : Fnd K mg "_law_purse" (top 14) ["_law_cell_here"] t._law_purse.1 t._law_purse.2
  _law_take : Fnd K mg "_law_take" (top 15) ["_law_purse_here", "_law_many"] t._law_take.1 t._law_take.2
  _law_word : Fnd K mg "_law_word" (top 16) ["_law_purse_here", "_law_used"] t._law_word.1 t._law_word.2
  _law_words : Fnd K mg "_law_words" (top 17) ["_law_purse_here", "_law_many", "_law_used"] t._law_words.1 t._law_words.2
  _law_is_whole : Fnd K mg "_law_is_whole" (top 18) ["_law_thing"] t._law_is_whole.1 t._law_is_whole.2
  _law_same : Fnd K mg "_law_same" (top 19) ["_law_one", "_law_other"] t._law_same.1 t._law_same.2
  _law_fields : Fnd K mg "_law_fields" (top 20) ["_law_story_here"] t._law_fields.1 t._law_fields.2
  _law_story : Fnd K mg "_law_story" (top 21) ["_law_purse_here", "_law_names", "_law_elders"] t._law_story.1 t._law_story.2
  _law_turns : Fnd K mg "_law_turns" (top 22) ["_law_way", "_law_stories"] t._law_turns.1 t._law_turns.2
  _law_number : Fnd K mg "_law_number" (top 23) ["_law_told", "_law_shapes", "_law_known"] t._law_number.1 t._law_number.2
  _law_walked : Fnd K mg "_law_walked" (top 24) ["_law_shapes", "_law_number_here"] t._law_walked.1 t._law_walked.2
  _law_again : Fnd K mg "_law_again" (top 25) ["_law_shapes", "_law_story_here", "_law_numbers"] t._law_again.1 t._law_again.2
  law : Fnd K mg "law" (top 26) ["_law_script"] t.law.1 t.law.2
  b_abs : mg "abs" = none
  b_all : mg "all" = none
  b_bool : mg "bool" = none
  b_int : mg "int" = none
  b_isinstance : mg "isinstance" = none
  b_len : mg "len" = none
  b_range : mg "range" = none
  b_sorted : mg "sorted" = none
  b_str : mg "str" = none
  b_tuple : mg "tuple" = none
  b_zip : mg "zip" = none
theorem sc_is_whole : FnScope ["thing"] ["thing"] (defScope (top 5)) := ⟨rfl, rfl, rfl, by decide +kernel, rfl, by decide +kernel, by decide +kernel⟩
theorem sc_is_shape : FnScope ["shapes", "thing"] ["shapes", "thing"] (defScope (top 7)) := ⟨rfl, rfl, rfl, by decide +kernel, rfl, by decide +kernel, by decide +kernel⟩
theorem sc_fields_at : FnScope ["shapes", "number", "fields", "step"] ["shapes", "number"] (defScope (top 8)) := ⟨rfl, rfl, rfl, by decide +kernel, rfl, by decide +kernel, by decide +kernel⟩
theorem sc_story_of : FnScope ["shapes", "number", "story", "at"] ["shapes", "number"] (defScope (top 9)) := ⟨rfl, rfl, rfl, by decide +kernel, rfl, by decide +kernel, by decide +kernel⟩
theorem sc_shape_by : FnScope ["shapes", "number", "deed", "field", "fields", "step"] ["shapes", "number", "deed", "field"] (defScope (top 10)) := ⟨rfl, rfl, rfl, by decide +kernel, rfl, by decide +kernel, by decide +kernel⟩
theorem sc_can_come : FnScope ["fields", "deed", "field"] ["fields", "deed", "field"] (defScope (top 11)) := ⟨rfl, rfl, rfl, by decide +kernel, rfl, by decide +kernel, by decide +kernel⟩
theorem sc__law_cell : FnScope ["_law_script", "_law_k", "_law_state", "_law_cell_here"] ["_law_script", "_law_k"] (defScope (top 13)) := ⟨rfl, rfl, rfl, by decide +kernel, rfl, by decide +kernel, by decide +kernel⟩
theorem sc__law_purse : FnScope ["_law_cell_here", "_law_digits"] ["_law_cell_here"] (defScope (top 14)) := ⟨rfl, rfl, rfl, by decide +kernel, rfl, by decide +kernel, by decide +kernel⟩
theorem sc__law_take : FnScope ["_law_purse_here", "_law_many", "_law_state", "_law_taken"] ["_law_purse_here", "_law_many"] (defScope (top 15)) := ⟨rfl, rfl, rfl, by decide +kernel, rfl, by decide +kernel, by decide +kernel⟩
theorem sc__law_word : FnScope ["_law_purse_here", "_law_used", "_law_menu", "_law_word_here", "_law_k", "_law_first"] ["_law_purse_here", "_law_used"] (defScope (top 16)) := ⟨rfl, rfl, rfl, by decide +kernel, rfl, by decide +kernel, by decide +kernel⟩
theorem sc__law_words : FnScope ["_law_purse_here", "_law_many", "_law_used", "_law_words_here", "_law_k"] ["_law_purse_here", "_law_many", "_law_used"] (defScope (top 17)) := ⟨rfl, rfl, rfl, by decide +kernel, rfl, by decide +kernel, by decide +kernel⟩
theorem sc__law_is_whole : FnScope ["_law_thing"] ["_law_thing"] (defScope (top 18)) := ⟨rfl, rfl, rfl, by decide +kernel, rfl, by decide +kernel, by decide +kernel⟩
theorem sc__law_same : FnScope ["_law_one", "_law_other"] ["_law_one", "_law_other"] (defScope (top 19)) := ⟨rfl, rfl, rfl, by decide +kernel, rfl, by decide +kernel, by decide +kernel⟩
theorem sc__law_fields : FnScope ["_law_story_here", "_law_fields_here", "_law_deed", "_law_field"] ["_law_story_here"] (defScope (top 20)) := ⟨rfl, rfl, rfl, by decide +kernel, rfl, by decide +kernel, by decide +kernel⟩
theorem sc__law_story : FnScope ["_law_purse_here", "_law_names", "_law_elders", "_law_story_here", "_law_elder", "_law_k", "_law_field", "_law_deed"] ["_law_purse_here", "_law_names", "_law_elders"] (defScope (top 21)) := ⟨rfl, rfl, rfl, by decide +kernel, rfl, by decide +kernel, by decide +kernel⟩
theorem sc__law_turns : FnScope ["_law_way", "_law_stories", "_law_turns_here", "_law_k"] ["_law_way", "_law_stories"] (defScope (top 22)) := ⟨rfl, rfl, rfl, by decide +kernel, rfl, by decide +kernel, by decide +kernel⟩
theorem sc__law_number : FnScope ["_law_told", "_law_shapes", "_law_known"] ["_law_told", "_law_shapes", "_law_known"] (defScope (top 23)) := ⟨rfl, rfl, rfl, by decide +kernel, rfl, by decide +kernel, by decide +kernel⟩
theorem sc__law_walked : FnScope ["_law_shapes", "_law_number_here", "_law_story_here", "_law_k"] ["_law_shapes", "_law_number_here"] (defScope (top 24)) := ⟨rfl, rfl, rfl, by decide +kernel, rfl, by decide +kernel, by decide +kernel⟩
theorem sc__law_again : FnScope ["_law_shapes", "_law_story_here", "_law_numbers", "_law_at", "_law_k", "_law_told"] ["_law_shapes", "_law_story_here", "_law_numbers"] (defScope (top 25)) := ⟨rfl, rfl, rfl, by decide +kernel, rfl, by decide +kernel, by decide +kernel⟩
theorem sc_law : FnScope ["_law_script", "_law_head", "_law_way", "_law_many", "_law_names", "_law_stories", "_law_k", "_law_shapes", "_law_numbers", "_law_j", "_law_story_here", "_law_told", "_law_at"] ["_law_script"] (defScope (top 26)) := ⟨rfl, rfl, rfl, by decide +kernel, rfl, by decide +kernel, by decide +kernel⟩
end K21
end
section
set_option autoImplicit false
namespace L2
open PySem PyProof.Rows
def heldIn (rows : List (List Str)) (x : Str) : Bool := rows.any fun o => decide (x ∈ o.drop 1)
def freeOf (rows : List (List Str)) : List Str → List Str
  | [] => []
  | x :: _ => if heldIn rows x = true then [] else [x]
def frees (rows : List (List Str)) : List Str := rows.flatMap (freeOf rows)
def outOf (x : Str) (r : List Str) : List Str := r.filter fun y => decide (y ≠ x)
def full (rows : List (List Str)) : List (List Str) := rows.filter fun r => !r.isEmpty
inductive Mg : List (List Str) → Option (List Str) → Prop where
  | nil : Mg [] (some [])
  | stuck {rows : List (List Str)} : rows ≠ [] → frees rows = [] → Mg rows none
  | step {rows : List (List Str)} {x : Str} {more : List Str} {r : Option (List Str)} : frees rows = x :: more → Mg (full (rows.map (outOf x))) r → Mg rows (r.map (x :: ·))
theorem yes_by {σ : L2.St} {H : Hp} {A B : Hp → Prop} (h : A H) : tYes σ H (fun b H3 => if b = true then A H3 else B H3) := by
  show (if true = true then A H else B H)
  rw [if_pos rfl]
  exact h
end L2
end
section
set_option autoImplicit false
namespace K21
open PySem PyProof.Rows L2
section
variable {P : Program} {w : World} {K : PySem.W.Frag} {mg : Str → Option Value} {base : Heap} {t : Adr}
def spTake : Sp := fun vs H Q _ => ∃ (p : Addr) (n : Int), vs = [.ref p, .int n] ∧ Pu H p ∧ 0 < n ∧ n < 1606938044258990275541962092341162602522202993782792835301376 ∧ ∀ (r a b c : Int), 0 ≤ r → r < n → Q (.int r) (upd H p (.lst [.int a, .int b, .int c]))
theorem ok_take (D : Defs K mg t) : FnOk P w K mg base CX0 1 t._law_take.1 t._law_take.2 ["_law_purse_here", "_law_many"] spTake := by
  refine D._law_take.fn.ok sc__law_take (fun vs H Q E h => ?_) (fun cdv A outer s H vs Q E hr h => ?_)
  · obtain ⟨p, n, rfl, _⟩ := h
    rfl
  · obtain ⟨p, n, rfl, ⟨a, b, c, hp⟩, h0, h1, k⟩ := h
    refine ⟨_, (pss_cons (ps_asg (pe_op op_add (pe_ix ix_list (pv 0) pe_int (fun _ _ => rfl)) pe_int) (pg_sub (pv 0) pe_int set_list))
      (pss_cons (ps_set (i := 2) sc__law_take.nd rfl (Or.inl rfl) (pe_ix ix_list (pv 0) pe_int (fun _ _ => rfl)))
      (pss_cons (ps_asg (pe_op op_mod (pe_op op_add (pe_op op_mul (pv 2) (pe_op op_add (pe_op op_mod (pv 2) pe_int) pe_int)) (pe_op op_mul pe_int (pe_ix ix_list (pv 0) pe_int (fun _ _ => rfl)))) pe_int) (pg_sub (pv 0) pe_int set_list))
      (pss_cons (ps_if (pt_cmpR op_gt (pe_ix ix_list (pv 0) pe_int (fun _ _ => rfl)) pe_int (nomark _))
      (pss_cons (ps_set (i := 3) sc__law_take.nd rfl (Or.inl rfl) (pe_op op_mod (pe_ix ix_list (pv 0) pe_int (fun _ _ => rfl)) (pv 1)))
      (pss_cons (ps_asg (pe_op op_fdivL (pe_ix ix_list (pv 0) pe_int (fun _ _ => rfl)) (pv 1)) (pg_sub (pv 0) pe_int set_list))
      (pss_one (ps_ret (pv 3)))))
      pss_nil)
      (pss_one (ps_ret (pe_op op_mod (pe_op op_fdiv (pe_ix ix_list (pv 0) pe_int (fun _ _ => rfl)) pe_int) (pv 1)))))))), ?_⟩
    refine ⟨_, rfl, p, _, _, _, rfl, rfl, SqL.of hp, rfl, _, _, rfl, rfl, _, rfl, p, _, _, 2, rfl, rfl, hp, rfl, ?_⟩
    refine ⟨_, rfl, p, _, _, _, rfl, rfl, SqL.of upd_same, rfl, ?_⟩
    refine ⟨_, rfl, _, rfl, _, _, rfl, rfl, (by show (0 : Int) < 46337; decide), _, _, rfl, rfl, _, _, rfl, rfl, .inr ⟨?_, ?_⟩, _, rfl, p, _, _, _, rfl, rfl, SqL.of upd_same, rfl, _, _, rfl, rfl, .inl ⟨by decide, by decide⟩, _, _, rfl, rfl, _, _, rfl, rfl,
      (by show (0 : Int) < 2147483587; decide), _, rfl, p, _, _, 0, rfl, rfl, upd_same, rfl, ?_⟩
    · have := Int.emod_nonneg a (show (46337 : Int) ≠ 0 by decide)
      omega
    · have := Int.emod_lt_of_pos a (show (0 : Int) < 46337 by decide)
      omega
    rw [upd_upd]
    refine ⟨_, rfl, p, _, _, _, rfl, rfl, SqL.of upd_same, rfl, _, _, rfl, rfl, _, rfl, ite2 (fun hb => ?_) (fun hb => ?_)⟩
    · refine ⟨_, rfl, p, _, _, _, rfl, rfl, SqL.of upd_same, rfl, _, rfl, _, _, rfl, rfl, h0, _, rfl, p, _, _, _, rfl, rfl, SqL.of upd_same, rfl, _, rfl, _, _, rfl, rfl, ⟨h0, h1⟩, _, rfl, p, _, _, 1, rfl, rfl, upd_same, rfl, _, rfl, ?_⟩
      rw [upd_upd]
      exact k _ _ _ _ (Int.emod_nonneg _ (by omega)) (Int.emod_lt_of_pos _ h0)
    · refine ⟨_, rfl, p, _, _, _, rfl, rfl, SqL.of upd_same, rfl, _, _, rfl, rfl, ⟨by decide, by decide⟩, _, rfl, _, _, rfl, rfl, h0, ?_⟩
      exact k _ _ _ _ (Int.emod_nonneg _ (by omega)) (Int.emod_lt_of_pos _ h0)
def spPurse : Sp := fun vs H Q _ => ∃ (n : Int), vs = [.int n] ∧ ∀ (p : Addr) (a b c : Int), H p = none → Q (.ref p) (upd H p (.lst [.int a, .int b, .int c]))
theorem ok_purse (D : Defs K mg t) : FnOk P w K mg base CX0 1 t._law_purse.1 t._law_purse.2 ["_law_cell_here"] spPurse := by
  refine D._law_purse.fn.ok sc__law_purse (fun vs H Q E h => ?_) (fun cdv A outer s H vs Q E hr h => ?_)
  · obtain ⟨n, rfl, _⟩ := h
    rfl
  · obtain ⟨n, rfl, k⟩ := h
    refine ⟨_, (pss_cons (ps_set (i := 1) sc__law_purse.nd rfl (Or.inl rfl) pe_int)
      (pss_join (ps_if (PW.pt (pw_or (pt_cmpR op_lt (pv 0) pe_int (nomark _)) (pw_or1 (pt_cmpR op_ge (pv 0) (pe_op op_pow pe_int pe_int) (nomark _)))))
      (pss_one (ps_set (i := 1) sc__law_purse.nd rfl (Or.inl rfl) (pe_callB call_abs (by rfl) D.b_abs bt_abs (pa_cons (pv 0) pa_nil))))
      pss_nil)
      (pss_one (ps_ret (pe_lst (pa_cons (pe_op op_mod (pv 0) pe_int) (pa_cons (pv 1) (pa_cons pe_int pa_nil)))))))), ?_⟩
    refine ⟨fun σ' H' => ∃ d : Int, σ' = [some (.int n), some (.int d)] ∧ H' = H, ?_, ?_⟩
    · refine ⟨_, rfl, _, _, rfl, rfl, _, rfl, ite2 (fun hb => ?_) (fun hb => ?_)⟩
      · exact iteT ⟨_, rfl, _, rfl, _, rfl, rfl⟩
      · refine ⟨_, rfl, _, _, rfl, rfl, ⟨by decide, by decide, by decide⟩, _, _, rfl, rfl, _, rfl, ite2 (fun hc => ?_) (fun hc => ?_)⟩
        · exact ⟨_, rfl, _, rfl, _, rfl, rfl⟩
        · exact ⟨_, rfl, rfl⟩
    · rintro σ' H' ⟨d, rfl, rfl⟩
      exact ⟨_, rfl, _, _, rfl, rfl, (by show (0 : Int) < 2147483587; decide), _, rfl, (by show 3 ≤ sizeLine; decide), fun p hp => k p _ _ _ hp⟩
def spCell (K : PySem.W.Frag) : Sp := fun vs H Q _ => ∃ (a : Addr) (ns : List Int) (k : Int), vs = [.ref a, .int k] ∧ SqL K H a (ns.map V.int) ∧ ns.length ≤ 63 ∧ 0 ≤ k ∧ k ≤ 1000 ∧ ∀ (n : Int) H', Same H H' → Q (.int n) H'
theorem ok_cell (D : Defs K mg t) : FnOk P w K mg base CX0 1 t._law_cell.1 t._law_cell.2 ["_law_script", "_law_k"] (spCell K) := by
  refine D._law_cell.fn.ok sc__law_cell (fun vs H Q E h => ?_) (fun cdv A outer s H vs Q E hr h => ?_)
  · obtain ⟨a, ns, k, rfl, _⟩ := h
    rfl
  · obtain ⟨a, ns, k, rfl, hS, hl, h0, h1, q⟩ := h
    refine ⟨_, (pss_cons (ps_if (pt_cmpR op_lt (pv 1) (pe_callB call_len_seq (by rfl) D.b_len bt_len (pa_cons (pv 0) pa_nil)) (nomark _))
      (pss_one (ps_ret (pe_ix ix_list (pv 0) (pv 1) (fun _ _ => rfl))))
      pss_nil)
      (pss_cons (ps_set (i := 2) sc__law_cell.nd rfl (Or.inl rfl) (pe_op op_mul (pe_op op_mul pe_int (pe_op op_add (pv 1) pe_int)) (pe_op op_add (pv 1) pe_int)))
      (pss_cons (ps_for PassesOwn.never rfl (pi_list (pe_slice sl_list (pv 0) po_none (po_some pe_int))) (pg_name (i := 3) sc__law_cell.nd rfl (Or.inl rfl))
      (pss_one (ps_set (i := 2) sc__law_cell.nd rfl (Or.inl rfl) (pe_op op_mod (pe_op op_add (pe_op op_mul (pv 2) pe_int) (pv 3)) pe_int))))
      (pss_one (ps_ret (pv 2)))))), ?_⟩
    refine ⟨_, rfl, _, rfl, a, _, rfl, .inl hS, _, _, rfl, rfl, _, rfl, ite2 (fun hb => ?_) (fun hb => ?_)⟩
    · have hk : k < (ns.map V.int).length := of_decide_eq_true hb
      obtain ⟨v, e, m, _⟩ := atI_in h0 hk
      obtain ⟨z, _, rfl⟩ := List.mem_map.mp m
      exact ⟨_, rfl, _, rfl, a, _, _, _, rfl, rfl, hS, e, q z H (Same.refl H)⟩
    · refine ⟨_, rfl, _, _, rfl, rfl, _, _, rfl, rfl, .inl ⟨by decide, by decide⟩, _, rfl, _, _, rfl, rfl, _, _, rfl, rfl, .inr ⟨by omega, by omega⟩, ?_⟩
      refine ⟨_, rfl, _, rfl, a, _, rfl, hS, fun p hp => ⟨p, rfl, ⟨_, SqL.of upd_same⟩, for_list (K := K) (a := p) (xs := cutV (ns.map V.int) none (some 4)) (fun i σ H2 => ∃ (st : Int) (v : Option V), σ = [some (.ref a), some (.int k), some (.int st), v] ∧ H2 = upd H p (.lst (cutV (ns.map V.int) none (some 4))))
        ⟨_, _, rfl, rfl⟩ (fun i σ H2 _ ⟨_, _, _, e⟩ => by rw [e]; exact SqL.of upd_same) ?_ ?_⟩⟩
      · rintro i x σ H2 hi ⟨st, v, rfl, rfl⟩
        have m : x ∈ ns.map V.int := List.mem_of_mem_drop (List.mem_of_mem_take (List.mem_of_getElem? hi))
        obtain ⟨z, _, rfl⟩ := List.mem_map.mp m
        exact ⟨_, rfl, _, _, rfl, rfl, .inr ⟨by decide, by decide⟩, _, rfl, _, _, rfl, rfl, _, _, rfl, rfl, (by show (0 : Int) < 2147483587; decide), _, _, rfl, rfl⟩
      · rintro σ H2 ⟨st, v, rfl, rfl⟩
        exact ⟨_, rfl, q st _ (Same.new hp)⟩
end
end K21
end
section
set_option autoImplicit false
namespace K21
open PySem PyProof.Rows L2
section
variable {P : Program} {w : World} {K : PySem.W.Frag} {mg : Str → Option Value} {base : Heap} {t : Adr}
def spWord : Sp := fun vs H Q _ => ∃ (p u : Addr) (us : List Str), vs = [.ref p, .ref u] ∧ Pu H p ∧ H u = some (.lst (us.map V.str)) ∧ us.length ≤ 25 ∧ ∀ (x : Str) H', x.length ≤ 100 → ¬ x ∈ us → Off p H H' → Pu H' p → Q (.str x) H'
def menu : List Str := ["mark", "go", "keep", "tell", "round", "put", "drop", "none", "me", "ask", "thing", "end"]
theorem menu_len : ∀ x ∈ menu, x.length ≤ 6 := by decide +kernel
theorem ok_word (D : Defs K mg t) : FnOk P w K mg base CX0 2 t._law_word.1 t._law_word.2 ["_law_purse_here", "_law_used"] spWord := by
  have G__law_take : FnOk P w K mg base CX0 1 t._law_take.1 t._law_take.2 _ spTake := ok_take D
  have hz : sizeLine = 16777216 := sizeLine_eq
  refine D._law_word.fn.ok sc__law_word (fun vs H Q E h => ?_) (fun cdv A outer s H vs Q E hr h => ?_)
  · obtain ⟨p, u, us, rfl, _⟩ := h
    rfl
  · obtain ⟨p, u, us, rfl, hp, hu, hl, k⟩ := h
    have up : u ≠ p := hp.ne hu
    refine ⟨_, (@pss_cons _ _ _ _ _ (@ps_set _ _ 2 _ _ _ _ sc__law_word.nd rfl (Or.inl rfl) (@pe_lst _ _ _ _ (@pa_strs _ _ ["mark", "go", "keep", "tell", "round", "put", "drop", "none", "me", "ask", "thing", "end"] (by rfl))) (by rfl) (by first | exact .inl rfl | exact .inr rfl))
      (pss_cons (ps_set (i := 3) sc__law_word.nd rfl (Or.inr rfl) (pe_ix ix_list (pv 2) (pe_callF D._law_take G__law_take (hr.mono (by omega)) (by rfl) (pa_cons (pv 0) (pa_cons pe_int pa_nil))) (fun _ _ => rfl)))
      (pss_join (ps_if (pt_cmpR op_gt (pe_callF D._law_take G__law_take (hr.mono (by omega)) (by rfl) (pa_cons (pv 0) (pa_cons pe_int pa_nil))) pe_int (nomark _))
      (pss_cons (ps_set (i := 3) sc__law_word.nd rfl (Or.inr rfl) pe_str)
      (pss_one (ps_for PassesOwn.never rfl (pi_range1 rfl D.b_range (pa_cons (pe_op op_add pe_int (pe_callF D._law_take G__law_take (hr.mono (by omega)) (by rfl) (pa_cons (pv 0) (pa_cons pe_int pa_nil)))) pa_nil)) (pg_name (i := 4) sc__law_word.nd rfl (Or.inl rfl))
      (pss_one (ps_set (i := 3) sc__law_word.nd rfl (Or.inr rfl) (pe_op op_add_str (pv 3) (pe_ix ix_str pe_str (pe_callF D._law_take G__law_take (hr.mono (by omega)) (by rfl) (pa_cons (pv 0) (pa_cons pe_int pa_nil))) (fun _ _ => rfl))))))))
      pss_nil)
      (pss_cons (ps_if (pt_cmpR op_notIn_seq (pv 3) (pv 1) (by with_unfolding_all rfl))
      (pss_one (ps_ret (pv 3)))
      pss_nil)
      (pss_cons (ps_setc (i := 5) rfl sc__law_word.nd rfl (Or.inl rfl) (CompScope.of ["_law_a"] [1, 3] ["_law_a", "_law_used", "_law_word_here"] (defScope (top 16)) ["_law_purse_here", "_law_used", "_law_menu", "_law_word_here", "_law_k", "_law_first"] rfl rfl (by decide +kernel)) ⟨fun _ _ _ _ _ => (pg_name (i := 0) (show List.Nodup [("_law_a" : Str), ("_law_used" : Str), ("_law_word_here" : Str)] by decide +kernel) rfl (Or.inl (lookup_relabel_local rfl)) (.inr (lookup_relabel_local rfl))), fun _ _ _ _ _ => (pts_one (pt_cmpR (op_notIn_K (K := K) rfl) (pe_op op_add_str (pv 0) (pe_slice sl_str (pv 2) po_none (po_some pe_int))) (pv 1) (by with_unfolding_all rfl))), fun _ _ _ _ _ => (pv 0)⟩ (pi_str pe_str))
      (pss_one (ps_ret (pe_op op_add_str (pe_ix ix_list (pv 5) pe_int (fun _ _ => rfl)) (pe_slice sl_str (pv 3) po_none (po_some pe_int)))))))))), ?_⟩
    refine ⟨by show 12 ≤ sizeLine; decide, fun q hq => ?_⟩
    have pq : p ≠ q := by
      obtain ⟨a, b, c, e⟩ := hp
      exact ne_of_none e hq
    have o1 : Off p H (upd H q (.lst (menu.map V.str))) := Off.new hq
    have hp1 : Pu (upd H q (.lst (menu.map V.str))) p := by
      obtain ⟨a, b, c, e⟩ := hp
      exact ⟨a, b, c, by rw [upd_ne pq]; exact e⟩
    refine ⟨_, rfl, _, rfl, p, 12, rfl, hp1, by decide, by decide, fun r a b c h0 h1 => ?_⟩
    obtain ⟨x0, e0, m0, _⟩ := atI_strs (ns := menu) h0 h1
    refine ⟨q, menu.map V.str, _, _, rfl, rfl, SqL.of (by rw [upd_ne pq.symm, upd_same]; rfl), e0, ?_⟩
    refine ⟨fun σ' H' => ∃ (x : Str) (v : Option V), σ' = [some (.ref p), some (.ref u), some (.ref q), some (.str x), v, none] ∧ x.length ≤ 6 ∧ Off p H H' ∧ Pu H' p, ?_, ?_⟩
    · refine ⟨_, rfl, p, 5, rfl, Pu.upd, by decide, by decide, fun r a b c h0 h1 => ⟨_, _, rfl, rfl, _, rfl, ite2 (fun hb => ?_) (fun hb => ?_)⟩⟩
      · refine ⟨_, rfl, p, 6, rfl, Pu.upd, by decide, by decide, fun r2 a2 b2 c2 g0 g1 => ⟨_, _, rfl, rfl, _, rfl, by omega, by omega, ?_⟩⟩
        refine for_range (lo := 0) (n := (1 + r2).toNat) (fun i σ H2 => ∃ (x : Str) (v : Option V), σ = [some (.ref p), some (.ref u), some (.ref q), some (.str x), v, none] ∧ x.length ≤ i ∧ Off p H H2 ∧ Pu H2 p)
          ⟨_, _, rfl, by decide, ((o1.trans Off.upd).trans Off.upd).trans Off.upd, Pu.upd⟩ ?_ ?_
        · rintro i σ H2 hi ⟨x, v, rfl, hx, o2, p2⟩
          refine ⟨_, rfl, _, rfl, p, 26, rfl, p2, by decide, by decide, fun r3 a3 b3 c3 f0 f1 => ?_⟩
          obtain ⟨cc, ec, _, _⟩ := atI_in (xs := abc.cps.toList) f0 (by rw [Array.length_toList, abc_len]; exact f1)
          refine ⟨abc, _, cc, rfl, rfl, by decide +kernel, ec, _, _, rfl, rfl, ?_, _, _, rfl, ?_, o2.trans Off.upd, Pu.upd⟩
          · show x.length + 1 ≤ sizeLine
            omega
          · rw [str_len_app]
            show x.length + 1 ≤ i + 1
            omega
        · rintro σ H2 ⟨x, v, rfl, hx, o2, p2⟩
          exact ⟨x, v, rfl, by omega, o2, p2⟩
      · exact ⟨x0, none, rfl, menu_len x0 m0, (o1.trans Off.upd).trans Off.upd, Pu.upd⟩
    · rintro σ' H' ⟨x, v, rfl, hx, oh, ph⟩
      have hu' : H' u = some (.lst (us.map V.str)) := oh u _ up hu
      refine ⟨_, rfl, _, rfl, u, _, rfl, .inl (SqL.of hu'), rfl, flat_strs us, _, rfl, ite2 (fun hb => ?_) (fun hb => ?_)⟩
      · refine ⟨_, rfl, k x H' (by omega) ?_ oh ph⟩
        intro hm
        have hb : (!inV (.str x) (us.map V.str)) = true := hb
        rw [inV_strs, decide_eq_true hm] at hb
        cases hb
      · have s5 : (Txt.slice x none (some 5)).length ≤ 6 := Nat.le_trans (slice_len x _ _) hx
        refine ⟨_, rfl, by decide +kernel, fun Dd hD => ?_⟩
        have uD : u ≠ Dd := ne_of_none hu' hD
        have pD : p ≠ Dd := by
          obtain ⟨a, b, c, e⟩ := ph
          exact ne_of_none e hD
        refine comp_by (n := 26) (fun i ys H2 => ys = ((letters.take i).filter fun c => decide (¬ (c ++ Txt.slice x none (some 5)) ∈ us)).map V.str ∧ H2 = upd H' Dd (.lst ys)) ⟨rfl, rfl⟩ ?_ ?_
        · rintro ys H2 ⟨rfl, rfl⟩
          refine ⟨by show abc.cps.size ≤ 26; rw [abc_len]; exact Nat.le_refl _, ?_⟩
          rw [show letters.take 26 = letters from List.take_of_length_le (by rw [letters_len]; exact Nat.le_refl _)]
          obtain ⟨c, hc, hn⟩ := some_letter hl (Txt.slice x none (some 5))
          have hmem : c ∈ letters.filter fun c => decide (¬ (c ++ Txt.slice x none (some 5)) ∈ us) := List.mem_filter.mpr ⟨hc, decide_eq_true hn⟩
          obtain ⟨d, rest, ed⟩ := List.exists_cons_of_ne_nil (List.ne_nil_of_mem hmem)
          have hd : d ∈ letters.filter fun c => decide (¬ (c ++ Txt.slice x none (some 5)) ∈ us) := by rw [ed]; exact List.mem_cons_self
          obtain ⟨hd1, hd2⟩ := List.mem_filter.mp hd
          refine ⟨_, rfl, Dd, _, _, .str d, rfl, rfl, SqL.of upd_same, by rw [ed]; exact atI_nat (j := 0) rfl, _, rfl, _, rfl, x, rfl, by omega, _, _, rfl, rfl, ?_, ?_⟩
          · rw [letters_one d hd1]
            omega
          · refine k _ _ ?_ (of_decide_eq_true hd2) (oh.trans (Off.new hD)) ?_
            · rw [str_len_app, letters_one d hd1]
              omega
            · obtain ⟨a, b, c, e⟩ := ph
              exact ⟨a, b, c, by rw [upd_ne pD]; exact e⟩
        · rintro i ys H2 hi ⟨rfl, rfl⟩
          refine ⟨by show i < abc.cps.size; rw [abc_len]; exact hi, ?_⟩
          rintro y H3 ⟨rfl, c, ec, rfl⟩ σo ho
          obtain ⟨o, rfl⟩ := own1 ho
          have el : letters[i]? = some ⟨#[c]⟩ := by
            have ec' : abc.cps[i]? = some c := ec
            unfold letters
            rw [List.getElem?_map, Array.getElem?_toList, ec']
            rfl
          have et : letters.take (i + 1) = letters.take i ++ [⟨#[c]⟩] := by
            rw [List.take_succ, el]
            rfl
          have hlen : (((letters.take i).filter fun c => decide (¬ (c ++ Txt.slice x none (some 5)) ∈ us)).map V.str).length ≤ 26 := by
            rw [List.length_map]
            refine Nat.le_trans (List.length_filter_le _ _) ?_
            rw [List.length_take]
            omega
          refine ⟨⟨[_], rfl, rfl⟩, _, rfl, _, rfl, _, rfl, x, rfl, by omega, _, _, rfl, rfl, (by show 1 + _ ≤ sizeLine; omega), _, rfl, u, _, rfl, .inl (SqL.of (by rw [upd_ne uD]; exact hu')), rfl, flat_strs us, _, rfl, ite2 (fun hb => ?_) (fun hb => ?_)⟩
          · have hb : (!inV (.str (⟨#[c]⟩ ++ Txt.slice x none (some 5))) (us.map V.str)) = true := hb
            rw [inV_strs] at hb
            have hn : ¬ ((⟨#[c]⟩ : Str) ++ Txt.slice x none (some 5)) ∈ us := by simpa using hb
            refine ⟨_, rfl, by omega, upd_same, less_by hi ⟨?_, by rw [upd_upd]⟩⟩
            rw [et, List.filter_append, List.map_append]
            congr 1
            rw [List.filter_cons, if_pos (decide_eq_true hn)]
            rfl
          · have hb : ¬ (!inV (.str (⟨#[c]⟩ ++ Txt.slice x none (some 5))) (us.map V.str)) = true := hb
            rw [inV_strs] at hb
            have hn : ((⟨#[c]⟩ : Str) ++ Txt.slice x none (some 5)) ∈ us := by simpa using hb
            refine less_by hi ⟨?_, rfl⟩
            rw [et, List.filter_append]
            rw [show List.filter (fun c => decide (¬ (c ++ Txt.slice x none (some 5)) ∈ us)) [(⟨#[c]⟩ : Str)] = [] by rw [List.filter_cons, if_neg (by simpa using hn)]; rfl, List.append_nil]
end
end K21
end
section
set_option autoImplicit false
namespace K21
open PySem PyProof.Rows L2
section
variable {P : Program} {w : World} {K : PySem.W.Frag} {mg : Str → Option Value} {base : Heap} {t : Adr}
theorem nd_snoc {α : Type} {l : List α} {x : α} (h : l.Nodup) (hx : ¬ x ∈ l) : (l ++ [x]).Nodup := by
  rw [List.nodup_append]
  refine ⟨h, by simp, fun a ha b hb e => ?_⟩
  have : b = x := by simpa using hb
  rw [e, this] at ha
  exact hx ha
def spWords : Sp := fun vs H Q _ => ∃ (p u : Addr) (n : Int), vs = [.ref p, .int n, .ref u] ∧ Pu H p ∧ H u = some (.lst []) ∧ 0 ≤ n ∧ n ≤ 25 ∧ ∀ (l : Addr) (ws : List Str) H', H l = none → ws.length = n.toNat → ws.Nodup → H' l = some (.lst (ws.map V.str)) → Off p H H' → Pu H' p → Q (.ref l) H'
theorem ok_words (D : Defs K mg t) : FnOk P w K mg base CX0 3 t._law_words.1 t._law_words.2 ["_law_purse_here", "_law_many", "_law_used"] spWords := by
  have G__law_word : FnOk P w K mg base CX0 2 t._law_word.1 t._law_word.2 _ spWord := ok_word D
  have hz : sizeLine = 16777216 := sizeLine_eq
  refine D._law_words.fn.ok sc__law_words (fun vs H Q E h => ?_) (fun cdv A outer s H vs Q E hr h => ?_)
  · obtain ⟨p, u, n, rfl, _⟩ := h
    rfl
  · obtain ⟨p, u, n, rfl, hp, hu, h0, h1, k⟩ := h
    refine ⟨_, (pss_cons (ps_set (i := 3) sc__law_words.nd rfl (Or.inl rfl) (pe_lst pa_nil))
      (pss_cons (ps_for PassesOwn.never rfl (pi_range1 rfl D.b_range (pa_cons (pv 1) pa_nil)) (pg_name (i := 4) sc__law_words.nd rfl (Or.inl rfl))
      (pss_one (ps_expr (pe_bm PySem.F.plainAttrs_list PySem.F.slot_list_append PySem.F.type_list_append mt_append (pv 3) (pa_cons (pe_callF D._law_word G__law_word (hr.mono (by omega)) (by rfl) (pa_cons (pv 0) (pa_cons (pe_op op_cat (pv 2) (pv 3)) pa_nil))) pa_nil)))))
      (pss_one (ps_ret (pv 3))))), ?_⟩
    refine ⟨Nat.zero_le _, fun l hl => ?_⟩
    have ul : u ≠ l := ne_of_none hu hl
    have pl : p ≠ l := by
      obtain ⟨a, b, c, e⟩ := hp
      exact ne_of_none e hl
    have up : u ≠ p := by
      obtain ⟨a, b, c, e⟩ := hp
      exact (ne_of e hu (by intro z; cases z)).symm
    refine ⟨_, rfl, n, rfl, by omega, by omega, for_range (lo := 0) (n := n.toNat) (fun i σ H2 => ∃ (ws : List Str) (v : Option V), σ = [some (.ref p), some (.int n), some (.ref u), some (.ref l), v] ∧ ws.length = i ∧ ws.Nodup ∧ H2 l = some (.lst (ws.map V.str)) ∧ Off p H H2 ∧ Pu H2 p)
      ⟨[], _, rfl, rfl, List.nodup_nil, upd_same, Off.new hl, ?_⟩ ?_ ?_⟩
    · obtain ⟨a, b, c, e⟩ := hp
      exact ⟨a, b, c, by rw [upd_ne pl]; exact e⟩
    · rintro i σ H2 hi ⟨ws, v, rfl, hw, nd, hl2, o2, p2⟩
      have hu2 : H2 u = some (.lst []) := o2 u _ up hu
      refine ⟨_, rfl, .inl ⟨rfl, _, SqL.of hl2⟩, _, rfl, _, rfl, _, rfl, u, l, [], ws.map V.str, rfl, rfl, hu2, hl2, by rw [List.length_map]; show 0 + ws.length ≤ sizeLine; omega, fun q hq => ?_⟩
      have pq : p ≠ q := by
        obtain ⟨a, b, c, e⟩ := p2
        exact ne_of_none e hq
      have lq : l ≠ q := ne_of_none hl2 hq
      have p3 : Pu (upd H2 q (.lst ([] ++ ws.map V.str))) p := by
        obtain ⟨a, b, c, e⟩ := p2
        exact ⟨a, b, c, by rw [upd_ne pq]; exact e⟩
      refine ⟨p, q, ws, rfl, p3, upd_same, by omega, fun x H3 hx hn o3 p3 => ?_⟩
      have hl3 : H3 l = some (.lst (ws.map V.str)) := o3 l _ pl.symm (by rw [upd_ne lq]; exact hl2)
      refine ⟨l, ws.map V.str, .str x, rfl, rfl, hl3, by rw [List.length_map]; omega, ws ++ [x], _, rfl, by rw [List.length_append, hw]; rfl, nd_snoc nd hn, by rw [upd_same, List.map_append]; rfl, ?_, ?_⟩
      · intro b o hb e
        have bl : b ≠ l := ne_of_none e hl
        rw [upd_ne bl]
        exact o3 b o hb ((Off.new hq : Off p H2 _) b o hb (o2 b o hb e))
      · obtain ⟨a, b, c, e⟩ := p3
        exact ⟨a, b, c, by rw [upd_ne pl]; exact e⟩
    · rintro σ H2 ⟨ws, v, rfl, hw, nd, hl2, o2, p2⟩
      exact ⟨_, rfl, k l ws H2 hl hw nd hl2 o2 p2⟩
end
end K21
end
section
set_option autoImplicit false
namespace K21
open PySem PyProof.Rows L2
theorem DpL_reverse {H : Hp} : ∀ {ts : List T} {xs : List V}, DpL H ts xs → DpL H ts.reverse xs.reverse
  | [], xs, h => by
    rw [h.of_nil]
    exact .nil
  | t :: ts, xs, h => by
    obtain ⟨x, r, rfl, h1, h2⟩ := h.cases
    rw [List.reverse_cons, List.reverse_cons]
    exact (DpL_reverse h2).append (.cons h1 .nil)
abbrev Ent := Nat × Str × Str
def entT (e : Ent) : T := .tup [.int e.1, .str e.2.1, .str e.2.2]
def shT (sh : List Ent) : List T := .tup [] :: sh.map entT
theorem entT_inj {e e' : Ent} (h : entT e = entT e') : e = e' := by
  obtain ⟨f, d, x⟩ := e
  obtain ⟨f', d', x'⟩ := e'
  unfold entT at h
  injection h with h
  injection h with h1 h
  injection h with h2 h
  injection h with h3 h
  injection h1 with h1
  injection h2 with h2
  injection h3 with h3
  have h1 : f = f' := by
    have : (f : Int) = (f' : Int) := h1
    omega
  have h2 : d = d' := h2
  have h3 : x = x' := h3
  rw [h1, h2, h3]
theorem shT_lv {sh : List Ent} : ∀ t ∈ shT sh, Lv 6 t := by
  intro t ht
  rcases List.mem_cons.mp ht with e | e
  · rw [e]
    show ∀ t ∈ ([] : List T), Lv 5 t
    intro t h
    cases h
  · obtain ⟨en, _, en2⟩ := List.mem_map.mp e
    rw [← en2]
    show ∀ t ∈ [T.int (en.1 : Int), .str en.2.1, .str en.2.2], Lv 5 t
    intro t h
    simp only [List.mem_cons, List.not_mem_nil, or_false] at h
    rcases h with rfl | rfl | rfl <;> trivial
theorem shT_get {sh : List Ent} {i : Nat} {e : Ent} (h : sh[i]? = some e) : (shT sh)[i + 1]? = some (entT e) := by
  unfold shT
  rw [List.getElem?_cons_succ, List.getElem?_map, h]
  rfl
theorem Dp.of_ent {H : Hp} {e : Ent} {v : V} (h : Dp H (entT e) v) : ∃ b, v = .ref b ∧ H b = some (.tup [.int (e.1 : Int), .str e.2.1, .str e.2.2]) := by
  obtain ⟨b, xs, rfl, hb, hl⟩ := L2.Dp.of_tup h
  obtain ⟨x1, r1, rfl, d1, hl⟩ := hl.cases
  obtain ⟨x2, r2, rfl, d2, hl⟩ := hl.cases
  obtain ⟨x3, r3, rfl, d3, hl⟩ := hl.cases
  rw [hl.of_nil, d1.of_int, d2.of_str, d3.of_str] at hb
  exact ⟨b, rfl, hb⟩
inductive Story (sh : List Ent) : Nat → List Ent → Prop where
  | zero : Story sh 0 []
  | step {i : Nat} {e : Ent} {es : List Ent} (h : sh[i]? = some e) (s : Story sh e.1 es) : Story sh (i + 1) (es ++ [e])
def behindL (fs : List Str) (d x : Str) : List Str := if d = "put" then fs ++ [x] else fs.filter fun y => decide (y ≠ x)
def apply (fs : List Str) (e : Ent) : List Str := if e.2.1 = "put" then fs ++ [e.2.2] else fs.erase e.2.2
structure Good (sh : List Ent) (fl : List (List Str)) : Prop where
  len : fl.length = sh.length + 1
  zero : fl[0]? = some []
  nd : ∀ fs ∈ fl, fs.Nodup
  step : ∀ (i : Nat) (e : Ent), sh[i]? = some e → e.1 ≤ i ∧ ∃ fs, fl[e.1]? = some fs ∧ ((e.2.1 = "put" ∧ ¬ e.2.2 ∈ fs) ∨ (e.2.1 = "drop" ∧ e.2.2 ∈ fs)) ∧ fl[i + 1]? = some (behindL fs e.2.1 e.2.2)
theorem put_ne_drop : ¬ ("drop" : Str) = "put" := by decide +kernel
theorem apply_behind {fs : List Str} {e : Ent} (h : fs.Nodup) : apply fs e = behindL fs e.2.1 e.2.2 := by
  unfold apply behindL
  split
  · rfl
  · rw [List.Nodup.erase_eq_filter h]
    congr 1
    funext y
    by_cases hy : y = e.2.2 <;> simp [hy]
theorem Good.story {sh : List Ent} {fl : List (List Str)} (G : Good sh fl) {n : Nat} {es : List Ent} (S : Story sh n es) : fl[n]? = some (es.foldl apply []) ∧
    ∀ (j : Nat) (e : Ent), es[j]? = some e → e.2.1 = "put" ∨ (¬ e.2.1 = "put" ∧ e.2.2 ∈ (es.take j).foldl apply []) := by
  induction S with
  | zero => exact ⟨G.zero, fun j e h => by simp at h⟩
  | @step i e es h s ih =>
    obtain ⟨h1, h2⟩ := ih
    obtain ⟨_, fs, g1, g2, g3⟩ := G.step i e h
    rw [h1] at g1
    cases g1
    have hn := G.nd _ (List.mem_of_getElem? h1)
    refine ⟨?_, fun j e' hj => ?_⟩
    · rw [g3, List.foldl_append]
      show some _ = some (apply _ e)
      rw [apply_behind hn]
    · by_cases hlt : j < es.length
      · rw [List.getElem?_append_left hlt] at hj
        rcases h2 j e' hj with z | ⟨z, z'⟩
        · exact .inl z
        · refine .inr ⟨z, ?_⟩
          rw [List.take_append_of_le_length (by omega)]
          exact z'
      · have hj' := (List.getElem?_eq_some_iff.mp hj).1
        rw [List.length_append, List.length_singleton] at hj'
        have e1 : j = es.length := by omega
        subst e1
        rw [List.getElem?_append_right (Nat.le_refl _), Nat.sub_self] at hj
        have e2 : e' = e := by simpa using hj.symm
        subst e2
        rcases g2 with ⟨z, _⟩ | ⟨z, z'⟩
        · exact .inl z
        · refine .inr ⟨by rw [z]; exact put_ne_drop, ?_⟩
          rw [List.take_append_of_le_length (Nat.le_refl _), List.take_of_length_le (Nat.le_refl _)]
          exact z'
section
variable {P : Program} {w : World} {K : PySem.W.Frag} {mg : Str → Option Value} {base : Heap} {t : Adr}
def spStory : Sp := fun vs H Q _ => ∃ (s : V) (n : Nat) (sh : List Ent), vs = [s, .int n] ∧ Dp H (.tup (shT sh)) s ∧ n ≤ sh.length ∧ sh.length ≤ 1000 ∧ (∀ (i : Nat) (e : Ent), sh[i]? = some e → e.1 ≤ i) ∧
  ∀ (l : Addr) (zs : List V) (es : List Ent) H', H l = none → H' l = some (.lst zs) → DpL H' (es.map entT) zs → Story sh n es → Same H H' → Q (.ref l) H'
theorem ok_story (D : Defs K mg t) : FnOk P w K mg base CX0 1 t.story_of.1 t.story_of.2 ["shapes", "number"] spStory := by
  have hz : sizeLine = 16777216 := sizeLine_eq
  refine D.story_of.fn.ok sc_story_of (fun vs H Q E h => ?_) (fun cdv A outer s H vs Q E hr h => ?_)
  · obtain ⟨s, n, sh, rfl, _⟩ := h
    rfl
  · obtain ⟨s, n, sh, rfl, ds, hn, hl, hf, k⟩ := h
    obtain ⟨a, xs, rfl, ha, dl⟩ := L2.Dp.of_tup ds
    refine ⟨_, (pss_cons (ps_set (i := 2) sc_story_of.nd rfl (Or.inl rfl) (pe_lst pa_nil))
      (pss_cons (ps_set (i := 3) sc_story_of.nd rfl (Or.inl rfl) (pv 1))
      (pss_cons (ps_while PassesOwn.never (pt_cmpR op_gt (pv 3) pe_int (nomark _))
      (pss_cons (ps_expr (pe_bm PySem.F.plainAttrs_list PySem.F.slot_list_append PySem.F.type_list_append mt_append (pv 2) (pa_cons (pe_ix ix_tup (pv 0) (pv 3) (fun _ _ => rfl)) pa_nil)))
      (pss_one (ps_set (i := 3) sc_story_of.nd rfl (Or.inl rfl) (pe_ix ix_tup (pe_ix ix_tup (pv 0) (pv 3) (fun _ _ => rfl)) pe_int (fun _ _ => rfl))))))
      (pss_one (ps_ret (pe_slK (pv 2) (pe_un un_neg pe_int))))))), ?_⟩
    refine ⟨Nat.zero_le _, fun l hln => ?_⟩
    have al : a ≠ l := ne_of_none ha hln
    refine ⟨_, rfl, ?_⟩
    refine ⟨fun m σ H2 => ∃ (at_ : Nat) (zs : List V) (es : List Ent), σ = [some (.ref a), some (.int n), some (.ref l), some (.int at_)] ∧ at_ = m ∧ at_ ≤ sh.length ∧ H2 l = some (.lst zs) ∧ DpL H2 (es.map entT) zs ∧ zs.length + at_ ≤ sh.length ∧
      (∀ es', Story sh at_ es' → Story sh n (es' ++ es.reverse)) ∧ Same H H2, ⟨n, n, [], [], rfl, rfl, hn, upd_same, .nil, by simpa using hn, fun es' S => by simpa using S, Same.new hln⟩, ?_⟩
    rintro m σ H2 ⟨at_, zs, es, rfl, rfl, h1, hl2, dz, hz2, hs, sm⟩
    have ha2 : H2 a = some (.tup xs) := sm a _ ha
    refine ⟨_, rfl, _, _, rfl, rfl, _, rfl, ite2 (fun hb => ?_) (fun hb => ?_)⟩
    · have hb : (0 : Int) < (at_ : Int) := of_decide_eq_true hb
      obtain ⟨i, rfl⟩ : ∃ i, at_ = i + 1 := ⟨at_ - 1, by omega⟩
      have hi : i < sh.length := by omega
      obtain ⟨y, ey, dy⟩ := dl.get (shT_get (List.getElem?_eq_getElem hi))
      obtain ⟨b, rfl, hb1⟩ := Dp.of_ent dy
      have hb2 : H2 b = some (.tup [.int ((sh[i]).1 : Int), .str (sh[i]).2.1, .str (sh[i]).2.2]) := sm b _ hb1
      have bl : b ≠ l := ne_of_none hb1 hln
      refine ⟨fun σ' H' => ∃ m', m' < i + 1 ∧ _, fun σ' H' z => z, ?_⟩
      refine ⟨_, rfl, .inl ⟨rfl, _, SqL.of hl2⟩, _, rfl, _, rfl, a, xs, _, .ref b, rfl, rfl, SqT.of ha2, atI_nat ey, l, zs, .ref b, rfl, rfl, hl2, by omega, ?_⟩
      refine ⟨_, rfl, _, rfl, a, xs, _, .ref b, rfl, rfl, SqT.of (by rw [upd_ne al]; exact ha2), atI_nat ey, b, _, _, .int ((sh[i]).1 : Int), rfl, rfl, SqT.of (by rw [upd_ne bl]; exact hb2), rfl, ?_⟩
      have tu : Tups H2 (upd H2 l (.lst (zs ++ [.ref b]))) := fun c ys e => by
        have : c ≠ l := fun z => by rw [z, hl2] at e; cases e
        rw [upd_ne this]
        exact e
      have hfi := hf i _ (List.getElem?_eq_getElem hi)
      refine ⟨(sh[i]).1, by omega, (sh[i]).1, zs ++ [.ref b], es ++ [sh[i]], rfl, rfl, by omega, upd_same, ?_, ?_, ?_, ?_⟩
      · rw [List.map_append]
        exact (dz.mono tu).append (.cons (L2.Dp.mono tu (L2.Dp.mono (Same.tups sm) dy)) .nil)
      · rw [List.length_append, List.length_singleton]
        omega
      · intro es' S
        have := hs (es' ++ [sh[i]]) (.step (List.getElem?_eq_getElem hi) S)
        rw [List.reverse_append]
        simpa using this
      · intro c o e
        rw [upd_ne (ne_of_none e hln)]
        exact sm c o e
    · have h0 : at_ = 0 := by
        have : ¬ (0 : Int) < (at_ : Int) := fun z => hb (decide_eq_true z)
        omega
      subst h0
      refine ⟨_, rfl, _, rfl, l, zs, -1, rfl, rfl, SqL.of hl2, .inr ⟨rfl, fun q hq => ?_⟩⟩
      have hqn : H q = none := sm.free hq
      refine k q zs.reverse es.reverse _ hqn upd_same ?_ (by simpa using hs [] .zero) (sm.trans (Same.new hq))
      have : DpL H2 (es.reverse.map entT) zs.reverse := by
        rw [List.map_reverse]
        exact DpL_reverse dz
      exact this.mono (Same.tups (Same.new hq))
end
end K21
end
section
set_option autoImplicit false
namespace K21
open PySem PyProof.Rows L2
theorem itePos {c A B : Prop} [Decidable c] (h : c) (a : A) : if c then A else B := by
  rw [if_pos h]
  exact a
theorem iteNeg {c A B : Prop} [Decidable c] (h : ¬ c) (b : B) : if c then A else B := by
  rw [if_neg h]
  exact b
theorem kit_ib (K : PySem.W.Frag) : PySem.W.kitOne K (.type "int") (.type "bool") = some false := by rfl
theorem Story.len {sh : List Ent} (hf : ∀ (i : Nat) (e : Ent), sh[i]? = some e → e.1 ≤ i) {n : Nat} {es : List Ent} (S : Story sh n es) : es.length ≤ n := by
  induction S with
  | zero => exact Nat.le_refl _
  | @step i e es h s ih =>
    have := hf i e h
    rw [List.length_append, List.length_singleton]
    omega
theorem fold_len : ∀ (es : List Ent) (fs : List Str), (es.foldl apply fs).length ≤ fs.length + es.length
  | [], fs => Nat.le_refl _
  | e :: es, fs => by
    rw [List.foldl_cons, List.length_cons]
    refine Nat.le_trans (fold_len es _) ?_
    have : (apply fs e).length ≤ fs.length + 1 := by
      unfold apply
      split
      · rw [List.length_append, List.length_singleton]
        exact Nat.le_refl _
      · exact Nat.le_trans List.length_erase_le (Nat.le_succ _)
    omega
section
variable {P : Program} {w : World} {K : PySem.W.Frag} {mg : Str → Option Value} {base : Heap} {t : Adr}
def spWhole : Sp := fun vs H Q _ => ∃ (n : Int), vs = [.int n] ∧ Q (.bl true) H
theorem ok_whole (D : Defs K mg t) : FnOk P w K mg base CX0 1 t.is_whole.1 t.is_whole.2 ["thing"] spWhole := by
  refine D.is_whole.fn.ok sc_is_whole (fun vs H Q E h => ?_) (fun cdv A outer s H vs Q E hr h => ?_)
  · obtain ⟨n, rfl, _⟩ := h
    rfl
  · obtain ⟨n, rfl, k⟩ := h
    refine ⟨_, (pss_one (ps_ret (pe_and (pe_callB call_isinst (by rfl) D.b_isinstance bt_isinstance (pa_cons (pv 0) (pa_cons (pe_bltn (v := V.ty "int") rfl D.b_int bt_int rfl) pa_nil))) (pe_one (pe_not (pe_callB call_isinst (by rfl) D.b_isinstance bt_isinstance (pa_cons (pv 0) (pa_cons (pe_bltn (v := V.ty "bool") rfl D.b_bool bt_bool rfl) pa_nil)))))))), ?_⟩
    exact ⟨_, rfl, _, _, _, true, rfl, .int n, kit_same K "int", _, rfl, iteT ⟨_, rfl, _, _, _, false, rfl, .int n, kit_ib K, _, rfl, k⟩⟩
def spCan : Sp := fun vs H Q _ => ∃ (v : V) (fs : List Str) (d x : Str), vs = [v, .str d, .str x] ∧ Dp H (.tup (fs.map T.str)) v ∧ ((d = "put" ∧ ¬ x ∈ fs) ∨ (d = "drop" ∧ x ∈ fs)) ∧ Q (.bl true) H
theorem ok_can (D : Defs K mg t) : FnOk P w K mg base CX0 1 t.can_come.1 t.can_come.2 ["fields", "deed", "field"] spCan := by
  refine D.can_come.fn.ok sc_can_come (fun vs H Q E h => ?_) (fun cdv A outer s H vs Q E hr h => ?_)
  · obtain ⟨v, fs, d, x, rfl, _⟩ := h
    rfl
  · obtain ⟨v, fs, d, x, rfl, dv, hv, k⟩ := h
    obtain ⟨a, xs, rfl, ha, dl⟩ := L2.Dp.of_tup dv
    have exs := DpL.of_strs dl
    subst exs
    refine ⟨_, (pss_cons (ps_if (pt_cmpR op_eq (pv 1) pe_str (nomark _))
      (pss_one (ps_ret (pe_and (pe_callB call_isinst (by rfl) D.b_isinstance bt_isinstance (pa_cons (pv 2) (pa_cons (pe_bltn (v := V.ty "str") rfl D.b_str bt_str rfl) pa_nil))) (pe_one (pe_cmpR op_notIn_seq (pv 2) (pv 0) (by with_unfolding_all rfl))))))
      pss_nil)
      (pss_one (ps_ret (pe_and (pe_cmpR op_eq (pv 1) pe_str (nomark _)) (pe_one (pe_cmpR op_in_seq (pv 2) (pv 0) (by with_unfolding_all rfl))))))), ?_⟩
    rcases hv with ⟨rfl, hx⟩ | ⟨rfl, hx⟩
    · refine ⟨_, rfl, rfl, _, rfl, itePos (decide_eq_true rfl) ?_⟩
      refine ⟨_, rfl, _, _, _, true, rfl, .str x, kit_same K "str", _, rfl, iteT ⟨_, rfl, _, rfl, a, _, rfl, .inr (SqT.of ha), rfl, flat_strs fs, ?_⟩⟩
      show Q (.bl (!inV (.str x) (fs.map V.str))) H
      rw [inV_strs, decide_eq_false hx]
      exact k
    · refine ⟨_, rfl, rfl, _, rfl, iteNeg (by rw [decide_eq_false (by intro h; injection h with h; exact put_ne_drop h)]; exact Bool.false_ne_true) ?_⟩
      refine ⟨_, rfl, rfl, _, rfl, itePos (decide_eq_true rfl) ⟨_, rfl, _, rfl, a, _, rfl, .inr (SqT.of ha), rfl, flat_strs fs, ?_⟩⟩
      show Q (.bl (inV (.str x) (fs.map V.str))) H
      rw [inV_strs, decide_eq_true hx]
      exact k
def spIsShape : Sp := fun vs H Q _ => ∃ (s : V) (n : Nat) (sh : List Ent), vs = [s, .int n] ∧ Dp H (.tup (shT sh)) s ∧ n ≤ sh.length ∧ Q (.bl true) H
theorem ok_is_shape (D : Defs K mg t) : FnOk P w K mg base CX0 2 t.is_shape.1 t.is_shape.2 ["shapes", "thing"] spIsShape := by
  have G_is_whole : FnOk P w K mg base CX0 1 t.is_whole.1 t.is_whole.2 _ spWhole := ok_whole D
  refine D.is_shape.fn.ok sc_is_shape (fun vs H Q E h => ?_) (fun cdv A outer s H vs Q E hr h => ?_)
  · obtain ⟨s, n, sh, rfl, _⟩ := h
    rfl
  · obtain ⟨s, n, sh, rfl, ds, hn, k⟩ := h
    obtain ⟨a, xs, rfl, ha, dl⟩ := L2.Dp.of_tup ds
    have hxl : xs.length = sh.length + 1 := by
      rw [dl.length]
      unfold shT
      rw [List.length_cons, List.length_map]
    refine ⟨_, (pss_one (ps_ret (pe_and (pe_callF D.is_whole G_is_whole (hr.mono (by omega)) (by rfl) (pa_cons (pv 1) pa_nil)) (pe_one (pe_chain op_le op_lt pe_int (pv 1) (pe_callB call_len_seq (by rfl) D.b_len bt_len (pa_cons (pv 0) pa_nil))))))), ?_⟩
    refine ⟨_, rfl, _, rfl, true, rfl, iteT ⟨_, rfl, _, _, rfl, rfl, _, rfl, itePos (decide_eq_true (Int.natCast_nonneg n)) ⟨_, rfl, a, xs, rfl, .inr (SqT.of ha), _, _, rfl, rfl, ?_⟩⟩⟩
    have : (n : Int) < (xs.length : Int) := by omega
    show Q (.bl (decide ((n : Int) < (xs.length : Int)))) H
    rw [decide_eq_true this]
    exact k
def spFieldsAt : Sp := fun vs H Q _ => ∃ (s : V) (n : Nat) (sh : List Ent) (fl : List (List Str)) (fs : List Str), vs = [s, .int n] ∧ Dp H (.tup (shT sh)) s ∧ Good sh fl ∧ fl[n]? = some fs ∧ sh.length ≤ 1000 ∧
  ∀ (v : V) H', Dp H' (.tup (fs.map T.str)) v → Same H H' → Q v H'
theorem ok_fields_at (D : Defs K mg t) : FnOk P w K mg base CX0 3 t.fields_at.1 t.fields_at.2 ["shapes", "number"] spFieldsAt := by
  have G_is_shape : FnOk P w K mg base CX0 2 t.is_shape.1 t.is_shape.2 _ spIsShape := ok_is_shape D
  have G_story_of : FnOk P w K mg base CX0 1 t.story_of.1 t.story_of.2 _ spStory := ok_story D
  have hz : sizeLine = 16777216 := sizeLine_eq
  refine D.fields_at.fn.ok sc_fields_at (fun vs H Q E h => ?_) (fun cdv A outer s H vs Q E hr h => ?_)
  · obtain ⟨s, n, sh, fl, fs, rfl, _⟩ := h
    rfl
  · obtain ⟨s, n, sh, fl, fs, rfl, ds, G, hn, hl, k⟩ := h
    obtain ⟨a, xs, rfl, ha, dl⟩ := L2.Dp.of_tup ds
    have hnl : n ≤ sh.length := by
      have := (List.getElem?_eq_some_iff.mp hn).1
      rw [G.len] at this
      omega
    have hxl : xs.length = sh.length + 1 := by
      rw [dl.length]
      unfold shT
      rw [List.length_cons, List.length_map]
    refine ⟨_, (pss_cons (ps_if (pt_not (pt_val (pe_callF D.is_shape G_is_shape (hr.mono (by omega)) (by rfl) (pa_cons (pv 0) (pa_cons (pv 1) pa_nil)))))
      (pss_one ps_never)
      pss_nil)
      (pss_cons (ps_set (i := 2) sc_fields_at.nd rfl (Or.inl rfl) (pe_lst pa_nil))
      (pss_cons (ps_for PassesOwn.never rfl (pi_list (pe_callF D.story_of G_story_of (hr.mono (by omega)) (by rfl) (pa_cons (pv 0) (pa_cons (pv 1) pa_nil)))) (pg_name (i := 3) sc_fields_at.nd rfl (Or.inl rfl))
      (pss_one (ps_if (pt_cmpR op_eq (pe_ix ix_tup (pv 3) pe_int (fun _ _ => rfl)) pe_str (nomark _))
      (pss_one (ps_expr (pe_bm PySem.F.plainAttrs_list PySem.F.slot_list_append PySem.F.type_list_append mt_append (pv 2) (pa_cons (pe_ix ix_tup (pv 3) pe_int (fun _ _ => rfl)) pa_nil))))
      (pss_one (ps_expr (pe_bm PySem.F.plainAttrs_list PySem.F.slot_list_remove PySem.F.type_list_remove mt_removeS (pv 2) (pa_cons (pe_ix ix_tup (pv 3) pe_int (fun _ _ => rfl)) pa_nil)))))))
      (pss_one (ps_ret (pe_callTy call_tuple_of (by rfl) D.b_tuple bt_tuple (pa_cons (pv 2) pa_nil))))))), ?_⟩
    refine ⟨_, rfl, _, rfl, .ref a, n, sh, rfl, ds, hnl, _, rfl, iteF ?_⟩
    refine ⟨Nat.zero_le _, fun g hg => ?_⟩
    have ag : a ≠ g := ne_of_none ha hg
    have ds1 : Dp (upd H g (.lst [])) (.tup (shT sh)) (.ref a) := ds.mono (Same.tups (Same.new hg))
    refine ⟨_, rfl, _, rfl, .ref a, n, sh, rfl, ds1, hnl, hl, fun i e h => (G.step i e h).1, fun l zs es H2 hln hl2 dz S sm => ?_⟩
    have gl : g ≠ l := by
      intro e
      rw [← e, upd_same] at hln
      cases hln
    obtain ⟨ff, fe⟩ := G.story S
    rw [hn] at ff
    cases ff
    have hes : es.length ≤ n := S.len fun i e h => (G.step i e h).1
    have hzl : zs.length = es.length := by rw [dz.length, List.length_map]
    have sm0 : Same H H2 := (Same.new hg).trans sm
    refine ⟨l, rfl, ⟨_, SqL.of hl2⟩, for_list (K := K) (a := l) (xs := zs) (fun j σ H3 => ∃ (v : Option V), σ = [some (.ref a), some (.int n), some (.ref g), v] ∧ H3 g = some (.lst (((es.take j).foldl apply []).map V.str)) ∧ H3 l = some (.lst zs) ∧ Tups H2 H3 ∧ Same H H3)
      ⟨_, rfl, sm g _ upd_same, hl2, Tups.refl _, sm0⟩ (fun j σ H3 _ ⟨_, _, _, e, _, _⟩ => SqL.of e) ?_ ?_⟩
    · rintro j x σ H3 hj ⟨v, rfl, hg3, hl3, tu, sm3⟩
      have hjl : j < es.length := by
        have := (List.getElem?_eq_some_iff.mp hj).1
        omega
      obtain ⟨y, ey, dy⟩ := dz.get (i := j) (t := entT es[j]) (by rw [List.getElem?_map, List.getElem?_eq_getElem hjl]; rfl)
      rw [hj] at ey
      cases ey
      obtain ⟨b, rfl, hb⟩ := Dp.of_ent dy
      have hb3 : H3 b = some (.tup [.int ((es[j]).1 : Int), .str (es[j]).2.1, .str (es[j]).2.2]) := tu b _ hb
      have et : es.take (j + 1) = es.take j ++ [es[j]] := by
        rw [List.take_succ, List.getElem?_eq_getElem hjl]
        rfl
      have hfl := fold_len (es.take j) []
      rw [List.length_take, List.length_nil] at hfl
      have fin : ∀ ys : List Str, ys = apply ((es.take j).foldl apply []) es[j] → ∃ (v : Option V), ([some (.ref a), some (.int n), some (.ref g), some (.ref b)] : L2.St) = [some (.ref a), some (.int n), some (.ref g), v] ∧ (upd H3 g (.lst (ys.map V.str))) g = some (.lst (((es.take (j + 1)).foldl apply []).map V.str)) ∧
          (upd H3 g (.lst (ys.map V.str))) l = some (.lst zs) ∧ Tups H2 (upd H3 g (.lst (ys.map V.str))) ∧ Same H (upd H3 g (.lst (ys.map V.str))) := fun ys e => by
        refine ⟨_, rfl, ?_, by rw [upd_ne gl.symm]; exact hl3, fun c zs' e' => ?_, fun c o e' => ?_⟩
        · rw [upd_same, et, List.foldl_append, e]
          rfl
        · have : c ≠ g := fun z => by
            have q := tu c _ e'
            rw [z, hg3] at q
            cases q
          rw [upd_ne this]
          exact tu c _ e'
        · rw [upd_ne (ne_of_none e' hg)]
          exact sm3 c o e'
      refine ⟨_, rfl, b, _, _, .str (es[j]).2.1, rfl, rfl, SqT.of hb3, rfl, rfl, _, rfl, ite2 (fun hp => ?_) (fun hp => ?_)⟩
      · have hp : (es[j]).2.1 = "put" := by
          have := of_decide_eq_true hp
          injection this
        refine ⟨_, rfl, .inl ⟨rfl, _, SqL.of hg3⟩, _, rfl, b, _, _, .str (es[j]).2.2, rfl, rfl, SqT.of hb3, rfl, g, _, .str (es[j]).2.2, rfl, rfl, hg3, by rw [List.length_map]; omega, ?_⟩
        have := fin ((es.take j).foldl apply [] ++ [(es[j]).2.2]) (by unfold apply; rw [if_pos hp])
        rw [List.map_append] at this
        exact this
      · have hp : ¬ (es[j]).2.1 = "put" := fun e => hp (decide_eq_true (by rw [e]))
        have hm : (es[j]).2.2 ∈ (es.take j).foldl apply [] := by
          rcases fe j _ (List.getElem?_eq_getElem hjl) with z | z
          · exact absurd z hp
          · exact z.2
        refine ⟨_, rfl, .inl ⟨rfl, _, SqL.of hg3⟩, _, rfl, b, _, _, .str (es[j]).2.2, rfl, rfl, SqT.of hb3, rfl, g, _, (es[j]).2.2, rfl, rfl, hg3, hm, ?_⟩
        exact fin _ (by unfold apply; rw [if_neg hp])
    · rintro σ H3 ⟨v, rfl, hg3, hl3, tu, sm3⟩
      rw [hzl, List.take_of_length_le (Nat.le_refl _)] at hg3
      refine ⟨_, rfl, g, _, rfl, .inl ⟨SqL.of hg3, fun q hq => ?_⟩⟩
      exact k (.ref q) _ (L2.Dp.tup upd_same (DpL.strs _)) (sm3.trans (Same.new hq))
end
end K21
end
section
set_option autoImplicit false
namespace K21
open PySem PyProof.Rows L2
theorem shT_mem {sh : List Ent} {e : Ent} : entT e ∈ shT sh ↔ e ∈ sh := by
  unfold shT
  constructor
  · intro h
    rcases List.mem_cons.mp h with z | z
    · unfold entT at z
      injection z with z
      cases z
    · obtain ⟨e', h', q⟩ := List.mem_map.mp z
      rw [← entT_inj q]
      exact h'
  · intro h
    exact List.mem_cons_of_mem _ (List.mem_map.mpr ⟨e, h, rfl⟩)
theorem shT_first {sh : List Ent} {e : Ent} {j : Nat} (h : ∀ m, m < j → sh[m]? ≠ some e) : ∀ m, m < j + 1 → (shT sh)[m]? ≠ some (entT e) := by
  intro m hm q
  cases m with
  | zero =>
    have : T.tup [] = entT e := by
      unfold shT at q
      simpa using q
    unfold entT at this
    injection this with this
    cases this
  | succ m =>
    unfold shT at q
    rw [List.getElem?_cons_succ, List.getElem?_map] at q
    cases z : sh[m]? with
    | none => rw [z] at q; cases q
    | some e' =>
      rw [z] at q
      have q' : entT e' = entT e := by simpa using q
      rw [entT_inj q'] at z
      exact h m (by omega) z
section
variable {P : Program} {w : World} {K : PySem.W.Frag} {mg : Str → Option Value} {base : Heap} {t : Adr}
def spShape : Sp := fun vs H Q _ => ∃ (s : V) (n : Nat) (d x : Str) (sh : List Ent) (fl : List (List Str)) (fs : List Str), vs = [s, .int n, .str d, .str x] ∧ Dp H (.tup (shT sh)) s ∧ Good sh fl ∧ fl[n]? = some fs ∧ sh.length ≤ 900 ∧ ((d = "put" ∧ ¬ x ∈ fs) ∨ (d = "drop" ∧ x ∈ fs)) ∧
  (∀ (j : Nat) (v : V) H', sh[j]? = some (n, d, x) → (∀ m, m < j → sh[m]? ≠ some (n, d, x)) → Dp H' (.tup [.tup (shT sh), .int ((j + 1 : Nat) : Int)]) v → Same H H' → Q v H') ∧
  (∀ (v : V) H', ¬ (n, d, x) ∈ sh → Dp H' (.tup [.tup (shT (sh ++ [(n, d, x)])), .int ((sh.length + 1 : Nat) : Int)]) v → Same H H' → Q v H')
theorem ok_shape (D : Defs K mg t) : FnOk P w K mg base CX0 4 t.shape_by.1 t.shape_by.2 ["shapes", "number", "deed", "field"] spShape := by
  have G_fields_at : FnOk P w K mg base CX0 3 t.fields_at.1 t.fields_at.2 _ spFieldsAt := ok_fields_at D
  have G_can_come : FnOk P w K mg base CX0 1 t.can_come.1 t.can_come.2 _ spCan := ok_can D
  have hz : sizeLine = 16777216 := sizeLine_eq
  refine D.shape_by.fn.ok sc_shape_by (fun vs H Q E h => ?_) (fun cdv A outer s H vs Q E hr h => ?_)
  · obtain ⟨s, n, d, x, sh, fl, fs, rfl, _⟩ := h
    rfl
  · obtain ⟨s, n, d, x, sh, fl, fs, rfl, ds, G, hn, hl, hv, kI, kN⟩ := h
    obtain ⟨a, xs, rfl, ha, dl⟩ := L2.Dp.of_tup ds
    have hxl : xs.length = sh.length + 1 := by
      rw [dl.length]
      unfold shT
      rw [List.length_cons, List.length_map]
    refine ⟨_, (pss_cons (ps_set (i := 4) sc_shape_by.nd rfl (Or.inl rfl) (pe_callF D.fields_at G_fields_at (hr.mono (by omega)) (by rfl) (pa_cons (pv 0) (pa_cons (pv 1) pa_nil))))
      (pss_cons (ps_if (pt_not (pt_val (pe_callF D.can_come G_can_come (hr.mono (by omega)) (by rfl) (pa_cons (pv 4) (pa_cons (pv 2) (pa_cons (pv 3) pa_nil))))))
      (pss_one ps_never)
      pss_nil)
      (pss_cons (ps_set (i := 5) sc_shape_by.nd rfl (Or.inl rfl) (pe_tup (pa_cons (pv 1) (pa_cons (pv 2) (pa_cons (pv 3) pa_nil)))))
      (pss_cons (ps_if (pt_cmpR (op_inT (hu10 hr)) (pv 5) (pv 0) (by with_unfolding_all rfl))
      (pss_one (ps_ret (pe_tup (pa_cons (pv 0) (pa_cons (pe_bmT PySem.F.slot_tuple_index PySem.F.type_tuple_index (mt_indexTt (hu10 hr)) (pv 0) (pa_cons (pv 5) pa_nil)) pa_nil)))))
      pss_nil)
      (pss_one (ps_ret (pe_tup (pa_cons (pe_op op_catT (pv 0) (pe_tup (pa_cons (pv 5) pa_nil))) (pa_cons (pe_callB call_len_seq (by rfl) D.b_len bt_len (pa_cons (pv 0) pa_nil)) pa_nil))))))))), ?_⟩
    refine ⟨_, rfl, _, rfl, .ref a, n, sh, fl, fs, rfl, ds, G, hn, by omega, fun v H1 dv s1 => ?_⟩
    refine ⟨_, rfl, _, rfl, _, rfl, v, fs, d, x, rfl, dv, hv, _, rfl, iteF ?_⟩
    refine ⟨_, rfl, _, rfl, _, rfl, by show 3 ≤ sizeLine; decide, fun q hq => ?_⟩
    have s2 : Same H (upd H1 q (.tup [.int (n : Int), .str d, .str x])) := s1.trans (Same.new hq)
    have ha2 := s2 a _ ha
    have dl2 := dl.mono (Same.tups s2)
    have dq : Dp (upd H1 q (.tup [.int (n : Int), .str d, .str x])) (entT (n, d, x)) (.ref q) := L2.Dp.tup upd_same (.cons (L2.Dp.int _) (.cons (L2.Dp.str _) (.cons (L2.Dp.str _) .nil)))
    refine ⟨_, rfl, _, rfl, a, xs, entT (n, d, x), shT sh, rfl, .inr ha2, dq, dl2, shT_lv, _, rfl, ite2 (fun hb => ?_) (fun hb => ?_)⟩
    · have hb : dcd (entT (n, d, x) ∈ shT sh) = true := hb
      have hm : (n, d, x) ∈ sh := shT_mem.mp (dcd_iff.mp hb)
      obtain ⟨j, h1, h2, _⟩ := first_at hm
      refine ⟨_, rfl, _, rfl, ⟨a, xs, rfl, ha2⟩, _, rfl, a, .ref q, xs, entT (n, d, x), shT sh, j + 1, rfl, rfl, ha2, dq, dl2, shT_lv, shT_get h1, shT_first h2, by show 2 ≤ sizeLine; decide, fun r hr' => ?_⟩
      have s3 := s2.trans (Same.new (o := .tup [.ref a, .int ((j + 1 : Nat) : Int)]) hr')
      exact kI j (.ref r) _ h1 h2 (L2.Dp.tup upd_same (.cons (ds.mono (Same.tups s3)) (.cons (L2.Dp.int _) .nil))) s3
    · have hb : ¬ dcd (entT (n, d, x) ∈ shT sh) = true := hb
      have hm : ¬ (n, d, x) ∈ sh := fun h => hb (dcd_t (shT_mem.mpr h))
      refine ⟨_, rfl, _, rfl, by show 1 ≤ sizeLine; decide, fun r hr' => ?_⟩
      have s3 := s2.trans (Same.new (o := .tup [.ref q]) hr')
      refine ⟨a, r, xs, [.ref q], rfl, rfl, SqT.of (s3 a _ ha), SqT.of upd_same, (by intro z; rw [z] at hxl; cases hxl), by show xs.length + 1 ≤ sizeLine; omega, (fun z => by cases z), fun _ p hp => ?_⟩
      have s4 := s3.trans (Same.new (o := .tup (xs ++ [.ref q])) hp)
      refine ⟨_, rfl, a, xs, rfl, .inr (SqT.of (s4 a _ ha)), by show 2 ≤ sizeLine; decide, fun z hz' => ?_⟩
      rw [hxl]
      have s5 := s4.trans (Same.new (o := .tup [.ref p, .int ((sh.length + 1 : Nat) : Int)]) hz')
      refine kN (.ref z) _ hm (L2.Dp.tup upd_same (.cons ?_ (.cons (L2.Dp.int _) .nil))) s5
      have t5 : Tups (upd H1 q (.tup [.int (n : Int), .str d, .str x])) (upd (upd (upd (upd H1 q (.tup [.int (n : Int), .str d, .str x])) r (.tup [.ref q])) p (.tup (xs ++ [.ref q]))) z (.tup [.ref p, .int ((sh.length + 1 : Nat) : Int)])) :=
        Same.tups (((Same.new hr').trans (Same.new hp)).trans (Same.new hz'))
      refine L2.Dp.tup (a := p) (xs := xs ++ [.ref q]) ((Same.new hz') p _ upd_same) ?_
      have e1 : shT (sh ++ [(n, d, x)]) = shT sh ++ [entT (n, d, x)] := by
        unfold shT
        rw [List.map_append]
        rfl
      rw [e1]
      exact (dl2.mono t5).append (.cons (dq.mono t5) .nil)
def Lz : Nat → T → Prop
  | _, .non => True
  | _, .int _ => True
  | _, .str _ => True
  | 0, .tup _ => False
  | n + 1, .tup ts => ts.length ≤ 10000 ∧ ∀ t ∈ ts, Lz n t
def spSame (n : Nat) : Sp := fun vs H Q _ => ∃ (v1 v2 : V) (T0 : T), vs = [v1, v2] ∧ Dp H T0 v1 ∧ Dp H T0 v2 ∧ Lz n T0 ∧ ∀ H', Same H H' → Q (.bl true) H'
theorem kit_it (K : PySem.W.Frag) : PySem.W.kitOne K (.type "int") (.type "tuple") = some false := by rfl
theorem kit_st (K : PySem.W.Frag) : PySem.W.kitOne K (.type "str") (.type "tuple") = some false := by rfl
theorem kit_nt (K : PySem.W.Frag) : PySem.W.kitOne K (.type "NoneType") (.type "tuple") = some false := by rfl
theorem kit_sb (K : PySem.W.Frag) : PySem.W.kitOne K (.type "str") (.type "bool") = some false := by rfl
theorem kit_nb (K : PySem.W.Frag) : PySem.W.kitOne K (.type "NoneType") (.type "bool") = some false := by rfl
theorem same_step (D : Defs K mg t) {n k : Nat} {sp' : Sp} (G__law_same : FnOk P w K mg base CX0 k t._law_same.1 t._law_same.2 ["_law_one", "_law_other"] sp')
    (hsp : ∀ (m : Nat) (v1 v2 : V) (T0 : T) (H : Hp) (Q : VK) (E : XK), n = m + 1 → Lz m T0 → Dp H T0 v1 → Dp H T0 v2 → (∀ H', Same H H' → Q (.bl true) H') → sp' [v1, v2] H Q E) : FnOk P w K mg base CX0 (k + 1) t._law_same.1 t._law_same.2 ["_law_one", "_law_other"] (spSame n) := by
  have hz : sizeLine = 16777216 := sizeLine_eq
  refine D._law_same.fn.ok sc__law_same (fun vs H Q E h => ?_) (fun cdv A outer s H vs Q E hr h => ?_)
  · obtain ⟨v1, v2, T0, rfl, _⟩ := h
    rfl
  · obtain ⟨v1, v2, T0, rfl, d1, d2, lv, q⟩ := h
    refine ⟨_, (pss_cons (ps_if (PW.pt (pw_or (pt_val (pe_callB call_isinst (by rfl) D.b_isinstance bt_isinstance (pa_cons (pv 0) (pa_cons (pe_bltn (v := V.ty "tuple") rfl D.b_tuple bt_tuple rfl) pa_nil)))) (pw_or1 (pt_val (pe_callB call_isinst (by rfl) D.b_isinstance bt_isinstance (pa_cons (pv 1) (pa_cons (pe_bltn (v := V.ty "tuple") rfl D.b_tuple bt_tuple rfl) pa_nil)))))))
      (pss_cons (ps_if (PW.pt (pw_or (pt_not (pt_val (pe_callB call_isinst (by rfl) D.b_isinstance bt_isinstance (pa_cons (pv 0) (pa_cons (pe_bltn (v := V.ty "tuple") rfl D.b_tuple bt_tuple rfl) pa_nil))))) (pw_or (pt_not (pt_val (pe_callB call_isinst (by rfl) D.b_isinstance bt_isinstance (pa_cons (pv 1) (pa_cons (pe_bltn (v := V.ty "tuple") rfl D.b_tuple bt_tuple rfl) pa_nil))))) (pw_or1 (pt_cmpR op_ne (pe_callB call_len_seq (by rfl) D.b_len bt_len (pa_cons (pv 0) pa_nil)) (pe_callB call_len_seq (by rfl) D.b_len bt_len (pa_cons (pv 1) pa_nil)) (nomark _))))))
      (pss_one (ps_ret pe_bl))
      pss_nil)
      (pss_one (ps_ret (pe_callB (call_all rfl) (by rfl) D.b_all bt_all (pa_cons (pe_comp rfl (CompScope.of ["_law_a", "_law_b"] [] ["_law_a", "_law_b"] (defScope (top 19)) ["_law_one", "_law_other"] rfl rfl (by decide +kernel)) ⟨fun _ _ _ _ _ => (pg_tup_K (K := K) (n := 2) rfl rfl (pgs_cons (pg_name (i := 0) (show List.Nodup [("_law_a" : Str), ("_law_b" : Str)] by decide +kernel) rfl (Or.inl (lookup_relabel_local rfl)) (.inr (lookup_relabel_local rfl))) (pgs_cons (pg_name (i := 1) (show List.Nodup [("_law_a" : Str), ("_law_b" : Str)] by decide +kernel) rfl (Or.inl (lookup_relabel_local rfl)) (.inr (lookup_relabel_local rfl))) pgs_nil))), fun _ _ _ _ _ => pts_nil, fun _ _ _ _ _ => (pe_callF D._law_same G__law_same (hr.mono (by omega)) (by rfl) (pa_cons (pv 0) (pa_cons (pv 1) pa_nil)))⟩ (pi_zip rfl D.b_zip (pa_cons (pv 0) (pa_cons (pv 1) pa_nil)))) pa_nil)))))
      pss_nil)
      (pss_cons (ps_if (PW.pt (pw_or (pt_val (pe_callB call_isinst (by rfl) D.b_isinstance bt_isinstance (pa_cons (pv 0) (pa_cons (pe_bltn (v := V.ty "bool") rfl D.b_bool bt_bool rfl) pa_nil)))) (pw_or1 (pt_val (pe_callB call_isinst (by rfl) D.b_isinstance bt_isinstance (pa_cons (pv 1) (pa_cons (pe_bltn (v := V.ty "bool") rfl D.b_bool bt_bool rfl) pa_nil)))))))
      (pss_one (ps_ret (pe_and (pe_callB call_isinst (by rfl) D.b_isinstance bt_isinstance (pa_cons (pv 0) (pa_cons (pe_bltn (v := V.ty "bool") rfl D.b_bool bt_bool rfl) pa_nil))) (pe_and (pe_callB call_isinst (by rfl) D.b_isinstance bt_isinstance (pa_cons (pv 1) (pa_cons (pe_bltn (v := V.ty "bool") rfl D.b_bool bt_bool rfl) pa_nil))) (pe_one (pe_cmpR op_eq (pv 0) (pv 1) (nomark _)))))))
      pss_nil)
      (pss_one (ps_ret (pe_cmpR op_eq (pv 0) (pv 1) (nomark _)))))), ?_⟩
    cases T0 with
    | non =>
      rw [Dp] at d1 d2
      subst d1 d2
      refine ⟨_, rfl, _, _, _, false, rfl, .non, kit_nt K, _, rfl, iteF ⟨_, rfl, _, _, _, false, rfl, .non, kit_nt K, _, rfl, iteF ?_⟩⟩
      refine ⟨_, rfl, _, _, _, false, rfl, .non, kit_nb K, _, rfl, iteF ⟨_, rfl, _, _, _, false, rfl, .non, kit_nb K, _, rfl, iteF ?_⟩⟩
      refine ⟨_, rfl, _, rfl, rfl, ?_⟩
      rw [decide_eq_true rfl]
      exact q H (Same.refl H)
    | int i =>
      rw [Dp] at d1 d2
      subst d1 d2
      refine ⟨_, rfl, _, _, _, false, rfl, .int i, kit_it K, _, rfl, iteF ⟨_, rfl, _, _, _, false, rfl, .int i, kit_it K, _, rfl, iteF ?_⟩⟩
      refine ⟨_, rfl, _, _, _, false, rfl, .int i, kit_ib K, _, rfl, iteF ⟨_, rfl, _, _, _, false, rfl, .int i, kit_ib K, _, rfl, iteF ?_⟩⟩
      refine ⟨_, rfl, _, rfl, rfl, ?_⟩
      rw [decide_eq_true rfl]
      exact q H (Same.refl H)
    | str i =>
      rw [Dp] at d1 d2
      subst d1 d2
      refine ⟨_, rfl, _, _, _, false, rfl, .str i, kit_st K, _, rfl, iteF ⟨_, rfl, _, _, _, false, rfl, .str i, kit_st K, _, rfl, iteF ?_⟩⟩
      refine ⟨_, rfl, _, _, _, false, rfl, .str i, kit_sb K, _, rfl, iteF ⟨_, rfl, _, _, _, false, rfl, .str i, kit_sb K, _, rfl, iteF ?_⟩⟩
      refine ⟨_, rfl, _, rfl, rfl, ?_⟩
      rw [decide_eq_true rfl]
      exact q H (Same.refl H)
    | tup ts =>
      obtain ⟨a, xs, rfl, ha, dl⟩ := d1.of_tup
      obtain ⟨b, ys, rfl, hb, el⟩ := d2.of_tup
      obtain ⟨m, rfl⟩ : ∃ m, n = m + 1 := by
        cases n with
        | zero => exact (show False from lv).elim
        | succ m => exact ⟨m, rfl⟩
      obtain ⟨lvs, lv⟩ : ts.length ≤ 10000 ∧ ∀ t ∈ ts, Lz m t := lv
      have l1 := dl.length
      have l2 := el.length
      refine ⟨_, rfl, _, _, _, true, rfl, .tup ha, kit_same K "tuple", _, rfl, iteT (iteT ?_)⟩
      refine ⟨_, rfl, _, _, _, true, rfl, .tup ha, kit_same K "tuple", _, rfl, iteF ⟨_, rfl, _, _, _, true, rfl, .tup hb, kit_same K "tuple", _, rfl, iteF ⟨_, rfl, a, xs, rfl, .inr (SqT.of ha), _, rfl, b, ys, rfl, .inr (SqT.of hb), rfl, _, rfl, iteNeg ?_ ?_⟩⟩⟩
      · rw [l1, l2, decide_eq_true rfl]
        exact Bool.false_ne_true
      refine ⟨_, rfl, _, rfl, a, b, xs, ys, rfl, SqT.of ha, SqT.of hb, fun Dd hD => ?_⟩
      refine comp_by (n := ts.length) (fun i zs H2 => zs = List.replicate i (V.bl true) ∧ H2 Dd = some (.lst zs) ∧ Same H H2) ⟨rfl, upd_same, Same.new hD⟩ ?_ ?_
      · rintro zs H2 ⟨rfl, hD2, s2⟩
        refine ⟨⟨xs, SqT.of (s2 a _ ha), by omega⟩, Dd, List.replicate ts.length true, rfl, SqL.of (by rw [hD2]; congr 2; rw [List.map_replicate]), ?_⟩
        rw [show (List.replicate ts.length true).all id = true by rw [List.all_eq_true]; intro b hb; exact (List.mem_replicate.mp hb).2]
        exact q H2 s2
      · rintro i zs H2 hi ⟨rfl, hD2, s2⟩
        obtain ⟨x, ex, dx⟩ := dl.get (List.getElem?_eq_getElem hi)
        obtain ⟨y, ey, dy⟩ := el.get (List.getElem?_eq_getElem hi)
        refine ⟨⟨xs, ys, x, y, SqT.of (s2 a _ ha), SqT.of (s2 b _ hb), ex, ey⟩, ?_⟩
        rintro v H3 ⟨p, hp, rfl, hy⟩ σo ho
        obtain ⟨o, o', rfl⟩ := own2 ho
        have e3 := hy xs ys x y (SqT.of (s2 a _ ha)) (SqT.of (s2 b _ hb)) ex ey
        subst e3
        have s3 := s2.trans (Same.new (o := .tup [x, y]) hp)
        have pD : Dd ≠ p := ne_of_none hD2 hp
        refine ⟨p, [x, y], rfl, SqT.of upd_same, rfl, x, [y], rfl, y, [], rfl, rfl, ⟨[some x, some y], rfl, rfl⟩, ?_⟩
        unfold tYes
        dsimp only
        try rw [if_pos rfl]
        refine ⟨_, rfl, _, rfl, ?_⟩
        refine hsp m x y ts[i] _ _ _ rfl (lv _ (List.getElem_mem hi)) (dx.mono (Same.tups s3)) (dy.mono (Same.tups s3)) fun H4 s4 => ?_
        have hD4 : H4 Dd = some (.lst (List.replicate i (V.bl true))) := s4 Dd _ (by rw [upd_ne pD]; exact hD2)
        have hil : i < sizeLine := by omega
        refine ⟨by rw [List.length_replicate]; exact hil, hD4, less_by hi ⟨by rw [List.replicate_succ'], upd_same, fun c o e => ?_⟩⟩
        rw [upd_ne (ne_of_none e hD)]
        exact s4 c o (s3 c o e)
theorem fn_false {f : Addr} {fd : FuncData} {ps : List Str} : FnOk P w K mg base CX0 0 f fd ps (fun _ _ _ _ => False) := ⟨fun _ _ _ _ h => h.elim, fun _ _ _ _ _ _ _ _ _ _ _ _ _ h => h.elim⟩
theorem ok_same (D : Defs K mg t) : ∀ n, FnOk P w K mg base CX0 (n + 1) t._law_same.1 t._law_same.2 ["_law_one", "_law_other"] (spSame n)
  | 0 => same_step D fn_false fun m _ _ _ _ _ _ h => by omega
  | n + 1 => same_step D (ok_same D n) fun m v1 v2 T0 H Q E h lv d1 d2 q => by
    have e : n = m := by omega
    subst e
    exact ⟨v1, v2, T0, rfl, d1, d2, lv, q⟩
theorem strs_lz {fs : List Str} (h : fs.length ≤ 9000) : Lz 1 (.tup (fs.map T.str)) := by
  refine ⟨by rw [List.length_map]; omega, fun t ht => ?_⟩
  obtain ⟨x, _, e⟩ := List.mem_map.mp ht
  rw [← e]
  trivial
end
end K21
end
section
set_option autoImplicit false
namespace L2
open PySem PySem.Spec PyProof.Rows
section
variable {P : Program} {w : World} {h h' : Heap} {a b d : Addr}
theorem quiet_tuple {A : Around} {E : Value → Shared → Prop} {s : Shared} {Q : Bool → Shared → Prop} (m : Nat) {a : Addr} {items : Array Value} (hp : s.heap.IsTuple a items)
    (hi : ∀ v ∈ items.toList, ∀ Q' : Bool → Shared → Prop, Q' true s → wpAny (model P w) A (eqIsQuiet m v) Q' E s) (hq : Q true s) : wpAny (model P w) A (eqIsQuiet (m + 1) (.ref a)) Q E s := by
  obtain ⟨o, ho, hc, n, hd⟩ := hp
  have hT : s.TypeIs (.ref a) "tuple" := ⟨o, ho, hc⟩
  unfold eqIsQuiet
  refine wpAny_bind (wpAny_specialOf hT F.slot_tuple_eq.lookup ?_)
  show wpAny _ _ (isInstance (.ref a) (.type "tuple") >>= _) _ _ s
  refine wpAny_bind (wpAny_isInstance hT isSubtype_tuple_tuple ?_)
  simp only [Bool.not_true, Bool.false_eq_true, if_false]
  refine wpAny_bind (wpAny_seqItems ho hd ?_)
  refine wpAny_bind ?_
  show wpAny _ _ (forIn items _ _) _ _ s
  rw [← Array.forIn_toList]
  refine wpAny_forIn_list _ (fun rest r s' => r.1 = none ∧ s' = s ∧ ∀ v ∈ rest, v ∈ items.toList) _ ?_ ?_ _ _ ⟨rfl, rfl, fun v h => h⟩
  · rintro v rest r s' ⟨hr, rfl, hall⟩
    refine wpAny_bind (hi v (hall v List.mem_cons_self) _ ?_)
    simp only [Bool.not_true, Bool.false_eq_true, if_false]
    exact wpAny_pure ⟨rfl, rfl, fun u hu' => hall u (List.mem_cons_of_mem _ hu')⟩
  · rintro ⟨r1, r2⟩ s' ⟨hr, rfl, _⟩
    simp only at hr
    subst hr
    exact wpAny_pure hq
end
end L2
end
section
set_option autoImplicit false
namespace L2
open PySem PySem.Spec PyProof.Rows
structure TK (P : Program) (w : World) where
  K : Type
  dec : DecidableEq K
  knd : @HeapKind P w K dec
  enc : K → T
  inj : ∀ {a b : K}, enc a = enc b → a = b
  isOf : ∀ {H : Hp} {h : Heap} {k : K} {b : Addr}, HOk P w H h → Dp H (enc k) (.ref b) → knd.is h k b
  isTup : ∀ {k : K} {H : Hp} {y : V}, Dp H (enc k) y → ∃ b, y = .ref b
  room : ∀ {A : Around}, A.units + 2 < cLine → knd.room A.in1
section
variable {P : Program} {w : World}
abbrev XR (Y : TK P w) : List (Y.K × Addr × V) → List (Y.K × Addr × Value) → Prop := Paired fun p q => p.1 = q.1 ∧ p.2.1 = q.2.1 ∧ RelV p.2.2 q.2.2
def DX (Y : TK P w) (a : Addr) (kvs : List (Y.K × Addr × V)) : HO := .ext fun h => (a == sysModules) = false ∧ ∃ (xs : List (Y.K × Addr × Value)) (o : Obj) (es : Array DictEntry) (ep : Nat), XR Y kvs xs ∧ h.get? a = some o ∧ o.ExactDict ∧ o.data = .dict es ep ∧ es.toList = xs.map (@entryOfKey P w Y.K Y.dec Y.knd) ∧ (xs.map (·.1)).Nodup
def atX (Y : TK P w) (kvs : List (Y.K × Addr × V)) (k : Y.K) : Option V := (kvs.find? fun x => (@decide (x.1 = k) (Y.dec _ _))).map (·.2.2)
def putX (Y : TK P w) (kvs : List (Y.K × Addr × V)) (k : Y.K) (b : Addr) (v : V) : List (Y.K × Addr × V) :=
  if (atX Y kvs k).isSome then kvs.map fun x => @ite _ (x.1 = k) (Y.dec _ _) (x.1, x.2.1, v) x else kvs ++ [(k, b, v)]
theorem XR.val (Y : TK P w) {kvs : List (Y.K × Addr × V)} {xs : List (Y.K × Addr × Value)} (r : XR Y kvs xs) (k : Y.K) : RelO (atX Y kvs k) ((@atKey Y.K Y.dec xs k).map (·.2)) := by
  letI := Y.dec
  induction r with
  | nil => exact True.intro
  | @cons p q ps qs h t ih =>
    obtain ⟨h1, _, h2⟩ := h
    by_cases e : p.1 = k
    · have e' : q.1 = k := h1.symm.trans e
      have b : atKey (q :: qs) k = some q.2 := by simp [atKey, List.find?_cons, e']
      have c : atX Y (p :: ps) k = some p.2.2 := by simp [atX, List.find?_cons, e]
      rw [b, c]; exact h2
    · have e' : ¬ q.1 = k := fun z => e (h1.trans z)
      have b : atKey (q :: qs) k = atKey qs k := by simp [atKey, List.find?_cons, e']
      have c : atX Y (p :: ps) k = atX Y ps k := by simp [atX, List.find?_cons, e]
      rw [b, c]; exact ih
theorem XR.put (Y : TK P w) {kvs : List (Y.K × Addr × V)} {xs : List (Y.K × Addr × Value)} (r : XR Y kvs xs) (k : Y.K) (b : Addr) {y : V} {u : Value} (ry : RelV y u) : XR Y (putX Y kvs k b y) (@storedH Y.K Y.dec xs k b u) := by
  letI := Y.dec
  have e : (atX Y kvs k).isSome = (atKey xs k).isSome := by
    have := (XR.val Y r k).isSome_eq
    rwa [Option.isSome_map] at this
  unfold putX storedH
  rw [e]
  by_cases q : (atKey xs k).isSome = true
  · rw [if_pos q, if_pos q]
    clear q e
    induction r with
    | nil => exact .nil
    | @cons p q ps qs h t ih =>
      rw [List.map_cons, List.map_cons]
      refine .cons ?_ ih
      obtain ⟨h1, h2, h3⟩ := h
      unfold putAt
      by_cases e : p.1 = k
      · rw [if_pos e, if_pos (h1.symm.trans e)]; exact ⟨h1, h2, ry⟩
      · rw [if_neg e, if_neg (fun z => e (h1.trans z))]; exact ⟨h1, h2, h3⟩
  · rw [if_neg q, if_neg q]; exact Paired.snoc r ⟨rfl, rfl, ry⟩
theorem mem_put (Y : TK P w) {kvs : List (Y.K × Addr × V)} {k : Y.K} {b : Addr} {v : V} {x : Y.K × Addr × V} (h : x ∈ putX Y kvs k b v) : (x.1 = k ∧ x.2.1 = b) ∨ ∃ y ∈ kvs, y.1 = x.1 ∧ y.2.1 = x.2.1 := by
  letI := Y.dec
  unfold putX at h
  split at h
  · obtain ⟨y, hy, e⟩ := List.mem_map.mp h
    refine .inr ⟨y, hy, ?_⟩
    split at e
    · subst e; exact ⟨rfl, rfl⟩
    · subst e; exact ⟨rfl, rfl⟩
  · rcases List.mem_append.mp h with h | h
    · exact .inr ⟨x, h, rfl, rfl⟩
    · rw [List.mem_singleton.mp h]
      exact .inl ⟨rfl, rfl⟩
inductive Kd (P : Program) (w : World) where
  | key
  | tup (Y : TK P w)
def kT : Key → T
  | .inl i => .int i
  | .inr x => .str x
theorem kT_inj : ∀ {a b : Key}, kT a = kT b → a = b
  | .inl _, .inl _, h => by cases h; rfl
  | .inr _, .inr _, h => by cases h; rfl
  | .inl _, .inr _, h => by cases h
  | .inr _, .inl _, h => by cases h
theorem kT_dp {H : Hp} : ∀ {k : Key} {v : V}, Dp H (kT k) v → v = kV k
  | .inl i, v, h => Dp.of_int (i := i) h
  | .inr x, v, h => Dp.of_str (x := x) h
def Kd.G : Kd P w → T → Prop
  | .key, t => ∃ k, t = kT k
  | .tup Y, t => ∃ k, t = Y.enc k
end
end L2
end
section
set_option autoImplicit false
namespace L2
open PySem PySem.Spec PyProof.Rows
def IsTT (P : Program) (w : World) (h : Heap) (k : List (List Key)) (a : Addr) : Prop := ∃ o n bs, h.get? a = some o ∧ o.cls = .type "tuple" ∧ o.data = .seq (bs.map Value.ref).toArray n ∧ Paired (fun ks b => IsTupleKey (mixKind P w) h ks b) k bs
section
variable {P : Program} {w : World} {h h' : Heap} {k k' : List (List Key)} {a b d : Addr}
theorem tt_inj : ∀ {k k' : List (List Key)} {bs : List Addr}, Paired (fun ks b => IsTupleKey (mixKind P w) h ks b) k bs → Paired (fun ks b => IsTupleKey (mixKind P w) h ks b) k' bs → k = k'
  | _, _, _, .nil, .nil => rfl
  | _, _, _, .cons r t, .cons r' t' => by rw [r.inj r', tt_inj t t']
theorem refs_inj : ∀ {bs cs : List Addr}, bs.map Value.ref = cs.map Value.ref → bs = cs
  | [], [], _ => rfl
  | x :: bs, y :: cs, h => by
    injection h with h1 h2
    injection h1 with h1
    rw [h1, refs_inj h2]
  | [], _ :: _, h => nomatch h
  | _ :: _, [], h => nomatch h
theorem IsTT.inj (x : IsTT P w h k a) (y : IsTT P w h k' a) : k = k' := by
  obtain ⟨o, n, bs, h1, _, h3, h4⟩ := x
  obtain ⟨o', n', bs', g1, _, g3, g4⟩ := y
  obtain rfl : o = o' := Option.some.inj (h1.symm.trans g1)
  rw [h3] at g3
  injection g3 with e _
  have e1 : bs.map Value.ref = bs'.map Value.ref := by simpa using congrArg Array.toList e
  have e2 : bs = bs' := refs_inj e1
  subst e2
  exact tt_inj h4 g4
theorem IsTT.keeps {o : Obj} {es ep} (x : IsTT P w h k a) (ho : h.get? d = some o) (hd : o.data = .dict es ep) (hs : Heap.SameBut d h h') : IsTT P w h' k a := by
  obtain ⟨o', n, bs, h1, h2, h3, h4⟩ := x
  have hne : a ≠ d := by
    rintro rfl
    obtain rfl : o' = o := Option.some.inj (h1.symm.trans ho)
    rw [hd] at h3; exact nomatch h3
  exact ⟨o', n, bs, (hs.2 a hne).trans h1, h2, h3, Paired.mapP h4 fun ks b q => q.keeps ho hd hs⟩
theorem tk_tup {ks : List Key} (x : IsTupleKey (mixKind P w) h ks a) : ∃ items, h.IsTuple a items ∧ ItemsAre (mixKind P w) ks items.toList :=
  let ⟨o, items, n, h1, h2, h3, h4⟩ := x; ⟨items, ⟨o, h1, h2, n, h3⟩, h4⟩
theorem paired_mem {α β : Type} {F : α → β → Prop} : ∀ {l : List α} {m : List β} {y : β}, Paired F l m → y ∈ m → ∃ x ∈ l, F x y
  | _, _, _, .cons r t, h => by
    rcases List.mem_cons.mp h with rfl | h
    · exact ⟨_, List.mem_cons_self, r⟩
    · obtain ⟨x, hx, q⟩ := paired_mem t h
      exact ⟨x, List.mem_cons_of_mem _ hx, q⟩
theorem IsTT.quiet {A : Around} {E : Value → Shared → Prop} {s : Shared} {Q : Bool → Shared → Prop} (x : IsTT P w s.heap k a) (hq : Q true s) : wpAny (model P w) A (eqIsQuiet 8 (.ref a)) Q E s := by
  obtain ⟨o, n, bs, h1, h2, h3, h4⟩ := x
  refine quiet_tuple 7 ⟨o, h1, h2, n, h3⟩ (fun v hv Q' hq' => ?_) hq
  rw [List.toList_toArray] at hv
  obtain ⟨b, hb, rfl⟩ := List.mem_map.mp hv
  obtain ⟨ks, _, q⟩ := paired_mem h4 hb
  obtain ⟨its, hp2, hi⟩ := tk_tup q
  refine quiet_tuple 6 hp2 (fun v hv Q2 hq2 => ?_) hq'
  rw [eqIsQuiet_byValue _ (hi.byValue v hv)]
  exact wpAny_pure hq2
def ttH (P : Program) (w : World) (k : List (List Key)) : Int := reduceHash (Builtin.Tuple.tupleHashOf (k.map (tupleKeyHash (mixKind P w))))
def ttD : List (List Key) → Nat
  | [] => 1
  | ks :: r => ks.length + 1 + ttD r
theorem IsTT.hash {A : Around} {E : Value → Shared → Prop} {s : Shared} {Q : Int → Shared → Prop} (hu : A.units + 1 < cLine) (x : IsTT P w s.heap k a) (hq : Q (ttH P w k) { s with toks := s.toks + ttD k }) :
    wpAny (model P w) A (PySem.pyHash (.ref a)) Q E s := by
  obtain ⟨o, n, bs, ho, hc, hd, hb⟩ := x
  refine PySem.W.pyHash_slot (T := "tuple") ⟨o, ho, hc⟩ F.slot_tuple_hash F.entry_tuple_hash (F.args_tuple_hash_1 _) (beq_builtin_none _) (.inr (by omega)) ?_
  show wpAny _ _ (Builtin.Tuple.tupleItemsOf (.ref a) >>= _) _ _ s
  refine wpAny_bind (wpAny_tupleItemsOf ho hd ?_)
  refine wpAny_bind ?_
  rw [← Array.forIn_toList, List.toList_toArray]
  have go : ∀ (bs : List Addr) (k : List (List Key)) (acc : Array Int) (t : Nat) (R : Array Int → Shared → Prop), Paired (fun ks b => IsTupleKey (mixKind P w) s.heap ks b) k bs → R (acc ++ (k.map (tupleKeyHash (mixKind P w))).toArray) { s with toks := t + (ttD k - 1) } →
      wpAny (model P w) A.in1 (forIn (bs.map Value.ref) acc fun x hs => (do let h ← PySem.pyHash x; pure (ForInStep.yield (hs.push h)) : Sem (ForInStep (Array Int)))) R E { s with toks := t } := by
    intro bs
    induction bs with
    | nil =>
      intro k acc t R hp hR
      cases hp
      rw [List.map_nil, List.forIn_nil]
      refine wpAny_pure ?_
      simpa [ttD] using hR
    | cons b bs ih =>
      intro k acc t R hp hR
      cases hp with
      | @cons ks _ k' _ r q =>
      rw [List.map_cons, List.forIn_cons]
      refine wpAny_bind (wpAny_bind (wpAny_pyHash_tuple (s := { s with toks := t }) (knd := mixKind P w) (by show A.units + 1 < cLine; exact hu) r (wpAny_pure ?_)))
      dsimp only
      refine ih k' _ _ R q ?_
      have e1 : acc.push (tupleKeyHash (mixKind P w) ks) ++ (k'.map (tupleKeyHash (mixKind P w))).toArray = acc ++ ((ks :: k').map (tupleKeyHash (mixKind P w))).toArray := by simp
      have e0 : ∀ k : List (List Key), 1 ≤ ttD k := fun k => by cases k <;> simp [ttD] <;> omega
      have e2 : t + (ks.length + 1) + (ttD k' - 1) = t + (ttD (ks :: k') - 1) := by
        show _ = t + (ks.length + 1 + ttD k' - 1)
        have := e0 k'
        omega
      rw [e1, e2]
      exact hR
  refine go bs k #[] s.toks _ hb ?_
  refine wpAny_bind (wpAny_mkInt (wpAny_pure ⟨_, _, rfl, ?_⟩))
  have e0 : 1 ≤ ttD k := by cases k <;> simp [ttD] <;> omega
  have e3 : s.toks + (ttD k - 1) + 1 = s.toks + ttD k := by omega
  show Q (reduceHash (Builtin.Tuple.tupleHashOf (#[] ++ _).toList)) { s with toks := s.toks + (ttD k - 1) + 1 }
  rw [e3]
  simpa [ttH] using hq
theorem items_anyK (P' : Program) (w' : World) : ∀ {ks : List Key} {vs : List Value}, ItemsAre (mixKind P w) ks vs → ItemsAre (mixKind P' w') ks vs
  | _, _, .nil => .nil
  | _, _, .cons h r => .cons h (items_anyK P' w' r)
theorem key_anyK (P' : Program) (w' : World) {ks : List Key} (x : IsTupleKey (mixKind P w) h ks a) : IsTupleKey (mixKind P' w') h ks a :=
  let ⟨o, its, n, g1, g2, g3, g4⟩ := x; ⟨o, its, n, g1, g2, g3, items_anyK P' w' g4⟩
theorem paired_at {α β : Type} {F : α → β → Prop} : ∀ {l : List α} {m : List β} {i : Nat} {y : β}, Paired F l m → m[i]? = some y → ∃ x, l[i]? = some x ∧ F x y
  | _, _, 0, _, .cons r _, h => by cases h; exact ⟨_, rfl, r⟩
  | _, _, i + 1, _, .cons _ t, h => by
    obtain ⟨x, e, q⟩ := paired_at (i := i) t (by simpa using h)
    exact ⟨x, by simpa using e, q⟩
theorem all_eq {α : Type} [DecidableEq α] (d : α) : ∀ (k k' : List α), ((List.range (min k.length k'.length)).all (fun j => decide (k.getD j d = k'.getD j d)) && k.length == k'.length) = decide (k = k') := by
  intro k k'
  by_cases e : k = k'
  · subst e
    simp
  · rw [decide_eq_false e]
    by_cases hl : k.length = k'.length
    · rw [Bool.and_eq_false_iff]
      left
      rw [List.all_eq_false]
      apply Classical.byContradiction
      intro hn
      refine e (List.ext_getElem hl fun i h1 h2 => ?_)
      apply Classical.byContradiction
      intro hne
      refine hn ⟨i, by simp; omega, ?_⟩
      simp only [decide_eq_true_eq]
      rw [List.getD_eq_getElem?_getD, List.getD_eq_getElem?_getD, List.getElem?_eq_getElem h1, List.getElem?_eq_getElem h2]
      exact hne
    · rw [Bool.and_eq_false_iff]
      right
      simpa using hl
theorem IsTT.eq {A : Around} {E : Value → Shared → Prop} {s : Shared} {Q : Bool → Shared → Prop} (hu : A.units + 1 < cLine) (x : IsTT P w s.heap k a) (y : IsTT P w s.heap k' b) (hq : Q (decide (k = k')) s) :
    wpAny (model P w) A (PySem.eqBool (.ref a) (.ref b)) Q E s := by
  by_cases hab : a = b
  · subst hab
    obtain rfl := x.inj y
    rw [decide_eq_true rfl] at hq
    exact SeqAt.EqAt.same _ _ _ _ _ hq
  · obtain ⟨o, n, bs, h1, h2, h3, h4⟩ := x
    obtain ⟨o', n', bs', g1, g2, g3, g4⟩ := y
    have key := SeqAt.RcAt.tuples (A := A) (s := s) (e := fun j => decide (k.getD j [] = k'.getD j [])) ⟨o, h1, h2, n, h3⟩ ⟨o', g1, g2, n', g3⟩ (by omega) (fun j q1 q2 => by
      have q1' : j < bs.length := by simpa using q1
      have q2' : j < bs'.length := by simpa using q2
      obtain ⟨ks, e1, r1⟩ := paired_at h4 (List.getElem?_eq_getElem q1')
      obtain ⟨ks', e2, r2⟩ := paired_at g4 (List.getElem?_eq_getElem q2')
      rw [List.getD_eq_getElem?_getD, List.getD_eq_getElem?_getD, e1, e2]
      intro prog w' E Q h
      have e3 : (bs.map Value.ref).toArray[j] = .ref bs[j] := by simp
      have e4 : (bs'.map Value.ref).toArray[j] = .ref bs'[j] := by simp
      rw [e3, e4]
      exact wpAny_eqBool_tuple (by show A.units + 1 < cLine; exact hu) (key_anyK prog w' r1) (key_anyK prog w' r2) h)
    have ee := all_eq ([] : List Key) k k'
    rw [Paired.length h4, Paired.length g4] at ee
    have key' : SeqAt.RcAt A s (.ref a) (.ref b) (decide (k = k')) := by
      rw [← ee]
      simpa using key
    exact (SeqAt.EqAt.of_refs hab key') _ _ _ _ hq
end
def ttKind (P : Program) (w : World) : PySem.HeapKind P w (List (List Key)) where
  is := IsTT P w
  hash := ttH P w
  draws := ttD
  room := fun A => A.units + 1 < cLine
  inj := fun x y => x.inj y
  keeps := fun x ho hd hs => x.keeps ho hd hs
  pyHash := fun hu x h => x.hash hu h
  eqBool := fun hu x y h => x.eq hu y h
  quiet := fun x h => x.quiet h
end L2
end
section
set_option autoImplicit false
namespace L2
open PySem PySem.Spec PyProof.Rows
section
variable {prog : Program} {w : World} {A : Around} {E : Value → Shared → Prop} {s : Shared} {it d : Addr} {i ep : Nat} {o : Obj} {es : Array DictEntry}
theorem rawIter {Q : Value → Shared → Prop} (hs : (d == sysModules) = false) (ho : s.heap.get? d = some o) (hx : o.ExactDict) (hd : o.data = .dict es ep) (hz : es.size ≤ sizeLine)
    (h : Q (.ref s.heap.objs.size) { s with heap := s.heap.push { cls := .type "dict_keyiterator", data := .fields #[.ref d, .int 0 0, .int es.size 0, .int ep 0] } }) : wpAny (model prog w) A (pyIter (.ref d)) Q E s := by
  have hT : s.TypeIs (.ref d) "dict" := ⟨o, ho, hx.1⟩
  refine wpAny_pyIter_slot hT F.slot_dict_iter (wpAny_call_entry F.slot_dict_iter hT F.entry_dict_iter ?_ (F.args_dict_iter_1 _))
  unfold Builtin.«dict.__iter__»
  refine wpAny_bind ?_
  show wpAny _ _ (Builtin.Dict.notOrdered "__iter__" _ >>= _) _ _ _
  refine wpAny_bind (wpAny_notOrdered_dict hT ?_)
  refine wpAny_bind (wpAny_pure (wpAny_pure ?_))
  refine wpAny_bind (m := Builtin.Dict.addrOf _) (wpAny_pure ?_)
  refine wpAny_bind (m := Builtin.Dict.showsAll _) ?_
  unfold Builtin.Dict.showsAll
  rw [hs]
  refine wpAny_pure ?_
  refine wpAny_bind (wpAny_dictEntries ho hd (wpAny_bind (wpAny_dictEpoch ho hd (wpAny_bind ?_))))
  show wpAny _ _ (newObj _ _) _ _ _
  refine wpAny_newObj_type ?_
  exact wpAny_pure ⟨_, rfl, _, _, ⟨_, Heap.get?_push_size _ rfl, rfl⟩, F.slot_dict_keyiterator_next.lookup, h⟩
theorem rawItem {e : DictEntry} {Q : Option Value → Shared → Prop} (st : s.heap.IsKeyIter it d i es.size ep) (ho : s.heap.get? d = some o) (hd : o.data = .dict es ep) (hi : es[i]? = some e)
    (h : ∀ h', h'.IsKeyIter it d (i + 1) es.size ep → Heap.SameBut it s.heap h' → Q (some e.key) { s with heap := h' }) : wpAny (model prog w) A (pyNext (.ref it)) Q E s := by
  have hT := st.typeIs
  obtain ⟨oi, hoi, hci, hdi⟩ := id st
  unfold pyNext
  refine wpAny_bind (wpAny_attempt (wpAny_callSpecial?_slot hT F.slot_dict_keyiterator_next (wpAny_call_entry F.slot_dict_keyiterator_next hT F.entry_dict_keyiterator_next ?_ (F.args_dict_keyiterator_next_1 _))))
  refine wpAny_bind (m := Builtin.Dict_items.slot0 "__next__" _) (wpAny_pure ?_)
  refine wpAny_bind ?_
  refine wpAny_bind (wpAny_bind (wpAny_typeNameOfWhole_keyiter hT (wpAny_pure ?_)))
  refine wpAny_bind (wpAny_fieldsOf hoi hdi ?_)
  refine wpAny_bind (m := Builtin.Dict_items.addrOf (.ref d)) (wpAny_pure ?_)
  refine wpAny_bind (wpAny_dictEntries ho hd ?_)
  simp only [bne_self_eq_false, Bool.false_eq_true, if_false]
  refine wpAny_bind (m := Builtin.Dict_items.addrOf (.ref d)) (wpAny_pure ?_)
  refine wpAny_bind (wpAny_dictEpoch ho hd ?_)
  simp only [bne_self_eq_false, Bool.false_eq_true, if_false]
  refine wpAny_pure ?_
  have e1 : (if ((i : Nat) : Int) < 0 then none else es[((i : Nat) : Int).toNat]?) = some e := by
    rw [if_neg (by omega), Int.toNat_natCast]
    exact hi
  simp only [e1]
  refine wpAny_bind (wpAny_bind (wpAny_typeNameOfWhole_keyiter hT (wpAny_pure ?_)))
  refine wpAny_bind (wpAny_isOneOf_keyiter hT ?_)
  refine wpAny_bind (wpAny_setField hoi hdi (by show 1 < 4; decide) ?_)
  refine wpAny_bind (wpAny_holding ?_)
  have fr : ∀ g, (Obj.mapFields g oi).isFreed = false := fun g => Obj.isFreed_of_fields (Obj.data_mapFields hdi g)
  have ek : (s.heap.update it (Obj.mapFields fun x => x.setIfInBounds 1 (rawInt ((i : Int) + 1)))).IsKeyIter it d (i + 1) es.size ep :=
    ⟨_, Heap.get?_update_self _ hoi (fr _), (Obj.cls_mapFields _ _).trans hci, (Obj.data_mapFields hdi _).trans rfl⟩
  show wpAny _ _ _ _ _ { s with heap := s.heap.update it (Obj.mapFields fun x => x.setIfInBounds 1 (rawInt ((i : Int) + 1))) }
  refine wpAny_bind (wpAny_isOneOf_keyiter ek.typeIs ?_)
  show wpAny _ _ (pure e.key) _ _ _
  exact wpAny_pure (wpAny_pure ⟨_, rfl, wpAny_pure (h _ ek (Heap.SameBut.update _ _ _))⟩)
theorem rawEnd {Q : Option Value → Shared → Prop} (hh : A.handled = none) (st : s.heap.IsKeyIter it d i es.size ep) (ho : s.heap.get? d = some o) (hd : o.data = .dict es ep) (hi : es[i]? = none)
    (h : ∀ h', Heap.ExtBut it s.heap h' → Q none { s with heap := h' }) : wpAny (model prog w) A (pyNext (.ref it)) Q E s := by
  have hT := st.typeIs
  obtain ⟨oi, hoi, hci, hdi⟩ := id st
  unfold pyNext
  refine wpAny_bind (wpAny_attempt (wpAny_callSpecial?_slot hT F.slot_dict_keyiterator_next (wpAny_call_entry F.slot_dict_keyiterator_next hT F.entry_dict_keyiterator_next ?_ (F.args_dict_keyiterator_next_1 _))))
  refine wpAny_bind (m := Builtin.Dict_items.slot0 "__next__" _) (wpAny_pure ?_)
  refine wpAny_bind ?_
  refine wpAny_bind (wpAny_bind (wpAny_typeNameOfWhole_keyiter hT (wpAny_pure ?_)))
  refine wpAny_bind (wpAny_fieldsOf hoi hdi ?_)
  refine wpAny_bind (m := Builtin.Dict_items.addrOf (.ref d)) (wpAny_pure ?_)
  refine wpAny_bind (wpAny_dictEntries ho hd ?_)
  simp only [bne_self_eq_false, Bool.false_eq_true, if_false]
  refine wpAny_bind (m := Builtin.Dict_items.addrOf (.ref d)) (wpAny_pure ?_)
  refine wpAny_bind (wpAny_dictEpoch ho hd ?_)
  simp only [bne_self_eq_false, Bool.false_eq_true, if_false]
  refine wpAny_pure ?_
  have e1 : (if ((i : Nat) : Int) < 0 then none else es[((i : Nat) : Int).toNat]?) = none := by
    rw [if_neg (by omega), Int.toNat_natCast]
    exact hi
  simp only [e1]
  refine wpAny_bind (wpAny_bind (wpAny_typeNameOfWhole_keyiter hT (wpAny_pure ?_)))
  refine wpAny_bind (wpAny_setField hoi hdi (by show 0 < 4; decide) ?_)
  refine wpAny_bind ?_
  simp only [newExc, newTuple]
  refine wpAny_bind (wpAny_newObj_type ?_ (by size_fits))
  refine wpAny_bind (m := firstArgMember _ _) (wpAny_pure ?_)
  refine wpAny_newObj_type ?_ (by size_fits)
  simp only [raiseNew]
  refine wpAny_bind (wpAny_handled ?_)
  show wpAny _ _ (match (Value.ref _), A.handled with | Value.ref a, some h => _ | x, x_1 => _) _ _ _
  rw [hh]
  refine wpAny_throw ?_
  exact wpAny_bind (wpAny_isInstance (T := "StopIteration") (b := true) ⟨_, Heap.get?_push_size _ rfl, rfl⟩ isSubtype_stop (wpAny_pure (h _ (((Heap.SameBut.update ..).extBut.push _).push _))))
end
theorem kTs_inj : ∀ {a b : List Key}, a.map kT = b.map kT → a = b
  | [], [], _ => rfl
  | x :: a, y :: b, h => by
    injection h with h1 h2
    rw [kT_inj h1, kTs_inj h2]
  | [], _ :: _, h => nomatch h
  | _ :: _, [], h => nomatch h
theorem kTss_inj : ∀ {a b : List (List Key)}, (a.map fun ks => T.tup (ks.map kT)) = (b.map fun ks => T.tup (ks.map kT)) → a = b
  | [], [], _ => rfl
  | x :: a, y :: b, h => by
    injection h with h1 h2
    injection h1 with h1
    rw [kTs_inj h1, kTss_inj h2]
  | [], _ :: _, h => nomatch h
  | _ :: _, [], h => nomatch h
theorem kTs_dp {H : Hp} : ∀ {ks : List Key} {vs : List V}, DpL H (ks.map kT) vs → vs = ks.map kV
  | [], vs, h => by cases h.of_nil; rfl
  | k :: ks, vs, h => by
    obtain ⟨x, r, rfl, d, h⟩ := h.cases
    rw [kT_dp d, kTs_dp h]
    rfl
theorem kItems {P : Program} {w : World} : ∀ {ks : List Key} {us : List Value}, Vals (ks.map kV) us → ItemsAre (mixKind P w) ks us
  | [], _, .nil => .nil
  | k :: ks, _, .cons r t => .cons (kV_is (P := P) (w := w) r) (kItems t)
theorem tt_of {P : Program} {w : World} {H : Hp} {h : Heap} (ok : HOk P w H h) : ∀ {k : List (List Key)} {vs : List V} {us : List Value}, DpL H (k.map fun ks => T.tup (ks.map kT)) vs → Vals vs us → ∃ bs : List Addr, us = bs.map Value.ref ∧ Paired (fun ks b => IsTupleKey (mixKind P w) h ks b) k bs
  | [], vs, us, d, r => by
    cases d.of_nil
    cases r
    exact ⟨[], rfl, .nil⟩
  | ks :: k, vs, us, d, r => by
    obtain ⟨x, q, rfl, d1, d2⟩ := d.cases
    cases r with
    | cons r1 r2 =>
    obtain ⟨b, ys, rfl, hb, hl⟩ := d1.of_tup
    obtain ⟨bs, rfl, pr⟩ := tt_of ok d2 r2
    rw [kTs_dp hl] at hb
    obtain ⟨_, its, ri, o, h1, h2, n, h3⟩ := (show ObjOk P w H h b (.tup (ks.map kV)) from ok b _ hb)
    cases r1
    exact ⟨b :: bs, rfl, .cons ⟨o, its.toArray, n, h1, h2, h3, by simpa using kItems ri⟩ pr⟩
def tk3 (P : Program) (w : World) : TK P w where
  K := List (List Key)
  dec := inferInstance
  knd := ttKind P w
  enc := fun k => .tup (k.map fun ks => T.tup (ks.map kT))
  inj := fun h => by injection h with h; exact kTss_inj h
  isOf := fun {H h k b} ok d => by
    obtain ⟨a, xs, e, ha, hl⟩ := d.of_tup
    cases e
    obtain ⟨_, its, r, o, h1, h2, n, h3⟩ := (show ObjOk P w H h b (.tup xs) from ok b _ ha)
    obtain ⟨bs, rfl, pr⟩ := tt_of ok hl r
    exact ⟨o, n, bs, h1, h2, h3, pr⟩
  isTup := fun d => let ⟨a, _, e, _⟩ := d.of_tup; ⟨a, e⟩
  room := fun {A} h => by show A.units + 1 + 1 < cLine; omega
structure SR {P : Program} {w : World} (Y : TK P w) (H : Hp) (a : Addr) (kvs : List (Y.K × Addr × V)) : Prop where
  rd : Rd H a (DX Y a kvs)
  ks : ∀ x ∈ kvs, Dp H (Y.enc x.1) (.ref x.2.1)
section
variable {X : Cx} {pins : List (Addr × Obj)} {σ : St} {H : Hp} {s : Shared} {a : Addr} {y v d : V} {u r : Value} {A : Around} {E : Value → Shared → Prop} {Y : TK X.prog X.w} {kvs : List (Y.K × Addr × V)} {k : Y.K}
theorem sr_at (I : Inv X pins σ H s) (m : SR Y H a kvs) : (a == sysModules) = false ∧ ∃ xs, XR Y kvs xs ∧ @Heap.DictOfH X.prog X.w Y.K Y.dec Y.knd s.heap a xs := by
  obtain ⟨⟨hd, xs, o, es, ep, r, h1, h2, h3, h4, h5⟩, hrest⟩ := m.rd.ok I.hok
  have kk := m.ks
  refine ⟨hd, xs, r, o, es, ep, h1, h2, h3, h4, ?_, h5⟩
  clear h4 h5 hrest m
  induction r with
  | nil => exact nofun
  | @cons p q ps qs hq t ih =>
    intro x hx
    rcases List.mem_cons.mp hx with e | hx
    · subst e
      have := Y.isOf I.hok (kk p List.mem_cons_self)
      rw [← hq.1, ← hq.2.1]
      exact this
    · exact ih (fun y hy => kk y (List.mem_cons_of_mem _ hy)) x hx
theorem sr_is (I : Inv X pins σ H s) (m : SR Y H a kvs) : s.TypeIs (.ref a) "dict" := by
  obtain ⟨hd, xs, rel, dd⟩ := sr_at I m
  letI := Y.dec
  exact dd.typeIs
theorem sr_get {Q : Value → Shared → Prop} (hu : A.units + 2 < cLine) (I : Inv X pins σ H s) (m : SR Y H a kvs) (dy : Dp H (Y.enc k) y) (hv : atX Y kvs k = some v) (ry : RelV y u) (h : ∀ w' s', Inv X pins σ H s' → RelV v w' → Q w' s') :
    wpAny (model X.prog X.w) A (getItem (.ref a) u) Q E s := by
  obtain ⟨b, rfl⟩ := Y.isTup dy
  cases (show u = Value.ref b from ry)
  obtain ⟨hd, xs, rel, dd⟩ := sr_at I m
  obtain ⟨w', hw, rw'⟩ := RelO.some_of (v := v) (o := (@atKey Y.K Y.dec xs k).map (·.2)) (by rw [← hv]; exact XR.val Y rel k)
  obtain ⟨p, hp, hp2⟩ := Option.map_eq_some_iff.mp hw
  letI := Y.dec
  refine wpAny_getItem_heap (Y.room hu) (Y.isOf I.hok dy) dd hp ?_
  rw [hp2]
  exact h w' _ (I.tok _) rw'
theorem sr_in {Q : Value → Shared → Prop} (hu : A.units + 2 < cLine) (I : Inv X pins σ H s) (m : SR Y H a kvs) (dy : Dp H (Y.enc k) y) (ry : RelV y u) (h : ∀ s', Inv X pins σ H s' → Q (.bool (atX Y kvs k).isSome) s') :
    wpAny (model X.prog X.w) A (compareOp .In u (.ref a)) Q E s := by
  obtain ⟨b, rfl⟩ := Y.isTup dy
  cases (show u = Value.ref b from ry)
  obtain ⟨hd, xs, rel, dd⟩ := sr_at I m
  letI := Y.dec
  refine wpAny_in_heap (Y.room hu) (Y.isOf I.hok dy) hd dd ?_
  have q := (XR.val Y rel k).isSome_eq
  rw [Option.isSome_map] at q
  rw [← q]
  exact h _ (I.tok _)
theorem dx_stay {P : Program} {w : World} {Y : TK P w} {kvs : List (Y.K × Addr × V)} {a : Addr} {p1 p2 : Heap} (h : (a == sysModules) = false ∧ ∃ (xs : List (Y.K × Addr × Value)) (o : Obj) (es : Array DictEntry) (ep : Nat), XR Y kvs xs ∧ p1.get? a = some o ∧ o.ExactDict ∧ o.data = .dict es ep ∧ es.toList = xs.map (@entryOfKey P w Y.K Y.dec Y.knd) ∧ (xs.map (·.1)).Nodup) (kk : ∀ o, p1.get? a = some o → p2.get? a = some o) :
    (a == sysModules) = false ∧ ∃ (xs : List (Y.K × Addr × Value)) (o : Obj) (es : Array DictEntry) (ep : Nat), XR Y kvs xs ∧ p2.get? a = some o ∧ o.ExactDict ∧ o.data = .dict es ep ∧ es.toList = xs.map (@entryOfKey P w Y.K Y.dec Y.knd) ∧ (xs.map (·.1)).Nodup := by
  obtain ⟨e1, xs', o', es', ep', e2, e3, e4⟩ := h
  exact ⟨e1, xs', o', es', ep', e2, kk _ e3, e4⟩
theorem sr_set {Q : Unit → Shared → Prop} {b : Addr} (hu : A.units + 2 < cLine) (I : Inv X pins σ H s) (e : H a = some (DX Y a kvs)) (ks : ∀ x ∈ kvs, Dp H (Y.enc x.1) (.ref x.2.1)) (hn : kvs.length < 1000) (dy : Dp H (Y.enc k) (.ref b)) (rv : RelV v r)
    (h : ∀ s', Inv X pins σ (upd H a (DX Y a (putX Y kvs k b v))) s' → Q () s') : wpAny (model X.prog X.w) A (setItem (.ref a) (.ref b) r) Q E s := by
  have big : (1000 : Nat) < sizeLine := by decide
  obtain ⟨hd, xs, rel, dd⟩ := sr_at I ⟨.inl e, ks⟩
  letI := Y.dec
  have hz : xs.length ≤ sizeLine := by have := Paired.length rel; omega
  refine wpAny_setItem_heap (hsz := hz) (Y.room hu) (Y.isOf I.hok dy) dd fun h' dd' hs => ?_
  obtain ⟨q, es, ep, hq, g2, g3, g4, _, g5⟩ := dd'
  exact h _ (d_write I (by rw [e]; exact True.intro) hs ⟨q, hq⟩ ⟨⟨hd, _, q, es, ep, XR.put Y rel k b rv, hq, g2, g3, g4, g5⟩, ⟨q, hq⟩, fun _ _ => dx_stay⟩)
end
end L2
end
section
set_option autoImplicit false
namespace L2
open PySem PySem.Spec PyProof.Rows
abbrev TTK := List (List Key)
abbrev DTT (P : Program) (w : World) (a : Addr) (kvs : List (TTK × Addr × V)) : HO := DX (tk3 P w) a kvs
abbrev SRT (P : Program) (w : World) (H : Hp) (a : Addr) (kvs : List (TTK × Addr × V)) : Prop := SR (tk3 P w) H a kvs
def ttT (k : TTK) : T := .tup (k.map fun ks => T.tup (ks.map kT))
def atT (kvs : List (TTK × Addr × V)) (k : TTK) : Option V := (kvs.find? fun x => decide (x.1 = k)).map (·.2.2)
def putT (kvs : List (TTK × Addr × V)) (k : TTK) (b : Addr) (v : V) : List (TTK × Addr × V) := if (atT kvs k).isSome then kvs.map fun x => if x.1 = k then (x.1, x.2.1, v) else x else kvs ++ [(k, b, v)]
def tTGet (P : Program) (w : World) (td ty : TE) : TE := fun σ H Q => td σ H fun x H1 => ty σ H1 fun y H2 => ∃ (a : Addr) (kvs : List (TTK × Addr × V)) (k : TTK) (v : V), x = .ref a ∧ SRT P w H2 a kvs ∧ Dp H2 (ttT k) y ∧ atT kvs k = some v ∧ Q v H2
def tTIn (P : Program) (w : World) (ty td : TE) : TE := fun σ H Q => ty σ H fun y H1 => td σ H1 fun x H2 => ∃ (a : Addr) (kvs : List (TTK × Addr × V)) (k : TTK), x = .ref a ∧ SRT P w H2 a kvs ∧ Dp H2 (ttT k) y ∧ Q (.bl (atT kvs k).isSome) H2
def sTPut (P : Program) (w : World) (td ty tv : TE) : TS := fun D σ H => tv σ H fun v H1 => td σ H1 fun x H2 => ty σ H2 fun y H3 => ∃ (a b : Addr) (kvs : List (TTK × Addr × V)) (k : TTK), x = .ref a ∧ y = .ref b ∧ H3 a = some (DTT P w a kvs) ∧ (∀ x ∈ kvs, Dp H3 (ttT x.1) (.ref x.2.1)) ∧ kvs.length < 1000 ∧ Dp H3 (ttT k) (.ref b) ∧ D.nx σ (upd H3 a (DTT P w a (putT kvs k b v)))
def tTNew (P : Program) (w : World) (tk tv : TE) : TE := fun σ H Q => ∀ p, H p = none → tk σ (upd H p (DTT P w p [])) fun y H1 => tv σ H1 fun v H2 => ∃ (b : Addr) (k : TTK), y = .ref b ∧ H2 p = some (DTT P w p []) ∧ Dp H2 (ttT k) (.ref b) ∧ Q (.ref p) (upd H2 p (DTT P w p [(k, b, v)]))
section
variable {X : Cx} {o i e f value : Expr} {pos pos' tpos apos cpos : Pos} {td ty tv tx tk : TE}
theorem pe_tget (hu : X.A.units + 2 < cLine) (ho : PE X o td) (hi : PE X i ty) (hs : NoSl i) : PE X (.Subscript o i pos) (tTGet X.prog X.w td ty) := by
  intro pins s σ H Q I h
  refine subD_of PySem.F.slot_dict_getitem.lookup hs (thn (ho pins s σ H _ I h) fun u s1 ⟨x, H1, I1, rx, q1⟩ => thn (hi pins s1 σ H1 _ I1 q1) fun iv s2 ⟨y, H2, I2, ry, a, kvs, k, v, ex, m, dy, hv, q2⟩ => ?_)
  subst ex
  obtain rfl : u = Value.ref a := rx
  exact ⟨sr_is I2 m, sr_get hu I2 m dy hv ry fun w' s3 I3 rw' => ⟨v, H2, I3, rw', q2⟩⟩
theorem pc_tin (hu : X.A.units + 2 < cLine) (hi : PE X i ty) (ho : PE X o td) : PC X .In i o (tTIn X.prog X.w ty td) := by
  intro pins s σ H Q I h
  refine thn (hi pins s σ H _ I h) fun iv s1 ⟨y, H1, I1, ry, q1⟩ => thn (ho pins s1 σ H1 _ I1 q1) fun u s2 ⟨x, H2, I2, rx, a, kvs, k, ex, m, dy, q2⟩ => ?_
  subst ex
  obtain rfl : u = Value.ref a := rx
  exact sr_in hu I2 m dy ry fun s3 I3 => ⟨.bl (atT kvs k).isSome, H2, I3, rfl, q2⟩
theorem ps_tput (hu : X.A.units + 2 < cLine) (ho : PE X o td) (hi : PE X i ty) (hv : PE X value tv) (hs : swapsWith value (some (.Subscript o i pos')) pos.line X.env = pure false) :
    PS X (.Assign [.Subscript o i pos'] value pos) (sTPut X.prog X.w td ty tv) := by
  intro pins s σ H D I h
  refine wpAny_Assign_Subscript (thn (hv pins s σ H _ I h) fun r s1 ⟨v, H1, I1, rv, q1⟩ => thn (ho pins s1 σ H1 _ I1 q1) fun u s2 ⟨x, H2, I2, rx, q2⟩ => thn (hi pins s2 σ H2 _ I2 q2) fun iv s3 ⟨y, H3, I3, ry, a, b, kvs, k, ex, ey, e, ks, hn, dy, q3⟩ => ?_) hs
  subst ex ey
  obtain rfl : u = Value.ref a := rx
  obtain rfl : iv = Value.ref b := ry
  exact sr_set (Y := tk3 X.prog X.w) hu I3 e ks hn dy rv fun s4 I4 => ⟨σ, _, I4, q3⟩
theorem pe_tnew (hu : X.A.units + 2 < cLine) (hk : PE X e tk) (hv : PE X value tv) : PE X (.Dict [some e] [value] pos) (tTNew X.prog X.w tk tv) := by
  intro pins s σ H Q I h
  have hb := I.big
  have hp : H s.heap.objs.size = none := I.hok.fresh (Nat.le_refl _)
  have I1 := I.laid (a := s.heap.objs.size) (o := DTT X.prog X.w s.heap.objs.size []) (t' := s.toks) (h' := s.heap.push { cls := .type "dict", data := .dict #[] }) (fun _ _ q => Heap.get?_push_of_some _ q) (Nat.le_refl _)
    ⟨⟨beq_eq_false_iff_ne.mpr (Ne.symm (Nat.ne_of_lt hb)), [], _, #[], 0, .nil, Heap.get?_push_size _ rfl, ⟨rfl, rfl, rfl⟩, rfl, rfl, List.nodup_nil⟩, ⟨_, Heap.get?_push_size _ rfl⟩, fun _ _ => dx_stay⟩
  refine wpAny_Dict_any rfl rfl (by simp) (by simp) ?_
  show wpAny _ _ (do
    let kv ← eval e X.env
    let vv ← holding [kv] (do let x ← eval value X.env; standAt pos; pure x)
    let r ← holding [kv, vv] (pure [])
    pure ((kv, vv) :: r)) _ _ _
  refine wpAny_bind (thn (hk pins _ σ _ _ I1 (h _ hp)) fun u1 s1 ⟨y, H1, J1, r1, q1⟩ => ?_)
  refine wpAny_bind (wpAny_holding (wpAny_bind (thn (hv pins s1 σ H1 _ J1 q1) fun u2 s2 ⟨v, H2, J2, r2, b, k, ey, e0, dy, q2⟩ => wpAny_bind (wpAny_standAt (wpAny_pure ?_)))))
  subst ey
  obtain rfl : u1 = Value.ref b := r1
  refine wpAny_bind (wpAny_holding (wpAny_pure (wpAny_pure ?_)))
  unfold storeAll
  rw [List.forIn_cons]
  refine wpAny_bind ?_
  obtain ⟨hd, xs, rel, dd⟩ := sr_at J2 (Y := tk3 X.prog X.w) ⟨.inl e0, fun x hx => nomatch hx⟩
  cases rel
  letI := (tk3 X.prog X.w).dec
  refine wpAny_bind (wpAny_dictSet_heap (knd := (tk3 X.prog X.w).knd) (by show X.A.units + 1 < cLine; omega) ((tk3 X.prog X.w).isOf J2.hok dy) dd (fun h' dd' hs => ?_) (Nat.zero_le _))
  refine wpAny_pure ?_
  dsimp only
  rw [List.forIn_nil]
  refine wpAny_pure ?_
  obtain ⟨q, es, ep, hq, g2, g3, g4, _, g5⟩ := dd'
  exact ⟨.ref s.heap.objs.size, _, d_write (ob := DTT X.prog X.w s.heap.objs.size [(k, b, v)]) J2 (by rw [e0]; exact True.intro) hs ⟨q, hq⟩ ⟨⟨hd, _, q, es, ep, XR.put (tk3 X.prog X.w) .nil k b r2, hq, g2, g3, g4, g5⟩, ⟨q, hq⟩, fun _ _ => dx_stay⟩, rfl, q2⟩
theorem call_lenT : CallR X (.builtin "len") (fun xs H Q => ∃ a kvs, xs = [V.ref a] ∧ SRT X.prog X.w H a kvs ∧ kvs.length ≤ 1000 ∧ Q (.int kvs.length) H) := by
  intro pins s σ H xs us Q I r h
  obtain ⟨a, kvs, rfl, m, hl, q⟩ := h
  obtain ⟨u, rfl, ru⟩ := vals1 r
  cases ru
  obtain ⟨hd, xs, rel, o, es, ep, h1, h2, h3, h4, _⟩ := sr_at I m
  have hes : es.size = kvs.length := by
    rw [← Array.length_toList, h4, List.length_map]
    exact (Paired.length rel).symm
  have hT : s.TypeIs (.ref a) "dict" := ⟨o, h1, h2.1⟩
  refine call_len_meets (n := (kvs.length : Int)) (S := fun A R s' => s' = s ∧ R (.ok (.ret (.int kvs.length s.toks))) { s with toks := s.toks + 1 }) hT F.slot_dict_len F.entry_dict_len (F.args_dict_len_1 _) (fun prog w A R s' hS => ?_) (by omega) (by omega) (fun Q' hq => ⟨rfl, hq⟩) ⟨.int kvs.length, H, I.tok _, ⟨_, rfl⟩, q⟩
  obtain ⟨rfl, hR⟩ := hS
  unfold Builtin.«dict.__len__»
  refine wpAny_bind ?_
  show wpAny _ _ (Builtin.Dict.notOrdered "__len__" _ >>= _) _ _ _
  refine wpAny_bind (wpAny_notOrdered_dict hT ?_)
  refine wpAny_bind (wpAny_pure (wpAny_pure ?_))
  refine wpAny_bind (m := Builtin.Dict.addrOf _) (wpAny_pure ?_)
  refine wpAny_bind (m := dictSize _) (wpAny_bind (wpAny_dictEntries h1 h3 (wpAny_pure ?_)))
  refine wpAny_bind (m := Builtin.Dict.pendingCount _) ?_
  unfold Builtin.Dict.pendingCount
  rw [hd]
  refine wpAny_pure ?_
  refine wpAny_bind (wpAny_mkInt (wpAny_pure ?_))
  rw [hes]
  simpa using hR
end
section
variable {X : Cx}
def Itx (P : Program) (w : World) (o : Obj) (d : Addr) (kvs : List (TTK × Addr × V)) : It :=
  ⟨fun i H => H d = some (.frz o (DTT P w d kvs)) ∧ i < kvs.length, fun i H x H' => H' = H ∧ ∃ kv, kvs[i]? = some kv ∧ x = .ref kv.2.1, fun i H => H d = some (.frz o (DTT P w d kvs)) ∧ kvs.length ≤ i⟩
theorem xr_at {P : Program} {w : World} {Y : TK P w} {kvs : List (Y.K × Addr × V)} {xs : List (Y.K × Addr × Value)} {es : Array DictEntry} (r : XR Y kvs xs) (h : es.toList = xs.map (@entryOfKey P w Y.K Y.dec Y.knd)) {i : Nat} (hi : i < kvs.length) : ∃ e, es[i]? = some e ∧ e.key = .ref kvs[i].2.1 := by
  have hl := Paired.length r
  have hx : i < xs.length := by omega
  refine ⟨@entryOfKey P w Y.K Y.dec Y.knd xs[i], ?_, ?_⟩
  · rw [← Array.getElem?_toList, h, List.getElem?_map, List.getElem?_eq_getElem hx]
    rfl
  · rw [(paired_get r i hi hx).2.1]
    rfl
theorem turn_dictX {P : Program} {w : World} {K : PySem.W.Frag} {tg : Expr} {o : Obj} {es : Array DictEntry} {ep : Nat} (hd : o.data = .dict es ep) (d it : Addr) (kvs : List (TTK × Addr × V)) : Turn P w K tg (Itx P w o d kvs) [it] it (fun i h => h.IsKeyIter it d i kvs.length ep) where
  mem := by simp
  obj := fun i h st b hb => by
    have e : b = it := by simpa using hb
    subst e
    obtain ⟨o, e, c, d⟩ := st
    exact ⟨o, e, fun v z => by rw [d] at z; cases z⟩
  keep := fun i h h' st k => st.at fun o e => k it (by simp) o e
  item := by
    intro X hP hw hK hc i pins s σ H E I hf st hg
    subst hP hw hK
    obtain ⟨hq, hi⟩ := hg
    obtain ⟨ho, ⟨hs, xs, od, es', ep', r, ho', r1, r2, r3, r4⟩, _⟩ := (show ObjOk X.prog X.w H s.heap d (.frz o (DTT X.prog X.w d kvs)) from I.hok d _ hq)
    rw [ho] at ho'
    cases ho'
    rw [hd] at r2
    cases r2
    have hes : es.size = kvs.length := by
      rw [← Array.length_toList, r3, List.length_map]
      exact (Paired.length r).symm
    obtain ⟨e, he, hk⟩ := xr_at r r3 hi
    obtain ⟨f0, f1, f2, f3, f4, f5⟩ := hf it (by simp)
    rw [← hes] at st
    refine rawItem st ho hd he fun h' st' sb => ?_
    have I1 : Inv X pins σ H { s with heap := h' } := I.turned (t' := s.toks) (fun b o hb e => (sb.2 b hb).trans e) f0 f1 f3 f4 f5
    obtain ⟨oi, ei, ci, di⟩ := id st'
    refine ⟨e.key, rfl, go_of ei ci di (by decide) ⟨.ref kvs[i].2.1, H, I1, by rw [hk]; rfl, ⟨rfl, kvs[i], List.getElem?_eq_getElem hi, rfl⟩, by rw [← hes]; exact st', fun b hb => by
      have e : b = it := by simpa using hb
      rw [e]; exact f0⟩⟩
  done := by
    intro X hP hw hK hc i pins s σ H E I hf st hg
    subst hP hw hK
    obtain ⟨hq, hi⟩ := hg
    obtain ⟨ho, ⟨hs, xs, od, es', ep', r, ho', r1, r2, r3, r4⟩, _⟩ := (show ObjOk X.prog X.w H s.heap d (.frz o (DTT X.prog X.w d kvs)) from I.hok d _ hq)
    rw [ho] at ho'
    cases ho'
    rw [hd] at r2
    cases r2
    have hes : es.size = kvs.length := by
      rw [← Array.length_toList, r3, List.length_map]
      exact (Paired.length r).symm
    obtain ⟨f0, f1, f2, f3, f4, f5⟩ := hf it (by simp)
    rw [← hes] at st
    exact rawEnd (I.ok.hd hc) st ho hd (Array.getElem?_eq_none (by omega)) fun h' eb => ⟨rfl, I.turned (t' := s.toks) (fun b o hb e => eb b o hb e) f0 f1 f3 f4 f5⟩
  self := fun _ _ _ _ _ st h => wpAny_pyIter_keyiter st h
def iDictX (P : Program) (w : World) (te : TE) : TI := fun σ H R => te σ H fun x H1 => ∃ (d : Addr) (kvs : List (TTK × Addr × V)), x = .ref d ∧ H1 d = some (DTT P w d kvs) ∧ kvs.length ≤ 1000 ∧ ∀ o, R (Itx P w o d kvs) (upd H1 d (.frz o (DTT P w d kvs)))
theorem pi_dictX {l : Expr} {tg : Expr} {te : TE} (hl : PE X l te) : PI X tg l (iDictX X.prog X.w te) := by
  intro pins s σ H R I h
  refine thn (hl pins s σ H _ I h) fun v s1 ⟨x, H1, I1, r, d, kvs, e, hd, hz, q⟩ => ?_
  subst e
  cases r
  obtain ⟨⟨hs, xs, o, es, ep, rx, ho, r1, r2, r3, r4⟩, hst⟩ := (show ObjOk X.prog X.w H1 s1.heap d (DTT X.prog X.w d kvs) from I1.hok d _ hd)
  have hes : es.size = kvs.length := by
    rw [← Array.length_toList, r3, List.length_map]
    exact (Paired.length rx).symm
  have nf : ∀ o v, X.H₀ d ≠ some (.frz o v) := fun o v q => by
    have := I1.base.frzs d o v q
    rw [hd] at this
    cases this
  have I2 := I1.swap (u' := .frz o (DTT X.prog X.w d kvs)) hd (fun _ z => nomatch z) nf (fun _ z => nomatch z) (fun _ z => nomatch z) ⟨ho, ⟨hs, xs, o, es, ep, rx, ho, r1, r2, r3, r4⟩, ⟨o, ho⟩, fun _ _ => dx_stay⟩
  refine rawIter hs ho r1 r2 (Nat.le_trans (Nat.le_trans (Nat.le_of_eq hes) hz) (by decide : 1000 ≤ sizeLine)) ?_
  have I3 := I2.kept (t' := s1.toks) (h' := s1.heap.push { cls := .type "dict_keyiterator", data := .fields #[.ref d, .int 0 0, .int es.size 0, .int ep 0] }) fun b o e => Heap.get?_push_of_some _ e
  refine ⟨s1.heap.objs.size, [s1.heap.objs.size], _, _, _, rfl, I3, turn_dictX r2 d s1.heap.objs.size kvs, ?_, fun b hb => ?_, q o⟩
  · exact ⟨_, Heap.get?_push_size _ rfl, rfl, by rw [hes]; rfl⟩
  · have e : b = s1.heap.objs.size := by simpa using hb
    subst e
    exact I2.fpOk (Nat.le_refl _) (I2.hok.fresh (Nat.le_refl _))
end
end L2
end
section
set_option autoImplicit false
namespace L2
open PySem PySem.Spec PyProof.Rows
section
variable {X : Cx}
def rNeT : R2 := fun x y H Q => ∃ (a b : Addr) (xs ys : List V) (ts us : List T), x = .ref a ∧ y = .ref b ∧ H a = some (.tup xs) ∧ H b = some (.tup ys) ∧ DpL H ts xs ∧ DpL H us ys ∧ (∀ t ∈ ts, Lv 5 t) ∧ Q (.bl (!dcd (ts = us))) H
theorem op_neT (hu : X.A.units + 10 < cLine) : OpR X (compareOp .NotEq) rNeT := by
  intro pins s σ H x y v u Q I rx ry h
  obtain ⟨a, b, xs, ys, ts, us, rfl, rfl, ha, hb, d1, d2, lv, q⟩ := h
  cases rx
  cases ry
  obtain ⟨its, r, p⟩ := tup_at I ha
  obtain ⟨its2, r2, p2⟩ := tup_at I hb
  have l1 := r.length
  have l2 := r2.length
  have n1 := d1.length
  have n2 := d2.length
  have key := SeqAt.RcNeAt.tuples (A := X.A) (s := s) (e := fun j => dcd (ts[j]? = us[j]?)) p p2 (by omega) (fun j h1 h2 => by
    have h1' : j < its.length := by simpa using h1
    have h2' : j < its2.length := by simpa using h2
    have j1 : j < ts.length := by omega
    have j2 : j < us.length := by omega
    obtain ⟨v1, e1, dv1⟩ := d1.get (List.getElem?_eq_getElem j1)
    obtain ⟨v2, e2, dv2⟩ := d2.get (List.getElem?_eq_getElem j2)
    obtain ⟨w1, k1, m1⟩ := r.get e1
    obtain ⟨w2, k2, m2⟩ := r2.get e2
    have e3 : its.toArray[j] = w1 := by
      have : its.toArray[j]? = some w1 := by simpa using k1
      rw [Array.getElem?_eq_getElem h1] at this
      exact Option.some.inj this
    have e4 : its2.toArray[j] = w2 := by
      have : its2.toArray[j]? = some w2 := by simpa using k2
      rw [Array.getElem?_eq_getElem h2] at this
      exact Option.some.inj this
    rw [e3, e4]
    have := eqAt_T I 5 X.A.in1 ts[j] us[j] v1 v2 w1 w2 (lv _ (List.getElem_mem j1)) (by show X.A.units + 1 + 5 < cLine; omega) dv1 dv2 m1 m2
    rw [List.getElem?_eq_getElem j1, List.getElem?_eq_getElem j2]
    have e5 : dcd (some ts[j] = some us[j]) = dcd (ts[j] = us[j]) := dcd_eq ⟨fun h => Option.some.inj h, fun h => by rw [h]⟩
    rw [e5]
    exact this)
  have ee : ((List.range (min its.toArray.size its2.toArray.size)).all (fun j => dcd (ts[j]? = us[j]?)) && its.toArray.size == its2.toArray.size) = dcd (ts = us) := by
    apply dcd_of
    rw [Bool.and_eq_true, List.all_eq_true, beq_iff_eq]
    constructor
    · rintro ⟨h1, h2⟩
      have h2 : its.length = its2.length := by simpa using h2
      apply List.ext_getElem?
      intro j
      by_cases hj : j < ts.length
      · exact dcd_iff.mp (h1 j (List.mem_range.mpr (by simp; omega)))
      · rw [List.getElem?_eq_none (by omega), List.getElem?_eq_none (by omega)]
    · intro h
      refine ⟨fun j _ => dcd_t (by rw [h]), ?_⟩
      have : its.length = its2.length := by rw [← l1, ← l2, n1, n2, h]
      simpa using this
  rw [ee] at key
  exact key X.prog X.w X.xe _ ⟨.bl _, H, I, rfl, q⟩
end
end L2
end
section
set_option autoImplicit false
namespace HT
open PySem PySem.Spec PyProof.Rows
section
variable {prog : Program} {w : World} {A : Around} {E : Value → Shared → Prop} {s : Shared}
theorem getItem_tuple_whole {t sl : Addr} {items : Array Value} {vl vu : Value} {lo hi : Option Int} {Q : Value → Shared → Prop} (ht : IsTup s.heap t items) (hs : s.heap.IsSliceOf sl vl vu .none) (pl : IsPart vl lo) (pu : IsPart vu hi)
    (hw : sIx items.size 0 lo = 0 ∧ sIx items.size items.size hi = items.size) (h : Q (.ref t) s) : wpAny (model prog w) A (getItem (.ref t) (.ref sl)) Q E s := by
  obtain ⟨os, hos, hcs, hds⟩ := id hs
  have hTs : s.TypeIs (.ref sl) "slice" := ⟨os, hos, hcs⟩
  unfold getItem
  try with_reducible refine wpAny_holding ?_
  first | refine wpAny_bind (wpAny_pure ?_) | skip
  refine wpAny_bind (wpAny_sequenceKey ht.typeIs (by decide) ?_)
  refine wpAny_bind (wpAny_callSpecial?_slot (name := Str.ofString "__getitem__") ht.typeIs PyProof.Rows.slot_tuple_getitem
    (wpAny_call_entry PyProof.Rows.slot_tuple_getitem ht.typeIs entry_tuple_getitem ?_ (args_tuple_getitem _ _)))
  show wpAny _ _ (Builtin.Tuple.tupleItemsOf (.ref t) >>= _) _ _ s
  refine wpAny_bind (tupleItemsOf_ ht ?_)
  refine wpAny_bind (wpAny_typeOf hTs ?_)
  rw [if_pos (by decide)]
  refine wpAny_bind (sliceApplied_gen hs pl pu ?_)
  have hyes : (((sIx items.size 0 lo : Nat) : Int) == 0 && (1 : Int) == 1 && (sIx items.size items.size hi - sIx items.size 0 lo) == items.size) = true := by
    rw [hw.1, hw.2]
    simp
  show wpAny _ _ (if (((sIx items.size 0 lo : Nat) : Int) == 0 && (1 : Int) == 1 && (sIx items.size items.size hi - sIx items.size 0 lo) == items.size) = true then _ else _) _ _ s
  rw [if_pos hyes]
  unfold Builtin.Tuple.tupleIsExact
  refine wpAny_bind (wpAny_bind (wpAny_typeOf ht.typeIs (wpAny_pure ?_)))
  rw [if_pos (by decide)]
  refine wpAny_bind (wpAny_rule ?_)
  exact wpAny_pure ⟨_, rfl, wpAny_pure h⟩
end
end HT
namespace L2
open PySem PySem.Spec PyProof.Rows
section
variable {X : Cx}
def rSlW (K : PySem.W.Frag) : V → Option Int → Option Int → Hp → VK → Prop := fun x lo hi H Q => ∃ a xs, x = .ref a ∧ H a = some (.tup xs) ∧
  ∀ p H', H' p = some (.tup (cutV xs lo hi)) → Same H H' → Q (.ref p) H'
theorem sl_tupW : SlR X (rSlW X.K) := by
  intro pins s σ H x v vl vu lo hi sl Q I rx hs pl pu h
  obtain ⟨a, xs, rfl, hx, q⟩ := h
  by_cases hw : HT.sIx xs.length 0 lo = 0 ∧ HT.sIx xs.length xs.length hi = xs.length
  · cases rx
    obtain ⟨its, r, ht, hz⟩ := I.tuple (SqT.of (K := X.K) hx)
    have hlen : its.toArray.size = xs.length := by rw [List.size_toArray]; exact r.length.symm
    refine ⟨"tuple", _, PyProof.Rows.slot_tuple_getitem.lookup, ht.typeIs, ?_⟩
    refine HT.getItem_tuple_whole ht hs pl pu (by rw [hlen]; exact hw) ?_
    have e : cutV xs lo hi = xs := by
      unfold cutV
      rw [hw.1, hw.2]
      simp
    exact ⟨.ref a, H, I, rfl, q a H (by rw [e]; exact hx) (Same.refl H)⟩
  · exact sl_tup pins s σ H (.ref a) v vl vu lo hi sl Q I rx hs pl pu ⟨a, xs, rfl, SqT.of hx, hw, fun p hp => q p _ upd_same (Same.new hp)⟩
def rCatW : R2 := fun x y H Q => ∃ a b xs ys, x = .ref a ∧ y = .ref b ∧ H a = some (.tup xs) ∧ H b = some (.tup ys) ∧ xs ≠ [] ∧ xs.length + ys.length ≤ sizeLine ∧ ∀ p H', H' p = some (.tup (xs ++ ys)) → Same H H' → Q (.ref p) H'
theorem op_catW : OpR X (binaryOp .Add) rCatW := by
  intro pins s σ H x y v u Q I rx ry h
  obtain ⟨a, b, xs, ys, rfl, rfl, ha, hb, hne, hz, q⟩ := h
  exact op_catT pins s σ H (.ref a) (.ref b) v u Q I rx ry ⟨a, b, xs, ys, rfl, rfl, SqT.of ha, SqT.of hb, hne, hz, fun e => q a H (by rw [e, List.append_nil]; exact ha) (Same.refl H), fun _ p hp => q p _ upd_same (Same.new hp)⟩
end
end L2
end
section
set_option autoImplicit false
namespace L2
open PySem PySem.Spec PyProof.Rows
section
variable {X : Cx}
def rCatN : R2 := fun x y H Q => ∃ a b xs ys, x = .ref a ∧ y = .ref b ∧ H a = some (.tup xs) ∧ H b = some (.tup ys) ∧ xs.length + ys.length ≤ sizeLine ∧ ∀ p H', H' p = some (.tup (xs ++ ys)) → Same H H' → Q (.ref p) H'
theorem op_catN : OpR X (binaryOp .Add) rCatN := by
  intro pins s σ H x y v u Q I rx ry h
  obtain ⟨a, b, xs, ys, rfl, rfl, ha, hb, hz, q⟩ := h
  cases xs with
  | nil => exact op_catT0 pins s σ H (.ref a) (.ref b) v u Q I rx ry ⟨a, b, ys, rfl, rfl, ha, hb, q b H hb (Same.refl H)⟩
  | cons x0 xr => exact op_catW pins s σ H (.ref a) (.ref b) v u Q I rx ry ⟨a, b, x0 :: xr, ys, rfl, rfl, ha, hb, List.cons_ne_nil _ _, hz, q⟩
end
end L2
end
section
set_option autoImplicit false
namespace L2
open PySem PySem.Spec PyProof.Rows
section
variable {X : Cx}
def rEqT : R2 := fun x y H Q => ∃ (a b : Addr) (xs ys : List V) (ts us : List T), x = .ref a ∧ y = .ref b ∧ H a = some (.tup xs) ∧ H b = some (.tup ys) ∧ DpL H ts xs ∧ DpL H us ys ∧ (∀ t ∈ ts, Lv 5 t) ∧ Q (.bl (dcd (ts = us))) H
theorem op_eqT (hu : X.A.units + 10 < cLine) : OpR X (compareOp .Eq) rEqT := by
  intro pins s σ H x y v u Q I rx ry h
  obtain ⟨a, b, xs, ys, ts, us, rfl, rfl, ha, hb, d1, d2, lv, q⟩ := h
  cases rx
  cases ry
  obtain ⟨its, r, p⟩ := tup_at I ha
  obtain ⟨its2, r2, p2⟩ := tup_at I hb
  have l1 := r.length
  have l2 := r2.length
  have n1 := d1.length
  have n2 := d2.length
  have key := SeqAt.RcAt.tuples (A := X.A) (s := s) (e := fun j => dcd (ts[j]? = us[j]?)) p p2 (by omega) (fun j h1 h2 => by
    have h1' : j < its.length := by simpa using h1
    have h2' : j < its2.length := by simpa using h2
    have j1 : j < ts.length := by omega
    have j2 : j < us.length := by omega
    obtain ⟨v1, e1, dv1⟩ := d1.get (List.getElem?_eq_getElem j1)
    obtain ⟨v2, e2, dv2⟩ := d2.get (List.getElem?_eq_getElem j2)
    obtain ⟨w1, k1, m1⟩ := r.get e1
    obtain ⟨w2, k2, m2⟩ := r2.get e2
    have e3 : its.toArray[j] = w1 := by
      have : its.toArray[j]? = some w1 := by simpa using k1
      rw [Array.getElem?_eq_getElem h1] at this
      exact Option.some.inj this
    have e4 : its2.toArray[j] = w2 := by
      have : its2.toArray[j]? = some w2 := by simpa using k2
      rw [Array.getElem?_eq_getElem h2] at this
      exact Option.some.inj this
    rw [e3, e4]
    have := eqAt_T I 5 X.A.in1 ts[j] us[j] v1 v2 w1 w2 (lv _ (List.getElem_mem j1)) (by show X.A.units + 1 + 5 < cLine; omega) dv1 dv2 m1 m2
    rw [List.getElem?_eq_getElem j1, List.getElem?_eq_getElem j2]
    have e5 : dcd (some ts[j] = some us[j]) = dcd (ts[j] = us[j]) := dcd_eq ⟨fun h => Option.some.inj h, fun h => by rw [h]⟩
    rw [e5]
    exact this)
  have ee : ((List.range (min its.toArray.size its2.toArray.size)).all (fun j => dcd (ts[j]? = us[j]?)) && its.toArray.size == its2.toArray.size) = dcd (ts = us) := by
    apply dcd_of
    rw [Bool.and_eq_true, List.all_eq_true, beq_iff_eq]
    constructor
    · rintro ⟨h1, h2⟩
      have h2 : its.length = its2.length := by simpa using h2
      apply List.ext_getElem?
      intro j
      by_cases hj : j < ts.length
      · exact dcd_iff.mp (h1 j (List.mem_range.mpr (by simp; omega)))
      · rw [List.getElem?_eq_none (by omega), List.getElem?_eq_none (by omega)]
    · intro h
      refine ⟨fun j _ => dcd_t (by rw [h]), ?_⟩
      have : its.length = its2.length := by rw [← l1, ← l2, n1, n2, h]
      simpa using this
  rw [ee] at key
  exact key X.prog X.w X.xe _ ⟨.bl _, H, I, rfl, q⟩
end
end L2
end
section
set_option autoImplicit false
namespace K21
open PySem PyProof.Rows L2
abbrev Sto := List (Str × Str)
def stT (s : Sto) : T := .tup (s.map fun p => T.tup [.str p.1, .str p.2])
def stK (s : Sto) : TTK := s.map fun p => [.inr p.1, .inr p.2]
theorem stT_eq (s : Sto) : ttT (stK s) = stT s := by
  unfold ttT stK stT
  rw [List.map_map]
  rfl
theorem stK_inj : ∀ {a b : Sto}, stK a = stK b → a = b
  | [], [], _ => rfl
  | x :: a, y :: b, h => by
    injection h with h1 h2
    injection h1 with h3 h4
    injection h4 with h4 _
    injection h3 with h3
    injection h4 with h4
    rw [stK_inj h2, show x = y from Prod.ext h3 h4]
  | [], _ :: _, h => nomatch h
  | _ :: _, [], h => nomatch h
def stepF (fs : List Str) (p : Str × Str) : List Str := (fs.filter fun y => decide (y ≠ p.2)) ++ (if p.1 = "put" then [p.2] else [])
def fieldsOf (s : Sto) : List Str := s.foldl stepF []
theorem fieldsOf_snoc (s : Sto) (p : Str × Str) : fieldsOf (s ++ [p]) = stepF (fieldsOf s) p := by
  unfold fieldsOf
  rw [List.foldl_append]
  rfl
theorem stepF_len (fs : List Str) (p : Str × Str) : (stepF fs p).length ≤ fs.length + 1 := by
  unfold stepF
  rw [List.length_append]
  have := List.length_filter_le (fun y => decide (y ≠ p.2)) fs
  split
  · rw [List.length_singleton]; omega
  · rw [List.length_nil]; omega
theorem fieldsOf_len (s : Sto) : (fieldsOf s).length ≤ s.length := by
  have : ∀ (s : Sto) (fs : List Str), (s.foldl stepF fs).length ≤ fs.length + s.length := by
    intro s
    induction s with
    | nil => exact fun _ => Nat.le_refl _
    | cons p s ih =>
      intro fs
      have h1 := ih (stepF fs p)
      have h2 := stepF_len fs p
      rw [List.foldl_cons, List.length_cons]
      omega
  have h := this s []
  unfold fieldsOf
  simpa using h
def May (t : Sto) (p : Str × Str) : Prop := (p.1 = "put" ∧ ¬ p.2 ∈ fieldsOf t) ∨ (p.1 = "drop" ∧ p.2 ∈ fieldsOf t)
def Leg (s : Sto) : Prop := ∀ (k : Nat) (p : Str × Str), s[k]? = some p → May (s.take k) p
theorem Leg.nil : Leg [] := fun k p h => by simp at h
theorem Leg.take {s : Sto} (h : Leg s) (n : Nat) : Leg (s.take n) := fun k p e => by
  have hk : k < n := by
    have := (List.getElem?_eq_some_iff.mp e).1
    rw [List.length_take] at this
    omega
  rw [List.getElem?_take_of_lt hk] at e
  rw [List.take_take, Nat.min_eq_left (Nat.le_of_lt hk)]
  exact h k p e
theorem Leg.snoc {s : Sto} (h : Leg s) {p : Str × Str} (m : May s p) : Leg (s ++ [p]) := fun k q e => by
  by_cases hk : k < s.length
  · rw [List.getElem?_append_left hk] at e
    rw [List.take_append_of_le_length (Nat.le_of_lt hk)]
    exact h k q e
  · have := (List.getElem?_eq_some_iff.mp e).1
    rw [List.length_append, List.length_singleton] at this
    have ek : k = s.length := by omega
    subst ek
    rw [List.getElem?_append_right (Nat.le_refl _), Nat.sub_self] at e
    cases (show some p = some q from e)
    rw [List.take_append_of_le_length (Nat.le_refl _), List.take_of_length_le (Nat.le_refl _)]
    exact m
theorem may_behind {t : Sto} {p : Str × Str} (m : May t p) : fieldsOf (t ++ [p]) = behindL (fieldsOf t) p.1 p.2 := by
  rw [fieldsOf_snoc]
  unfold stepF behindL
  rcases m with ⟨h1, h2⟩ | ⟨h1, h2⟩
  · rw [if_pos h1, if_pos h1]
    congr 1
    refine List.filter_eq_self.mpr fun y hy => decide_eq_true fun e => h2 (e ▸ hy)
  · have : ¬ p.1 = "put" := by rw [h1]; exact put_ne_drop
    rw [if_neg this, if_neg this, List.append_nil]
theorem Dp.of_pair {H : Hp} {d x : Str} {v : V} (h : Dp H (.tup [.str d, .str x]) v) : ∃ q, v = .ref q ∧ H q = some (.tup [.str d, .str x]) := by
  obtain ⟨q, xs, rfl, hq, hl⟩ := L2.Dp.of_tup h
  obtain ⟨a, r, rfl, d1, hl⟩ := hl.cases
  obtain ⟨b, r, rfl, d2, hl⟩ := hl.cases
  cases hl.of_nil
  rw [d1.of_str, d2.of_str] at hq
  exact ⟨q, rfl, hq⟩
section
variable {P : Program} {w : World} {K : PySem.W.Frag} {mg : Str → Option Value} {base : Heap} {t : Adr}
def spFieldsL : Sp := fun vs H Q _ => ∃ (v : V) (s : Sto), vs = [v] ∧ Dp H (stT s) v ∧ s.length ≤ 100 ∧ ∀ (u : Addr) H', H' u = some (.tup ((fieldsOf s).map V.str)) → Same H H' → Q (.ref u) H'
theorem ok_fieldsL (D : Defs K mg t) : FnOk P w K mg base CX0 1 t._law_fields.1 t._law_fields.2 ["_law_story_here"] spFieldsL := by
  have hz : sizeLine = 16777216 := sizeLine_eq
  refine D._law_fields.fn.ok sc__law_fields (fun vs H Q E h => ?_) (fun cdv A outer s H vs Q E hr h => ?_)
  · obtain ⟨v, st, rfl, _⟩ := h
    rfl
  · obtain ⟨v, st, rfl, dv, hl, k⟩ := h
    obtain ⟨q, xs, rfl, hq, dl⟩ := L2.Dp.of_tup dv
    have hxl : xs.length = st.length := by have := dl.length; rwa [List.length_map] at this
    refine ⟨_, (pss_cons (ps_set (i := 1) sc__law_fields.nd rfl (Or.inl rfl) (pe_lst pa_nil))
      (pss_cons (ps_for PassesOwn.never rfl (pi_tup (pv 0)) (pg_tup rfl (pgs_cons (pg_name (i := 2) sc__law_fields.nd rfl (Or.inl rfl)) (pgs_cons (pg_name (i := 3) sc__law_fields.nd rfl (Or.inr rfl)) pgs_nil)))
      (pss_cons (ps_setc (i := 1) rfl sc__law_fields.nd rfl (Or.inl rfl) (CompScope.of ["_law_one"] [3] ["_law_one", "_law_field"] (defScope (top 20)) ["_law_story_here", "_law_fields_here", "_law_deed", "_law_field"] rfl rfl (by decide +kernel)) ⟨fun _ _ _ _ _ => (pg_name (i := 0) (show List.Nodup [("_law_one" : Str), ("_law_field" : Str)] by decide +kernel) rfl (Or.inl (lookup_relabel_local rfl)) (.inr (lookup_relabel_local rfl))), fun _ _ _ _ _ => (pts_one (pt_cmpR op_ne (pv 0) (pv 1) (nomark _))), fun _ _ _ _ _ => (pv 0)⟩ (pi_list (pv 1)))
      (pss_one (ps_if (pt_cmpR op_eq (pv 2) pe_str (nomark _))
      (pss_one (ps_expr (pe_bm PySem.F.plainAttrs_list PySem.F.slot_list_append PySem.F.type_list_append mt_append (pv 1) (pa_cons (pv 3) pa_nil))))
      pss_nil))))
      (pss_one (ps_ret (pe_callTy call_tuple_of (by rfl) D.b_tuple bt_tuple (pa_cons (pv 1) pa_nil)))))), ?_⟩
    refine ⟨Nat.zero_le _, fun l0 hl0 => ?_⟩
    have s0 : Same H (upd H l0 (.lst [])) := Same.new hl0
    have t0 : (upd H l0 (.lst [])) l0 = some (.lst ((fieldsOf (st.take 0)).map V.str)) := upd_same
    generalize upd H l0 (.lst []) = H0 at s0 t0
    refine ⟨_, rfl, q, rfl, ⟨_, SqT.of (s0 q _ hq)⟩, ?_⟩
    refine for_tup (K := K) (a := q) (xs := xs) (fun i σ H2 => ∃ (l : Addr) (v2 v3 : Option V), σ = [some (.ref q), some (.ref l), v2, v3] ∧ H l = none ∧ H2 l = some (.lst ((fieldsOf (st.take i)).map V.str)) ∧ Same H H2)
      ⟨l0, _, _, rfl, hl0, t0, s0⟩ (fun i σ H2 _ h => by obtain ⟨_, _, _, _, _, _, e⟩ := h; exact SqT.of (e q _ hq)) ?_ ?_
    · rintro i x σ H2 hi ⟨l, v2, v3, rfl, hlN, hl2, s2⟩
      have hik : i < st.length := by
        have := (List.getElem?_eq_some_iff.mp hi).1
        omega
      obtain ⟨y, ey, dy⟩ := dl.get (i := i) (t := T.tup [.str st[i].1, .str st[i].2]) (by rw [List.getElem?_map, List.getElem?_eq_getElem hik]; rfl)
      rw [hi] at ey
      cases ey
      obtain ⟨qd, rfl, hqd⟩ := K21.Dp.of_pair dy
      refine ⟨qd, _, rfl, SqT.of (s2 qd _ hqd), rfl, _, _, rfl, _, _, rfl, rfl, ?_⟩
      have fl := fieldsOf_len (st.take i)
      rw [List.length_take] at fl
      have est : st.take (i + 1) = st.take i ++ [st[i]] := by
        rw [List.take_succ, List.getElem?_eq_getElem hik]
        rfl
      have ef : fieldsOf (st.take (i + 1)) = stepF (fieldsOf (st.take i)) st[i] := by rw [est, fieldsOf_snoc]
      generalize fieldsOf (st.take i) = fs at fl ef hl2
      refine ⟨_, rfl, l, rfl, ⟨_, SqL.of hl2⟩, fun Dd hD => ?_⟩
      have fD : l ≠ Dd := ne_of_none hl2 hD
      have hDN : H Dd = none := s2.free hD
      have sq : ∀ ys, SqL K (upd H2 Dd (.lst ys)) l (fs.map V.str) := fun ys => SqL.of (by rw [upd_ne fD]; exact hl2)
      refine comp_by (n := fs.length) (fun j ys H3 => ys = ((fs.take j).filter fun y => decide (y ≠ st[i].2)).map V.str ∧ H3 = upd H2 Dd (.lst ys)) ⟨rfl, rfl⟩ ?_ ?_
      · rintro ys H3 ⟨rfl, rfl⟩
        refine ⟨⟨_, sq _, by rw [List.length_map]; exact Nat.le_refl _⟩, ?_⟩
        rw [List.take_of_length_le (Nat.le_refl _)]
        have s3 : ∀ ys, Same H (upd H2 Dd (.lst ys)) := fun ys => s2.trans (Same.new hD)
        refine ⟨_, rfl, rfl, _, rfl, ite2 (fun hb => ?_) (fun hb => ?_)⟩
        · have hd : st[i].1 = "put" := by
            have := of_decide_eq_true hb
            injection this
          have hfl : (fs.filter fun y => decide (y ≠ st[i].2)).length ≤ 100 := Nat.le_trans (List.length_filter_le _ _) (by omega)
          refine ⟨_, rfl, .inl ⟨rfl, _, SqL.of upd_same⟩, _, rfl, Dd, _, _, rfl, rfl, upd_same, by rw [List.length_map]; omega, ?_⟩
          refine ⟨Dd, _, _, rfl, hDN, ?_, fun b u e => by rw [upd_ne (ne_of_none e hDN)]; exact s3 _ b u e⟩
          rw [upd_same, ef]
          unfold stepF
          rw [if_pos hd, List.map_append]
          rfl
        · have hd : ¬ st[i].1 = "put" := fun e => hb (decide_eq_true (by rw [e]))
          refine ⟨Dd, _, _, rfl, hDN, ?_, s3 _⟩
          rw [upd_same, ef]
          unfold stepF
          rw [if_neg hd, List.append_nil]
      · rintro j ys H3 hj ⟨rfl, rfl⟩
        refine ⟨⟨_, .str fs[j], sq _, by simp [hj]⟩, ?_⟩
        rintro y H4 ⟨rfl, hy⟩ σo ho
        obtain ⟨o, rfl⟩ := own1 ho
        have hy' := hy _ (sq _)
        rw [List.getElem?_map, List.getElem?_eq_getElem hj] at hy'
        cases hy'
        have et : fs.take (j + 1) = fs.take j ++ [fs[j]] := by
          rw [List.take_succ, List.getElem?_eq_getElem hj]
          rfl
        have hl2' : (((fs.take j).filter fun y => decide (y ≠ st[i].2)).map V.str).length ≤ 1000 := by
          rw [List.length_map]
          refine Nat.le_trans (List.length_filter_le _ _) ?_
          rw [List.length_take]
          omega
        refine ⟨⟨[_], rfl, rfl⟩, _, rfl, _, rfl, rfl, _, rfl, ite2 (fun hb => ?_) (fun hb => ?_)⟩
        · have hn : fs[j] ≠ st[i].2 := fun e => by
            rw [e] at hb
            simp at hb
          refine ⟨_, rfl, by omega, upd_same, less_by hj ⟨?_, by rw [upd_upd]⟩⟩
          rw [et, List.filter_append, List.map_append]
          congr 1
          simp [hn]
        · have hn : fs[j] = st[i].2 := Classical.byContradiction fun e => hb (by simp [e])
          refine less_by hj ⟨?_, ?_⟩
          · rw [et, List.filter_append, List.map_append]
            simp [hn]
          · rfl
    · rintro σ H2 ⟨l, v2, v3, rfl, hlN, hl2, s2⟩
      rw [hxl, List.take_of_length_le (Nat.le_refl _)] at hl2
      refine ⟨_, rfl, l, _, rfl, .inl ⟨SqL.of hl2, fun p hp => ?_⟩⟩
      exact k p _ upd_same (s2.trans (Same.new hp))
end
end K21
end
section
set_option autoImplicit false
namespace L2
open PySem PySem.Spec PyProof.Rows
def keyD : Key → PyData
  | .inl i => .int i
  | .inr x => .str x
mutual
def noL : PyData → Bool
  | .none | .bool _ | .int _ | .str _ => true
  | .list _ => false
  | .tuple xs => noLA xs
  | .dict kvs => noLK kvs
def noLA : List PyData → Bool
  | [] => true
  | x :: xs => noL x && noLA xs
def noLK : List (PyData × PyData) → Bool
  | [] => true
  | (_, v) :: r => noL v && noLK r
end
mutual
inductive RdV (H : Hp) : V → PyData → Prop
  | non : RdV H .non .none
  | bl (b : Bool) : RdV H (.bl b) (.bool b)
  | int (i : Int) : RdV H (.int i) (.int i)
  | str (x : Str) : RdV H (.str x) (.str x)
  | tup {a : Addr} {xs : List V} {ds : List PyData} : H a = some (.tup xs) → RdA H xs ds → RdV H (.ref a) (.tuple ds)
  | lst {a : Addr} {xs : List V} {ds : List PyData} : H a = some (.lst xs) → RdA H xs ds → RdV H (.ref a) (.list ds)
  | dct {a : Addr} {kvs : List (Key × V)} {ds : List PyData} : H a = some (.dK kvs) → RdA H (kvs.map (·.2)) ds → RdV H (.ref a) (.dict ((kvs.map fun p => keyD p.1).zip ds))
inductive RdA (H : Hp) : List V → List PyData → Prop
  | nil : RdA H [] []
  | cons {v : V} {d : PyData} {vs : List V} {ds : List PyData} : RdV H v d → RdA H vs ds → RdA H (v :: vs) (d :: ds)
end
end L2
end
section
set_option autoImplicit false
namespace L2
open PySem PySem.Spec PyProof.Rows
structure Shw (d : PyData) (n k : Nat) : Prop where
  sh : d.showable = true
  sz : d.shown.length ≤ n
  dp : d.depth ≤ k
end L2
end
section
set_option autoImplicit false
namespace L2
open PySem PyProof.Rows
def tx : Value → Str
  | .str x _ => x
  | _ => ""
def un (ns : List Str) : Nat → Nat
  | 0 => 0
  | i + 1 => if decide (ns.getD i "" ∈ ns.take i) = true then un ns i else un ns i + 1
end L2
end
section
set_option autoImplicit false
namespace L2
open PySem PySem.Spec PyProof.Rows
def Asc (x : Str) : Prop := x.cps.all (· < 128) = true
mutual
def gd : PyData → Prop
  | .none | .bool _ => True
  | .int i => (0 ≤ i ∧ i < 1000000000) ∨ i = -1 ∨ i = -3
  | .str x => x.length ≤ 4000 ∧ Asc x
  | .list xs | .tuple xs => gdA xs
  | .dict kvs => gdK kvs
def gdA : List PyData → Prop
  | [] => True
  | d :: ds => gd d ∧ gdA ds
def gdK : List (PyData × PyData) → Prop
  | [] => True
  | (k, v) :: r => gd k ∧ gd v ∧ gdK r
end
mutual
def wt : PyData → Nat
  | .none | .bool _ | .int _ => 1
  | .str x => x.length + 1
  | .list xs | .tuple xs => 1 + wtA xs
  | .dict kvs => 1 + wtK kvs
def wtA : List PyData → Nat
  | [] => 0
  | d :: ds => wt d + wtA ds
def wtK : List (PyData × PyData) → Nat
  | [] => 0
  | (k, v) :: r => wt k + wt v + wtK r
end
structure Th (d : PyData) : Prop where
  g : gd d
  w : wt d ≤ 1900
  dp : d.depth ≤ 50
  nl : d.hasDict = true → noL d = true
end L2
end
section
set_option autoImplicit false
namespace HT
open PySem PySem.Spec PyProof.Rows
end HT
namespace L2
open PySem PySem.Spec PyProof.Rows
theorem cutV_take (xs : List V) (i : Nat) : cutV xs none (some (i : Int)) = xs.take i := by
  unfold cutV
  rw [HT.sIx_none, HT.sIx_nat, List.drop_zero, Nat.sub_zero]
  rcases Nat.le_total i xs.length with h | h
  · rw [Nat.min_eq_left h]
  · rw [Nat.min_eq_right h, List.take_of_length_le (Nat.le_refl _), List.take_of_length_le h]
theorem cutV_drop (xs : List V) (i : Nat) : cutV xs (some (i : Int)) none = xs.drop i := by
  unfold cutV
  rw [HT.sIx_none, HT.sIx_nat]
  rcases Nat.le_total i xs.length with h | h
  · rw [Nat.min_eq_left h, List.take_of_length_le (by rw [List.length_drop]; exact Nat.le_refl _)]
  · rw [Nat.min_eq_right h, List.drop_of_length_le (Nat.le_refl _), List.drop_of_length_le h, List.take_nil]
theorem DpL.take' {H : Hp} : ∀ {ts : List T} {xs : List V} (i : Nat), DpL H ts xs → DpL H (ts.take i) (xs.take i)
  | ts, xs, 0, h => by rw [List.take_zero, List.take_zero]; exact .nil
  | [], xs, i + 1, h => by
    rw [h.of_nil, List.take_nil, List.take_nil]
    exact .nil
  | t :: ts, xs, i + 1, h => by
    obtain ⟨x, r, rfl, h1, h2⟩ := h.cases
    rw [List.take_succ_cons, List.take_succ_cons]
    exact .cons h1 (DpL.take' i h2)
end L2
end
section
set_option autoImplicit false
namespace K21
open PySem PyProof.Rows L2
theorem cutV_neg (xs : List V) : cutV xs none (some (-1)) = xs.take (xs.length - 1) := by
  unfold cutV
  rw [HT.sIx_none, List.drop_zero, Nat.sub_zero]
  congr 1
  unfold HT.sIx
  simp
  omega
theorem Pu.tups {H H' : Hp} {p : Addr} (h : Pu H p) (o : L2.Off p H H') : Tups H H' := fun c zs e => by
  obtain ⟨a, b, d, g⟩ := h
  exact o c _ (ne_of e g fun z => nomatch z) e
theorem st_cut {H H' : Hp} {s : Sto} {xs : List V} {p : Addr} (n : Nat) (dl : DpL H (s.map fun p => T.tup [.str p.1, .str p.2]) xs) (t : Tups H H') (hp : H' p = some (.tup (xs.take n))) : Dp H' (stT (s.take n)) (.ref p) := by
  have := (dl.take' n).mono t
  rw [← List.map_take] at this
  exact .tup hp this
def deedOf (fs : List Str) (x : Str) : Str := if x ∈ fs then "drop" else "put"
theorem deed_at (fs : List Str) (x : Str) : atI [V.str "put", V.str "drop"] (if inV (.str x) (fs.map V.str) = true then 1 else 0) = some (V.str (deedOf fs x)) := by
  rw [inV_strs]
  unfold deedOf
  by_cases h : x ∈ fs
  · rw [if_pos (decide_eq_true h), if_pos h]
    rfl
  · rw [if_neg (by simpa using h), if_neg h]
    rfl
theorem may_deed (s : Sto) (x : Str) : May s (deedOf (fieldsOf s) x, x) := by
  unfold May deedOf
  by_cases h : x ∈ fieldsOf s
  · rw [if_pos h]
    exact .inr ⟨rfl, h⟩
  · rw [if_neg h]
    exact .inl ⟨rfl, h⟩
section
variable {P : Program} {w : World} {K : PySem.W.Frag} {mg : Str → Option Value} {base : Heap} {t : Adr}
def spStoryL : Sp := fun vs H Q _ => ∃ (p nm el : Addr) (ws : List Str) (ys : List V) (ss : List Sto), vs = [.ref p, .ref nm, .ref el] ∧ Pu H p ∧ H nm = some (.lst (ws.map V.str)) ∧ 0 < ws.length ∧ ws.length ≤ 100 ∧ H el = some (.lst ys) ∧ el ≠ p ∧ DpL H (ss.map stT) ys ∧ ss.length ≤ 100 ∧ (∀ s ∈ ss, Leg s ∧ s.length ≤ 16) ∧
  ∀ (v : V) (s : Sto) H', Dp H' (stT s) v → Leg s → s.length ≤ 16 → Off p H H' → Pu H' p → Q v H'
theorem ok_storyL (D : Defs K mg t) : FnOk P w K mg base CX0 2 t._law_story.1 t._law_story.2 ["_law_purse_here", "_law_names", "_law_elders"] spStoryL := by
  have G__law_take : FnOk P w K mg base CX0 1 t._law_take.1 t._law_take.2 _ spTake := ok_take D
  have G__law_fields : FnOk P w K mg base CX0 1 t._law_fields.1 t._law_fields.2 _ spFieldsL := ok_fieldsL D
  have hz : sizeLine = 16777216 := sizeLine_eq
  refine D._law_story.fn.ok sc__law_story (fun vs H Q E h => ?_) (fun cdv A outer s H vs Q E hr h => ?_)
  · obtain ⟨p, nm, el, ws, ys, ss, rfl, _⟩ := h
    rfl
  · obtain ⟨p, nm, el, ws, ys, ss, rfl, hp, hnm, w0, w1, hel, elp, dys, sl, hss, k⟩ := h
    have nmp : nm ≠ p := hp.ne hnm
    have hyl : ys.length = ss.length := by have := dys.length; rwa [List.length_map] at this
    refine ⟨_, (pss_cons (ps_set (i := 3) sc__law_story.nd rfl (Or.inl rfl) (pe_tup pa_nil))
      (pss_join (ps_if (pt_cmpR op_gt (pe_callB call_len_seq (by rfl) D.b_len bt_len (pa_cons (pv 2) pa_nil)) pe_int (nomark _))
      (pss_cons (ps_set (i := 4) sc__law_story.nd rfl (Or.inl rfl) (pe_ix ix_list (pv 2) (pe_callF D._law_take G__law_take (hr.mono (by omega)) (by rfl) (pa_cons (pv 0) (pa_cons (pe_callB call_len_seq (by rfl) D.b_len bt_len (pa_cons (pv 2) pa_nil)) pa_nil))) (fun _ _ => rfl)))
      (pss_one (ps_set (i := 3) sc__law_story.nd rfl (Or.inl rfl) (pe_slice sl_tupW (pv 4) po_none (po_some (pe_callF D._law_take G__law_take (hr.mono (by omega)) (by rfl) (pa_cons (pv 0) (pa_cons (pe_op op_add (pe_callB call_len_seq (by rfl) D.b_len bt_len (pa_cons (pv 4) pa_nil)) pe_int) pa_nil))))))))
      pss_nil)
      (pss_cons (ps_for PassesOwn.never rfl (pi_range1 rfl D.b_range (pa_cons (pe_callF D._law_take G__law_take (hr.mono (by omega)) (by rfl) (pa_cons (pv 0) (pa_cons pe_int pa_nil))) pa_nil)) (pg_name (i := 5) sc__law_story.nd rfl (Or.inl rfl))
      (pss_cons (ps_set (i := 6) sc__law_story.nd rfl (Or.inl rfl) (pe_ix ix_list (pv 1) (pe_callF D._law_take G__law_take (hr.mono (by omega)) (by rfl) (pa_cons (pv 0) (pa_cons (pe_callB call_len_seq (by rfl) D.b_len bt_len (pa_cons (pv 1) pa_nil)) pa_nil))) (fun _ _ => rfl)))
      (pss_cons (ps_set (i := 7) sc__law_story.nd rfl (Or.inl rfl) (pe_ix ix_list (pe_lst (pa_cons pe_str (pa_cons pe_str pa_nil))) (pe_callTy call_int1 (by rfl) D.b_int bt_int (pa_cons (pe_cmpR op_in_seq (pv 6) (pe_callF D._law_fields G__law_fields (hr.mono (by omega)) (by rfl) (pa_cons (pv 3) pa_nil)) (by with_unfolding_all rfl)) pa_nil)) (fun _ _ => rfl)))
      (pss_one (ps_set (i := 3) sc__law_story.nd rfl (Or.inl rfl) (pe_op op_catN (pv 3) (pe_tup (pa_cons (pe_tup (pa_cons (pv 7) (pa_cons (pv 6) pa_nil))) pa_nil))))))))
      (pss_one (ps_ret (pe_slice sl_tupW (pv 3) po_none (po_some pe_int))))))), ?_⟩
    refine ⟨Nat.zero_le _, fun q0 hq0 => ?_⟩
    have d0 : Dp (upd H q0 (.tup [])) (stT []) (.ref q0) := .tup upd_same .nil
    have o0 : L2.Off p H (upd H q0 (.tup [])) := Off.new hq0
    have p0 : Pu (upd H q0 (.tup [])) p := hp.same (Same.new hq0)
    generalize upd H q0 (.tup []) = H0 at d0 o0 p0
    refine ⟨fun σ' H' => ∃ (v : V) (s : Sto) (v4 : Option V), σ' = [some (.ref p), some (.ref nm), some (.ref el), some v, v4, none, none, none] ∧ Dp H' (stT s) v ∧ Leg s ∧ s.length ≤ 16 ∧ L2.Off p H H' ∧ Pu H' p, ?_, ?_⟩
    · refine ⟨_, rfl, el, ys, rfl, .inl (SqL.of (o0 el _ elp hel)), _, _, rfl, rfl, _, rfl, ite2 (fun hb => ?_) (fun hb => ?_)⟩
      · have hy0 : 0 < ys.length := by
          have := of_decide_eq_true hb
          omega
        refine ⟨_, rfl, _, rfl, _, rfl, el, ys, rfl, .inl (SqL.of (o0 el _ elp hel)), p, (ys.length : Int), rfl, p0, by omega, by omega, fun r a1 b1 c1 l1 u1 => ?_⟩
        have o1 : L2.Off p H (upd H0 p (.lst [.int a1, .int b1, .int c1])) := o0.trans Off.upd
        have p1 : Pu (upd H0 p (.lst [.int a1, .int b1, .int c1])) p := Pu.upd
        generalize upd H0 p (.lst [.int a1, .int b1, .int c1]) = H1 at o1 p1
        obtain ⟨i, ei, hi⟩ : ∃ i : Nat, r = (i : Int) ∧ i < ss.length := ⟨r.toNat, by omega, by omega⟩
        subst ei
        obtain ⟨y, ey, dy⟩ := dys.get (i := i) (t := stT ss[i]) (by rw [List.getElem?_map, List.getElem?_eq_getElem hi]; rfl)
        refine ⟨el, ys, _, y, rfl, rfl, SqL.of (o1 el _ elp hel), atI_nat (j := i) ey, ?_⟩
        have dy1 := dy.mono (Pu.tups hp o1)
        obtain ⟨qe, xs, rfl, hqe, dl⟩ := L2.Dp.of_tup dy1
        have hxl : xs.length = ss[i].length := by have := dl.length; rwa [List.length_map] at this
        obtain ⟨lg, l16⟩ := hss _ (List.getElem_mem hi)
        have qep : qe ≠ p := by
          obtain ⟨_, _, _, g⟩ := p1
          exact ne_of hqe g fun z => nomatch z
        refine ⟨_, rfl, _, rfl, _, rfl, qe, xs, rfl, .inr (SqT.of hqe), _, _, rfl, rfl, p, (xs.length : Int) + 1, rfl, p1, by omega, by omega, fun r2 a2 b2 c2 l2 u2 => ?_⟩
        have o12 : L2.Off p H1 (upd H1 p (.lst [.int a2, .int b2, .int c2])) := Off.upd
        have p2 : Pu (upd H1 p (.lst [.int a2, .int b2, .int c2])) p := Pu.upd
        generalize upd H1 p (.lst [.int a2, .int b2, .int c2]) = H2 at o12 p2
        obtain ⟨j, ej, hj⟩ : ∃ j : Nat, r2 = (j : Int) ∧ j ≤ xs.length := ⟨r2.toNat, by omega, by omega⟩
        subst ej
        refine ⟨_, rfl, qe, xs, rfl, o12 qe _ qep hqe, fun q3 H3 hq3 s3 => ?_⟩
        rw [cutV_take] at hq3
        refine ⟨.ref q3, ss[i].take j, _, rfl, st_cut j dl ((Pu.tups p1 o12).trans (Same.tups s3)) hq3, lg.take j, by rw [List.length_take]; omega, o1.trans (o12.trans s3.off), p2.same s3⟩
      · refine ⟨.ref q0, [], _, rfl, d0, Leg.nil, Nat.zero_le _, o0, p0⟩
    · rintro σ' H' ⟨v, st, v4, rfl, dv, lg, l16, o1, p1⟩
      refine ⟨_, rfl, p, 9, rfl, p1, by decide, by decide, fun r a1 b1 c1 l1 u1 => ⟨r, rfl, by omega, by omega, ?_⟩⟩
      have o2 : L2.Off p H (upd H' p (.lst [.int a1, .int b1, .int c1])) := o1.trans Off.upd
      have d2 : Dp (upd H' p (.lst [.int a1, .int b1, .int c1])) (stT st) v := dv.mono (Pu.tups p1 Off.upd)
      have p2 : Pu (upd H' p (.lst [.int a1, .int b1, .int c1])) p := Pu.upd
      generalize upd H' p (.lst [.int a1, .int b1, .int c1]) = H2 at o2 d2 p2
      refine for_range (lo := 0) (n := r.toNat) (fun i σ H3 => ∃ (v : V) (st : Sto) (v4 v5 v6 v7 : Option V), σ = [some (.ref p), some (.ref nm), some (.ref el), some v, v4, v5, v6, v7] ∧ Dp H3 (stT st) v ∧ Leg st ∧ st.length ≤ 16 + i ∧ L2.Off p H H3 ∧ Pu H3 p)
        ⟨v, st, _, _, _, _, rfl, d2, lg, by omega, o2, p2⟩ ?_ ?_
      · rintro i σ H3 hi ⟨v, st, v4, v5, v6, v7, rfl, d3, lg, sl3, o3, p3⟩
        have hnm3 := o3 nm _ nmp hnm
        refine ⟨_, rfl, _, rfl, _, rfl, nm, _, rfl, .inl (SqL.of hnm3), p, (ws.map V.str).length, rfl, p3, by rw [List.length_map]; omega, by rw [List.length_map]; omega, fun r2 a2 b2 c2 l2 u2 => ?_⟩
        have o34 : L2.Off p H3 (upd H3 p (.lst [.int a2, .int b2, .int c2])) := Off.upd
        have p4 : Pu (upd H3 p (.lst [.int a2, .int b2, .int c2])) p := Pu.upd
        generalize upd H3 p (.lst [.int a2, .int b2, .int c2]) = H4 at o34 p4
        rw [List.length_map] at u2
        obtain ⟨x, ex, hx, _⟩ := atI_strs l2 u2
        refine ⟨nm, _, _, .str x, rfl, rfl, SqL.of (o34 nm _ nmp hnm3), ex, ?_⟩
        have d4 := d3.mono (Pu.tups p3 o34)
        refine ⟨by show 2 ≤ sizeLine; decide, fun q1 hq1 => ?_⟩
        have s5 : Same H4 (upd H4 q1 (.lst [.str "put", .str "drop"])) := Same.new hq1
        have hq15 : (upd H4 q1 (.lst [.str "put", .str "drop"])) q1 = some (.lst [.str "put", .str "drop"]) := upd_same
        generalize upd H4 q1 (.lst [.str "put", .str "drop"]) = H5 at s5 hq15 ⊢
        refine ⟨_, rfl, _, rfl, v, st, rfl, d4.mono (Same.tups s5), by omega, fun u H6 hu s6 => ?_⟩
        refine ⟨u, _, rfl, .inr (SqT.of hu), rfl, flat_strs _, .inr ⟨_, rfl, q1, _, _, .str (deedOf (fieldsOf st) x), rfl, rfl, SqL.of (s6 q1 _ hq15), deed_at _ _, ?_⟩⟩
        obtain ⟨qs, xs, rfl, hqs, dl⟩ := L2.Dp.of_tup d4
        have hxl : xs.length = st.length := by have := dl.length; rwa [List.length_map] at this
        have s46 := s5.trans s6
        refine ⟨_, rfl, _, rfl, _, rfl, by show 2 ≤ sizeLine; decide, fun t1 ht1 => ⟨by show 1 ≤ sizeLine; decide, fun t2 ht2 => ?_⟩⟩
        have s7 : Same H6 (upd H6 t1 (.tup [.str (deedOf (fieldsOf st) x), .str x])) := Same.new ht1
        have h71 : (upd H6 t1 (.tup [.str (deedOf (fieldsOf st) x), .str x])) t1 = some (.tup [.str (deedOf (fieldsOf st) x), .str x]) := upd_same
        generalize upd H6 t1 (.tup [.str (deedOf (fieldsOf st) x), .str x]) = H7 at s7 h71 ht2 ⊢
        have s8 : Same H7 (upd H7 t2 (.tup [.ref t1])) := Same.new ht2
        have h82 : (upd H7 t2 (.tup [.ref t1])) t2 = some (.tup [.ref t1]) := upd_same
        generalize upd H7 t2 (.tup [.ref t1]) = H8 at s8 h82 ⊢
        have s48 := s46.trans (s7.trans s8)
        refine ⟨qs, t2, xs, [.ref t1], rfl, rfl, s48 qs _ hqs, h82, by rw [hxl]; show st.length + 1 ≤ sizeLine; omega, fun q9 H9 hq9 s9 => ?_⟩
        have s49 := s48.trans s9
        refine ⟨.ref q9, st ++ [(deedOf (fieldsOf st) x, x)], _, _, _, _, rfl, ?_, lg.snoc (may_deed st x), by rw [List.length_append]; show st.length + 1 ≤ _; omega, o3.trans (o34.trans s49.off), p4.same s49⟩
        unfold stT
        rw [List.map_append]
        exact .tup hq9 ((dl.mono (Same.tups s49)).append (.cons (.tup (s9 t1 _ (s8 t1 _ h71)) (.cons (.str _) (.cons (.str _) .nil))) .nil))
      · rintro σ H3 ⟨v, st, v4, v5, v6, v7, rfl, d3, lg, sl3, o3, p3⟩
        obtain ⟨qs, xs, rfl, hqs, dl⟩ := L2.Dp.of_tup d3
        refine ⟨_, rfl, _, rfl, qs, xs, rfl, hqs, fun q9 H9 hq9 s9 => ?_⟩
        rw [show cutV xs none (some 16) = xs.take 16 from cutV_take xs 16] at hq9
        exact k _ (st.take 16) H9 (st_cut 16 dl (Same.tups s9) hq9) (lg.take 16) (by rw [List.length_take]; omega) (o3.trans s9.off) (p3.same s9)
end
end K21
end
section
set_option autoImplicit false
namespace L2
open PySem PySem.Spec PyProof.Rows
def cxLam (X : Cx) (A : Around) (qual : Str) (scope : Scope) (f : Addr) (cd : Value) (cl : List (Str × Addr)) (N : List Str) (s : Shared) (H : Hp) : Cx where
  prog := X.prog
  w := X.w
  K := X.K
  mg := X.mg
  base := X.base
  A := A.deeper (PySem.W.envX qual scope s.heap.objs.size f cd cl)
  N := N
  s₀ := s
  H₀ := H
  env := PySem.W.envX qual scope s.heap.objs.size f cd cl
  outer := X.stack
  stack := PySem.W.envX qual scope s.heap.objs.size f cd cl :: X.stack
  ex := []
  calm := true
  fn := fun x => (cl.lookup x).isNone
  pn := []
  xe := fun _ _ => False
structure LamScope (X : Cx) (scope : Scope) (x : Str) (fr : List Nat) (N : List Str) : Prop where
  kind : scope.kind = .function
  co : scope.isCoroutine = false
  gen : scope.isGenerator = false
  nocell : ∀ y ∈ scope.names, y.2 ≠ .cell
  free : ∀ y ∈ scope.names, y.2 = .free → X.env.kindOf y.1 = some .cell ∨ X.env.kindOf y.1 = some .free
  len : N.length = fr.length + 1
  isfr : ∀ (j i : Nat), fr[j]? = some i → ∃ y, N[j + 1]? = some y ∧ X.N[i]? = some y ∧ scope.names.lookup y = some .free
  par : scope.names.lookup x = some .local
  hd : N[0]? = some x
section
variable {X : Cx} {scope : Scope} {x : Str} {N : List Str} {fr : List Nat} {pins : List (Addr × Obj)} {σ : St} {H : Hp} {s : Shared} {A : Around}
theorem LamScope.clo (S : LamScope X scope x fr N) (ok : X.Ok) : ∀ y ∈ scope.names, y.2 = .free → ∃ c, X.env.cells.lookup y.1 = some c := fun y hy e => ok.has y.1 (S.free y hy e)
theorem LamScope.sub (S : LamScope X scope x fr N) (ok : X.Ok) {y : Str} {c : Addr} (h : (L2.clo X.env.cells scope.names []).lookup y = some c) : X.env.cells.lookup y = some c := by
  rcases clo_of (S.clo ok) h with q | q
  · exact q
  · simp at q
theorem lam_inv {qual : Str} {f : Addr} {cd : Value} {v : V} {u : Value} {h' : Heap} {tk : Nat} (S : LamScope X scope x fr N) (I : Inv X pins σ H s) (hA : A.frames = some X.stack) (hd : A.handled = none) (r : RelV v u)
    (hn : h'.Ns s.heap.objs.size fun y => List.lookup y [(x, u)]) (hk : ∀ b o, s.heap.get? b = some o → h'.get? b = some o) :
    Inv (cxLam X A qual scope f cd (L2.clo X.env.cells scope.names []) N s H) [] (some v :: frv σ fr) H { s with heap := h', toks := tk } := by
  have e0 := I.env0
  refine ⟨⟨I.ok.mod, S.kind, rfl, rfl, Nat.le_refl _, fun y z c h1 h2 => I.ok.inj y z c (S.sub I.ok h1) (S.sub I.ok h2), fun y hy => ?_, fun y c h1 h2 => ?_, fun _ => hd, Around.frames_deeper hA, .inr ⟨rfl, rfl⟩, fun b z => absurd (show b ∈ ([] : List Addr) from z) (by simp), e0.bs, e0.bsz, fun b _ _ z => absurd (show b ∈ ([] : List Addr) from z) (by simp), fun b z => absurd (show b ∈ ([] : List Addr) from z) (by simp), e0.funs, e0.frf⟩,
    rfl, I.bare, Un.kept hk, ⟨_, hn, fun i y v' h1 h2 h3 => ?_⟩, fun y c h => ?_, e0.hok.fresh (Nat.le_refl _), fun y c h => I.freeC y c (S.sub I.ok h), fun p hp => absurd (show p ∈ ([] : List (Addr × Obj)) from hp) (by simp), e0.hok.kept hk, ?_⟩
  · have hy : scope.names.lookup y = some .cell ∨ scope.names.lookup y = some .free := hy
    rcases hy with hy | hy
    · exact absurd rfl (S.nocell _ (PySem.mem_of_lookup hy))
    · exact clo_has (PySem.mem_of_lookup hy)
  · have h1 : ((L2.clo X.env.cells scope.names []).lookup y).isNone = true := h1
    have h2 : (L2.clo X.env.cells scope.names []).lookup y = some c := h2
    rw [h2] at h1
    cases h1
  · cases i with
    | zero =>
      have h1 : N[0]? = some y := h1
      rw [S.hd] at h1
      cases h1
      cases h2
      refine ⟨u, r, .inl ⟨S.par, ?_⟩⟩
      simp [List.lookup_cons]
    | succ j =>
      have h2 : (fr.map fun i => (σ[i]?).join)[j]? = some (some v') := h2
      rw [List.getElem?_map] at h2
      cases q : fr[j]? with
      | none => rw [q] at h2; cases h2
      | some i =>
        rw [q] at h2
        obtain ⟨y', e1, e2, e3⟩ := S.isfr j i q
        have h1 : N[j + 1]? = some y := h1
        rw [e1] at h1
        cases h1
        have h2 : (σ[i]?).join = some v' := by simpa using h2
        have h2 : σ[i]? = some (some v') := by
          cases z : σ[i]? with
          | none => rw [z] at h2; cases h2
          | some o => rw [z] at h2; rw [show o = some v' from h2]
        have kf := S.free _ (PySem.mem_of_lookup e3) rfl
        obtain ⟨m, _, hl⟩ := I.loc
        obtain ⟨u', r', l⟩ := hl i y v' e2 h2 (by
          rcases kf with z | z
          · exact .inr (.inl z)
          · exact .inr (.inr z))
        refine ⟨u', r', ?_⟩
        rcases l with ⟨z, _⟩ | ⟨_, c, e, o, ho, hd⟩
        · rcases kf with k | k
          · rw [k] at z; cases z
          · rw [k] at z; cases z
        · obtain ⟨c', q'⟩ := clo_has (cells := X.env.cells) (acc := []) (PySem.mem_of_lookup e3)
          have := S.sub I.ok q'
          rw [e] at this
          cases this
          exact .inr ⟨.inr e3, c, q', o, hk c o ho, hd⟩
  · obtain ⟨v, o, ho, hd⟩ := I.cell y c (S.sub I.ok h)
    exact ⟨v, o, hk c o ho, hd⟩
  · show (some v :: frv σ fr).length = N.length
    rw [S.len, List.length_cons]
    unfold frv
    rw [List.length_map]
theorem lam_run {name qual : Str} {params : Arguments} {body : Expr} {pm ctv u : Value} {f c' : Addr} {v : V} {t : TE} {Q : VK} (S : LamScope X scope x fr N) (I : Inv X pins σ H s)
    (ho : s.heap.get? f = some (PySem.W.kla_obj name qual params body scope (L2.clo X.env.cells scope.names []) pm c' ctv)) (hc : s.heap.CodeRec (.ref c') qual) (hA : A.frames = some X.stack) (hd : A.handled = none) (hdep : A.depth < recursionLimit)
    (hb : bindArgs (PySem.W.kla_fn name qual params body scope (L2.clo X.env.cells scope.names []) pm (.ref c') ctv) ⟨[u], []⟩ = pure [(x, u)]) (r : RelV v u)
    (hbody : PE (cxLam X A qual scope f (.ref c') (L2.clo X.env.cells scope.names []) N s H) body t) (ht : t (some v :: frv σ fr) H Q) :
    codeAny (model X.prog X.w) A (.call (.ref f) ⟨[u], []⟩) (fun r s' => ∃ v' u' H', r = .ok (.ret u') ∧ Inv X pins σ H' s' ∧ RelV v' u' ∧ Q v' H') s := by
  have lim := I.nolimit
  refine PySem.W.kla_callFunE hdep ho rfl S.co S.gen rfl hc ?_
  rw [hb]
  refine wpAny_pure ?_
  refine PySem.wpAny_newFunctionEnv S.nocell (fun y hy => ?_) (fun h' hn hs => ?_) S.kind
  · cases List.mem_singleton.mp hy
    exact S.par
  · have hk : ∀ b o, s.heap.get? b = some o → h'.get? b = some o := fun b o e => by
      rw [hs.2 b (Nat.ne_of_lt (Heap.lt_size e))]
      exact Heap.get?_push_of_some _ e
    refine ⟨lim.keeps hk, PySem.W.kla_codeExpr ?_⟩
    have I1 : Inv (cxLam X A qual scope f (.ref c') (L2.clo X.env.cells scope.names []) N s H) [] (some v :: frv σ fr) H { s with heap := h', toks := s.toks + 1 } := lam_inv S I hA hd r hn hk
    refine wpAny_mono (hbody [] _ _ H Q I1 ht) (fun u' s' hs => ?_) (fun _ _ h => (show False from h).elim)
    obtain ⟨v', H', I', r', q'⟩ := hs
    refine ⟨v', u', H', rfl, ?_, r', q'⟩
    have J := I.call (t' := s'.toks) (d' := s'.drawn) I'.base I'.hok I'.bare (fun _ h => nomatch h)
    have eo : s'.os = s.os := I'.os
    rw [← eo] at J
    exact J
end
end L2
end
section
set_option autoImplicit false
namespace L2
open PySem PySem.Spec PyProof.Rows
def Bm (mg : Str → Option Value) (base : Heap) : Prop := ∃ bm ob, mg "__builtins__" = some (.ref bm) ∧ bm ≠ builtinsNs ∧ base.get? bm = some ob ∧ ob.cls = .type "module" ∧ ob.dict = some builtinsNs ∧ ob.data = .plain
def Cdh (K : PySem.W.Frag) (cd : Value) (P : Addr) : Prop := ∃ c, cd = .ref c ∧ ∀ h, K.In h → PySem.W.CodeHd h c P
def Tb1 (H : Hp) (P : Addr) (pos : Pos) (qual : Str) (c : Addr) : Prop := H P = some (.tbl #[rawInt pos.line, rawInt pos.col, .ref c]) ∧ H c = some (.ext fun h => h.CodeRec (.ref c) qual)
def LamAt (H : Hp) (f : Addr) (qual : Str) (params : Arguments) (body : Expr) (scope : Scope) (cl : List (Str × Addr)) : Prop :=
  ∃ pm c ctv, H f = some (.ext fun h => h.get? f = some (PySem.W.kla_obj "<lambda>" qual params body scope cl pm c ctv)) ∧ H c = some (.ext fun h => h.CodeRec (.ref c) qual)
theorem ext_code {P : Program} {w : World} {H : Hp} {h : Heap} {c : Addr} {q : Str} (e : h.CodeRec (.ref c) q) : ObjOk P w H h c (.ext fun h => h.CodeRec (.ref c) q) := by
  obtain ⟨c', o, vs, t, z, h1, h2, h3⟩ := id e
  cases z
  refine ⟨e, ⟨o, h1⟩, fun g1 g2 ⟨c', o, vs, t, z, q1, q2, q3⟩ k => ?_⟩
  cases z
  exact ⟨_, o, vs, t, rfl, k o q1, q2, q3⟩
theorem ext_obj {P : Program} {w : World} {H : Hp} {h : Heap} {f : Addr} {o : Obj} (e : h.get? f = some o) : ObjOk P w H h f (.ext fun h => h.get? f = some o) :=
  ⟨e, ⟨o, e⟩, fun _ _ q k => k o q⟩
section
variable {X : Cx} {pins : List (Addr × Obj)} {σ : St} {H : Hp} {s : Shared}
theorem Inv.table {P c f : Addr} {ps more : Array Value} {q : Str} {fo : Obj} {h' : Heap} {tk : Nat} (I : Inv X pins σ H s) (hP : H P = some (.tbl ps)) (k : ∀ b o, b ≠ P → s.heap.get? b = some o → h'.get? b = some o) (hT : h'.get? P = some { cls := .none, data := .fields (ps ++ more) })
    (hc : s.heap.objs.size ≤ c) (cr : h'.CodeRec (.ref c) q) (hf : s.heap.objs.size ≤ f) (fe : h'.get? f = some fo) (ne : f ≠ c) :
    Inv X pins σ (upd (upd (upd H P (.tbl (ps ++ more))) c (.ext fun h => h.CodeRec (.ref c) q)) f (.ext fun h => h.get? f = some fo)) { s with heap := h', toks := tk } := by
  have hcn : H c = none := I.hok.fresh hc
  have hfn : H f = none := I.hok.fresh hf
  have cP : c ≠ P := fun e => by rw [e, hP] at hcn; cases hcn
  have fP : f ≠ P := fun e => by rw [e, hP] at hfn; cases hfn
  have old : ∀ b o, s.heap.get? b = some o → b ≠ c ∧ b ≠ f := fun b o e => ⟨Nat.ne_of_lt (Nat.lt_of_lt_of_le (Heap.lt_size e) hc), Nat.ne_of_lt (Nat.lt_of_lt_of_le (Heap.lt_size e) hf)⟩
  have H' : ∀ b, b ≠ P → b ≠ c → b ≠ f → upd (upd (upd H P (.tbl (ps ++ more))) c (.ext fun h => h.CodeRec (.ref c) q)) f (.ext fun h => h.get? f = some fo) b = H b := fun b h1 h2 h3 => by rw [upd_ne h3, upd_ne h2, upd_ne h1]
  have keepH : ∀ b u, H b = some u → b ≠ P → upd (upd (upd H P (.tbl (ps ++ more))) c (.ext fun h => h.CodeRec (.ref c) q)) f (.ext fun h => h.get? f = some fo) b = some u := fun b u e h1 => by
    rw [H' b h1 (ne_of_none e hcn) (ne_of_none e hfn)]
    exact e
  have nP : ∀ b o, s.heap.get? b = some o → H b = none → b ≠ P := fun b o e n z => by rw [z, hP] at n; cases n
  refine I.step (g' := s.gens) (d' := s.drawn) (ch := []) (fun _ z => nomatch z) (fun b o _ _ _ e n => k b o (nP b o e n) e) (fun b o _ _ _ e n => ⟨o.slots, k b o (nP b o e n) e⟩) (fun b o _ e n => ?_) (fun b o _ e => ?_) (fun b xs e => keepH b _ e ?_) (fun b o u e => keepH b _ e ?_) (fun b qs e => ?_) (fun m hm => ?_) (fun b u e => ?_) I.bare
  · rw [H' b (nP b o e n) (old b o e).1 (old b o e).2]
    exact n
  · by_cases hb : b = P
    · rw [hb]; exact ⟨_, hT⟩
    · exact ⟨o, k b o hb e⟩
  · rintro rfl
    rw [hP] at e
    cases e
  · rintro rfl
    rw [hP] at e
    cases e
  · by_cases hb : b = P
    · rw [hb, hP] at e
      cases e
      refine ⟨more, ?_⟩
      rw [hb, upd_ne fP.symm, upd_ne cP.symm, upd_same]
    · exact ⟨#[], by rw [keepH b _ e hb]; simp⟩
  · obtain ⟨o, es, ep, ho, r⟩ := hm
    exact ⟨o, es, ep, k _ o (nP _ o ho I.free) ho, r⟩
  · by_cases hb : b = f
    · subst hb
      rw [upd_same] at e
      cases e
      exact ext_obj fe
    · rw [upd_ne hb] at e
      by_cases hb2 : b = c
      · subst hb2
        rw [upd_same] at e
        cases e
        exact ext_code cr
      · rw [upd_ne hb2] at e
        by_cases hb3 : b = P
        · subst hb3
          rw [upd_same] at e
          cases e
          exact hT
        · rw [upd_ne hb3] at e
          refine (I.hok b u e).stay (fun d o hd q => k d o ?_ q) (fun d q => keepH d _ q ?_) fun d xs q => keepH d _ q ?_
          · rcases hd with rfl | hd
            · exact hb3
            · rintro rfl
              rw [hP] at hd
              cases hd
          · rintro rfl
            rw [hP] at q
            cases q
          · rintro rfl
            rw [hP] at q
            cases q
def tLam (P : Addr) (pos : Pos) (qual : Str) (params : Arguments) (body : Expr) (scope : Scope) (cl : List (Str × Addr)) : TE := fun σ H Q =>
  (H P = some (.tbl #[]) ∨ ∃ c, Tb1 H P pos qual c) ∧ ∀ f H', Off P H H' → (∃ c, Tb1 H' P pos qual c) → LamAt H' f qual params body scope cl → H f = none → Q (.ref f) H'
theorem Bm.at {P : Addr} {ps : Array Value} (B : Bm X.mg X.base) (I : Inv X pins σ H s) (hP : H P = some (.tbl ps)) : s.heap.BuiltinsAt X.mg P := by
  obtain ⟨bm, ob, h1, h2, h3, h4, h5, h6⟩ := B
  obtain ⟨e1, e2⟩ := I.bs bm ob h3
  refine ⟨bm, ob, h1, h2, fun z => ?_, fun z => ?_, e1, h4, h5, h6⟩
  · obtain ⟨o, es, ep, ho, hd, _⟩ := I.ok.mod.glob
    rw [← z, h3] at ho
    cases ho
    rw [h6] at hd
    cases hd
  · rw [z, hP] at e2
    cases e2
theorem pe_lam {P : Addr} {params : Arguments} {body : Expr} {scope : Scope} {pos : Pos} (B : Bm X.mg X.base) (C : Cdh X.K X.env.code P) (hf : ∀ y ∈ scope.names, y.2 = .free → X.env.kindOf y.1 = some .cell ∨ X.env.kindOf y.1 = some .free)
    (hdf : defaultsOf params X.env = ([], []) := by rfl) :
    PE X (.Lambda params body scope pos) (tLam P pos (X.env.qual ++ Str.ofString "<lambda>") params body scope (clo X.env.cells scope.names [])) := by
  intro pins s σ H Q I h
  obtain ⟨h1, h⟩ := h
  obtain ⟨c0, ec, hcd⟩ := C
  have cl := closure_go (env := X.env) (scope := scope) fun y hy e => I.ok.has y.1 (hf y hy e)
  have hns : s.heap.Ns mainGlobals X.mg := I.ok.mod.glob.keeps I.bk
  refine PySem.W.kla_eval hdf ?_
  rcases h1 with hP | ⟨c, hP, hc⟩
  · have hT : s.heap.get? P = some (PySem.W.tabObj #[]) := I.hok P _ hP
    refine PySem.W.kla_makeFunction cl I.ok.glob hns ec (hcd _ I.kIn) hT trivial rfl (fun z => ?_) (B.at I hP) fun c' ctv h' tk ext hsz hlt hcr htab => ?_
    · obtain ⟨o, es, ep, ho, hd, _⟩ := I.ok.mod.glob
      have := (I.bs _ _ ho).2
      rw [z, hP] at this
      cases this
    · have hsz' : s.heap.objs.size ≤ h'.objs.size := Nat.le_trans hsz (Nat.le_of_lt hlt)
      have cr : (h'.push (PySem.W.kla_obj (Str.ofString "<lambda>") (X.env.qual ++ Str.ofString "<lambda>") params body scope (clo X.env.cells scope.names []) ((X.mg (Str.ofString "__name__")).getD Value.none) c' ctv)).CodeRec (.ref c') (X.env.qual ++ Str.ofString "<lambda>") := by
        obtain ⟨c2, o, vs, t, z, q1, q2, q3⟩ := hcr
        exact ⟨c2, o, vs, t, z, Heap.get?_push_of_some _ q1, q2, q3⟩
      have J := I.table (f := h'.objs.size) (tk := tk) (more := #[rawInt ↑pos.line, rawInt ↑pos.col, Value.ref c']) hP (fun b o hb e => Heap.get?_push_of_some _ (ext b o hb e)) (Heap.get?_push_of_some _ htab) hsz cr hsz' (Heap.get?_push_size _ rfl) (fun z => Nat.lt_irrefl _ (by rw [z] at hlt; exact hlt))
      have hcn : H c' = none := I.hok.fresh hsz
      have hfn : H h'.objs.size = none := I.hok.fresh hsz'
      have cP : c' ≠ P := fun e => by rw [e, hP] at hcn; cases hcn
      have fP : h'.objs.size ≠ P := fun e => by rw [e, hP] at hfn; cases hfn
      have fc : h'.objs.size ≠ c' := fun e => by rw [← e] at hlt; exact Nat.lt_irrefl _ hlt
      refine ⟨.ref h'.objs.size, _, J, rfl, h _ _ (fun b u hb e => ?_) ⟨c', ?_, ?_⟩ ⟨_, c', ctv, upd_same, ?_⟩ hfn⟩
      · rw [upd_ne (ne_of_none e hfn), upd_ne (ne_of_none e hcn), upd_ne hb]
        exact e
      · rw [upd_ne fP.symm, upd_ne cP.symm, upd_same]
        simp
      · rw [upd_ne fc.symm, upd_same]
      · rw [upd_ne fc.symm, upd_same]
  · have hT : s.heap.get? P = some (PySem.W.tabObj _) := I.hok P _ hP
    refine PySem.W.kla_makeFunctionHit (cv := .ref c) cl I.ok.glob hns ec (hcd _ I.kIn) hT ?_ ?_ (B.at I hP) fun ctv h' tk hk hsz => ?_
    · show TriplesOk (Value.int _ _ :: Value.int _ _ :: _ :: [])
      rw [TriplesOk.eq_2]
      trivial
    · show codeAmong pos (Value.int _ _ :: Value.int _ _ :: _ :: []) = _
      rw [codeAmong.eq_1]
      simp
    · have J := I.laid (a := h'.objs.size) (t' := tk) (o := .ext fun h => h.get? h'.objs.size = some (PySem.W.kla_obj (Str.ofString "<lambda>") (X.env.qual ++ Str.ofString "<lambda>") params body scope (clo X.env.cells scope.names []) ((X.mg (Str.ofString "__name__")).getD Value.none) c ctv)) (fun b o e => Heap.get?_push_of_some _ (hk b o e)) hsz (ext_obj (Heap.get?_push_size _ rfl))
      have hfn : H h'.objs.size = none := I.hok.fresh hsz
      refine ⟨.ref h'.objs.size, _, J, rfl, h _ _ (fun b u hb e => ?_) ⟨c, ?_, ?_⟩ ⟨_, c, ctv, upd_same, ?_⟩ hfn⟩
      · rw [upd_ne (ne_of_none e hfn)]
        exact e
      · rw [upd_ne (ne_of_none hP hfn)]
        exact hP
      · rw [upd_ne (ne_of_none hc hfn)]
        exact hc
      · rw [upd_ne (ne_of_none hc hfn)]
        exact hc
end
end L2
end
section
set_option autoImplicit false
namespace L2
open PySem PySem.Spec PyProof.Rows PySem.W
section
variable {prog : Program} {w : World} {A : Around} {E : Value → Shared → Prop} {s : Shared}
structure CmpsT (prog : Program) (w : World) (lt : Nat → Nat → Bool) (A : Around) (κ : SortKind) (vs : List Value) (h : Heap) : Prop where
  kind : ∀ (s' : Shared) (Q : SortKind → Shared → Prop) (E : Value → Shared → Prop), (∀ b o, h.get? b = some o → s'.heap.get? b = some o) → Q κ s' → wpAny (model prog w) A (keyKind' vs.toArray) Q E s'
  lt : ∀ i j, i < vs.length → j < vs.length → ∀ (s' : Shared) (C : Bool → Shared → Prop), (∀ b o, h.get? b = some o → s'.heap.get? b = some o) → C (lt i j) s' → wpAny (model prog w) A (keyLt' κ (vs.getD i Value.none) (vs.getD j Value.none)) C (fun _ _ => False) s'
end
end L2
end
section
set_option autoImplicit false
namespace L2
open PySem PySem.Spec PyProof.Rows PySem.W
def ltS (a b : Str) : Bool := ltCps a.cps.toList b.cps.toList
def ltAt (ns : List Str) (i j : Nat) : Bool := ltS (ns.getD i "") (ns.getD j "")
end L2
end
section
set_option autoImplicit false
namespace L2
open PySem PySem.Spec PySem.W PyProof.Rows
section
variable {P : Program} {w : World} {A : Around} {E : Value → Shared → Prop} {G : Shared → Prop}
def SW (P : Program) (w : World) (A : Around) (E : Value → Shared → Prop) (G : Shared → Prop) {α : Type} (m : StateT SortSt Sem α) (Q : α → SortSt → Prop) (st : SortSt) : Prop :=
  ∀ s, G s → kasC (model P w) A E m (fun a st' s' => Q a st' ∧ G s') st s
theorem SW.pure {α : Type} {a : α} {Q : α → SortSt → Prop} {st : SortSt} (h : Q a st) : SW P w A E G (Pure.pure a) Q st := fun s g => kasC_pure ⟨h, g⟩
theorem SW.bind {α β : Type} {m : StateT SortSt Sem α} {f : α → StateT SortSt Sem β} {Q : β → SortSt → Prop} {st : SortSt} (h : SW P w A E G m (fun a st' => SW P w A E G (f a) Q st') st) : SW P w A E G (m >>= f) Q st :=
  fun s g => kasC_bind (wpAny_mono (h s g) (fun r s' h' => h'.1 s' h'.2) fun _ _ e => e)
theorem SW.get {Q : SortSt → SortSt → Prop} {st : SortSt} (h : Q st st) : SW P w A E G (MonadState.get : StateT SortSt Sem SortSt) Q st := fun s g => kasC_get ⟨h, g⟩
theorem SW.modify {f : SortSt → SortSt} {Q : PUnit → SortSt → Prop} {st : SortSt} (h : Q ⟨⟩ (f st)) : SW P w A E G (_root_.modify f : StateT SortSt Sem PUnit) Q st := fun s g => kasC_modify ⟨h, g⟩
theorem SW.set {x : SortSt} {Q : PUnit → SortSt → Prop} {st : SortSt} (h : Q ⟨⟩ x) : SW P w A E G (MonadStateOf.set x : StateT SortSt Sem PUnit) Q st := fun s g => by
  unfold kasC
  rw [StateT.run_set]
  exact wpAny_pure ⟨h, g⟩
theorem SW.rule {n : String} {Q : Unit → SortSt → Prop} {st : SortSt} (h : Q () st) : SW P w A E G (liftM (PySem.rule n : Sem Unit) : StateT SortSt Sem Unit) Q st := fun s g => kasC_lift (wpAny_rule ⟨h, g⟩)
theorem SW.mono {α : Type} {m : StateT SortSt Sem α} {Q Q' : α → SortSt → Prop} {st : SortSt} (h : SW P w A E G m Q st) (hq : ∀ a st', Q a st' → Q' a st') : SW P w A E G m Q' st :=
  fun s g => wpAny_mono (h s g) (fun r s' h' => ⟨hq _ _ h'.1, h'.2⟩) fun _ _ e => e
theorem SW.forL {β : Type} {f : Nat → β → StateT SortSt Sem (ForInStep β)} {D : β → SortSt → Prop} (I : Nat → β → SortSt → Prop) (n a : Nat)
    (step : ∀ i b st, i < n → I i b st → SW P w A E G (f (a + i) b) (fun r st' => match r with | .done b' => D b' st' | .yield b' => I (i + 1) b' st') st) (hend : ∀ b st, I n b st → D b st) :
    ∀ (k i : Nat), i + k = n → ∀ b st, I i b st → SW P w A E G (forIn (List.range' (a + i) k) b f) D st := by
  intro k
  induction k with
  | zero =>
    intro i e b st h s g
    have : i = n := by omega
    subst this
    exact kasC_nil ⟨hend b st h, g⟩
  | succ k ih =>
    intro i e b st h s g
    rw [List.range'_succ]
    refine kasC_cons (wpAny_mono (step i b st (by omega) h s g) (fun r s' h' => ?_) fun _ _ e => e)
    obtain ⟨r, st'⟩ := r
    cases r with
    | done b' => exact h'
    | yield b' => exact ih (i + 1) (by omega) b' st' h'.1 s' h'.2
theorem SW.for {β : Type} {a n : Nat} {b : β} {f : Nat → β → StateT SortSt Sem (ForInStep β)} {D : β → SortSt → Prop} {st : SortSt} (I : Nat → β → SortSt → Prop) (h0 : I 0 b st)
    (step : ∀ i b st, i < n - a → I i b st → SW P w A E G (f (a + i) b) (fun r st' => match r with | .done b' => D b' st' | .yield b' => I (i + 1) b' st') st) (hend : ∀ b st, I (n - a) b st → D b st) : SW P w A E G (forIn [a:n] b f) D st :=
  fun s g => kasC_range (SW.forL I (n - a) a step hend (n - a) 0 (by omega) b st h0 s g)
theorem SW.elem {arr : Array Keyed} {i : Nat} {x : Keyed} {Q : Keyed → SortSt → Prop} {st : SortSt} (h : arr[i]? = some x) (k : Q x st) : SW P w A E G (elem' arr i) Q st := by
  rw [elem'_eq, h]
  exact SW.pure k
end
def gallop' : Bool → Keyed → Array Keyed → Nat → Nat → Nat → StateT SortSt Sem (Option Nat) := sortPriv% PySem.Builtin.gallop
def mergeLo' : Array Keyed → Array Keyed → StateT SortSt Sem (Array Keyed) := sortPriv% PySem.Builtin.mergeLo
def mergeHi' : Array Keyed → Array Keyed → StateT SortSt Sem (Array Keyed) := sortPriv% PySem.Builtin.mergeHi
def setGal (st : SortSt) (g : Nat) : SortSt := SortSt.mk' (kindOf st) (arrOf st) (pendingOf st) g (failedOf st)
def beyond' (left : Bool) (key : Keyed) (arr : Array Keyed) (base i : Nat) : StateT SortSt Sem (Option Bool) := do
  let x ← elem' arr (base + i)
  if left then lt' x key else return (← lt' key x).map (!·)
def bsLoop (left : Bool) (key : Keyed) (arr : Array Keyed) (base n lo hi : Nat) : StateT SortSt Sem (Option Nat) := do
  let mut lo := lo
  let mut hi := hi
  for _ in [0:n] do
    if lo ≥ hi then break
    let m := lo + (hi - lo) / 2
    let some more ← beyond' left key arr base m | return none
    if more then lo := m + 1 else hi := m
  return some hi
theorem gallop'_eq (left : Bool) (key : Keyed) (arr : Array Keyed) (base n hint : Nat) : gallop' left key arr base n hint = (do
  let mut lastofs := 0
  let mut ofs := 1
  let some right ← beyond' left key arr base hint | return none
  if right then
    let maxofs := n - hint
    for _ in [0:n] do
      if ofs ≥ maxofs then break
      let some more ← beyond' left key arr base (hint + ofs) | return none
      if !more then break
      lastofs := ofs
      ofs := 2 * ofs + 1
    bsLoop left key arr base n (hint + lastofs + 1) (hint + min ofs maxofs)
  else
    let maxofs := hint + 1
    for _ in [0:n] do
      if ofs ≥ maxofs then break
      let some found ← beyond' left key arr base (hint - ofs) | return none
      if found then break
      lastofs := ofs
      ofs := 2 * ofs + 1
    bsLoop left key arr base n (hint + 1 - min ofs maxofs) (hint - lastofs)) := rfl
section
variable {P : Program} {w : World} {A : Around} {E : Value → Shared → Prop} {G : Shared → Prop}
theorem SW.gallop {left : Bool} {key : Keyed} {arr : Array Keyed} {base n hint t : Nat} {Q : Option Nat → SortSt → Prop} {st : SortSt} (hh : hint < n) (ht : t ≤ n)
    (hb : ∀ i, i < n → ∀ {Q' : Option Bool → SortSt → Prop}, Q' (some (decide (i < t))) st → SW P w A E G (beyond' left key arr base i) Q' st) (k : Q (some t) st) : SW P w A E G (gallop' left key arr base n hint) Q st := by
  rw [gallop'_eq]
  refine SW.bind (hb hint hh ?_)
  dsimp only
  have bs : ∀ lo hi, lo ≤ t → t ≤ hi → hi ≤ n → SW P w A E G (bsLoop left key arr base n lo hi) Q st := by
    intro lo hi h1 h2 h3
    unfold bsLoop
    refine SW.bind (SW.mono (SW.for (D := fun b st' => st' = st ∧ b.1 = none ∧ b.2.2 = t) (fun i b st' => st' = st ∧ b.1 = none ∧ b.2.1 ≤ t ∧ t ≤ b.2.2 ∧ b.2.2 ≤ n ∧ b.2.2 - b.2.1 + i ≤ n) ⟨rfl, rfl, h1, h2, h3, by dsimp only; omega⟩ ?_ ?_) ?_)
    · rintro i ⟨b0, lo, hi⟩ st' hi' ⟨rfl, rfl, g1, g2, g3, g4⟩
      dsimp only at g1 g2 g3 g4 ⊢
      by_cases hc : lo ≥ hi
      · rw [if_pos hc]
        exact SW.pure ⟨rfl, rfl, by show hi = t; omega⟩
      · rw [if_neg hc]
        refine SW.bind (hb _ (by omega) ?_)
        dsimp only
        by_cases hm : lo + (hi - lo) / 2 < t
        · rw [decide_eq_true hm, if_pos rfl]
          exact SW.pure ⟨rfl, rfl, by dsimp only; omega, g2, g3, by dsimp only; omega⟩
        · rw [decide_eq_false hm, if_neg Bool.false_ne_true]
          exact SW.pure ⟨rfl, rfl, g1, by dsimp only; omega, by dsimp only; omega, by dsimp only; omega⟩
    · rintro ⟨b0, lo, hi⟩ st' ⟨rfl, rfl, g1, g2, g3, g4⟩
      refine ⟨rfl, rfl, ?_⟩
      dsimp only at g1 g2 g3 g4 ⊢
      omega
    · rintro ⟨b0, lo, hi⟩ st' ⟨rfl, rfl, e⟩
      dsimp only at e ⊢
      subst e
      exact SW.pure k
  by_cases h0 : hint < t
  · rw [decide_eq_true h0, if_pos rfl]
    refine SW.bind (SW.mono (SW.for (D := fun b st' => st' = st ∧ b.1 = none ∧ hint + b.2.1 < t ∧ b.2.1 < b.2.2 ∧ (b.2.2 ≥ n - hint ∨ t ≤ hint + b.2.2)) (fun i b st' => st' = st ∧ b.1 = none ∧ hint + b.2.1 < t ∧ b.2.1 < b.2.2 ∧ i < b.2.2) ⟨rfl, rfl, h0, by decide, by decide⟩ ?_ ?_) ?_)
    · rintro i ⟨b0, lo, ofs⟩ st' hi' ⟨rfl, rfl, g1, g2, g3⟩
      dsimp only at g1 g2 g3 ⊢
      by_cases hc : ofs ≥ n - hint
      · rw [if_pos hc]
        exact SW.pure ⟨rfl, rfl, g1, g2, .inl hc⟩
      · rw [if_neg hc]
        refine SW.bind (hb _ (by omega) ?_)
        dsimp only
        by_cases hm : hint + ofs < t
        · rw [decide_eq_true hm, if_neg (by decide)]
          exact SW.pure ⟨rfl, rfl, hm, by dsimp only; omega, by dsimp only; omega⟩
        · rw [decide_eq_false hm, if_pos (by rfl)]
          exact SW.pure ⟨rfl, rfl, g1, g2, .inr (by dsimp only; omega)⟩
    · rintro ⟨b0, lo, ofs⟩ st' ⟨rfl, rfl, g1, g2, g3⟩
      refine ⟨rfl, rfl, g1, g2, ?_⟩
      dsimp only at g1 g2 g3 ⊢
      omega
    · rintro ⟨b0, lo, ofs⟩ st' ⟨rfl, rfl, g1, g2, g3⟩
      dsimp only at g1 g2 g3 ⊢
      exact bs (hint + lo + 1) (hint + min ofs (n - hint)) (by omega) (by omega) (by omega)
  · rw [decide_eq_false h0, if_neg Bool.false_ne_true]
    refine SW.bind (SW.mono (SW.for (D := fun b st' => st' = st ∧ b.1 = none ∧ (b.2.1 ≤ hint ∧ t ≤ hint - b.2.1) ∧ b.2.1 < b.2.2 ∧ (b.2.2 ≥ hint + 1 ∨ hint - b.2.2 < t)) (fun i b st' => st' = st ∧ b.1 = none ∧ (b.2.1 ≤ hint ∧ t ≤ hint - b.2.1) ∧ b.2.1 < b.2.2 ∧ i < b.2.2) ⟨rfl, rfl, ⟨Nat.zero_le _, by dsimp only; omega⟩, by decide, by decide⟩ ?_ ?_) ?_)
    · rintro i ⟨b0, lo, ofs⟩ st' hi' ⟨rfl, rfl, g1, g2, g3⟩
      dsimp only at g1 g2 g3 ⊢
      by_cases hc : ofs ≥ hint + 1
      · rw [if_pos hc]
        exact SW.pure ⟨rfl, rfl, g1, g2, .inl hc⟩
      · rw [if_neg hc]
        refine SW.bind (hb _ (by omega) ?_)
        dsimp only
        by_cases hm : hint - ofs < t
        · rw [decide_eq_true hm, if_pos rfl]
          exact SW.pure ⟨rfl, rfl, g1, g2, .inr hm⟩
        · rw [decide_eq_false hm, if_neg Bool.false_ne_true]
          exact SW.pure ⟨rfl, rfl, ⟨by dsimp only; omega, by dsimp only; omega⟩, by dsimp only; omega, by dsimp only; omega⟩
    · rintro ⟨b0, lo, ofs⟩ st' ⟨rfl, rfl, g1, g2, g3⟩
      refine ⟨rfl, rfl, g1, g2, ?_⟩
      dsimp only at g1 g2 g3 ⊢
      omega
    · rintro ⟨b0, lo, ofs⟩ st' ⟨rfl, rfl, g1, g2, g3⟩
      dsimp only at g1 g2 g3 ⊢
      exact bs (hint + 1 - min ofs (hint + 1)) (hint - lo) (by omega) (by omega) (by omega)
end
end L2
end
section
set_option autoImplicit false
namespace L2
open PySem PySem.Spec PySem.W PyProof.Rows
structure WO (r : Nat → Nat → Bool) : Prop where
  ir : ∀ i, r i i = false
  nt : ∀ i j k, r i k = true → r i j = true ∨ r j k = true
  as : ∀ i j, r i j = true → r j i = false
theorem WO.tr {r : Nat → Nat → Bool} (W : WO r) {i j k : Nat} (h : r i j = true) (g : r j k = true) : r i k = true := by
  rcases W.nt i k j h with h' | h'
  · exact h'
  · rw [W.as j k g] at h'
    cases h'
theorem WO.le {r : Nat → Nat → Bool} (W : WO r) {i j k : Nat} (h : r j i = false) (g : r k j = false) : r k i = false := by
  cases e : r k i with
  | false => rfl
  | true =>
    rcases W.nt k j i e with h' | h'
    · rw [g] at h'
      cases h'
    · rw [h] at h'
      cases h'
def Ah (r : Nat → Nat → Bool) (i j : Nat) : Prop := r i j = true ∨ (r j i = false ∧ i < j)
theorem Ah.not {r : Nat → Nat → Bool} (W : WO r) {i j : Nat} (h : Ah r i j) : r j i = false := by
  rcases h with h | h
  · exact W.as i j h
  · exact h.1
theorem Ah.tr {r : Nat → Nat → Bool} (W : WO r) {i j k : Nat} (h : Ah r i j) (g : Ah r j k) : Ah r i k := by
  cases e : r i k with
  | true => exact .inl e
  | false =>
    refine .inr ⟨W.le (h.not W) (g.not W), ?_⟩
    rcases h with h | ⟨h1, h2⟩
    · rcases W.nt i k j h with h' | h'
      · rw [e] at h'; cases h'
      · rw [g.not W] at h'; cases h'
    · rcases g with g | ⟨g1, g2⟩
      · rcases W.nt j i k g with h' | h'
        · rw [h1] at h'; cases h'
        · rw [e] at h'; cases h'
      · exact Nat.lt_trans h2 g2
theorem Ah.rl {r : Nat → Nat → Bool} (W : WO r) {i j k : Nat} (h : r i j = true) (g : Ah r j k) : r i k = true := by
  rcases W.nt i k j h with h' | h'
  · exact h'
  · rw [g.not W] at h'
    cases h'
theorem Ah.lr {r : Nat → Nat → Bool} (W : WO r) {i j k : Nat} (h : Ah r i j) (g : r j k = true) : r i k = true := by
  rcases W.nt j i k g with h' | h'
  · rw [h.not W] at h'
    cases h'
  · exact h'
def Lk (it : Array Keyed) (l : List Nat) : Array Keyed := (l.map (kas_item it)).toArray
theorem Lk_get (it : Array Keyed) (l : List Nat) (i : Nat) : (Lk it l)[i]? = (l[i]?).map (kas_item it) := by
  unfold Lk
  rw [List.getElem?_toArray, List.getElem?_map]
theorem Lk_size (it : Array Keyed) (l : List Nat) : (Lk it l).size = l.length := by
  unfold Lk
  rw [List.size_toArray, List.length_map]
theorem Lk_push (it : Array Keyed) (l : List Nat) (x : Nat) : (Lk it l).push (kas_item it x) = Lk it (l ++ [x]) := by
  unfold Lk
  rw [List.push_toArray, List.map_append]
  rfl
theorem Lk_app (it : Array Keyed) (l m : List Nat) : Lk it l ++ Lk it m = Lk it (l ++ m) := by
  unfold Lk
  rw [List.append_toArray, List.map_append]
theorem Lk_ext (it : Array Keyed) (l : List Nat) (i j : Nat) : (Lk it l).extract i j = Lk it ((l.take j).drop i) := by
  unfold Lk
  rw [List.extract_toArray, List.extract_eq_drop_take, List.map_drop, List.map_take]
  congr 1
  rw [← List.drop_take]
theorem Lk_rev (it : Array Keyed) (l : List Nat) : (Lk it l).reverse = Lk it l.reverse := by
  unfold Lk
  rw [List.reverse_toArray, List.map_reverse]
section
variable {P : Program} {w : World} {A : Around} {E : Value → Shared → Prop} {G : Shared → Prop} {κ : SortKind} {it : Array Keyed} {r : Nat → Nat → Bool} {N : Nat}
def LtOk (P : Program) (w : World) (A : Around) (G : Shared → Prop) (κ : SortKind) (it : Array Keyed) (r : Nat → Nat → Bool) (N : Nat) : Prop :=
  ∀ i j, i < N → j < N → ∀ s, G s → wpAny (model P w) A (keyLt' κ (kas_item it i).1 (kas_item it j).1) (fun b s' => b = r i j ∧ G s') (fun _ _ => False) s
theorem SW.lt (h : LtOk P w A G κ it r N) {i j : Nat} {Q : Option Bool → SortSt → Prop} {st : SortSt} (hk : kindOf st = κ) (hi : i < N) (hj : j < N) (k : Q (some (r i j)) st) : SW P w A E G (lt' (kas_item it i) (kas_item it j)) Q st := fun s g => by
  rw [lt'_eq]
  refine kasC_bind (kasC_get ?_)
  subst hk
  refine kasC_bind (kasC_lift (wpAny_attempt (wpAny_mono (h i j hi hj s g) (fun c s' hc => ?_) fun _ _ hF => hF.elim)))
  obtain ⟨rfl, g'⟩ := hc
  exact kasC_pure ⟨k, g'⟩
theorem SW.beyT (h : LtOk P w A G κ it r N) {l : List Nat} {base i x y : Nat} {Q : Option Bool → SortSt → Prop} {st : SortSt} (hk : kindOf st = κ) (e : l[base + i]? = some x) (hx : x < N) (hy : y < N) (k : Q (some (r x y)) st) : SW P w A E G (beyond' true (kas_item it y) (Lk it l) base i) Q st := by
  unfold beyond'
  refine SW.bind (SW.elem (x := kas_item it x) (by rw [Lk_get, e]; rfl) ?_)
  exact SW.lt h hk hx hy k
theorem SW.beyF (h : LtOk P w A G κ it r N) {l : List Nat} {base i x y : Nat} {Q : Option Bool → SortSt → Prop} {st : SortSt} (hk : kindOf st = κ) (e : l[base + i]? = some x) (hx : x < N) (hy : y < N) (k : Q (some (!r y x)) st) : SW P w A E G (beyond' false (kas_item it y) (Lk it l) base i) Q st := by
  unfold beyond'
  refine SW.bind (SW.elem (x := kas_item it x) (by rw [Lk_get, e]; rfl) ?_)
  exact SW.bind (SW.lt h hk hy hx (SW.pure k))
end
abbrev Srt (r : Nat → Nat → Bool) (l : List Nat) : Prop := l.Pairwise (Ah r)
structure Co (r : Nat → Nat → Bool) (all o u v : List Nat) : Prop where
  pm : (o ++ u ++ v).Perm all
  so : Srt r o
  su : Srt r u
  sv : Srt r v
  ou : ∀ z ∈ o, ∀ x ∈ u, Ah r z x
  ov : ∀ z ∈ o, ∀ y ∈ v, Ah r z y
  uv : ∀ x ∈ u, ∀ y ∈ v, x < y
theorem Co.len {r : Nat → Nat → Bool} {all o u v : List Nat} (h : Co r all o u v) : o.length + u.length + v.length = all.length := by
  have := h.pm.length_eq
  rw [List.length_append, List.length_append] at this
  exact this
theorem Co.a {r : Nat → Nat → Bool} {all o s u v : List Nat} (h : Co r all o (s ++ u) v) (hs : ∀ x ∈ s, ∀ y ∈ v, Ah r x y) : Co r all (o ++ s) u v := by
  obtain ⟨pm, so, su, sv, ou, ov, uv⟩ := h
  obtain ⟨s1, s2, s3⟩ := List.pairwise_append.mp su
  refine ⟨by rw [List.append_assoc o s u]; exact pm, List.pairwise_append.mpr ⟨so, s1, fun z hz x hx => ou z hz x (List.mem_append_left _ hx)⟩, s2, sv, fun z hz x hx => ?_, fun z hz y hy => ?_, fun x hx y hy => uv x (List.mem_append_right _ hx) y hy⟩
  · rcases List.mem_append.mp hz with h | h
    · exact ou z h x (List.mem_append_right _ hx)
    · exact s3 z h x hx
  · rcases List.mem_append.mp hz with h | h
    · exact ov z h y hy
    · exact hs z h y hy
theorem Co.b {r : Nat → Nat → Bool} {all o s u v : List Nat} (h : Co r all o u (s ++ v)) (hs : ∀ y ∈ s, ∀ x ∈ u, Ah r y x) : Co r all (o ++ s) u v := by
  obtain ⟨pm, so, su, sv, ou, ov, uv⟩ := h
  obtain ⟨s1, s2, s3⟩ := List.pairwise_append.mp sv
  refine ⟨?_, List.pairwise_append.mpr ⟨so, s1, fun z hz y hy => ov z hz y (List.mem_append_left _ hy)⟩, su, s2, fun z hz x hx => ?_, fun z hz y hy => ?_, fun x hx y hy => uv x hx y (List.mem_append_right _ hy)⟩
  · refine List.Perm.trans ?_ pm
    rw [List.append_assoc, List.append_assoc, List.append_assoc]
    refine List.Perm.append_left o ?_
    rw [← List.append_assoc, ← List.append_assoc]
    exact List.Perm.append_right v List.perm_append_comm
  · rcases List.mem_append.mp hz with h | h
    · exact ou z h x hx
    · exact hs z h x hx
  · rcases List.mem_append.mp hz with h | h
    · exact ov z h y (List.mem_append_right _ hy)
    · exact s3 z h y hy
def Res (r : Nat → Nat → Bool) (it : Array Keyed) (all : List Nat) (arr : Array Keyed) : Prop := ∃ po, arr = Lk it po ∧ po.Perm all ∧ Srt r po
theorem Co.doneU {r : Nat → Nat → Bool} {all o u : List Nat} (h : Co r all o u []) : (o ++ u).Perm all ∧ Srt r (o ++ u) := by
  have := h.pm
  rw [List.append_nil] at this
  exact ⟨this, List.pairwise_append.mpr ⟨h.so, h.su, h.ou⟩⟩
theorem Co.doneV {r : Nat → Nat → Bool} {all o v : List Nat} (h : Co r all o [] v) : (o ++ v).Perm all ∧ Srt r (o ++ v) := by
  have := h.pm
  rw [List.append_nil] at this
  exact ⟨this, List.pairwise_append.mpr ⟨h.so, h.sv, h.ov⟩⟩
theorem cut_at {p : Nat → Bool} : ∀ {l : List Nat}, l.Pairwise (fun x y => p y = true → p x = true) → ∃ t, t ≤ l.length ∧ ∀ i (h : i < l.length), p l[i] = decide (i < t)
  | [], _ => ⟨0, Nat.le_refl _, fun i h => absurd h (Nat.not_lt_zero _)⟩
  | x :: l, hp => by
    obtain ⟨h1, h2⟩ := List.pairwise_cons.mp hp
    cases e : p x with
    | false =>
      refine ⟨0, Nat.zero_le _, fun i h => ?_⟩
      rw [decide_eq_false (Nat.not_lt_zero _)]
      cases i with
      | zero => exact e
      | succ i =>
        cases e' : p ((x :: l)[i + 1]) with
        | false => rfl
        | true =>
          have := h1 (l[i]'(by simpa using h)) (List.getElem_mem _) e'
          rw [e] at this
          cases this
    | true =>
      obtain ⟨t, ht, hh⟩ := cut_at h2
      refine ⟨t + 1, by rw [List.length_cons]; omega, fun i h => ?_⟩
      cases i with
      | zero => rw [decide_eq_true (by omega)]; exact e
      | succ i =>
        have hi : i < l.length := by simpa using h
        show p (l[i]'hi) = _
        rw [hh i hi]
        simp
abbrev RL := Option (Array Keyed) × Array Keyed × Nat × Nat × Nat × Nat × Nat
abbrev RL1 := Option (Array Keyed) × Array Keyed × Nat × Nat × Nat × Nat
def mlDone (a b out : Array Keyed) (ia ib : Nat) : Array Keyed := out ++ a.extract ia a.size ++ b.extract ib b.size
def mlLast (a b out : Array Keyed) (ia ib : Nat) : Array Keyed := out ++ b.extract ib b.size ++ a.extract ia a.size
def mlC (a b out : Array Keyed) (ia ib mg ac bc : Nat) : StateT SortSt Sem (ForInStep RL) := do
  let x ← elem' a ia
  if ia + 1 + 1 == a.size then pure (.done (some (mlLast a b (out.push x) (ia + 1) ib), out.push x, ia + 1, ib, mg, ac, bc))
  else if ac < 7 && bc < 7 then pure (.done (none, out.push x, ia + 1, ib, mg, ac, bc))
  else pure (.yield (none, out.push x, ia + 1, ib, mg, ac, bc))
def mlB (a b out : Array Keyed) (ia ib mg ac bc : Nat) : StateT SortSt Sem (ForInStep RL) := do
  let y ← elem' b ib
  if ib + 1 == b.size then pure (.done (some (mlDone a b (out.push y) ia (ib + 1)), out.push y, ia, ib + 1, mg, ac, bc))
  else
    let x ← elem' a ia
    match ← gallop' true x b (ib + 1) (b.size - (ib + 1)) 0 with
    | some k =>
      if k > 0 then
        if ib + 1 + k == b.size then pure (.done (some (mlDone a b (out.push y ++ b.extract (ib + 1) (ib + 1 + k)) ia (ib + 1 + k)), out.push y ++ b.extract (ib + 1) (ib + 1 + k), ia, ib + 1 + k, mg, ac, k))
        else mlC a b (out.push y ++ b.extract (ib + 1) (ib + 1 + k)) ia (ib + 1 + k) mg ac k
      else mlC a b (out.push y) ia (ib + 1) mg ac k
    | _ => pure (.done (some (mlDone a b (out.push y) ia (ib + 1)), out.push y, ia, ib + 1, mg, ac, bc))
def mlA (a b out : Array Keyed) (ia ib mg ac bc : Nat) : StateT SortSt Sem (ForInStep RL) := do
  modify fun s => setGal s mg
  let y ← elem' b ib
  match ← gallop' false y a ia (a.size - ia) 0 with
  | some k =>
    if k > 0 then
      if ia + k + 1 == a.size then pure (.done (some (mlLast a b (out ++ a.extract ia (ia + k)) (ia + k) ib), out ++ a.extract ia (ia + k), ia + k, ib, mg, k, bc))
      else if ia + k == a.size then pure (.done (some (mlDone a b (out ++ a.extract ia (ia + k)) (ia + k) ib), out ++ a.extract ia (ia + k), ia + k, ib, mg, k, bc))
      else mlB a b (out ++ a.extract ia (ia + k)) (ia + k) ib mg k bc
    else mlB a b out ia ib mg k bc
  | _ => pure (.done (some (mlDone a b out ia ib), out, ia, ib, mg, ac, bc))
def ml1 (a b : Array Keyed) (mg : Nat) (s : RL1) : StateT SortSt Sem (ForInStep RL1) := do
  let y ← elem' b s.2.2.2.1
  let x ← elem' a s.2.2.1
  match ← lt' y x with
  | some bw =>
    if bw then
      let y ← elem' b s.2.2.2.1
      if s.2.2.2.1 + 1 == b.size then pure (.done (some (mlDone a b (s.2.1.push y) s.2.2.1 (s.2.2.2.1 + 1)), s.2.1.push y, s.2.2.1, s.2.2.2.1 + 1, 0, s.2.2.2.2.2 + 1))
      else if s.2.2.2.2.2 + 1 ≥ mg then pure (.done (none, s.2.1.push y, s.2.2.1, s.2.2.2.1 + 1, 0, s.2.2.2.2.2 + 1))
      else pure (.yield (none, s.2.1.push y, s.2.2.1, s.2.2.2.1 + 1, 0, s.2.2.2.2.2 + 1))
    else
      let x ← elem' a s.2.2.1
      if s.2.2.1 + 1 + 1 == a.size then pure (.done (some (mlLast a b (s.2.1.push x) (s.2.2.1 + 1) s.2.2.2.1), s.2.1.push x, s.2.2.1 + 1, s.2.2.2.1, s.2.2.2.2.1 + 1, 0))
      else if s.2.2.2.2.1 + 1 ≥ mg then pure (.done (none, s.2.1.push x, s.2.2.1 + 1, s.2.2.2.1, s.2.2.2.2.1 + 1, 0))
      else pure (.yield (none, s.2.1.push x, s.2.2.1 + 1, s.2.2.2.1, s.2.2.2.2.1 + 1, 0))
  | _ => pure (.done (some (mlDone a b s.2.1 s.2.2.1 s.2.2.2.1), s.2.1, s.2.2.1, s.2.2.2.1, s.2.2.2.2.1, s.2.2.2.2.2))
theorem mergeLo'_eq (a b : Array Keyed) : mergeLo' a b = (do
  rule "list.sort.merge-lo"
  let total := a.size + b.size
  let done (out : Array Keyed) (ia ib : Nat) := out ++ a.extract ia a.size ++ b.extract ib b.size
  let lastOfA (out : Array Keyed) (ia ib : Nat) := out ++ b.extract ib b.size ++ a.extract ia a.size
  let mut out : Array Keyed := #[← elem' b 0]
  let mut ia := 0
  let mut ib := 1
  if ib == b.size then return done out ia ib
  if ia + 1 == a.size then return lastOfA out ia ib
  let mut minGallop := gallopOf (← get)
  for _ in [0:total] do
    let mut acount := 0
    let mut bcount := 0
    for _ in [0:total] do
      let some bWins ← lt' (← elem' b ib) (← elem' a ia) | return done out ia ib
      if bWins then
        out := out.push (← elem' b ib); ib := ib + 1; bcount := bcount + 1; acount := 0
        if ib == b.size then return done out ia ib
        if bcount ≥ minGallop then break
      else
        out := out.push (← elem' a ia); ia := ia + 1; acount := acount + 1; bcount := 0
        if ia + 1 == a.size then return lastOfA out ia ib
        if acount ≥ minGallop then break
    rule "list.sort.gallop"
    minGallop := minGallop + 1
    for _ in [0:total] do
      if minGallop > 1 then minGallop := minGallop - 1
      modify fun s => setGal s minGallop
      let some k ← gallop' false (← elem' b ib) a ia (a.size - ia) 0 | return done out ia ib
      acount := k
      if k > 0 then
        out := out ++ a.extract ia (ia + k); ia := ia + k
        if ia + 1 == a.size then return lastOfA out ia ib
        if ia == a.size then return done out ia ib
      out := out.push (← elem' b ib); ib := ib + 1
      if ib == b.size then return done out ia ib
      let some k ← gallop' true (← elem' a ia) b ib (b.size - ib) 0 | return done out ia ib
      bcount := k
      if k > 0 then
        out := out ++ b.extract ib (ib + k); ib := ib + k
        if ib == b.size then return done out ia ib
      out := out.push (← elem' a ia); ia := ia + 1
      if ia + 1 == a.size then return lastOfA out ia ib
      if acount < 7 && bcount < 7 then break
    minGallop := minGallop + 1
    modify fun s => setGal s minGallop
  (unsupported "internal:list.sort.merge-bound" : Sem (Array Keyed))) := rfl
theorem take_all (l : List Nat) (i : Nat) : (l.take l.length).drop i = l.drop i := by rw [List.take_of_length_le (Nat.le_refl _)]
theorem take_mid (l : List Nat) (i k : Nat) : (l.take (i + k)).drop i = (l.drop i).take k := by rw [List.drop_take, Nat.add_sub_cancel_left]
section
variable {P : Program} {w : World} {A : Around} {E : Value → Shared → Prop} {G : Shared → Prop} {κ : SortKind} {it : Array Keyed} {r : Nat → Nat → Bool} {N : Nat} {pa pb : List Nat}
def MLo (r : Nat → Nat → Bool) (it : Array Keyed) (pa pb : List Nat) (m : Nat) (ret : Option (Array Keyed)) (out : Array Keyed) (ia ib : Nat) : Prop := match ret with
  | some arr => Res r it (pa ++ pb) arr
  | none => ∃ o, out = Lk it o ∧ ia + 1 < pa.length ∧ ib < pb.length ∧ Co r (pa ++ pb) o (pa.drop ia) (pb.drop ib) ∧ m ≤ o.length
theorem ml_done {o : List Nat} {ia ib : Nat} (h : Co r (pa ++ pb) o (pa.drop ia) (pb.drop ib)) (e : ia = pa.length ∨ ib = pb.length) : Res r it (pa ++ pb) (mlDone (Lk it pa) (Lk it pb) (Lk it o) ia ib) := by
  unfold mlDone
  rw [Lk_ext, Lk_ext, Lk_size, Lk_size, take_all, take_all, Lk_app, Lk_app]
  rcases e with e | e
  · have e' : pa.drop ia = [] := by rw [e, List.drop_length]
    rw [e'] at h ⊢
    rw [List.append_nil]
    exact ⟨_, rfl, h.doneV.1, h.doneV.2⟩
  · have e' : pb.drop ib = [] := by rw [e, List.drop_length]
    rw [e'] at h ⊢
    rw [List.append_nil]
    exact ⟨_, rfl, h.doneU.1, h.doneU.2⟩
theorem ml_last {o : List Nat} {ia ib : Nat} (hl : ∀ y ∈ pb, ∀ x, pa[pa.length - 1]? = some x → r y x = true) (h : Co r (pa ++ pb) o (pa.drop ia) (pb.drop ib)) (e : ia + 1 = pa.length) : Res r it (pa ++ pb) (mlLast (Lk it pa) (Lk it pb) (Lk it o) ia ib) := by
  unfold mlLast
  rw [Lk_ext, Lk_ext, Lk_size, Lk_size, take_all, take_all, Lk_app, Lk_app]
  have hi : ia < pa.length := by omega
  have eu : pa.drop ia = [pa[ia]] := by
    rw [List.drop_eq_getElem_cons hi, e, List.drop_length]
  have h2 : Co r (pa ++ pb) (o ++ pb.drop ib) (pa.drop ia) [] := by
    refine Co.b (s := pb.drop ib) (v := []) (by rw [List.append_nil]; exact h) fun y hy x hx => .inl ?_
    rw [eu] at hx
    refine hl y (List.mem_of_mem_drop hy) x ?_
    rw [List.mem_singleton.mp hx, show pa.length - 1 = ia by omega]
    exact List.getElem?_eq_getElem hi
  exact ⟨_, rfl, h2.doneU.1, h2.doneU.2⟩
def MLOut (r : Nat → Nat → Bool) (it : Array Keyed) (pa pb : List Nat) (m : Nat) : ForInStep RL → Prop
  | .done z => MLo r it pa pb m z.1 z.2.1 z.2.2.1 z.2.2.2.1
  | .yield z => z.1 = none ∧ MLo r it pa pb m none z.2.1 z.2.2.1 z.2.2.2.1
theorem drop_get {l : List Nat} {i : Nat} (h : i < l.length) : l.drop i = l[i] :: l.drop (i + 1) := List.drop_eq_getElem_cons h
theorem SW.mlC (hl : ∀ y ∈ pb, ∀ x, pa[pa.length - 1]? = some x → r y x = true) {o : List Nat} {ia ib mg ac bc : Nat} {Q : ForInStep RL → SortSt → Prop} {st : SortSt} (ha : ia + 1 < pa.length) (hb : ib < pb.length) (c : Co r (pa ++ pb) o (pa.drop ia) (pb.drop ib))
    (hx : ∀ y ∈ pb.drop ib, Ah r (pa[ia]'(by omega)) y) (hQ : ∀ rr, MLOut r it pa pb (o.length + 1) rr → Q rr st) : SW P w A E G (mlC (Lk it pa) (Lk it pb) (Lk it o) ia ib mg ac bc) Q st := by
  unfold L2.mlC
  have hi : ia < pa.length := by omega
  refine SW.bind (SW.elem (x := kas_item it pa[ia]) (by rw [Lk_get, List.getElem?_eq_getElem hi]; rfl) ?_)
  rw [Lk_push]
  have c2 : Co r (pa ++ pb) (o ++ [pa[ia]]) (pa.drop (ia + 1)) (pb.drop ib) := by
    refine Co.a (s := [pa[ia]]) (by rw [List.singleton_append, ← drop_get hi]; exact c) fun x hx' y hy => ?_
    rw [List.mem_singleton.mp hx']
    exact hx y hy
  have hlen : (o ++ [pa[ia]]).length = o.length + 1 := by rw [List.length_append]; rfl
  by_cases e : ia + 1 + 1 = pa.length
  · rw [if_pos (by rw [Lk_size, e]; exact beq_self_eq_true _)]
    exact SW.pure (hQ _ (ml_last hl c2 e))
  · rw [if_neg (by rw [Lk_size]; intro h; exact e (by simpa using h))]
    have hn : MLo r it pa pb (o.length + 1) none (Lk it (o ++ [pa[ia]])) (ia + 1) ib := ⟨_, rfl, by omega, hb, c2, by omega⟩
    by_cases e2 : (decide (ac < 7) && decide (bc < 7)) = true
    · rw [if_pos e2]
      exact SW.pure (hQ _ hn)
    · rw [if_neg e2]
      exact SW.pure (hQ _ ⟨rfl, hn⟩)
theorem SW.mlB (h : LtOk P w A G κ it r N) (W : WO r) (na : ∀ x ∈ pa, x < N) (nb : ∀ y ∈ pb, y < N) (hl : ∀ y ∈ pb, ∀ x, pa[pa.length - 1]? = some x → r y x = true) {o : List Nat} {ia ib mg ac bc : Nat} {Q : ForInStep RL → SortSt → Prop} {st : SortSt} (hk : kindOf st = κ) (ha : ia + 1 < pa.length) (hb : ib < pb.length) (c : Co r (pa ++ pb) o (pa.drop ia) (pb.drop ib))
    (hy : r (pb[ib]) (pa[ia]'(by omega)) = true) (hQ : ∀ rr, MLOut r it pa pb (o.length + 1) rr → Q rr st) : SW P w A E G (mlB (Lk it pa) (Lk it pb) (Lk it o) ia ib mg ac bc) Q st := by
  unfold L2.mlB
  have hi : ia < pa.length := by omega
  refine SW.bind (SW.elem (x := kas_item it pb[ib]) (by rw [Lk_get, List.getElem?_eq_getElem hb]; rfl) ?_)
  rw [Lk_push]
  have c2 : Co r (pa ++ pb) (o ++ [pb[ib]]) (pa.drop ia) (pb.drop (ib + 1)) := by
    refine Co.b (s := [pb[ib]]) (by rw [List.singleton_append, ← drop_get hb]; exact c) fun y hy' x hx => .inl ?_
    rw [List.mem_singleton.mp hy']
    have su := c.su
    rw [drop_get hi] at hx su
    rcases List.mem_cons.mp hx with rfl | hx
    · exact hy
    · exact Ah.rl W hy (List.rel_of_pairwise_cons su hx)
  have hlen : (o ++ [pb[ib]]).length = o.length + 1 := by rw [List.length_append]; rfl
  by_cases e : ib + 1 = pb.length
  · rw [if_pos (by rw [Lk_size, e]; exact beq_self_eq_true _)]
    exact SW.pure (hQ _ (ml_done c2 (.inr e)))
  · rw [if_neg (by rw [Lk_size]; intro h; exact e (by simpa using h))]
    have hb1 : ib + 1 < pb.length := by omega
    refine SW.bind (SW.elem (x := kas_item it pa[ia]) (by rw [Lk_get, List.getElem?_eq_getElem hi]; rfl) ?_)
    obtain ⟨k, hk1, hk2⟩ := cut_at (p := fun y => r y pa[ia]) (l := pb.drop (ib + 1)) (c2.sv.imp fun {y y'} ah g => Ah.lr W ah g)
    have ln : (pb.drop (ib + 1)).length = pb.length - (ib + 1) := List.length_drop
    rw [Lk_size]
    refine SW.bind (SW.gallop (t := k) (by omega) (by omega) (fun i hi' Q' q => ?_) ?_)
    · have hii : i < (pb.drop (ib + 1)).length := by omega
      refine SW.beyT h (x := (pb.drop (ib + 1))[i]) hk ?_ (nb _ (List.mem_of_mem_drop (List.getElem_mem hii))) (na _ (List.getElem_mem hi)) ?_
      · rw [← List.getElem?_drop, List.getElem?_eq_getElem hii]
      · rw [hk2 i hii]
        exact q
    dsimp only
    have split : pb.drop (ib + 1) = (pb.drop (ib + 1)).take k ++ pb.drop (ib + 1 + k) := by
      rw [show pb.drop (ib + 1 + k) = (pb.drop (ib + 1)).drop k from List.drop_drop.symm]
      exact (List.take_append_drop _ _).symm
    have c3 : Co r (pa ++ pb) ((o ++ [pb[ib]]) ++ (pb.drop (ib + 1)).take k) (pa.drop ia) (pb.drop (ib + 1 + k)) := by
      refine Co.b (by rw [← split]; exact c2) fun y hy' x hx => .inl ?_
      obtain ⟨i, hi', ei⟩ := List.getElem_of_mem hy'
      rw [List.length_take] at hi'
      have hii : i < (pb.drop (ib + 1)).length := by omega
      have hp := hk2 i hii
      rw [List.getElem_take] at ei
      rw [ei, decide_eq_true (by omega)] at hp
      have su := c.su
      rw [drop_get hi] at hx su
      rcases List.mem_cons.mp hx with rfl | hx
      · exact hp
      · exact Ah.rl W hp (List.rel_of_pairwise_cons su hx)
    have hx : ib + 1 + k < pb.length → ∀ y ∈ pb.drop (ib + 1 + k), Ah r pa[ia] y := fun hlt y hy' => by
      have sv := c3.sv
      rw [drop_get hlt] at hy' sv
      have h0 : Ah r pa[ia] pb[ib + 1 + k] := by
        have hii : k < (pb.drop (ib + 1)).length := by omega
        have hp := hk2 k hii
        rw [decide_eq_false (by omega)] at hp
        have e1 : (pb.drop (ib + 1))[k] = pb[ib + 1 + k] := by rw [List.getElem_drop]
        have hp : r pb[ib + 1 + k] pa[ia] = false := by rw [← e1]; exact hp
        refine .inr ⟨hp, c.uv _ ?_ _ ?_⟩
        · rw [drop_get hi]; exact List.mem_cons_self
        · exact List.mem_of_getElem? (i := 1 + k) (by rw [List.getElem?_drop, ← Nat.add_assoc, List.getElem?_eq_getElem hlt])
      rcases List.mem_cons.mp hy' with rfl | hy'
      · exact h0
      · exact h0.tr W (List.rel_of_pairwise_cons sv hy')
    have hlen3 : ((o ++ [pb[ib]]) ++ (pb.drop (ib + 1)).take k).length ≥ o.length + 1 := by rw [List.length_append, hlen]; omega
    have up : ∀ {m : Nat} {rr}, o.length + 1 ≤ m → MLOut r it pa pb m rr → MLOut r it pa pb (o.length + 1) rr := fun {m rr} hm hr => by
      cases rr with
      | done z =>
        obtain ⟨z1, z⟩ := z
        cases z1 with
        | some arr => exact hr
        | none =>
          obtain ⟨o', e1, e2, e3, e4, e5⟩ := hr
          exact ⟨o', e1, e2, e3, e4, by omega⟩
      | yield z =>
        obtain ⟨e0, o', e1, e2, e3, e4, e5⟩ := hr
        exact ⟨e0, o', e1, e2, e3, e4, by omega⟩
    by_cases k0 : k > 0
    · rw [if_pos k0, Lk_ext, take_mid, Lk_app]
      by_cases e4 : ib + 1 + k = pb.length
      · rw [if_pos (by rw [e4]; exact beq_self_eq_true _)]
        exact SW.pure (hQ _ (ml_done c3 (.inr e4)))
      · rw [if_neg (by intro h; exact e4 (by simpa using h))]
        exact SW.mlC hl ha (by omega) c3 (hx (by omega)) fun rr hr => hQ rr (up (by omega) hr)
    · have : k = 0 := by omega
      subst this
      rw [if_neg k0]
      exact SW.mlC hl ha hb1 c2 (hx hb1) fun rr hr => hQ rr (up (by omega) hr)
end
end L2
end
section
set_option autoImplicit false
namespace L2
open PySem PySem.Spec PySem.W PyProof.Rows
section
variable {P : Program} {w : World} {A : Around} {E : Value → Shared → Prop} {G : Shared → Prop} {κ : SortKind} {it : Array Keyed} {r : Nat → Nat → Bool} {N : Nat} {pa pb : List Nat}
theorem MLo.up {m m' : Nat} {ret : Option (Array Keyed)} {out : Array Keyed} {ia ib : Nat} (h : MLo r it pa pb m ret out ia ib) (hm : m' ≤ m) : MLo r it pa pb m' ret out ia ib := by
  cases ret with
  | some arr => exact h
  | none =>
    obtain ⟨o', e1, e2, e3, e4, e5⟩ := h
    exact ⟨o', e1, e2, e3, e4, by omega⟩
theorem MLOut.up {m m' : Nat} {rr : ForInStep RL} (h : MLOut r it pa pb m rr) (hm : m' ≤ m) : MLOut r it pa pb m' rr := by
  cases rr with
  | done z => exact MLo.up h hm
  | yield z => exact ⟨h.1, MLo.up h.2 hm⟩
theorem SW.mlA (h : LtOk P w A G κ it r N) (W : WO r) (na : ∀ x ∈ pa, x < N) (nb : ∀ y ∈ pb, y < N) (hl : ∀ y ∈ pb, ∀ x, pa[pa.length - 1]? = some x → r y x = true) {o : List Nat} {ia ib mg ac bc : Nat} {Q : ForInStep RL → SortSt → Prop} {st : SortSt} (hk : kindOf st = κ) (ha : ia + 1 < pa.length) (hb : ib < pb.length) (c : Co r (pa ++ pb) o (pa.drop ia) (pb.drop ib))
    (hQ : ∀ rr, MLOut r it pa pb (o.length + 1) rr → Q rr (setGal st mg)) : SW P w A E G (mlA (Lk it pa) (Lk it pb) (Lk it o) ia ib mg ac bc) Q st := by
  unfold L2.mlA
  have hi : ia < pa.length := by omega
  refine SW.bind (SW.modify ?_)
  refine SW.bind (SW.elem (x := kas_item it pb[ib]) (by rw [Lk_get, List.getElem?_eq_getElem hb]; rfl) ?_)
  obtain ⟨k, hk1, hk2⟩ := cut_at (p := fun x => !r pb[ib] x) (l := pa.drop ia) (c.su.imp fun {x x'} ah g => by
    have g : r pb[ib] x' = false := by
      cases e : r pb[ib] x' with
      | false => rfl
      | true => rw [e] at g; cases g
    rw [W.le (ah.not W) g]
    rfl)
  have ln : (pa.drop ia).length = pa.length - ia := List.length_drop
  rw [Lk_size]
  refine SW.bind (SW.gallop (t := k) (by omega) (by omega) (fun i hi' Q' q => ?_) ?_)
  · have hii : i < (pa.drop ia).length := by omega
    refine SW.beyF h (x := (pa.drop ia)[i]) (show kindOf (setGal st mg) = κ from hk) ?_ (na _ (List.mem_of_mem_drop (List.getElem_mem hii))) (nb _ (List.getElem_mem hb)) ?_
    · rw [← List.getElem?_drop, List.getElem?_eq_getElem hii]
    · have := hk2 i hii
      rw [this]
      exact q
  dsimp only
  have split : pa.drop ia = (pa.drop ia).take k ++ pa.drop (ia + k) := by
    rw [show pa.drop (ia + k) = (pa.drop ia).drop k from List.drop_drop.symm]
    exact (List.take_append_drop _ _).symm
  have ymem : pb[ib] ∈ pb.drop ib := by rw [drop_get hb]; exact List.mem_cons_self
  have c2 : Co r (pa ++ pb) (o ++ (pa.drop ia).take k) (pa.drop (ia + k)) (pb.drop ib) := by
    refine Co.a (by rw [← split]; exact c) fun x hx y hy => ?_
    obtain ⟨i, hi', ei⟩ := List.getElem_of_mem hx
    rw [List.length_take] at hi'
    have hii : i < (pa.drop ia).length := by omega
    have hp := hk2 i hii
    rw [List.getElem_take] at ei
    rw [ei, decide_eq_true (by omega)] at hp
    have hp : r pb[ib] x = false := by
      cases e : r pb[ib] x with
      | false => rfl
      | true => rw [e] at hp; cases hp
    have h0 : Ah r x pb[ib] := .inr ⟨hp, c.uv x (List.mem_of_mem_take hx) _ ymem⟩
    have sv := c.sv
    rw [drop_get hb] at hy sv
    rcases List.mem_cons.mp hy with rfl | hy
    · exact h0
    · exact h0.tr W (List.rel_of_pairwise_cons sv hy)
  have hy : ∀ (hlt : ia + k < pa.length), r pb[ib] pa[ia + k] = true := fun hlt => by
    have hii : k < (pa.drop ia).length := by omega
    have hp := hk2 k hii
    rw [decide_eq_false (by omega)] at hp
    have e1 : (pa.drop ia)[k] = pa[ia + k] := by rw [List.getElem_drop]
    rw [e1] at hp
    cases e : r pb[ib] pa[ia + k] with
    | true => rfl
    | false => rw [e] at hp; cases hp
  have hlen : (o ++ (pa.drop ia).take k).length ≥ o.length := by rw [List.length_append]; omega
  by_cases k0 : k > 0
  · have hlen2 : (o ++ (pa.drop ia).take k).length ≥ o.length + 1 := by rw [List.length_append, List.length_take]; omega
    rw [if_pos k0, Lk_ext, take_mid, Lk_app]
    by_cases e1 : ia + k + 1 = pa.length
    · rw [if_pos (by rw [e1]; exact beq_self_eq_true _)]
      exact SW.pure (hQ _ (ml_last hl c2 e1))
    · rw [if_neg (by intro h; exact e1 (by simpa using h))]
      by_cases e2 : ia + k = pa.length
      · rw [if_pos (by rw [e2]; exact beq_self_eq_true _)]
        exact SW.pure (hQ _ (ml_done c2 (.inl e2)))
      · rw [if_neg (by intro h; exact e2 (by simpa using h))]
        exact SW.mlB h W na nb hl hk (by omega) hb c2 (hy (by omega)) fun rr hr => hQ rr (MLOut.up hr (by omega))
  · have : k = 0 := by omega
    subst this
    rw [if_neg k0]
    exact SW.mlB h W na nb hl hk ha hb c (hy hi) fun rr hr => hQ rr hr
def MLOut1 (r : Nat → Nat → Bool) (it : Array Keyed) (pa pb : List Nat) (m : Nat) : ForInStep RL1 → Prop
  | .done z => MLo r it pa pb m z.1 z.2.1 z.2.2.1 z.2.2.2.1
  | .yield z => z.1 = none ∧ MLo r it pa pb m none z.2.1 z.2.2.1 z.2.2.2.1
theorem SW.ml1 (h : LtOk P w A G κ it r N) (W : WO r) (na : ∀ x ∈ pa, x < N) (nb : ∀ y ∈ pb, y < N) (hl : ∀ y ∈ pb, ∀ x, pa[pa.length - 1]? = some x → r y x = true) {o : List Nat} {ia ib mg ac bc : Nat} {q0 : Option (Array Keyed)} {Q : ForInStep RL1 → SortSt → Prop} {st : SortSt} (hk : kindOf st = κ) (ha : ia + 1 < pa.length) (hb : ib < pb.length) (c : Co r (pa ++ pb) o (pa.drop ia) (pb.drop ib))
    (hQ : ∀ rr, MLOut1 r it pa pb o.length rr → Q rr st) : SW P w A E G (ml1 (Lk it pa) (Lk it pb) mg (q0, Lk it o, ia, ib, ac, bc)) Q st := by
  unfold L2.ml1
  dsimp only
  have hi : ia < pa.length := by omega
  have gb : (Lk it pb)[ib]? = some (kas_item it pb[ib]) := by rw [Lk_get, List.getElem?_eq_getElem hb]; rfl
  have ga : (Lk it pa)[ia]? = some (kas_item it pa[ia]) := by rw [Lk_get, List.getElem?_eq_getElem hi]; rfl
  refine SW.bind (SW.elem gb (SW.bind (SW.elem ga (SW.bind (SW.lt h hk (nb _ (List.getElem_mem hb)) (na _ (List.getElem_mem hi)) ?_)))))
  dsimp only
  have xm : pa[ia] ∈ pa.drop ia := by rw [drop_get hi]; exact List.mem_cons_self
  have ym : pb[ib] ∈ pb.drop ib := by rw [drop_get hb]; exact List.mem_cons_self
  cases e : r pb[ib] pa[ia] with
  | true =>
    rw [if_pos rfl]
    refine SW.bind (SW.elem gb ?_)
    rw [Lk_push, Lk_size]
    have c2 : Co r (pa ++ pb) (o ++ [pb[ib]]) (pa.drop ia) (pb.drop (ib + 1)) := by
      refine Co.b (s := [pb[ib]]) (by rw [List.singleton_append, ← drop_get hb]; exact c) fun y hy' x hx => .inl ?_
      rw [List.mem_singleton.mp hy']
      have su := c.su
      rw [drop_get hi] at hx su
      rcases List.mem_cons.mp hx with rfl | hx
      · exact e
      · exact Ah.rl W e (List.rel_of_pairwise_cons su hx)
    have hlen : (o ++ [pb[ib]]).length = o.length + 1 := by rw [List.length_append]; rfl
    by_cases e1 : ib + 1 = pb.length
    · rw [if_pos (by rw [e1]; exact beq_self_eq_true _)]
      exact SW.pure (hQ _ (ml_done c2 (.inr e1)))
    · rw [if_neg (by intro h; exact e1 (by simpa using h))]
      have hn : MLo r it pa pb o.length none (Lk it (o ++ [pb[ib]])) ia (ib + 1) := ⟨_, rfl, ha, by omega, c2, by omega⟩
      by_cases e2 : bc + 1 ≥ mg
      · rw [if_pos e2]
        exact SW.pure (hQ _ hn)
      · rw [if_neg e2]
        exact SW.pure (hQ _ ⟨rfl, hn⟩)
  | false =>
    rw [if_neg Bool.false_ne_true]
    refine SW.bind (SW.elem ga ?_)
    rw [Lk_push, Lk_size]
    have c2 : Co r (pa ++ pb) (o ++ [pa[ia]]) (pa.drop (ia + 1)) (pb.drop ib) := by
      refine Co.a (s := [pa[ia]]) (by rw [List.singleton_append, ← drop_get hi]; exact c) fun x hx' y hy => ?_
      rw [List.mem_singleton.mp hx']
      have h0 : Ah r pa[ia] pb[ib] := .inr ⟨e, c.uv _ xm _ ym⟩
      have sv := c.sv
      rw [drop_get hb] at hy sv
      rcases List.mem_cons.mp hy with rfl | hy
      · exact h0
      · exact h0.tr W (List.rel_of_pairwise_cons sv hy)
    have hlen : (o ++ [pa[ia]]).length = o.length + 1 := by rw [List.length_append]; rfl
    by_cases e1 : ia + 1 + 1 = pa.length
    · rw [if_pos (by rw [e1]; exact beq_self_eq_true _)]
      exact SW.pure (hQ _ (ml_last hl c2 e1))
    · rw [if_neg (by intro h; exact e1 (by simpa using h))]
      have hn : MLo r it pa pb o.length none (Lk it (o ++ [pa[ia]])) (ia + 1) ib := ⟨_, rfl, by omega, hb, c2, by omega⟩
      by_cases e2 : ac + 1 ≥ mg
      · rw [if_pos e2]
        exact SW.pure (hQ _ hn)
      · rw [if_neg e2]
        exact SW.pure (hQ _ ⟨rfl, hn⟩)
theorem SW.mergeLo (h : LtOk P w A G κ it r N) (W : WO r) (na : ∀ x ∈ pa, x < N) (nb : ∀ y ∈ pb, y < N) (hl : ∀ y ∈ pb, ∀ x, pa[pa.length - 1]? = some x → r y x = true) (hf : ∀ x y, pa[0]? = some x → pb[0]? = some y → r y x = true) (ha0 : 0 < pa.length) (hb0 : 0 < pb.length)
    (sa : Srt r pa) (sb : Srt r pb) (ab : ∀ x ∈ pa, ∀ y ∈ pb, x < y) {Q : Array Keyed → SortSt → Prop} {st : SortSt} (hk : kindOf st = κ) (hQ : ∀ arr g, Res r it (pa ++ pb) arr → Q arr (setGal st g)) : SW P w A E G (mergeLo' (Lk it pa) (Lk it pb)) Q st := by
  rw [mergeLo'_eq]
  refine SW.bind (SW.rule ?_)
  dsimp only
  refine SW.bind (SW.elem (x := kas_item it pb[0]) (by rw [Lk_get, List.getElem?_eq_getElem hb0]; rfl) ?_)
  have c0 : Co r (pa ++ pb) [pb[0]] (pa.drop 0) (pb.drop 1) := by
    refine Co.b (o := []) (s := [pb[0]]) (v := pb.drop 1) ⟨?_, .nil, by rw [List.drop_zero]; exact sa, ?_, (fun z hz => nomatch hz), (fun z hz => nomatch hz), fun x hx y hy => ?_⟩ fun y hy x hx => .inl ?_
    · rw [List.singleton_append, ← drop_get hb0, List.drop_zero, List.drop_zero]
      exact List.Perm.refl _
    · rw [List.singleton_append, ← drop_get hb0, List.drop_zero]
      exact sb
    · rw [List.singleton_append, ← drop_get hb0, List.drop_zero] at hy
      rw [List.drop_zero] at hx
      exact ab x hx y hy
    · rw [List.mem_singleton.mp hy]
      rw [List.drop_zero] at hx
      have h0 := hf pa[0] pb[0] (List.getElem?_eq_getElem ha0) (List.getElem?_eq_getElem hb0)
      have e0 : pa = pa[0] :: pa.drop 1 := by rw [← drop_get ha0, List.drop_zero]
      have sa' := sa
      rw [e0] at hx sa'
      rcases List.mem_cons.mp hx with rfl | hx
      · exact h0
      · exact Ah.rl W h0 (List.rel_of_pairwise_cons sa' hx)
  have eo : (#[kas_item it pb[0]] : Array Keyed) = Lk it [pb[0]] := rfl
  rw [eo]
  have hst : st = setGal st (gallopOf st) := rfl
  have za : (Lk it pa).size = pa.length := Lk_size it pa
  have zb : (Lk it pb).size = pb.length := Lk_size it pb
  by_cases e1 : 1 = pb.length
  · rw [if_pos (by rw [Lk_size, ← e1]; rfl)]
    refine SW.pure ?_
    rw [hst]
    have := ml_done (it := it) c0 (.inr e1)
    unfold mlDone at this
    exact hQ _ _ this
  · rw [if_neg (by rw [Lk_size]; intro h; exact e1 (by simpa using h))]
    by_cases e2 : 0 + 1 = pa.length
    · rw [if_pos (by rw [Lk_size, ← e2]; rfl)]
      refine SW.pure ?_
      rw [hst]
      have := ml_last (it := it) hl c0 e2
      unfold mlLast at this
      exact hQ _ _ this
    · rw [if_neg (by rw [Lk_size]; intro h; exact e2 (by simpa using h))]
      refine SW.bind (SW.get ?_)
      refine SW.bind (SW.mono (SW.for (D := fun b st' => (∃ g, st' = setGal st g) ∧ ∃ arr, b.1 = some arr ∧ Res r it (pa ++ pb) arr) (fun i b st' => (∃ g, st' = setGal st g) ∧ b.1 = none ∧ MLo r it pa pb (i + 1) none b.2.1 b.2.2.1 b.2.2.2.1) ⟨⟨_, hst⟩, rfl, _, rfl, by dsimp only; omega, by dsimp only; omega, c0, Nat.le_refl _⟩ ?_ ?_) ?_)
      · rintro i ⟨q0, out, ia, ib, mg⟩ st' hi ⟨⟨g0, rfl⟩, e0, o, eo', ha, hb, c, hlen⟩
        dsimp only at e0 eo' ha hb c hlen ⊢
        subst eo'
        refine SW.bind (SW.mono (SW.for (D := fun b st' => (∃ g, st' = setGal st g) ∧ MLo r it pa pb (i + 1) b.1 b.2.1 b.2.2.1 b.2.2.2.1) (fun _ b st' => (∃ g, st' = setGal st g) ∧ b.1 = none ∧ MLo r it pa pb (i + 1) none b.2.1 b.2.2.1 b.2.2.2.1) ⟨⟨g0, rfl⟩, rfl, o, rfl, ha, hb, c, hlen⟩ ?_ ?_) ?_)
        · rintro j ⟨q1, out1, ia1, ib1, ac1, bc1⟩ st1 hj ⟨⟨g1, rfl⟩, e1', o1, eo1, ha1, hb1, c1, hl1⟩
          dsimp only at e1' eo1 ha1 hb1 c1 hl1 ⊢
          subst eo1
          refine (SW.ml1 (q0 := q1) (ac := ac1) (bc := bc1) (mg := mg) h W na nb hl (show kindOf (setGal st g1) = κ from hk) ha1 hb1 c1 fun rr hr => ?_ : SW P w A E G (L2.ml1 (Lk it pa) (Lk it pb) mg (q1, Lk it o1, ia1, ib1, ac1, bc1)) _ _)
          cases rr with
          | done z => exact ⟨⟨g1, rfl⟩, MLo.up hr (by omega)⟩
          | yield z => exact ⟨⟨g1, rfl⟩, hr.1, MLo.up hr.2 (by omega)⟩
        · rintro ⟨q1, out1, ia1, ib1, ac1, bc1⟩ st1 ⟨g1, e1', hm⟩
          dsimp only at e1' hm ⊢
          subst e1'
          exact ⟨g1, hm⟩
        · rintro ⟨q1, out1, ia1, ib1, ac1, bc1⟩ st1 ⟨⟨g1, rfl⟩, hm⟩
          dsimp only at hm ⊢
          cases q1 with
          | some arr =>
            dsimp only
            exact SW.pure ⟨⟨g1, rfl⟩, arr, rfl, hm⟩
          | none =>
            dsimp only
            obtain ⟨o1, eo1, ha1, hb1, c1, hl1⟩ := hm
            subst eo1
            refine SW.bind (SW.rule ?_)
            refine SW.bind (SW.mono (SW.for (D := fun b st' => (∃ g, st' = setGal st g) ∧ MLo r it pa pb (i + 1 + 1) b.1 b.2.1 b.2.2.1 b.2.2.2.1) (fun j b st' => (∃ g, st' = setGal st g) ∧ b.1 = none ∧ MLo r it pa pb (i + 1 + j) none b.2.1 b.2.2.1 b.2.2.2.1) ⟨⟨g1, rfl⟩, rfl, o1, rfl, ha1, hb1, c1, hl1⟩ ?_ ?_) ?_)
            · rintro j ⟨q2, out2, ia2, ib2, mg2, ac2, bc2⟩ st2 hj ⟨⟨g2, rfl⟩, e2', o2, eo2, ha2, hb2, c2, hl2⟩
              dsimp only at e2' eo2 ha2 hb2 c2 hl2 ⊢
              subst eo2
              have key : ∀ mg' (Q' : ForInStep RL → SortSt → Prop), (∀ rr, MLOut r it pa pb (o2.length + 1) rr → Q' rr (setGal st mg')) → SW P w A E G (L2.mlA (Lk it pa) (Lk it pb) (Lk it o2) ia2 ib2 mg' ac2 bc2) Q' (setGal st g2) := fun mg' Q' hq => SW.mlA h W na nb hl (show kindOf (setGal st g2) = κ from hk) ha2 hb2 c2 hq
              by_cases hmg : mg2 > 1
              · rw [if_pos hmg]
                refine key (mg2 - 1) _ fun rr hr => ?_
                cases rr with
                | done z => exact ⟨⟨_, rfl⟩, MLo.up hr (by omega)⟩
                | yield z => exact ⟨⟨_, rfl⟩, hr.1, MLo.up hr.2 (by omega)⟩
              · rw [if_neg hmg]
                refine key mg2 _ fun rr hr => ?_
                cases rr with
                | done z => exact ⟨⟨_, rfl⟩, MLo.up hr (by omega)⟩
                | yield z => exact ⟨⟨_, rfl⟩, hr.1, MLo.up hr.2 (by omega)⟩
            · rintro ⟨q2, out2, ia2, ib2, mg2, ac2, bc2⟩ st2 ⟨g2, e2', hm⟩
              dsimp only at e2' hm ⊢
              subst e2'
              exact ⟨g2, MLo.up hm (by omega)⟩
            · rintro ⟨q2, out2, ia2, ib2, mg2, ac2, bc2⟩ st2 ⟨⟨g2, rfl⟩, hm⟩
              dsimp only at hm ⊢
              cases q2 with
              | some arr =>
                dsimp only
                exact SW.pure ⟨⟨g2, rfl⟩, arr, rfl, hm⟩
              | none =>
                dsimp only
                exact SW.bind (SW.modify (SW.pure ⟨⟨_, rfl⟩, rfl, hm⟩))
      · rintro ⟨q0, out, ia, ib, mg⟩ st' ⟨⟨g0, rfl⟩, e0, o, eo', ha, hb, c, hlen⟩
        exfalso
        have := c.len
        rw [List.length_append, List.length_drop, List.length_drop] at this
        dsimp only at *
        omega
      · rintro ⟨q0, out, ia, ib, mg⟩ st' ⟨⟨g0, rfl⟩, arr, e0, hr⟩
        dsimp only at e0 ⊢
        subst e0
        exact SW.pure (hQ arr g0 hr)
end
end L2
end
section
set_option autoImplicit false
namespace L2
open PySem PySem.Spec PySem.W PyProof.Rows
theorem mergeHi'_eq (a b : Array Keyed) : mergeHi' a b = (do
  rule "list.sort.merge-hi"
  let total := a.size + b.size
  let done (out : Array Keyed) (na nb : Nat) := a.extract 0 na ++ b.extract 0 nb ++ out.reverse
  let firstOfB (out : Array Keyed) (na nb : Nat) := b.extract 0 nb ++ a.extract 0 na ++ out.reverse
  let mut na := a.size - 1
  let mut nb := b.size
  let mut out : Array Keyed := #[← elem' a na]
  if na == 0 then return done out na nb
  if nb == 1 then return firstOfB out na nb
  let mut minGallop := gallopOf (← get)
  for _ in [0:total] do
    let mut acount := 0
    let mut bcount := 0
    for _ in [0:total] do
      let some aWins ← lt' (← elem' b (nb - 1)) (← elem' a (na - 1)) | return done out na nb
      if aWins then
        na := na - 1; out := out.push (← elem' a na); acount := acount + 1; bcount := 0
        if na == 0 then return done out na nb
        if acount ≥ minGallop then break
      else
        nb := nb - 1; out := out.push (← elem' b nb); bcount := bcount + 1; acount := 0
        if nb == 1 then return firstOfB out na nb
        if bcount ≥ minGallop then break
    rule "list.sort.gallop"
    minGallop := minGallop + 1
    for _ in [0:total] do
      if minGallop > 1 then minGallop := minGallop - 1
      modify fun s => setGal s minGallop
      let some at_ ← gallop' false (← elem' b (nb - 1)) a 0 na (na - 1) | return done out na nb
      let k := na - at_
      acount := k
      if k > 0 then
        out := out ++ (a.extract at_ na).reverse; na := at_
        if na == 0 then return done out na nb
      nb := nb - 1; out := out.push (← elem' b nb)
      if nb == 1 then return firstOfB out na nb
      let some at_ ← gallop' true (← elem' a (na - 1)) b 0 nb (nb - 1) | return done out na nb
      let k := nb - at_
      bcount := k
      if k > 0 then
        out := out ++ (b.extract at_ nb).reverse; nb := at_
        if nb == 1 then return firstOfB out na nb
        if nb == 0 then return done out na nb
      na := na - 1; out := out.push (← elem' a na)
      if na == 0 then return done out na nb
      if acount < 7 && bcount < 7 then break
    minGallop := minGallop + 1
    modify fun s => setGal s minGallop
  (unsupported "internal:list.sort.merge-bound" : Sem (Array Keyed))) := rfl
structure Ci (r : Nat → Nat → Bool) (all u v o : List Nat) : Prop where
  pm : (u ++ v ++ o).Perm all
  so : Srt r o
  su : Srt r u
  sv : Srt r v
  uo : ∀ x ∈ u, ∀ z ∈ o, Ah r x z
  vo : ∀ y ∈ v, ∀ z ∈ o, Ah r y z
  uv : ∀ x ∈ u, ∀ y ∈ v, x < y
theorem Ci.len {r : Nat → Nat → Bool} {all u v o : List Nat} (h : Ci r all u v o) : u.length + v.length + o.length = all.length := by
  have := h.pm.length_eq
  rw [List.length_append, List.length_append] at this
  exact this
theorem Ci.a {r : Nat → Nat → Bool} {all u s v o : List Nat} (h : Ci r all (u ++ s) v o) (hs : ∀ x ∈ s, ∀ y ∈ v, Ah r y x) : Ci r all u v (s ++ o) := by
  obtain ⟨pm, so, su, sv, uo, vo, uv⟩ := h
  obtain ⟨s1, s2, s3⟩ := List.pairwise_append.mp su
  refine ⟨?_, List.pairwise_append.mpr ⟨s2, so, fun x hx z hz => uo x (List.mem_append_right _ hx) z hz⟩, s1, sv, fun x hx z hz => ?_, fun y hy z hz => ?_, fun x hx y hy => uv x (List.mem_append_left _ hx) y hy⟩
  · refine List.Perm.trans ?_ pm
    rw [← List.append_assoc]
    refine List.Perm.append_right o ?_
    rw [List.append_assoc, List.append_assoc]
    exact List.Perm.append_left u List.perm_append_comm
  · rcases List.mem_append.mp hz with h | h
    · exact s3 x hx z h
    · exact uo x (List.mem_append_left _ hx) z h
  · rcases List.mem_append.mp hz with h | h
    · exact hs z h y hy
    · exact vo y hy z h
theorem Ci.b {r : Nat → Nat → Bool} {all u v s o : List Nat} (h : Ci r all u (v ++ s) o) (hs : ∀ y ∈ s, ∀ x ∈ u, Ah r x y) : Ci r all u v (s ++ o) := by
  obtain ⟨pm, so, su, sv, uo, vo, uv⟩ := h
  obtain ⟨s1, s2, s3⟩ := List.pairwise_append.mp sv
  refine ⟨?_, List.pairwise_append.mpr ⟨s2, so, fun y hy z hz => vo y (List.mem_append_right _ hy) z hz⟩, su, s1, fun x hx z hz => ?_, fun y hy z hz => ?_, fun x hx y hy => uv x hx y (List.mem_append_left _ hy)⟩
  · rw [← List.append_assoc, List.append_assoc u v s]
    exact pm
  · rcases List.mem_append.mp hz with h | h
    · exact hs z h x hx
    · exact uo x hx z h
  · rcases List.mem_append.mp hz with h | h
    · exact s3 y hy z h
    · exact vo y (List.mem_append_left _ hy) z h
abbrev RH := Option (Array Keyed) × Nat × Nat × Array Keyed × Nat × Nat × Nat
abbrev RH1 := Option (Array Keyed) × Nat × Nat × Array Keyed × Nat × Nat
def mhDone (a b out : Array Keyed) (na nb : Nat) : Array Keyed := a.extract 0 na ++ b.extract 0 nb ++ out.reverse
def mhFirst (a b out : Array Keyed) (na nb : Nat) : Array Keyed := b.extract 0 nb ++ a.extract 0 na ++ out.reverse
def mhC (a b : Array Keyed) (na nb : Nat) (out : Array Keyed) (mg ac bc : Nat) : StateT SortSt Sem (ForInStep RH) := do
  let x ← elem' a (na - 1)
  if na - 1 == 0 then pure (.done (some (mhDone a b (out.push x) (na - 1) nb), na - 1, nb, out.push x, mg, ac, bc))
  else if ac < 7 && bc < 7 then pure (.done (none, na - 1, nb, out.push x, mg, ac, bc))
  else pure (.yield (none, na - 1, nb, out.push x, mg, ac, bc))
def mhB (a b : Array Keyed) (na nb : Nat) (out : Array Keyed) (mg ac bc : Nat) : StateT SortSt Sem (ForInStep RH) := do
  let y ← elem' b (nb - 1)
  if nb - 1 == 1 then pure (.done (some (mhFirst a b (out.push y) na (nb - 1)), na, nb - 1, out.push y, mg, ac, bc))
  else
    let x ← elem' a (na - 1)
    match ← gallop' true x b 0 (nb - 1) (nb - 1 - 1) with
    | some k =>
      if nb - 1 - k > 0 then
        if k == 1 then pure (.done (some (mhFirst a b (out.push y ++ (b.extract k (nb - 1)).reverse) na k), na, k, out.push y ++ (b.extract k (nb - 1)).reverse, mg, ac, nb - 1 - k))
        else if k == 0 then pure (.done (some (mhDone a b (out.push y ++ (b.extract k (nb - 1)).reverse) na k), na, k, out.push y ++ (b.extract k (nb - 1)).reverse, mg, ac, nb - 1 - k))
        else mhC a b na k (out.push y ++ (b.extract k (nb - 1)).reverse) mg ac (nb - 1 - k)
      else mhC a b na (nb - 1) (out.push y) mg ac (nb - 1 - k)
    | _ => pure (.done (some (mhDone a b (out.push y) na (nb - 1)), na, nb - 1, out.push y, mg, ac, bc))
def mhA (a b : Array Keyed) (na nb : Nat) (out : Array Keyed) (mg ac bc : Nat) : StateT SortSt Sem (ForInStep RH) := do
  modify fun s => setGal s mg
  let y ← elem' b (nb - 1)
  match ← gallop' false y a 0 na (na - 1) with
  | some k =>
    if na - k > 0 then
      if k == 0 then pure (.done (some (mhDone a b (out ++ (a.extract k na).reverse) k nb), k, nb, out ++ (a.extract k na).reverse, mg, na - k, bc))
      else mhB a b k nb (out ++ (a.extract k na).reverse) mg (na - k) bc
    else mhB a b na nb out mg (na - k) bc
  | _ => pure (.done (some (mhDone a b out na nb), na, nb, out, mg, ac, bc))
def mh1 (a b : Array Keyed) (mg : Nat) (s : RH1) : StateT SortSt Sem (ForInStep RH1) := do
  let y ← elem' b (s.2.2.1 - 1)
  let x ← elem' a (s.2.1 - 1)
  match ← lt' y x with
  | some aw =>
    if aw then
      let x ← elem' a (s.2.1 - 1)
      if s.2.1 - 1 == 0 then pure (.done (some (mhDone a b (s.2.2.2.1.push x) (s.2.1 - 1) s.2.2.1), s.2.1 - 1, s.2.2.1, s.2.2.2.1.push x, s.2.2.2.2.1 + 1, 0))
      else if s.2.2.2.2.1 + 1 ≥ mg then pure (.done (none, s.2.1 - 1, s.2.2.1, s.2.2.2.1.push x, s.2.2.2.2.1 + 1, 0))
      else pure (.yield (none, s.2.1 - 1, s.2.2.1, s.2.2.2.1.push x, s.2.2.2.2.1 + 1, 0))
    else
      let y ← elem' b (s.2.2.1 - 1)
      if s.2.2.1 - 1 == 1 then pure (.done (some (mhFirst a b (s.2.2.2.1.push y) s.2.1 (s.2.2.1 - 1)), s.2.1, s.2.2.1 - 1, s.2.2.2.1.push y, 0, s.2.2.2.2.2 + 1))
      else if s.2.2.2.2.2 + 1 ≥ mg then pure (.done (none, s.2.1, s.2.2.1 - 1, s.2.2.2.1.push y, 0, s.2.2.2.2.2 + 1))
      else pure (.yield (none, s.2.1, s.2.2.1 - 1, s.2.2.2.1.push y, 0, s.2.2.2.2.2 + 1))
  | _ => pure (.done (some (mhDone a b s.2.2.2.1 s.2.1 s.2.2.1), s.2.1, s.2.2.1, s.2.2.2.1, s.2.2.2.2.1, s.2.2.2.2.2))
theorem take_last {l : List Nat} {n : Nat} (h1 : 1 ≤ n) (h : n - 1 < l.length) : l.take n = l.take (n - 1) ++ [l[n - 1]] := by
  have : n = (n - 1) + 1 := by omega
  conv => lhs; rw [this]
  rw [List.take_succ, List.getElem?_eq_getElem h]
  rfl
theorem take_split {l : List Nat} {n k : Nat} (h : k ≤ n) : l.take n = l.take k ++ (l.take n).drop k := by
  have : l.take k = (l.take n).take k := by rw [List.take_take, Nat.min_eq_left h]
  rw [this]
  exact (List.take_append_drop _ _).symm
section
variable {P : Program} {w : World} {A : Around} {E : Value → Shared → Prop} {G : Shared → Prop} {κ : SortKind} {it : Array Keyed} {r : Nat → Nat → Bool} {N : Nat} {pa pb : List Nat}
def MHi (r : Nat → Nat → Bool) (it : Array Keyed) (pa pb : List Nat) (m : Nat) (ret : Option (Array Keyed)) (na nb : Nat) (out : Array Keyed) : Prop := match ret with
  | some arr => Res r it (pa ++ pb) arr
  | none => ∃ o, out = Lk it o.reverse ∧ (1 ≤ na ∧ na ≤ pa.length) ∧ (2 ≤ nb ∧ nb ≤ pb.length) ∧ Ci r (pa ++ pb) (pa.take na) (pb.take nb) o ∧ m ≤ o.length
theorem MHi.up {m m' : Nat} {ret : Option (Array Keyed)} {out : Array Keyed} {na nb : Nat} (h : MHi r it pa pb m ret na nb out) (hm : m' ≤ m) : MHi r it pa pb m' ret na nb out := by
  cases ret with
  | some arr => exact h
  | none =>
    obtain ⟨o', e1, e2, e3, e4, e5⟩ := h
    exact ⟨o', e1, e2, e3, e4, by omega⟩
def MHOut (r : Nat → Nat → Bool) (it : Array Keyed) (pa pb : List Nat) (m : Nat) : ForInStep RH → Prop
  | .done z => MHi r it pa pb m z.1 z.2.1 z.2.2.1 z.2.2.2.1
  | .yield z => z.1 = none ∧ MHi r it pa pb m none z.2.1 z.2.2.1 z.2.2.2.1
theorem MHOut.up {m m' : Nat} {rr : ForInStep RH} (h : MHOut r it pa pb m rr) (hm : m' ≤ m) : MHOut r it pa pb m' rr := by
  cases rr with
  | done z => exact MHi.up h hm
  | yield z => exact ⟨h.1, MHi.up h.2 hm⟩
def MHOut1 (r : Nat → Nat → Bool) (it : Array Keyed) (pa pb : List Nat) (m : Nat) : ForInStep RH1 → Prop
  | .done z => MHi r it pa pb m z.1 z.2.1 z.2.2.1 z.2.2.2.1
  | .yield z => z.1 = none ∧ MHi r it pa pb m none z.2.1 z.2.2.1 z.2.2.2.1
theorem out_push (o : List Nat) (x : Nat) : (Lk it o.reverse).push (kas_item it x) = Lk it (x :: o).reverse := by
  rw [Lk_push, List.reverse_cons]
theorem out_app (o s : List Nat) : Lk it o.reverse ++ (Lk it s).reverse = Lk it (s ++ o).reverse := by
  rw [Lk_rev, Lk_app, List.reverse_append]
theorem mh_done {o : List Nat} {na nb : Nat} (h : Ci r (pa ++ pb) (pa.take na) (pb.take nb) o) (e : na = 0 ∨ nb = 0) : Res r it (pa ++ pb) (mhDone (Lk it pa) (Lk it pb) (Lk it o.reverse) na nb) := by
  unfold mhDone
  rw [Lk_ext, Lk_ext, Lk_rev, List.reverse_reverse, List.drop_zero, List.drop_zero, Lk_app, Lk_app]
  refine ⟨_, rfl, h.pm, List.pairwise_append.mpr ⟨List.pairwise_append.mpr ⟨h.su, h.sv, fun x hx y hy => ?_⟩, h.so, fun x hx z hz => ?_⟩⟩
  · rcases e with e | e
    · rw [e] at hx
      cases hx
    · rw [e] at hy
      cases hy
  · rcases List.mem_append.mp hx with h' | h'
    · exact h.uo x h' z hz
    · exact h.vo x h' z hz
theorem mh_first (hf : ∀ x ∈ pa, ∀ y, pb[0]? = some y → r y x = true) {o : List Nat} {na nb : Nat} (h : Ci r (pa ++ pb) (pa.take na) (pb.take nb) o) (e : nb = 1) (hb0 : 0 < pb.length) : Res r it (pa ++ pb) (mhFirst (Lk it pa) (Lk it pb) (Lk it o.reverse) na nb) := by
  unfold mhFirst
  rw [Lk_ext, Lk_ext, Lk_rev, List.reverse_reverse, List.drop_zero, List.drop_zero, Lk_app, Lk_app]
  subst e
  refine ⟨_, rfl, ?_, List.pairwise_append.mpr ⟨List.pairwise_append.mpr ⟨h.sv, h.su, fun y hy x hx => .inl ?_⟩, h.so, fun x hx z hz => ?_⟩⟩
  · exact List.Perm.trans (List.Perm.append_right o List.perm_append_comm) h.pm
  · refine hf x (List.mem_of_mem_take hx) y ?_
    rw [take_last (Nat.le_refl 1) (by omega)] at hy
    have hy : y ∈ [pb[0]] := by simpa using hy
    rw [List.mem_singleton.mp hy]
    exact List.getElem?_eq_getElem hb0
  · rcases List.mem_append.mp hx with h' | h'
    · exact h.vo x h' z hz
    · exact h.uo x h' z hz
theorem SW.mhC (hf : ∀ x ∈ pa, ∀ y, pb[0]? = some y → r y x = true) {o : List Nat} {na nb mg ac bc : Nat} {Q : ForInStep RH → SortSt → Prop} {st : SortSt} (ha : 1 ≤ na) (ha' : na - 1 < pa.length) (hb : 2 ≤ nb) (hb' : nb ≤ pb.length) (c : Ci r (pa ++ pb) (pa.take na) (pb.take nb) o)
    (hx : ∀ y ∈ pb.take nb, Ah r y pa[na - 1]) (hQ : ∀ rr, MHOut r it pa pb (o.length + 1) rr → Q rr st) : SW P w A E G (mhC (Lk it pa) (Lk it pb) na nb (Lk it o.reverse) mg ac bc) Q st := by
  unfold L2.mhC
  refine SW.bind (SW.elem (x := kas_item it pa[na - 1]) (by rw [Lk_get, List.getElem?_eq_getElem ha']; rfl) ?_)
  rw [out_push]
  have c2 : Ci r (pa ++ pb) (pa.take (na - 1)) (pb.take nb) (pa[na - 1] :: o) := by
    refine Ci.a (s := [pa[na - 1]]) (by rw [← take_last ha ha']; exact c) fun x hx' y hy => ?_
    rw [List.mem_singleton.mp hx']
    exact hx y hy
  by_cases e : na - 1 = 0
  · rw [if_pos (by rw [e]; rfl)]
    exact SW.pure (hQ _ (mh_done c2 (.inl e)))
  · rw [if_neg (by intro h; exact e (by simpa using h))]
    have hn : MHi r it pa pb (o.length + 1) none (na - 1) nb (Lk it (pa[na - 1] :: o).reverse) := ⟨_, rfl, ⟨by omega, by omega⟩, ⟨hb, hb'⟩, c2, Nat.le_refl _⟩
    by_cases e2 : (decide (ac < 7) && decide (bc < 7)) = true
    · rw [if_pos e2]
      exact SW.pure (hQ _ hn)
    · rw [if_neg e2]
      exact SW.pure (hQ _ ⟨rfl, hn⟩)
theorem SW.mhB (h : LtOk P w A G κ it r N) (W : WO r) (na' : ∀ x ∈ pa, x < N) (nb' : ∀ y ∈ pb, y < N) (hf : ∀ x ∈ pa, ∀ y, pb[0]? = some y → r y x = true) {o : List Nat} {na nb mg ac bc : Nat} {Q : ForInStep RH → SortSt → Prop} {st : SortSt} (hk : kindOf st = κ) (ha : 1 ≤ na) (ha' : na - 1 < pa.length) (hb : 2 ≤ nb) (hb' : nb - 1 < pb.length) (c : Ci r (pa ++ pb) (pa.take na) (pb.take nb) o)
    (hy : ∀ x ∈ pa.take na, Ah r x pb[nb - 1]) (hQ : ∀ rr, MHOut r it pa pb (o.length + 1) rr → Q rr st) : SW P w A E G (mhB (Lk it pa) (Lk it pb) na nb (Lk it o.reverse) mg ac bc) Q st := by
  unfold L2.mhB
  refine SW.bind (SW.elem (x := kas_item it pb[nb - 1]) (by rw [Lk_get, List.getElem?_eq_getElem hb']; rfl) ?_)
  rw [out_push]
  have c2 : Ci r (pa ++ pb) (pa.take na) (pb.take (nb - 1)) (pb[nb - 1] :: o) := by
    refine Ci.b (s := [pb[nb - 1]]) (by rw [← take_last (by omega) hb']; exact c) fun y hy' x hx => ?_
    rw [List.mem_singleton.mp hy']
    exact hy x hx
  by_cases e : nb - 1 = 1
  · rw [if_pos (by rw [e]; rfl)]
    exact SW.pure (hQ _ (mh_first hf c2 e (by omega)))
  · rw [if_neg (by intro h; exact e (by simpa using h))]
    refine SW.bind (SW.elem (x := kas_item it pa[na - 1]) (by rw [Lk_get, List.getElem?_eq_getElem ha']; rfl) ?_)
    have xm : pa[na - 1] ∈ pa.take na := by rw [take_last ha ha']; exact List.mem_append_right _ (List.mem_singleton.mpr rfl)
    obtain ⟨k, hk1, hk2⟩ := cut_at (p := fun y => r y pa[na - 1]) (l := pb.take (nb - 1)) (c2.sv.imp fun {y y'} ah g => Ah.lr W ah g)
    have ln : (pb.take (nb - 1)).length = nb - 1 := by rw [List.length_take]; omega
    refine SW.bind (SW.gallop (t := k) (by omega) (by omega) (fun i hi' Q' q => ?_) ?_)
    · have hii : i < (pb.take (nb - 1)).length := by omega
      refine SW.beyT h (x := (pb.take (nb - 1))[i]) hk ?_ (nb' _ (List.mem_of_mem_take (List.getElem_mem hii))) (na' _ (List.getElem_mem ha')) ?_
      · rw [Nat.zero_add, List.getElem_take, List.getElem?_eq_getElem (by omega)]
      · rw [hk2 i hii]
        exact q
    dsimp only
    rw [ln] at hk1
    have split := take_split (l := pb) hk1
    have c3 : Ci r (pa ++ pb) (pa.take na) (pb.take k) ((pb.take (nb - 1)).drop k ++ pb[nb - 1] :: o) := by
      refine Ci.b (by rw [← split]; exact c2) fun y hy' x hx => ?_
      obtain ⟨i, hi', ei⟩ := List.getElem_of_mem hy'
      rw [List.length_drop] at hi'
      have hii : k + i < (pb.take (nb - 1)).length := by omega
      have hp := hk2 (k + i) hii
      rw [List.getElem_drop] at ei
      rw [ei, decide_eq_false (by omega)] at hp
      have h0 : Ah r pa[na - 1] y := .inr ⟨hp, c2.uv _ xm y (List.mem_of_mem_drop hy')⟩
      have su := c2.su
      rw [take_last ha ha'] at hx su
      rcases List.mem_append.mp hx with hx | hx
      · exact ((List.pairwise_append.mp su).2.2 x hx _ (List.mem_singleton.mpr rfl)).tr W h0
      · rw [List.mem_singleton.mp hx]
        exact h0
    have hx : ∀ y ∈ pb.take k, Ah r y pa[na - 1] := fun y hy' => .inl (by
      obtain ⟨i, hi', ei⟩ := List.getElem_of_mem hy'
      rw [List.length_take] at hi'
      have hii : i < (pb.take (nb - 1)).length := by omega
      have hp := hk2 i hii
      rw [decide_eq_true (by omega)] at hp
      rw [List.getElem_take] at ei
      rw [List.getElem_take, ei] at hp
      exact hp)
    have hlen : ((pb.take (nb - 1)).drop k ++ pb[nb - 1] :: o).length ≥ o.length + 1 := by rw [List.length_append, List.length_cons]; omega
    by_cases k0 : nb - 1 - k > 0
    · rw [if_pos k0, Lk_ext, out_app]
      by_cases e1 : k = 1
      · rw [if_pos (by rw [e1]; rfl)]
        exact SW.pure (hQ _ (mh_first hf c3 e1 (by omega)))
      · rw [if_neg (by intro h; exact e1 (by simpa using h))]
        by_cases e2 : k = 0
        · rw [if_pos (by rw [e2]; rfl)]
          exact SW.pure (hQ _ (mh_done c3 (.inr e2)))
        · rw [if_neg (by intro h; exact e2 (by simpa using h))]
          exact SW.mhC hf ha ha' (by omega) (by omega) c3 hx fun rr hr => hQ rr (MHOut.up hr (by omega))
    · have ek : k = nb - 1 := by omega
      rw [if_neg k0]
      refine SW.mhC hf ha ha' (by omega) (by omega) c2 (fun y hy' => hx y (by rw [ek]; exact hy')) fun rr hr => hQ rr (MHOut.up hr (by rw [List.length_cons]; omega))
theorem SW.mhA (h : LtOk P w A G κ it r N) (W : WO r) (na' : ∀ x ∈ pa, x < N) (nb' : ∀ y ∈ pb, y < N) (hf : ∀ x ∈ pa, ∀ y, pb[0]? = some y → r y x = true) {o : List Nat} {na nb mg ac bc : Nat} {Q : ForInStep RH → SortSt → Prop} {st : SortSt} (hk : kindOf st = κ) (ha : 1 ≤ na) (ha' : na ≤ pa.length) (hb : 2 ≤ nb) (hb' : nb - 1 < pb.length) (c : Ci r (pa ++ pb) (pa.take na) (pb.take nb) o)
    (hQ : ∀ rr, MHOut r it pa pb (o.length + 1) rr → Q rr (setGal st mg)) : SW P w A E G (mhA (Lk it pa) (Lk it pb) na nb (Lk it o.reverse) mg ac bc) Q st := by
  unfold L2.mhA
  refine SW.bind (SW.modify ?_)
  refine SW.bind (SW.elem (x := kas_item it pb[nb - 1]) (by rw [Lk_get, List.getElem?_eq_getElem hb']; rfl) ?_)
  have ym : pb[nb - 1] ∈ pb.take nb := by rw [take_last (by omega) hb']; exact List.mem_append_right _ (List.mem_singleton.mpr rfl)
  obtain ⟨k, hk1, hk2⟩ := cut_at (p := fun x => !r pb[nb - 1] x) (l := pa.take na) (c.su.imp fun {x x'} ah g => by
    have g : r pb[nb - 1] x' = false := by
      cases e : r pb[nb - 1] x' with
      | false => rfl
      | true => rw [e] at g; cases g
    rw [W.le (ah.not W) g]
    rfl)
  have ln : (pa.take na).length = na := by rw [List.length_take]; omega
  refine SW.bind (SW.gallop (t := k) (by omega) (by omega) (fun i hi' Q' q => ?_) ?_)
  · have hii : i < (pa.take na).length := by omega
    refine SW.beyF h (x := (pa.take na)[i]) (show kindOf (setGal st mg) = κ from hk) ?_ (na' _ (List.mem_of_mem_take (List.getElem_mem hii))) (nb' _ (List.getElem_mem hb')) ?_
    · rw [Nat.zero_add, List.getElem_take, List.getElem?_eq_getElem (by omega)]
    · have := hk2 i hii
      rw [this]
      exact q
  dsimp only
  rw [ln] at hk1
  have split := take_split (l := pa) hk1
  have c2 : Ci r (pa ++ pb) (pa.take k) (pb.take nb) ((pa.take na).drop k ++ o) := by
    refine Ci.a (by rw [← split]; exact c) fun x hx y hy => .inl ?_
    obtain ⟨i, hi', ei⟩ := List.getElem_of_mem hx
    rw [List.length_drop] at hi'
    have hii : k + i < (pa.take na).length := by omega
    have hp := hk2 (k + i) hii
    rw [List.getElem_drop] at ei
    rw [ei, decide_eq_false (by omega)] at hp
    have hp : r pb[nb - 1] x = true := by
      cases e : r pb[nb - 1] x with
      | true => rfl
      | false => rw [e] at hp; cases hp
    have sv := c.sv
    rw [take_last (by omega) hb'] at hy sv
    rcases List.mem_append.mp hy with hy | hy
    · exact Ah.lr W ((List.pairwise_append.mp sv).2.2 y hy _ (List.mem_singleton.mpr rfl)) hp
    · rw [List.mem_singleton.mp hy]
      exact hp
  have hy : ∀ x ∈ pa.take k, Ah r x pb[nb - 1] := fun x hx => by
    obtain ⟨i, hi', ei⟩ := List.getElem_of_mem hx
    rw [List.length_take] at hi'
    have hii : i < (pa.take na).length := by omega
    have hp := hk2 i hii
    rw [decide_eq_true (by omega)] at hp
    rw [List.getElem_take] at ei
    rw [List.getElem_take, ei] at hp
    have hp : r pb[nb - 1] x = false := by
      cases e : r pb[nb - 1] x with
      | false => rfl
      | true => rw [e] at hp; cases hp
    exact .inr ⟨hp, c.uv x (by rw [split]; exact List.mem_append_left _ hx) _ ym⟩
  have hlen : ((pa.take na).drop k ++ o).length ≥ o.length := by rw [List.length_append]; omega
  by_cases k0 : na - k > 0
  · rw [if_pos k0, Lk_ext, out_app]
    by_cases e1 : k = 0
    · rw [if_pos (by rw [e1]; rfl)]
      exact SW.pure (hQ _ (mh_done c2 (.inl e1)))
    · rw [if_neg (by intro h; exact e1 (by simpa using h))]
      exact SW.mhB h W na' nb' hf hk (by omega) (by omega) hb hb' c2 hy fun rr hr => hQ rr (MHOut.up hr (by omega))
  · have ek : k = na := by omega
    rw [if_neg k0]
    exact SW.mhB h W na' nb' hf hk ha (by omega) hb hb' c (fun x hx => hy x (by rw [ek]; exact hx)) fun rr hr => hQ rr hr
end
end L2
end
section
set_option autoImplicit false
namespace L2
open PySem PySem.Spec PySem.W PyProof.Rows
section
variable {P : Program} {w : World} {A : Around} {E : Value → Shared → Prop} {G : Shared → Prop} {κ : SortKind} {it : Array Keyed} {r : Nat → Nat → Bool} {N : Nat} {pa pb : List Nat}
theorem SW.mh1 (h : LtOk P w A G κ it r N) (W : WO r) (na' : ∀ x ∈ pa, x < N) (nb' : ∀ y ∈ pb, y < N) (hf : ∀ x ∈ pa, ∀ y, pb[0]? = some y → r y x = true) {o : List Nat} {na nb mg ac bc : Nat} {q0 : Option (Array Keyed)} {Q : ForInStep RH1 → SortSt → Prop} {st : SortSt} (hk : kindOf st = κ) (ha : 1 ≤ na) (ha' : na - 1 < pa.length) (hb : 2 ≤ nb) (hb' : nb - 1 < pb.length) (c : Ci r (pa ++ pb) (pa.take na) (pb.take nb) o)
    (hQ : ∀ rr, MHOut1 r it pa pb o.length rr → Q rr st) : SW P w A E G (mh1 (Lk it pa) (Lk it pb) mg (q0, na, nb, Lk it o.reverse, ac, bc)) Q st := by
  unfold L2.mh1
  dsimp only
  have gb : (Lk it pb)[nb - 1]? = some (kas_item it pb[nb - 1]) := by rw [Lk_get, List.getElem?_eq_getElem hb']; rfl
  have ga : (Lk it pa)[na - 1]? = some (kas_item it pa[na - 1]) := by rw [Lk_get, List.getElem?_eq_getElem ha']; rfl
  refine SW.bind (SW.elem gb (SW.bind (SW.elem ga (SW.bind (SW.lt h hk (nb' _ (List.getElem_mem hb')) (na' _ (List.getElem_mem ha')) ?_)))))
  dsimp only
  have xm : pa[na - 1] ∈ pa.take na := by rw [take_last ha ha']; exact List.mem_append_right _ (List.mem_singleton.mpr rfl)
  have ym : pb[nb - 1] ∈ pb.take nb := by rw [take_last (by omega) hb']; exact List.mem_append_right _ (List.mem_singleton.mpr rfl)
  cases e : r pb[nb - 1] pa[na - 1] with
  | true =>
    rw [if_pos rfl]
    refine SW.bind (SW.elem ga ?_)
    rw [out_push]
    have c2 : Ci r (pa ++ pb) (pa.take (na - 1)) (pb.take nb) (pa[na - 1] :: o) := by
      refine Ci.a (s := [pa[na - 1]]) (by rw [← take_last ha ha']; exact c) fun x hx' y hy => .inl ?_
      rw [List.mem_singleton.mp hx']
      have sv := c.sv
      rw [take_last (by omega) hb'] at hy sv
      rcases List.mem_append.mp hy with hy | hy
      · exact Ah.lr W ((List.pairwise_append.mp sv).2.2 y hy _ (List.mem_singleton.mpr rfl)) e
      · rw [List.mem_singleton.mp hy]
        exact e
    by_cases e1 : na - 1 = 0
    · rw [if_pos (by rw [e1]; rfl)]
      exact SW.pure (hQ _ (mh_done c2 (.inl e1)))
    · rw [if_neg (by intro h; exact e1 (by simpa using h))]
      have hn : MHi r it pa pb o.length none (na - 1) nb (Lk it (pa[na - 1] :: o).reverse) := ⟨_, rfl, ⟨by omega, by omega⟩, ⟨hb, by omega⟩, c2, by rw [List.length_cons]; omega⟩
      by_cases e2 : ac + 1 ≥ mg
      · rw [if_pos e2]
        exact SW.pure (hQ _ hn)
      · rw [if_neg e2]
        exact SW.pure (hQ _ ⟨rfl, hn⟩)
  | false =>
    rw [if_neg Bool.false_ne_true]
    refine SW.bind (SW.elem gb ?_)
    rw [out_push]
    have c2 : Ci r (pa ++ pb) (pa.take na) (pb.take (nb - 1)) (pb[nb - 1] :: o) := by
      refine Ci.b (s := [pb[nb - 1]]) (by rw [← take_last (by omega) hb']; exact c) fun y hy' x hx => ?_
      rw [List.mem_singleton.mp hy']
      have h0 : Ah r pa[na - 1] pb[nb - 1] := .inr ⟨e, c.uv _ xm _ ym⟩
      have su := c.su
      rw [take_last ha ha'] at hx su
      rcases List.mem_append.mp hx with hx | hx
      · exact ((List.pairwise_append.mp su).2.2 x hx _ (List.mem_singleton.mpr rfl)).tr W h0
      · rw [List.mem_singleton.mp hx]
        exact h0
    by_cases e1 : nb - 1 = 1
    · rw [if_pos (by rw [e1]; rfl)]
      exact SW.pure (hQ _ (mh_first hf c2 e1 (by omega)))
    · rw [if_neg (by intro h; exact e1 (by simpa using h))]
      have hn : MHi r it pa pb o.length none na (nb - 1) (Lk it (pb[nb - 1] :: o).reverse) := ⟨_, rfl, ⟨ha, by omega⟩, ⟨by omega, by omega⟩, c2, by rw [List.length_cons]; omega⟩
      by_cases e2 : bc + 1 ≥ mg
      · rw [if_pos e2]
        exact SW.pure (hQ _ hn)
      · rw [if_neg e2]
        exact SW.pure (hQ _ ⟨rfl, hn⟩)
theorem SW.mergeHi (h : LtOk P w A G κ it r N) (W : WO r) (na' : ∀ x ∈ pa, x < N) (nb' : ∀ y ∈ pb, y < N) (hl : ∀ y ∈ pb, ∀ x, pa[pa.length - 1]? = some x → r y x = true) (hf0 : ∀ x y, pa[0]? = some x → pb[0]? = some y → r y x = true) (ha0 : 0 < pa.length) (hb0 : 0 < pb.length)
    (sa : Srt r pa) (sb : Srt r pb) (ab : ∀ x ∈ pa, ∀ y ∈ pb, x < y) {Q : Array Keyed → SortSt → Prop} {st : SortSt} (hk : kindOf st = κ) (hQ : ∀ arr g, Res r it (pa ++ pb) arr → Q arr (setGal st g)) : SW P w A E G (mergeHi' (Lk it pa) (Lk it pb)) Q st := by
  have hf : ∀ x ∈ pa, ∀ y, pb[0]? = some y → r y x = true := fun x hx y hy => by
    have h0 := hf0 pa[0] y (List.getElem?_eq_getElem ha0) hy
    have e0 : pa = pa[0] :: pa.drop 1 := by rw [← drop_get ha0, List.drop_zero]
    have sa' := sa
    rw [e0] at hx sa'
    rcases List.mem_cons.mp hx with rfl | hx
    · exact h0
    · exact Ah.rl W h0 (List.rel_of_pairwise_cons sa' hx)
  rw [mergeHi'_eq]
  refine SW.bind (SW.rule ?_)
  dsimp only
  have za : (Lk it pa).size = pa.length := Lk_size it pa
  have zb : (Lk it pb).size = pb.length := Lk_size it pb
  have hla : pa.length - 1 < pa.length := by omega
  refine SW.bind (SW.elem (x := kas_item it pa[pa.length - 1]) (by rw [za, Lk_get, List.getElem?_eq_getElem hla]; rfl) ?_)
  have eT : pa.take pa.length = pa := List.take_of_length_le (Nat.le_refl _)
  have eS : pa = pa.take (pa.length - 1) ++ [pa[pa.length - 1]] := by
    conv => lhs; rw [← eT]
    exact take_last ha0 hla
  have c0 : Ci r (pa ++ pb) (pa.take (pa.length - 1)) (pb.take pb.length) [pa[pa.length - 1]] := by
    rw [List.take_of_length_le (Nat.le_refl pb.length)]
    refine Ci.a (o := []) (s := [pa[pa.length - 1]]) (v := pb) ⟨?_, .nil, by rw [← eS]; exact sa, sb, (fun x _ z hz => nomatch hz), (fun x _ z hz => nomatch hz), fun x hx y hy => ab x (by rw [eS]; exact hx) y hy⟩ fun x hx y hy => .inl ?_
    · rw [← eS, List.append_nil]
    · rw [List.mem_singleton.mp hx]
      exact hl y hy _ (List.getElem?_eq_getElem hla)
  have eo : (#[kas_item it pa[pa.length - 1]] : Array Keyed) = Lk it [pa[pa.length - 1]].reverse := rfl
  rw [eo]
  have hst : st = setGal st (gallopOf st) := rfl
  by_cases e1 : pa.length - 1 = 0
  · rw [if_pos (by rw [za, e1]; rfl)]
    refine SW.pure ?_
    rw [hst]
    have := mh_done (it := it) c0 (.inl e1)
    unfold mhDone at this
    rw [za, zb]
    exact hQ _ _ this
  · rw [if_neg (by rw [za]; intro h; exact e1 (by simpa using h))]
    by_cases e2 : pb.length = 1
    · rw [if_pos (by rw [zb, e2]; rfl)]
      refine SW.pure ?_
      rw [hst]
      have := mh_first (it := it) hf c0 e2 hb0
      unfold mhFirst at this
      rw [za, zb]
      exact hQ _ _ this
    · rw [if_neg (by rw [zb]; intro h; exact e2 (by simpa using h))]
      refine SW.bind (SW.get ?_)
      refine SW.bind (SW.mono (SW.for (D := fun b st' => (∃ g, st' = setGal st g) ∧ ∃ arr, b.1 = some arr ∧ Res r it (pa ++ pb) arr) (fun i b st' => (∃ g, st' = setGal st g) ∧ b.1 = none ∧ MHi r it pa pb (i + 1) none b.2.1 b.2.2.1 b.2.2.2.1) ⟨⟨_, hst⟩, rfl, _, rfl, ⟨by dsimp only; omega, by dsimp only; omega⟩, ⟨by dsimp only; omega, by dsimp only; omega⟩, by dsimp only; rw [za, zb]; exact c0, Nat.le_refl _⟩ ?_ ?_) ?_)
      · rintro i ⟨q0, na, nb, out, mg⟩ st' hi ⟨⟨g0, rfl⟩, e0, o, eo', ha, hb, c, hlen⟩
        dsimp only at e0 eo' ha hb c hlen ⊢
        subst eo'
        refine SW.bind (SW.mono (SW.for (D := fun b st' => (∃ g, st' = setGal st g) ∧ MHi r it pa pb (i + 1) b.1 b.2.1 b.2.2.1 b.2.2.2.1) (fun _ b st' => (∃ g, st' = setGal st g) ∧ b.1 = none ∧ MHi r it pa pb (i + 1) none b.2.1 b.2.2.1 b.2.2.2.1) ⟨⟨g0, rfl⟩, rfl, o, rfl, ha, hb, c, hlen⟩ ?_ ?_) ?_)
        · rintro j ⟨q1, na1, nb1, out1, ac1, bc1⟩ st1 hj ⟨⟨g1, rfl⟩, e1', o1, eo1, ha1, hb1, c1, hl1⟩
          dsimp only at e1' eo1 ha1 hb1 c1 hl1 ⊢
          subst eo1
          refine (SW.mh1 (q0 := q1) (ac := ac1) (bc := bc1) (mg := mg) h W na' nb' hf (show kindOf (setGal st g1) = κ from hk) ha1.1 (by omega) hb1.1 (by omega) c1 fun rr hr => ?_ : SW P w A E G (L2.mh1 (Lk it pa) (Lk it pb) mg (q1, na1, nb1, Lk it o1.reverse, ac1, bc1)) _ _)
          cases rr with
          | done z => exact ⟨⟨g1, rfl⟩, MHi.up hr (by omega)⟩
          | yield z => exact ⟨⟨g1, rfl⟩, hr.1, MHi.up hr.2 (by omega)⟩
        · rintro ⟨q1, na1, nb1, out1, ac1, bc1⟩ st1 ⟨g1, e1', hm⟩
          dsimp only at e1' hm ⊢
          subst e1'
          exact ⟨g1, hm⟩
        · rintro ⟨q1, na1, nb1, out1, ac1, bc1⟩ st1 ⟨⟨g1, rfl⟩, hm⟩
          dsimp only at hm ⊢
          cases q1 with
          | some arr =>
            dsimp only
            exact SW.pure ⟨⟨g1, rfl⟩, arr, rfl, hm⟩
          | none =>
            dsimp only
            obtain ⟨o1, eo1, ha1, hb1, c1, hl1⟩ := hm
            subst eo1
            refine SW.bind (SW.rule ?_)
            refine SW.bind (SW.mono (SW.for (D := fun b st' => (∃ g, st' = setGal st g) ∧ MHi r it pa pb (i + 1 + 1) b.1 b.2.1 b.2.2.1 b.2.2.2.1) (fun j b st' => (∃ g, st' = setGal st g) ∧ b.1 = none ∧ MHi r it pa pb (i + 1 + j) none b.2.1 b.2.2.1 b.2.2.2.1) ⟨⟨g1, rfl⟩, rfl, o1, rfl, ha1, hb1, c1, hl1⟩ ?_ ?_) ?_)
            · rintro j ⟨q2, na2, nb2, out2, mg2, ac2, bc2⟩ st2 hj ⟨⟨g2, rfl⟩, e2', o2, eo2, ha2, hb2, c2, hl2⟩
              dsimp only at e2' eo2 ha2 hb2 c2 hl2 ⊢
              subst eo2
              have key : ∀ mg' (Q' : ForInStep RH → SortSt → Prop), (∀ rr, MHOut r it pa pb (o2.length + 1) rr → Q' rr (setGal st mg')) → SW P w A E G (L2.mhA (Lk it pa) (Lk it pb) na2 nb2 (Lk it o2.reverse) mg' ac2 bc2) Q' (setGal st g2) := fun mg' Q' hq => SW.mhA h W na' nb' hf (show kindOf (setGal st g2) = κ from hk) ha2.1 ha2.2 hb2.1 (by omega) c2 hq
              by_cases hmg : mg2 > 1
              · rw [if_pos hmg]
                refine key (mg2 - 1) _ fun rr hr => ?_
                cases rr with
                | done z => exact ⟨⟨_, rfl⟩, MHi.up hr (by omega)⟩
                | yield z => exact ⟨⟨_, rfl⟩, hr.1, MHi.up hr.2 (by omega)⟩
              · rw [if_neg hmg]
                refine key mg2 _ fun rr hr => ?_
                cases rr with
                | done z => exact ⟨⟨_, rfl⟩, MHi.up hr (by omega)⟩
                | yield z => exact ⟨⟨_, rfl⟩, hr.1, MHi.up hr.2 (by omega)⟩
            · rintro ⟨q2, na2, nb2, out2, mg2, ac2, bc2⟩ st2 ⟨g2, e2', hm⟩
              dsimp only at e2' hm ⊢
              subst e2'
              exact ⟨g2, MHi.up hm (by omega)⟩
            · rintro ⟨q2, na2, nb2, out2, mg2, ac2, bc2⟩ st2 ⟨⟨g2, rfl⟩, hm⟩
              dsimp only at hm ⊢
              cases q2 with
              | some arr =>
                dsimp only
                exact SW.pure ⟨⟨g2, rfl⟩, arr, rfl, hm⟩
              | none =>
                dsimp only
                exact SW.bind (SW.modify (SW.pure ⟨⟨_, rfl⟩, rfl, hm⟩))
      · rintro ⟨q0, na, nb, out, mg⟩ st' ⟨⟨g0, rfl⟩, e0, o, eo', ha, hb, c, hlen⟩
        exfalso
        have := c.len
        rw [List.length_append, List.length_take, List.length_take] at this
        dsimp only at *
        omega
      · rintro ⟨q0, na, nb, out, mg⟩ st' ⟨⟨g0, rfl⟩, arr, e0, hr⟩
        dsimp only at e0 ⊢
        subst e0
        exact SW.pure (hQ arr g0 hr)
end
end L2
end
section
set_option autoImplicit false
namespace L2
open PySem PySem.Spec PySem.W PyProof.Rows
theorem Lk_inj {it : Array Keyed} {xs : Array Keyed} {l : List Nat} (h : ∀ k : Nat, xs[k]? = (l[k]?).map (kas_item it)) : xs = Lk it l := Array.ext_getElem? fun k => by rw [h k, Lk_get]
theorem mirror_Lk (it : Array Keyed) (a m b : List Nat) : mirror (Lk it (a ++ m ++ b)) a.length (a.length + m.length) ((a.length + m.length - a.length) / 2) = Lk it (a ++ m.reverse ++ b) := by
  refine Lk_inj fun k => ?_
  rw [getElem?_mirror_all (by rw [Lk_size, List.length_append, List.length_append]; omega)]
  by_cases h : a.length ≤ k ∧ k < a.length + m.length
  · rw [if_pos h, Lk_get]
    congr 1
    rw [List.append_assoc, List.append_assoc, List.getElem?_append_right (by omega), List.getElem?_append_left (by omega), List.getElem?_append_right (by omega), List.getElem?_append_left (by rw [List.length_reverse]; omega), List.getElem?_reverse (by omega)]
    congr 1
    omega
  · rw [if_neg h, Lk_get]
    congr 1
    rw [List.append_assoc, List.append_assoc]
    by_cases h1 : k < a.length
    · rw [List.getElem?_append_left h1, List.getElem?_append_left h1]
    · rw [List.getElem?_append_right (by omega), List.getElem?_append_right (by omega), List.getElem?_append_right (by omega), List.getElem?_append_right (by rw [List.length_reverse]; omega), List.length_reverse]
theorem bubble_Lk (it : Array Keyed) (a m : List Nat) (x : Nat) (b : List Nat) : bubble (Lk it (a ++ (m ++ (x :: b)))) (a.length + m.length) m.length = Lk it (a ++ (x :: (m ++ b))) := by
  refine Lk_inj fun k => ?_
  have hs : a.length + m.length < (Lk it (a ++ (m ++ (x :: b)))).size := by
    rw [Lk_size, List.length_append, List.length_append, List.length_cons]
    omega
  rw [getElem?_bubble hs m.length (by omega) k]
  have e1 : a.length + m.length - m.length = a.length := by omega
  rw [e1]
  by_cases h1 : k = a.length
  · rw [if_pos h1, Lk_get, h1, List.getElem?_append_right (by omega), List.getElem?_append_right (by omega), List.getElem?_append_right (by omega)]
    have : a.length + m.length - a.length - m.length = 0 := by omega
    rw [this, Nat.sub_self]
    rfl
  · rw [if_neg h1]
    by_cases h2 : a.length < k ∧ k ≤ a.length + m.length
    · rw [if_pos h2, Lk_get, List.getElem?_append_right (by omega), List.getElem?_append_left (by omega), List.getElem?_append_right (by omega)]
      obtain ⟨j, hj⟩ : ∃ j, k = a.length + (j + 1) := ⟨k - a.length - 1, by omega⟩
      subst hj
      have e2 : a.length + (j + 1) - 1 - a.length = j := by omega
      have e3 : a.length + (j + 1) - a.length = j + 1 := by omega
      rw [e2, e3, List.getElem?_cons_succ, List.getElem?_append_left (by omega)]
    · rw [if_neg h2, Lk_get]
      by_cases h3 : k < a.length
      · rw [List.getElem?_append_left h3, List.getElem?_append_left h3]
      · rw [List.getElem?_append_right (by omega), List.getElem?_append_right (by omega), List.getElem?_append_right (by omega)]
        obtain ⟨j, hj⟩ : ∃ j, k = a.length + (m.length + (j + 1)) := ⟨k - a.length - m.length - 1, by omega⟩
        subst hj
        have e2 : a.length + (m.length + (j + 1)) - a.length - m.length = j + 1 := by omega
        have e3 : a.length + (m.length + (j + 1)) - a.length = (m.length + j) + 1 := by omega
        rw [e2, e3, List.getElem?_cons_succ, List.getElem?_cons_succ, List.getElem?_append_right (by omega)]
        congr 2
        omega
section
variable {P : Program} {w : World} {A : Around} {E : Value → Shared → Prop} {G : Shared → Prop} {κ : SortKind} {it : Array Keyed} {r : Nat → Nat → Bool} {N : Nat}
theorem SW.ltAt (h : LtOk P w A G κ it r N) {l : List Nat} {i j x y : Nat} {Q : Option Bool → SortSt → Prop} {st : SortSt} (hk : kindOf st = κ) (ha : arrOf st = Lk it l) (ei : l[i]? = some x) (ej : l[j]? = some y) (hx : x < N) (hy : y < N) (k : Q (some (r x y)) st) : SW P w A E G (ltAt' i j) Q st := by
  rw [ltAt'_eq]
  refine SW.bind (SW.get ?_)
  rw [ha]
  exact SW.bind (SW.elem (x := kas_item it x) (by rw [Lk_get, ei]; rfl) (SW.bind (SW.elem (x := kas_item it y) (by rw [Lk_get, ej]; rfl) (SW.lt h hk hx hy k))))
theorem SW.rev {a m b : List Nat} {i j : Nat} {Q : Unit → SortSt → Prop} {st : SortSt} (ha : arrOf st = Lk it (a ++ m ++ b)) (ei : i = a.length) (ej : j = a.length + m.length) (k : Q () (setArr st (Lk it (a ++ m.reverse ++ b)))) : SW P w A E G (reverseSlice' i j) Q st := by
  rw [reverseSlice'_eq]
  refine SW.modify ?_
  subst ei ej
  have : mirror (arrOf st) a.length (a.length + m.length) ((a.length + m.length - a.length) / 2) = Lk it (a ++ m.reverse ++ b) := by rw [ha, mirror_Lk]
  rw [this]
  exact k
theorem SW.move {a m b : List Nat} {x i j : Nat} {Q : Unit → SortSt → Prop} {st : SortSt} (ha : arrOf st = Lk it (a ++ (m ++ (x :: b)))) (ei : i = a.length + m.length) (ej : j = a.length) (k : Q () (setArr st (Lk it (a ++ (x :: (m ++ b)))))) : SW P w A E G (moveDown' i j) Q st := by
  rw [moveDown'_eq]
  refine SW.modify ?_
  subst ei ej
  have : bubble (arrOf st) (a.length + m.length) (a.length + m.length - a.length) = Lk it (a ++ (x :: (m ++ b))) := by
    rw [ha, show a.length + m.length - a.length = m.length by omega, bubble_Lk]
  rw [this]
  exact k
end
def crEnd (lo n nrem : Nat) : StateT SortSt Sem (Option Nat) := do
  let mut n := n
  for _ in [n:nrem] do
    let some smaller ← ltAt' (lo + n) (lo + n - 1) | return none
    if smaller then break
    n := n + 1
  return some n
def crDesc (lo n nrem : Nat) : StateT SortSt Sem (Option Nat) := do
  rule "list.sort.descending-run"
  let mut n := n + 1
  let mut neq := 0
  for _ in [n:nrem] do
    let some smaller ← ltAt' (lo + n) (lo + n - 1) | return none
    if smaller then
      if neq > 0 then reverseSlice' (lo + n - (neq + 1)) (lo + n)
      neq := 0
    else
      let some larger ← ltAt' (lo + n - 1) (lo + n) | return none
      if larger then break
      neq := neq + 1
    n := n + 1
  if neq > 0 then
    reverseSlice' (lo + n - (neq + 1)) (lo + n)
    reverseSlice' lo (lo + n)
    crEnd lo n nrem
  else
    reverseSlice' lo (lo + n)
    crEnd lo n nrem
set_option maxHeartbeats 1000000 in
theorem countRun'_eq2 (lo nrem : Nat) : countRun' lo nrem = (do
  let mut n := 1
  for _ in [1:nrem] do
    let some smaller ← ltAt' (lo + n) (lo + n - 1) | return none
    if smaller then break
    n := n + 1
  if n == nrem then return some n
  if n > 1 then
    let some rose ← ltAt' lo (lo + n - 1) | return none
    if rose then return some n
    reverseSlice' lo (lo + n)
    crDesc lo n nrem
  else crDesc lo n nrem) := rfl
end L2
end
section
set_option autoImplicit false
namespace L2
open PySem PySem.Spec PySem.W PyProof.Rows
theorem snoc_of {q : List Nat} (h : 1 ≤ q.length) : ∃ q0 y, q = q0 ++ [y] := by
  have hne : q ≠ [] := fun e => by rw [e] at h; simp at h
  exact ⟨q.dropLast, q.getLast hne, (List.dropLast_concat_getLast hne).symm⟩
theorem at_next {pre q rest : List Nat} {n : Nat} (hq : q.length = n) (h : n < rest.length) : (pre ++ q ++ rest.drop n)[pre.length + n]? = some rest[n] := by
  rw [List.getElem?_append_right (by rw [List.length_append]; omega), List.length_append, hq, Nat.sub_self, List.getElem?_drop, Nat.add_zero, List.getElem?_eq_getElem h]
theorem at_last {pre q0 tl : List Nat} {y n : Nat} (hq : (q0 ++ [y]).length = n) : (pre ++ (q0 ++ [y]) ++ tl)[pre.length + n - 1]? = some y := by
  rw [List.length_append, List.length_singleton] at hq
  rw [List.append_assoc, List.append_assoc, List.getElem?_append_right (by omega), List.getElem?_append_right (by omega)]
  have : pre.length + n - 1 - pre.length - q0.length = 0 := by omega
  rw [this]
  rfl
theorem drop_step {rest : List Nat} {n : Nat} (h : n < rest.length) (pre q : List Nat) : pre ++ q ++ rest.drop n = pre ++ (q ++ [rest[n]]) ++ rest.drop (n + 1) := by
  rw [drop_get h]
  simp
theorem take_step {rest : List Nat} {n : Nat} (h : n < rest.length) {q : List Nat} (p : q.Perm (rest.take n)) : (q ++ [rest[n]]).Perm (rest.take (n + 1)) := by
  rw [List.take_succ, List.getElem?_eq_getElem h]
  exact p.append_right _
theorem take_lt {rest : List Nat} (R : rest.Pairwise (· < ·)) {n : Nat} (h : n < rest.length) {q : List Nat} (p : q.Perm (rest.take n)) {x : Nat} (hx : x ∈ q) : x < rest[n] := by
  have := R
  rw [← List.take_append_drop n rest, drop_get h] at this
  exact (List.pairwise_append.mp this).2.2 x (p.mem_iff.mp hx) _ List.mem_cons_self
theorem perm_len {rest q : List Nat} {n : Nat} (h : n ≤ rest.length) (p : q.Perm (rest.take n)) : q.length = n := by
  rw [p.length_eq, List.length_take]
  omega
theorem Srt.snoc {r : Nat → Nat → Bool} (W : WO r) {q0 : List Nat} {y z : Nat} (s : Srt r (q0 ++ [y])) (h : Ah r y z) : Srt r (q0 ++ [y] ++ [z]) := by
  refine List.pairwise_append.mpr ⟨s, List.pairwise_singleton _ _, fun x hx z' hz => ?_⟩
  rw [List.mem_singleton.mp hz]
  rcases List.mem_append.mp hx with hx | hx
  · exact ((List.pairwise_append.mp s).2.2 x hx y (List.mem_singleton.mpr rfl)).tr W h
  · rw [List.mem_singleton.mp hx]
    exact h
section
variable {P : Program} {w : World} {A : Around} {E : Value → Shared → Prop} {G : Shared → Prop} {κ : SortKind} {it : Array Keyed} {r : Nat → Nat → Bool} {N : Nat} {pre rest : List Nat}
def RQ (r : Nat → Nat → Bool) (rest : List Nat) (n : Nat) (q : List Nat) : Prop := q.Perm (rest.take n) ∧ Srt r q ∧ 1 ≤ n ∧ n ≤ rest.length
theorem SW.crEnd (h : LtOk P w A G κ it r N) (W : WO r) (R : rest.Pairwise (· < ·)) (hN : ∀ x ∈ rest, x < N) {n : Nat} {q : List Nat} {Q : Option Nat → SortSt → Prop} {st : SortSt} (hk : kindOf st = κ) (hq : RQ r rest n q)
    (k : ∀ n q, RQ r rest n q → Q (some n) (setArr st (Lk it (pre ++ q ++ rest.drop n)))) : SW P w A E G (crEnd pre.length n rest.length) Q (setArr st (Lk it (pre ++ q ++ rest.drop n))) := by
  unfold L2.crEnd
  refine SW.bind (SW.mono (SW.for (D := fun b st' => b.1 = none ∧ ∃ q, RQ r rest b.2 q ∧ st' = setArr st (Lk it (pre ++ q ++ rest.drop b.2))) (fun i b st' => b.1 = none ∧ b.2 = n + i ∧ ∃ q, RQ r rest b.2 q ∧ st' = setArr st (Lk it (pre ++ q ++ rest.drop b.2))) ⟨rfl, rfl, q, hq, rfl⟩ ?_ ?_) ?_)
  · rintro i ⟨b0, m⟩ st' hi ⟨rfl, em, q, ⟨p1, p2, p3, p4⟩, rfl⟩
    dsimp only at em p1 p2 p3 p4 ⊢
    have hm : m < rest.length := by omega
    have ql := perm_len p4 p1
    obtain ⟨q0, y, rfl⟩ := snoc_of (q := q) (by omega)
    have hy : y ∈ q0 ++ [y] := List.mem_append_right _ (List.mem_singleton.mpr rfl)
    refine SW.bind (SW.ltAt h (l := pre ++ (q0 ++ [y]) ++ rest.drop m) (show kindOf (setArr st _) = κ from hk) rfl (at_next ql hm) (at_last ql) (hN _ (List.getElem_mem hm)) (hN _ (List.mem_of_mem_take (p1.mem_iff.mp hy))) ?_)
    dsimp only
    cases e : r rest[m] y with
    | true =>
      rw [if_pos rfl]
      exact SW.pure ⟨rfl, _, ⟨p1, p2, p3, p4⟩, rfl⟩
    | false =>
      rw [if_neg Bool.false_ne_true]
      refine SW.pure ⟨rfl, by dsimp only; omega, q0 ++ [y] ++ [rest[m]], ⟨take_step hm p1, p2.snoc W (.inr ⟨e, take_lt R hm p1 hy⟩), by dsimp only; omega, by dsimp only; omega⟩, ?_⟩
      rw [drop_step hm]
  · rintro ⟨b0, m⟩ st' ⟨e0, em, q, h1, h2⟩
    exact ⟨e0, q, h1, h2⟩
  · rintro ⟨b0, m⟩ st' ⟨rfl, q, h1, rfl⟩
    dsimp only
    exact SW.pure (k m q h1)
structure DI (r : Nat → Nat → Bool) (rest : List Nat) (n neq : Nat) (d e : List Nat) : Prop where
  el : e.length = neq + 1
  pm : (d ++ e).Perm (rest.take n)
  le : n ≤ rest.length
  sr : Srt r (e ++ d.reverse)
  dn : ∀ x ∈ e, ∀ v ∈ d, r x v = true
  eq : ∀ x ∈ e, ∀ y ∈ e, r x y = false
theorem SW.crDesc (h : LtOk P w A G κ it r N) (W : WO r) (R : rest.Pairwise (· < ·)) (hN : ∀ x ∈ rest, x < N) {n : Nat} {Q : Option Nat → SortSt → Prop} {st : SortSt} (hk : kindOf st = κ) (h1 : 1 ≤ n) (hn : n < rest.length)
    (sm : ∀ x ∈ rest.take n, r rest[n] x = true) (s0 : Srt r (rest.take n))
    (k : ∀ n q, RQ r rest n q → Q (some n) (setArr st (Lk it (pre ++ q ++ rest.drop n)))) : SW P w A E G (crDesc pre.length n rest.length) Q (setArr st (Lk it (pre ++ (rest.take n).reverse ++ rest.drop n))) := by
  unfold L2.crDesc
  refine SW.bind (SW.rule ?_)
  dsimp only
  have D0 : DI r rest (n + 1) 0 (rest.take n).reverse [rest[n]] := by
    refine ⟨rfl, take_step hn (List.reverse_perm _), hn, ?_, fun x hx v hv => ?_, fun x hx y hy => ?_⟩
    · rw [List.reverse_reverse]
      exact List.pairwise_cons.mpr ⟨fun x hx => .inl (sm x hx), s0⟩
    · rw [List.mem_singleton.mp hx]
      exact sm v (List.mem_reverse.mp hv)
    · rw [List.mem_singleton.mp hx, List.mem_singleton.mp hy]
      exact W.ir _
  rw [drop_step hn]
  refine SW.bind (SW.mono (SW.for (D := fun b st' => b.1 = none ∧ ∃ d e, DI r rest b.2.1 b.2.2 d e ∧ st' = setArr st (Lk it (pre ++ (d ++ e) ++ rest.drop b.2.1))) (fun i b st' => b.1 = none ∧ b.2.1 = n + 1 + i ∧ ∃ d e, DI r rest b.2.1 b.2.2 d e ∧ st' = setArr st (Lk it (pre ++ (d ++ e) ++ rest.drop b.2.1))) ⟨rfl, rfl, _, _, D0, rfl⟩ ?_ ?_) ?_)
  · rintro i ⟨b0, m, neq⟩ st' hi ⟨rfl, em, d, e, D, rfl⟩
    dsimp only at em D ⊢
    have hm : m < rest.length := by omega
    have ql := perm_len D.le D.pm
    obtain ⟨e0, y, rfl⟩ := snoc_of (q := e) (by rw [D.el]; omega)
    have hy : y ∈ e0 ++ [y] := List.mem_append_right _ (List.mem_singleton.mpr rfl)
    have hyd : y ∈ d ++ (e0 ++ [y]) := List.mem_append_right _ hy
    have ql' : ((d ++ e0) ++ [y]).length = m := by rw [List.append_assoc]; exact ql
    have hz : rest[m] < N := hN _ (List.getElem_mem hm)
    have hyN : y < N := hN _ (List.mem_of_mem_take (D.pm.mem_iff.mp hyd))
    have gy : (pre ++ (d ++ (e0 ++ [y])) ++ rest.drop m)[pre.length + m - 1]? = some y := by
      rw [← List.append_assoc d e0 [y]]
      exact at_last ql'
    refine SW.bind (SW.ltAt h (l := pre ++ (d ++ (e0 ++ [y])) ++ rest.drop m) (show kindOf (setArr st _) = κ from hk) rfl (at_next ql hm) gy hz hyN ?_)
    dsimp only
    cases e1 : r rest[m] y with
    | true =>
      rw [if_pos rfl]
      have lss : ∀ x ∈ e0 ++ [y], r rest[m] x = true := fun x hx => by
        rcases W.nt _ x _ e1 with g | g
        · exact g
        · rw [D.eq x hx y hy] at g; cases g
      have D' : DI r rest (m + 1) 0 (d ++ (e0 ++ [y]).reverse) [rest[m]] := by
        refine ⟨rfl, ?_, hm, ?_, fun x hx v hv => ?_, fun x hx y hy => ?_⟩
        · refine take_step hm (List.Perm.trans ?_ D.pm)
          exact List.Perm.append_left d (List.reverse_perm _)
        · rw [List.reverse_append, List.reverse_reverse]
          show Srt r (rest[m] :: ((e0 ++ [y]) ++ d.reverse))
          refine List.pairwise_cons.mpr ⟨fun x hx => .inl ?_, D.sr⟩
          rcases List.mem_append.mp hx with hx | hx
          · exact lss x hx
          · exact W.tr e1 (D.dn y hy x (List.mem_reverse.mp hx))
        · rw [List.mem_singleton.mp hx]
          rcases List.mem_append.mp hv with hv | hv
          · exact W.tr e1 (D.dn y hy v hv)
          · exact lss v (List.mem_reverse.mp hv)
        · rw [List.mem_singleton.mp hx, List.mem_singleton.mp hy]
          exact W.ir _
      have fin : ∀ st', st' = setArr st (Lk it (pre ++ (d ++ (e0 ++ [y]).reverse) ++ rest.drop m)) → m + 1 = n + 1 + (i + 1) ∧ ∃ d e, DI r rest (m + 1) 0 d e ∧ st' = setArr st (Lk it (pre ++ (d ++ e) ++ rest.drop (m + 1))) := fun st' es => by
        refine ⟨by omega, _, _, D', ?_⟩
        rw [es, drop_step hm]
      by_cases q0 : neq > 0
      · rw [if_pos q0]
        refine SW.bind (SW.rev (a := pre ++ d) (m := e0 ++ [y]) (b := rest.drop m) (by show Lk it (pre ++ (d ++ (e0 ++ [y])) ++ rest.drop m) = _; rw [List.append_assoc pre d (e0 ++ [y])]) ?_ ?_ ?_)
        · have := ql; rw [List.length_append, D.el] at this; rw [List.length_append]; omega
        · have := ql; rw [List.length_append] at this; rw [List.length_append]; omega
        · exact SW.pure ⟨rfl, fin _ (by show setArr st (Lk it (pre ++ d ++ (e0 ++ [y]).reverse ++ rest.drop m)) = _; rw [List.append_assoc pre d])⟩
      · rw [if_neg q0]
        refine SW.pure ⟨rfl, fin _ ?_⟩
        have : e0 = [] := by
          have := D.el
          rw [List.length_append, List.length_singleton] at this
          exact List.length_eq_zero_iff.mp (by omega)
        rw [this]
        rfl
    | false =>
      rw [if_neg Bool.false_ne_true]
      refine SW.bind (SW.ltAt h (l := pre ++ (d ++ (e0 ++ [y])) ++ rest.drop m) (show kindOf (setArr st _) = κ from hk) rfl gy (at_next ql hm) hyN hz ?_)
      dsimp only
      cases e2 : r y rest[m] with
      | true =>
        rw [if_pos rfl]
        exact SW.pure ⟨rfl, d, _, D, rfl⟩
      | false =>
        rw [if_neg Bool.false_ne_true]
        have al : ∀ x ∈ e0 ++ [y], r rest[m] x = false ∧ r x rest[m] = false := fun x hx => ⟨W.le (D.eq y hy x hx) e1, W.le e2 (D.eq x hx y hy)⟩
        refine SW.pure ⟨rfl, by dsimp only; omega, d, e0 ++ [y] ++ [rest[m]], ⟨by rw [List.length_append, D.el]; rfl, ?_, hm, ?_, fun x hx v hv => ?_, fun x hx x' hx' => ?_⟩, ?_⟩
        · rw [← List.append_assoc]
          exact take_step hm D.pm
        · obtain ⟨s1, s2, s3⟩ := List.pairwise_append.mp D.sr
          refine List.pairwise_append.mpr ⟨List.pairwise_append.mpr ⟨s1, List.pairwise_singleton _ _, fun x hx z hz => ?_⟩, s2, fun x hx v hv => ?_⟩
          · rw [List.mem_singleton.mp hz]
            exact .inr ⟨(al x hx).1, take_lt R hm D.pm (List.mem_append_right _ hx)⟩
          · rcases List.mem_append.mp hx with hx | hx
            · exact s3 x hx v hv
            · rw [List.mem_singleton.mp hx]
              refine .inl ?_
              rcases W.nt y rest[m] v (D.dn y hy v (List.mem_reverse.mp hv)) with g | g
              · rw [e2] at g; cases g
              · exact g
        · rcases List.mem_append.mp hx with hx | hx
          · exact D.dn x hx v hv
          · rw [List.mem_singleton.mp hx]
            rcases W.nt y rest[m] v (D.dn y hy v hv) with g | g
            · rw [e2] at g; cases g
            · exact g
        · rcases List.mem_append.mp hx with hx | hx
          · rcases List.mem_append.mp hx' with hx' | hx'
            · exact D.eq x hx x' hx'
            · rw [List.mem_singleton.mp hx']
              exact (al x hx).2
          · rw [List.mem_singleton.mp hx]
            rcases List.mem_append.mp hx' with hx' | hx'
            · exact (al x' hx').1
            · rw [List.mem_singleton.mp hx']
              exact W.ir _
        · rw [drop_step hm]
          simp only [List.append_assoc]
  · rintro ⟨b0, m, neq⟩ st' ⟨e0, em, d, e, h1, h2⟩
    exact ⟨e0, d, e, h1, h2⟩
  · rintro ⟨b0, m, neq⟩ st' ⟨rfl, d, e, D, rfl⟩
    dsimp only at D ⊢
    have ql := perm_len D.le D.pm
    have hl : d.length + e.length = m := by rw [← List.length_append]; exact ql
    have hq : RQ r rest m (e ++ d.reverse) := by
      refine ⟨List.Perm.trans ?_ D.pm, D.sr, by have := D.el; omega, D.le⟩
      exact (List.Perm.append_left e (List.reverse_perm d)).trans List.perm_append_comm
    have fin : ∀ st', st' = setArr st (Lk it (pre ++ (d ++ e.reverse) ++ rest.drop m)) → SW P w A E G (do reverseSlice' pre.length (pre.length + m); L2.crEnd pre.length m rest.length) Q st' := fun st' es => by
      subst es
      refine SW.bind (SW.rev (a := pre) (m := d ++ e.reverse) (b := rest.drop m) rfl rfl (by rw [List.length_append, List.length_reverse, hl]) ?_)
      have e1 : (d ++ e.reverse).reverse = e ++ d.reverse := by rw [List.reverse_append, List.reverse_reverse]
      rw [e1]
      exact SW.crEnd h W R hN hk hq k
    by_cases q0 : neq > 0
    · rw [if_pos q0]
      refine SW.bind (SW.rev (a := pre ++ d) (m := e) (b := rest.drop m) (by show Lk it (pre ++ (d ++ e) ++ rest.drop m) = _; rw [List.append_assoc pre d e]) ?_ ?_ ?_)
      · rw [List.length_append]; have := D.el; omega
      · rw [List.length_append]; omega
      · exact fin _ (by show setArr st (Lk it (pre ++ d ++ e.reverse ++ rest.drop m)) = _; rw [List.append_assoc pre d])
    · rw [if_neg q0]
      refine fin _ ?_
      have el := D.el
      match e, el with
      | [x], _ => rfl
      | [], el => simp at el
      | _ :: _ :: _, el => simp at el; omega
theorem SW.countRun (h : LtOk P w A G κ it r N) (W : WO r) (R : rest.Pairwise (· < ·)) (hN : ∀ x ∈ rest, x < N) (h1 : 1 ≤ rest.length) {Q : Option Nat → SortSt → Prop} {st : SortSt} (hk : kindOf st = κ)
    (k : ∀ n q, RQ r rest n q → Q (some n) (setArr st (Lk it (pre ++ q ++ rest.drop n)))) : SW P w A E G (countRun' pre.length rest.length) Q (setArr st (Lk it (pre ++ rest))) := by
  rw [countRun'_eq2]
  have e0 : pre ++ rest = pre ++ rest.take 1 ++ rest.drop 1 := by rw [List.append_assoc, List.take_append_drop]
  have s1 : Srt r (rest.take 1) := by
    match rest, h1 with
    | x :: _, _ => exact List.pairwise_singleton _ _
  rw [e0]
  refine SW.bind (SW.mono (SW.for (D := fun b st' => b.1 = none ∧ (1 ≤ b.2 ∧ b.2 ≤ rest.length) ∧ Srt r (rest.take b.2) ∧ (∀ (hm : b.2 < rest.length), ∀ y, rest[b.2 - 1]? = some y → r rest[b.2] y = true) ∧ st' = setArr st (Lk it (pre ++ rest.take b.2 ++ rest.drop b.2))) (fun i b st' => b.1 = none ∧ b.2 = 1 + i ∧ Srt r (rest.take b.2) ∧ st' = setArr st (Lk it (pre ++ rest.take b.2 ++ rest.drop b.2))) ⟨rfl, rfl, s1, rfl⟩ ?_ ?_) ?_)
  · rintro i ⟨b0, m⟩ st' hi ⟨rfl, em, s, rfl⟩
    dsimp only at em s ⊢
    have hm : m < rest.length := by omega
    have ql : (rest.take m).length = m := by rw [List.length_take]; omega
    have ht := take_last (l := rest) (n := m) (by omega) (by omega)
    have gy : (pre ++ rest.take m ++ rest.drop m)[pre.length + m - 1]? = some rest[m - 1] := by
      have := at_last (pre := pre) (q0 := rest.take (m - 1)) (tl := rest.drop m) (y := rest[m - 1]) (n := m) (by rw [← ht]; exact ql)
      rw [← ht] at this
      exact this
    refine SW.bind (SW.ltAt h (l := pre ++ rest.take m ++ rest.drop m) (show kindOf (setArr st _) = κ from hk) rfl (at_next ql hm) gy (hN _ (List.getElem_mem hm)) (hN _ (List.getElem_mem _)) ?_)
    dsimp only
    cases e : r rest[m] rest[m - 1] with
    | true =>
      rw [if_pos rfl]
      refine SW.pure ⟨rfl, ⟨by dsimp only; omega, by dsimp only; omega⟩, s, fun hm y hy => ?_, rfl⟩
      dsimp only at hy ⊢
      rw [List.getElem?_eq_getElem (by omega)] at hy
      cases hy
      exact e
    | false =>
      rw [if_neg Bool.false_ne_true]
      have e1 : rest.take (m + 1) = rest.take m ++ [rest[m]] := by rw [List.take_succ, List.getElem?_eq_getElem hm]; rfl
      refine SW.pure ⟨rfl, by dsimp only; omega, ?_, ?_⟩
      · rw [e1, ht]
        rw [ht] at s
        exact s.snoc W (.inr ⟨e, take_lt R hm (List.Perm.refl _) (by rw [ht]; exact List.mem_append_right _ (List.mem_singleton.mpr rfl))⟩)
      · rw [e1, drop_step hm]
  · rintro ⟨b0, m⟩ st' ⟨e0, em, s, es⟩
    dsimp only at em s es ⊢
    refine ⟨e0, ⟨by omega, by omega⟩, s, fun hm => absurd hm (by omega), es⟩
  · rintro ⟨b0, m⟩ st' ⟨rfl, ⟨m1, m2⟩, s, lst, rfl⟩
    dsimp only at m1 m2 s lst ⊢
    have rq : RQ r rest m (rest.take m) := ⟨List.Perm.refl _, s, m1, m2⟩
    by_cases e1 : m = rest.length
    · rw [if_pos (by rw [e1]; exact beq_self_eq_true _)]
      exact SW.pure (k m _ rq)
    · rw [if_neg (by intro h; exact e1 (by simpa using h))]
      have hm : m < rest.length := by omega
      have ht := take_last (l := rest) (n := m) m1 (by omega)
      have lt0 := lst hm rest[m - 1] (List.getElem?_eq_getElem (by omega))
      by_cases e2 : m > 1
      · rw [if_pos e2]
        have ql : (rest.take m).length = m := by rw [List.length_take]; omega
        have g0 : (pre ++ rest.take m ++ rest.drop m)[pre.length]? = some rest[0] := by
          rw [List.append_assoc, List.getElem?_append_right (Nat.le_refl _), Nat.sub_self, List.take_append_drop, List.getElem?_eq_getElem (by omega)]
        have gy : (pre ++ rest.take m ++ rest.drop m)[pre.length + m - 1]? = some rest[m - 1] := by
          have := at_last (pre := pre) (q0 := rest.take (m - 1)) (tl := rest.drop m) (y := rest[m - 1]) (n := m) (by rw [← ht]; exact ql)
          rw [← ht] at this
          exact this
        refine SW.bind (SW.ltAt h (l := pre ++ rest.take m ++ rest.drop m) (show kindOf (setArr st _) = κ from hk) rfl g0 gy (hN _ (List.getElem_mem _)) (hN _ (List.getElem_mem _)) ?_)
        dsimp only
        cases e3 : r rest[0] rest[m - 1] with
        | true =>
          rw [if_pos rfl]
          exact SW.pure (k m _ rq)
        | false =>
          rw [if_neg Bool.false_ne_true]
          refine SW.bind (SW.rev (a := pre) (m := rest.take m) (b := rest.drop m) rfl rfl (by rw [ql]) ?_)
          refine SW.crDesc h W R hN hk m1 hm (fun x hx => ?_) s k
          have hx0 : r x rest[m - 1] = false := by
            have e4 : rest.take m = rest[0] :: (rest.take m).drop 1 := by
              have : 0 < (rest.take m).length := by omega
              have e5 := drop_get this
              rw [List.drop_zero] at e5
              rw [e5]
              congr 1
              rw [List.getElem_take]
            have s' := s
            rw [e4] at hx s'
            rcases List.mem_cons.mp hx with rfl | hx
            · exact e3
            · exact W.le e3 ((List.rel_of_pairwise_cons s' hx).not W)
          rcases W.nt _ x _ lt0 with g | g
          · exact g
          · rw [hx0] at g; cases g
      · rw [if_neg e2]
        have em : m = 1 := by omega
        subst em
        have e4 : (rest.take 1).reverse = rest.take 1 := by rw [ht]; rfl
        have := SW.crDesc (pre := pre) (Q := Q) (st := st) (A := A) (E := E) h W R hN hk (Nat.le_refl 1) hm (fun x hx => by
          rw [ht] at hx
          have hx : x ∈ [rest[1 - 1]] := by simpa using hx
          rw [List.mem_singleton.mp hx]
          exact lt0) s k
        rw [e4] at this
        exact this
end
end L2
end
section
set_option autoImplicit false
namespace L2
open PySem PySem.Spec PySem.W PyProof.Rows
section
variable {P : Program} {w : World} {A : Around} {E : Value → Shared → Prop} {G : Shared → Prop} {κ : SortKind} {it : Array Keyed} {r : Nat → Nat → Bool} {N : Nat} {pre rest : List Nat}
theorem bool_not {b c : Bool} (h : (!b) = c) : b = !c := by
  cases b <;> cases c <;> first | rfl | cases h
theorem SW.binarySort (h : LtOk P w A G κ it r N) (W : WO r) (R : rest.Pairwise (· < ·)) (hN : ∀ x ∈ rest, x < N) {n ok : Nat} {q : List Nat} {Q : Bool → SortSt → Prop} {st : SortSt} (hk : kindOf st = κ) (hq : RQ r rest ok q) (h1 : ok ≤ n) (h2 : n ≤ rest.length)
    (k : ∀ q, RQ r rest n q → Q true (setArr st (Lk it (pre ++ q ++ rest.drop n)))) : SW P w A E G (binarySort' pre.length n ok) Q (setArr st (Lk it (pre ++ q ++ rest.drop ok))) := by
  rw [binarySort'_eq]
  have em : max ok 1 = ok := by have := hq.2.2.1; omega
  rw [em]
  refine SW.bind (SW.mono (SW.for (D := fun b st' => b.1 = none ∧ ∃ q, RQ r rest n q ∧ st' = setArr st (Lk it (pre ++ q ++ rest.drop n))) (fun i b st' => b.1 = none ∧ ∃ q, RQ r rest (ok + i) q ∧ st' = setArr st (Lk it (pre ++ q ++ rest.drop (ok + i)))) ⟨rfl, q, hq, rfl⟩ ?_ ?_) ?_)
  · rintro i ⟨b0, u⟩ st' hi ⟨rfl, q, ⟨p1, p2, p3, p4⟩, rfl⟩
    generalize em' : ok + i = m at p1 p2 p3 p4 ⊢
    have hm : m < rest.length := by omega
    have ql := perm_len p4 p1
    dsimp only
    obtain ⟨t, ht1, ht2⟩ := cut_at (p := fun x => !r rest[m] x) (l := q) (p2.imp fun {x x'} ah g => by
      have g : r rest[m] x' = false := bool_not g
      rw [W.le (ah.not W) g]
      rfl)
    refine SW.bind (SW.mono (SW.for (D := fun b st' => b.1 = none ∧ b.2.1 = t ∧ st' = setArr st (Lk it (pre ++ q ++ rest.drop m))) (fun i b st' => b.1 = none ∧ (b.2.1 ≤ t ∧ t ≤ b.2.2) ∧ b.2.2 ≤ m ∧ b.2.2 - b.2.1 + i ≤ m ∧ st' = setArr st (Lk it (pre ++ q ++ rest.drop m))) ⟨rfl, ⟨Nat.zero_le _, by dsimp only; omega⟩, Nat.le_refl _, by dsimp only; omega, rfl⟩ ?_ ?_) ?_)
    · rintro j ⟨c0, lo, hi'⟩ st' hj ⟨rfl, ⟨g1, g2⟩, g3, g4, rfl⟩
      dsimp only at g1 g2 g3 g4 ⊢
      by_cases hc : lo ≥ hi'
      · rw [if_pos hc]
        exact SW.pure ⟨rfl, by dsimp only; omega, rfl⟩
      · rw [if_neg hc]
        have hmid : (lo + hi') / 2 < q.length := by omega
        refine SW.bind (SW.ltAt h (l := pre ++ q ++ rest.drop m) (y := q[(lo + hi') / 2]) (show kindOf (setArr st _) = κ from hk) rfl (at_next ql hm) ?_ (hN _ (List.getElem_mem hm)) (hN _ (List.mem_of_mem_take (p1.mem_iff.mp (List.getElem_mem hmid)))) ?_)
        · rw [List.append_assoc, List.getElem?_append_right (by omega), List.getElem?_append_left (by omega), List.getElem?_eq_getElem (by omega)]
          congr 1
          congr 1
          omega
        have hp := ht2 _ hmid
        dsimp only at hp ⊢
        rw [bool_not hp]
        by_cases hlt : (lo + hi') / 2 < t
        · rw [decide_eq_true hlt, if_neg (by decide)]
          exact SW.pure ⟨rfl, ⟨by dsimp only; omega, g2⟩, g3, by dsimp only; omega, rfl⟩
        · rw [decide_eq_false hlt, if_pos (by rfl)]
          exact SW.pure ⟨rfl, ⟨g1, by dsimp only; omega⟩, by dsimp only; omega, by dsimp only; omega, rfl⟩
    · rintro ⟨c0, lo, hi'⟩ st' ⟨e0, ⟨g1, g2⟩, g3, g4, es⟩
      exact ⟨e0, by dsimp only at *; omega, es⟩
    · rintro ⟨c0, lo, hi'⟩ st' ⟨rfl, el, rfl⟩
      dsimp only at el ⊢
      subst el
      have e1 : pre ++ q ++ rest.drop m = (pre ++ q.take lo) ++ (q.drop lo ++ (rest[m] :: rest.drop (m + 1))) := by
        rw [drop_get hm, List.append_assoc pre, List.append_assoc pre, ← List.append_assoc (q.take lo), List.take_append_drop]
      refine SW.bind (SW.move (a := pre ++ q.take lo) (m := q.drop lo) (x := rest[m]) (b := rest.drop (m + 1)) (by show Lk it _ = _; rw [e1]) (by rw [List.length_append, List.length_take, List.length_drop]; omega) (by rw [List.length_append, List.length_take]; omega) (SW.pure ⟨rfl, q.take lo ++ (rest[m] :: q.drop lo), ⟨?_, ?_, by omega, by omega⟩, ?_⟩))
      · rw [show ok + (i + 1) = m + 1 by omega]
        refine List.Perm.trans ?_ (take_step hm p1)
        refine List.Perm.trans List.perm_middle ?_
        rw [List.take_append_drop]
        exact (List.perm_append_singleton _ _).symm
      · have s' := p2
        rw [← List.take_append_drop lo q] at s'
        obtain ⟨s1, s2, s3⟩ := List.pairwise_append.mp s'
        have lft : ∀ x ∈ q.take lo, Ah r x rest[m] := fun x hx => by
          obtain ⟨j, hj, ej⟩ := List.getElem_of_mem hx
          rw [List.length_take] at hj
          have hp := bool_not (ht2 j (by omega))
          rw [decide_eq_true (by omega)] at hp
          rw [List.getElem_take] at ej
          rw [ej] at hp
          exact .inr ⟨hp, take_lt R hm p1 (List.mem_of_mem_take hx)⟩
        have rgt : ∀ y ∈ q.drop lo, r rest[m] y = true := fun y hy => by
          obtain ⟨j, hj, ej⟩ := List.getElem_of_mem hy
          rw [List.length_drop] at hj
          have hp := bool_not (ht2 (lo + j) (by omega))
          rw [decide_eq_false (by omega)] at hp
          rw [List.getElem_drop] at ej
          rw [ej] at hp
          exact hp
        refine List.pairwise_append.mpr ⟨s1, List.pairwise_cons.mpr ⟨fun y hy => .inl (rgt y hy), s2⟩, fun x hx y hy => ?_⟩
        rcases List.mem_cons.mp hy with rfl | hy
        · exact lft x hx
        · exact s3 x hx y hy
      · rw [show ok + (i + 1) = m + 1 by omega]
        show setArr st _ = setArr st _
        congr 2
        simp only [List.append_assoc, List.cons_append]
  · rintro ⟨b0, u⟩ st' ⟨rfl, q, hq', rfl⟩
    rw [show ok + (n - ok) = n by omega] at hq' ⊢
    exact ⟨rfl, q, hq', rfl⟩
  · rintro ⟨b0, u⟩ st' ⟨rfl, q, hq', rfl⟩
    dsimp only
    exact SW.pure (k q hq')
end
theorem mergeAt'_eq (i : Nat) : mergeAt' i = (do
  let s ← get
  let (some (sa, na, power), some (sb, nb, _)) := ((pendingOf s)[i]?, (pendingOf s)[i + 1]?) | (unsupported "internal:list.sort.pending" : Sem Bool)
  set (setPending s (((pendingOf s).setIfInBounds i (sa, na + nb, power)).eraseIdxIfInBounds (i + 1)))
  let some k ← gallop' false (← elem' (arrOf s) sb) (arrOf s) sa na 0 | return false
  let (sa, na) := (sa + k, na - k)
  if na == 0 then return true
  let some nb ← gallop' true (← elem' (arrOf s) (sa + na - 1)) (arrOf s) sb nb (nb - 1) | return false
  if nb == 0 then return true
  let x := (arrOf s).extract sa sb
  let y := (arrOf s).extract sb (sb + nb)
  let merged ← if na ≤ nb then mergeLo' x y else mergeHi' x y
  modify fun s => setArr s (merged.toList.zipIdx.foldl (fun a (p, j) => a.setIfInBounds (sa + j) p) (arrOf s))
  return (failedOf (← get)).isNone) := rfl
theorem fold_set (it : Array Keyed) (sa : Nat) : ∀ (ms old a b : List Nat) (j : Nat), old.length = ms.length → a.length = sa + j → ((ms.map (kas_item it)).zipIdx j).foldl (fun a x => a.setIfInBounds (sa + x.2) x.1) (Lk it (a ++ old ++ b)) = Lk it (a ++ ms ++ b)
  | [], old, a, b, j, h1, h2 => by
    have : old = [] := List.length_eq_zero_iff.mp h1
    rw [this]
    rfl
  | x :: ms, y :: old, a, b, j, h1, h2 => by
    have e1 : (Lk it (a ++ (y :: old) ++ b)).setIfInBounds (sa + j) (kas_item it x) = Lk it (a ++ [x] ++ old ++ b) := by
      refine Lk_inj fun k => ?_
      rw [Array.getElem?_setIfInBounds]
      by_cases e : sa + j = k
      · subst e
        rw [if_pos rfl, if_pos (by rw [Lk_size, List.length_append, List.length_append, List.length_cons]; omega)]
        rw [List.append_assoc, List.append_assoc, List.getElem?_append_right (by omega), h2, Nat.sub_self]
        rfl
      · rw [if_neg e, Lk_get]
        congr 1
        rw [List.append_assoc, List.append_assoc, List.append_assoc]
        by_cases hk : k < a.length
        · rw [List.getElem?_append_left hk, List.getElem?_append_left hk]
        · rw [List.getElem?_append_right (l₁ := a) (l₂ := (y :: old) ++ b) (by omega), List.getElem?_append_right (l₁ := a) (l₂ := [x] ++ (old ++ b)) (by omega)]
          obtain ⟨d, hd⟩ : ∃ d, k - a.length = d + 1 := ⟨k - a.length - 1, by omega⟩
          rw [hd]
          rfl
    show (((ms.map (kas_item it)).zipIdx (j + 1)).foldl _ ((Lk it (a ++ (y :: old) ++ b)).setIfInBounds (sa + j) (kas_item it x))) = _
    rw [e1]
    have := fold_set it sa ms old (a ++ [x]) b (j + 1) (by simpa using h1) (by rw [List.length_append, List.length_singleton]; omega)
    rw [this]
    simp only [List.append_assoc, List.cons_append, List.nil_append]
  | _ :: _, [], _, _, _, h1, _ => by simp at h1
section
variable {P : Program} {w : World} {A : Around} {E : Value → Shared → Prop} {G : Shared → Prop} {κ : SortKind} {it : Array Keyed} {r : Nat → Nat → Bool} {N : Nat}
theorem SW.mergeAt (h : LtOk P w A G κ it r N) (W : WO r) {i pw pw' : Nat} {a m1 m2 b : List Nat} {Q : Bool → SortSt → Prop} {st : SortSt} (hk : kindOf st = κ) (hf : failedOf st = none) (ha : arrOf st = Lk it (a ++ m1 ++ m2 ++ b))
    (p1 : (pendingOf st)[i]? = some (a.length, m1.length, pw)) (p2 : (pendingOf st)[i + 1]? = some (a.length + m1.length, m2.length, pw')) (n1 : ∀ x ∈ m1, x < N) (n2 : ∀ y ∈ m2, y < N) (s1 : Srt r m1) (s2 : Srt r m2) (l1 : 0 < m1.length) (l2 : 0 < m2.length) (sep : ∀ x ∈ m1, ∀ y ∈ m2, x < y)
    (k : ∀ m g, m.Perm (m1 ++ m2) → Srt r m → Q true (SortSt.mk' κ (Lk it (a ++ m ++ b)) (((pendingOf st).setIfInBounds i (a.length, m1.length + m2.length, pw)).eraseIdxIfInBounds (i + 1)) g none)) : SW P w A E G (mergeAt' i) Q st := by
  rw [mergeAt'_eq]
  refine SW.bind (SW.get ?_)
  rw [p1, p2]
  dsimp only
  refine SW.bind (SW.set ?_)
  have gb : ∀ j (hj : j < m2.length), (a ++ m1 ++ m2 ++ b)[a.length + m1.length + j]? = some m2[j] := fun j hj => by
    rw [List.getElem?_append_left (by rw [List.length_append, List.length_append]; omega), List.getElem?_append_right (by rw [List.length_append]; omega), List.length_append, Nat.add_sub_cancel_left, List.getElem?_eq_getElem hj]
  have ga : ∀ j (hj : j < m1.length), (a ++ m1 ++ m2 ++ b)[a.length + j]? = some m1[j] := fun j hj => by
    rw [List.append_assoc (a ++ m1), List.getElem?_append_left (by rw [List.length_append]; omega), List.getElem?_append_right (by omega), Nat.add_sub_cancel_left, List.getElem?_eq_getElem hj]
  rw [ha]
  have fin : ∀ (g : Nat) (m : List Nat) (st' : SortSt), m.Perm (m1 ++ m2) → Srt r m → st' = SortSt.mk' κ (Lk it (a ++ m ++ b)) (((pendingOf st).setIfInBounds i (a.length, m1.length + m2.length, pw)).eraseIdxIfInBounds (i + 1)) g none → Q true st' := fun g m st' hp hs es => by
    rw [es]
    exact k m g hp hs
  have eset : setPending st (((pendingOf st).setIfInBounds i (a.length, m1.length + m2.length, pw)).eraseIdxIfInBounds (i + 1)) = SortSt.mk' κ (Lk it (a ++ (m1 ++ m2) ++ b)) (((pendingOf st).setIfInBounds i (a.length, m1.length + m2.length, pw)).eraseIdxIfInBounds (i + 1)) (gallopOf st) none := by
    show SortSt.mk' (kindOf st) (arrOf st) _ (gallopOf st) (failedOf st) = _
    rw [hk, hf, ha]
    simp only [List.append_assoc]
  generalize hpd : ((pendingOf st).setIfInBounds i (a.length, m1.length + m2.length, pw)).eraseIdxIfInBounds (i + 1) = pd at fin eset ⊢
  rw [eset]
  refine SW.bind (SW.elem (x := kas_item it m2[0]) (by rw [Lk_get]; have := gb 0 l2; rw [Nat.add_zero] at this; rw [this]; rfl) ?_)
  obtain ⟨t, ht1, ht2⟩ := cut_at (p := fun x => !r m2[0] x) (l := m1) (s1.imp fun {x x'} ah g => by
    have g : r m2[0] x' = false := bool_not g
    rw [W.le (ah.not W) g]
    rfl)
  refine SW.bind (SW.gallop (t := t) l1 ht1 (fun j hj Q' q => ?_) ?_)
  · refine SW.beyF h (x := m1[j]) rfl (ga j hj) (n1 _ (List.getElem_mem hj)) (n2 _ (List.getElem_mem l2)) ?_
    have := ht2 j hj
    rw [this]
    exact q
  dsimp only
  have y0 : ∀ y ∈ m2, y = m2[0] ∨ Ah r m2[0] y := fun y hy => by
    have e0 : m2 = m2[0] :: m2.drop 1 := by rw [← drop_get l2, List.drop_zero]
    have s' := s2
    rw [e0] at hy s'
    rcases List.mem_cons.mp hy with e | hy
    · exact .inl e
    · exact .inr (List.rel_of_pairwise_cons s' hy)
  have lo1 : ∀ x ∈ m1.take t, ∀ y ∈ m2, Ah r x y := fun x hx y hy => by
    obtain ⟨j, hj, ej⟩ := List.getElem_of_mem hx
    rw [List.length_take] at hj
    have hp := bool_not (ht2 j (by omega))
    rw [decide_eq_true (by omega)] at hp
    rw [List.getElem_take] at ej
    rw [ej] at hp
    have h0 : Ah r x m2[0] := .inr ⟨hp, sep x (List.mem_of_mem_take hx) _ (List.getElem_mem l2)⟩
    rcases y0 y hy with rfl | g
    · exact h0
    · exact h0.tr W g
  by_cases e1 : m1.length - t = 0
  · rw [if_pos (by rw [e1]; rfl)]
    refine SW.pure (fin _ _ _ (List.Perm.refl _) (List.pairwise_append.mpr ⟨s1, s2, fun x hx y hy => lo1 x ?_ y hy⟩) rfl)
    rw [List.take_of_length_le (by omega)]
    exact hx
  · rw [if_neg (by intro h; exact e1 (by simpa using h))]
    have htl : t < m1.length := by omega
    have hla : m1.length - 1 < m1.length := by omega
    refine SW.bind (SW.elem (x := kas_item it m1[m1.length - 1]) (by rw [Lk_get, show a.length + t + (m1.length - t) - 1 = a.length + (m1.length - 1) by omega, ga _ hla]; rfl) ?_)
    obtain ⟨u, hu1, hu2⟩ := cut_at (p := fun y => r y m1[m1.length - 1]) (l := m2) (s2.imp fun {y y'} ah g => Ah.lr W ah g)
    refine SW.bind (SW.gallop (t := u) (by omega) hu1 (fun j hj Q' q => ?_) ?_)
    · refine SW.beyT h (x := m2[j]) rfl (gb j hj) (n2 _ (List.getElem_mem hj)) (n1 _ (List.getElem_mem hla)) ?_
      rw [hu2 j hj]
      exact q
    dsimp only
    have xl : ∀ x ∈ m1, x = m1[m1.length - 1] ∨ Ah r x m1[m1.length - 1] := fun x hx => by
      have e0 : m1 = m1.take (m1.length - 1) ++ [m1[m1.length - 1]] := by
        rw [← take_last (l := m1) l1 hla, List.take_of_length_le (Nat.le_refl _)]
      have s' := s1
      rw [e0] at hx s'
      rcases List.mem_append.mp hx with hx | hx
      · exact .inr ((List.pairwise_append.mp s').2.2 x hx _ (List.mem_singleton.mpr rfl))
      · exact .inl (List.mem_singleton.mp hx)
    have hi2 : ∀ x ∈ m1, ∀ y ∈ m2.drop u, Ah r x y := fun x hx y hy => by
      obtain ⟨j, hj, ej⟩ := List.getElem_of_mem hy
      rw [List.length_drop] at hj
      have hp := hu2 (u + j) (by omega)
      rw [decide_eq_false (by omega)] at hp
      rw [List.getElem_drop] at ej
      rw [ej] at hp
      have h0 : Ah r m1[m1.length - 1] y := .inr ⟨hp, sep _ (List.getElem_mem hla) y (List.mem_of_mem_drop hy)⟩
      rcases xl x hx with rfl | g
      · exact h0
      · exact g.tr W h0
    by_cases e2 : u = 0
    · rw [if_pos (by rw [e2]; rfl)]
      refine SW.pure (fin _ _ _ (List.Perm.refl _) (List.pairwise_append.mpr ⟨s1, s2, fun x hx y hy => hi2 x hx y ?_⟩) rfl)
      rw [e2, List.drop_zero]
      exact hy
    · rw [if_neg (by intro h; exact e2 (by simpa using h))]
      have ex : (Lk it (a ++ m1 ++ m2 ++ b)).extract (a.length + t) (a.length + m1.length) = Lk it (m1.drop t) := by
        rw [Lk_ext]
        congr 1
        rw [List.append_assoc, List.append_assoc, List.take_append, List.take_of_length_le (by omega), Nat.add_sub_cancel_left, List.take_append_of_le_length (Nat.le_refl _), List.take_of_length_le (Nat.le_refl _), List.drop_append, List.drop_eq_nil_of_le (by omega), List.nil_append, Nat.add_sub_cancel_left]
      have ey : (Lk it (a ++ m1 ++ m2 ++ b)).extract (a.length + m1.length) (a.length + m1.length + u) = Lk it (m2.take u) := by
        rw [Lk_ext]
        congr 1
        rw [List.append_assoc (a ++ m1), List.take_append, List.take_of_length_le (by rw [List.length_append]; omega), List.length_append, Nat.add_sub_cancel_left, List.take_append_of_le_length hu1, List.drop_append, List.drop_eq_nil_of_le (by rw [List.length_append]; omega), List.nil_append, List.length_append, Nat.sub_self, List.drop_zero]
      rw [ex, ey]
      have after : ∀ arr g, Res r it (m1.drop t ++ m2.take u) arr → SW P w A E G (do
          _root_.modify fun s => setArr s (arr.toList.zipIdx.foldl (fun a' x => a'.setIfInBounds (a.length + t + x.2) x.1) (arrOf s))
          let z ← MonadState.get
          Pure.pure (failedOf z).isNone) Q (setGal (SortSt.mk' κ (Lk it (a ++ (m1 ++ m2) ++ b)) pd (gallopOf st) none) g) := fun arr g ⟨po, eo, hp, hs⟩ => by
        refine SW.bind (SW.modify (SW.bind (SW.get (SW.pure ?_))))
        refine fin g (m1.take t ++ po ++ m2.drop u) _ ?_ ?_ ?_
        · refine List.Perm.trans (List.Perm.append_right _ (List.Perm.append_left _ hp)) ?_
          rw [← List.append_assoc, List.take_append_drop, List.append_assoc, List.take_append_drop]
        · have mem : ∀ x ∈ po, x ∈ m1.drop t ∨ x ∈ m2.take u := fun x hx => List.mem_append.mp (hp.mem_iff.mp hx)
          have q1 := s1
          rw [← List.take_append_drop t m1] at q1
          obtain ⟨q11, q12, q13⟩ := List.pairwise_append.mp q1
          have q2 := s2
          rw [← List.take_append_drop u m2] at q2
          obtain ⟨q21, q22, q23⟩ := List.pairwise_append.mp q2
          refine List.pairwise_append.mpr ⟨List.pairwise_append.mpr ⟨q11, hs, fun x hx y hy => ?_⟩, q22, fun x hx y hy => ?_⟩
          · rcases mem y hy with g | g
            · exact q13 x hx y g
            · exact lo1 x hx y (List.mem_of_mem_take g)
          · rcases List.mem_append.mp hx with hx | hx
            · exact lo1 x hx y (List.mem_of_mem_drop hy)
            · rcases mem x hx with g | g
              · exact hi2 x (List.mem_of_mem_drop g) y hy
              · exact q23 x g y hy
        · show SortSt.mk' κ (arr.toList.zipIdx.foldl (fun a' x => a'.setIfInBounds (a.length + t + x.2) x.1) (Lk it (a ++ (m1 ++ m2) ++ b))) pd g none = _
          have el : arr.toList = po.map (kas_item it) := by rw [eo]; rfl
          have hl := hp.length_eq
          have e3 : a ++ (m1 ++ m2) ++ b = (a ++ m1.take t) ++ (m1.drop t ++ m2.take u) ++ (m2.drop u ++ b) := by
            conv => lhs; rw [← List.take_append_drop t m1, ← List.take_append_drop u m2]
            simp only [List.append_assoc]
          rw [el, e3, fold_set it (a.length + t) po (m1.drop t ++ m2.take u) (a ++ m1.take t) (m2.drop u ++ b) 0 hl.symm (by rw [List.length_append, List.length_take]; omega)]
          simp only [List.append_assoc]
      have nA : ∀ x ∈ m1.drop t, x < N := fun x hx => n1 x (List.mem_of_mem_drop hx)
      have nB : ∀ y ∈ m2.take u, y < N := fun y hy => n2 y (List.mem_of_mem_take hy)
      have ll : ∀ y ∈ m2.take u, ∀ x, (m1.drop t)[(m1.drop t).length - 1]? = some x → r y x = true := fun y hy x hx => by
        rw [List.length_drop, List.getElem?_drop, show t + (m1.length - t - 1) = m1.length - 1 by omega, List.getElem?_eq_getElem hla] at hx
        cases hx
        obtain ⟨j, hj, ej⟩ := List.getElem_of_mem hy
        rw [List.length_take] at hj
        have hp := hu2 j (by omega)
        rw [decide_eq_true (by omega)] at hp
        rw [List.getElem_take] at ej
        rw [ej] at hp
        exact hp
      have lf : ∀ x y, (m1.drop t)[0]? = some x → (m2.take u)[0]? = some y → r y x = true := fun x y hx hy => by
        rw [List.getElem?_drop, Nat.add_zero, List.getElem?_eq_getElem htl] at hx
        rw [List.getElem?_take, if_pos (by omega), List.getElem?_eq_getElem l2] at hy
        cases hx
        cases hy
        have hp := bool_not (ht2 t htl)
        rw [decide_eq_false (by omega)] at hp
        exact hp
      have la : 0 < (m1.drop t).length := by rw [List.length_drop]; omega
      have lb : 0 < (m2.take u).length := by rw [List.length_take]; omega
      have sA : Srt r (m1.drop t) := s1.sublist (List.drop_sublist _ _)
      have sB : Srt r (m2.take u) := s2.sublist (List.take_sublist _ _)
      have sp : ∀ x ∈ m1.drop t, ∀ y ∈ m2.take u, x < y := fun x hx y hy => sep x (List.mem_of_mem_drop hx) y (List.mem_of_mem_take hy)
      by_cases e3 : m1.length - t ≤ u
      · rw [if_pos e3]
        exact SW.bind (SW.mergeLo h W nA nB ll lf la lb sA sB sp rfl after)
      · rw [if_neg e3]
        exact SW.bind (SW.mergeHi h W nA nB ll lf la lb sA sB sp rfl after)
end
end L2
end
section
set_option autoImplicit false
namespace L2
open PySem PySem.Spec PySem.W PyProof.Rows
def starts : Nat → List (List Nat) → List (Nat × Nat)
  | _, [] => []
  | k, s :: ss => (k, s.length) :: starts (k + s.length) ss
theorem starts_app : ∀ (k : Nat) (a : List (List Nat)) (b : List (List Nat)), starts k (a ++ b) = starts k a ++ starts (k + a.flatten.length) b
  | k, [], b => by simp [starts]
  | k, s :: a, b => by
    show (k, s.length) :: starts (k + s.length) (a ++ b) = _
    rw [starts_app]
    show _ = (k, s.length) :: (starts (k + s.length) a ++ _)
    rw [List.flatten_cons, List.length_append, Nat.add_assoc]
theorem starts_len : ∀ (k : Nat) (a : List (List Nat)), (starts k a).length = a.length
  | _, [] => rfl
  | k, s :: a => by
    show (starts (k + s.length) a).length + 1 = _
    rw [starts_len]
    rfl
abbrev Pnd := Nat × Nat × Nat
structure SI (r : Nat → Nat → Bool) (n : Nat) (segs : List (List Nat)) (rest : List Nat) (pend : Array Pnd) : Prop where
  pm : (segs.flatten ++ rest).Perm (List.range n)
  sr : ∀ s ∈ segs, Srt r s ∧ 0 < s.length
  sep : segs.Pairwise (fun s t => ∀ x ∈ s, ∀ y ∈ t, x < y)
  fr : ∀ s ∈ segs, ∀ x ∈ s, ∀ y ∈ rest, x < y
  pe : pend.toList.map (fun p => (p.1, p.2.1)) = starts 0 segs
theorem SI.size {r : Nat → Nat → Bool} {n : Nat} {segs : List (List Nat)} {rest : List Nat} {pend : Array Pnd} (h : SI r n segs rest pend) : pend.size = segs.length := by
  have := congrArg List.length h.pe
  rw [List.length_map, starts_len, Array.length_toList] at this
  exact this
theorem SI.lt {r : Nat → Nat → Bool} {n : Nat} {segs : List (List Nat)} {rest : List Nat} {pend : Array Pnd} (h : SI r n segs rest pend) {x : Nat} (hx : x ∈ segs.flatten ++ rest) : x < n := List.mem_range.mp (h.pm.mem_iff.mp hx)
section
variable {P : Program} {w : World} {A : Around} {E : Value → Shared → Prop} {G : Shared → Prop} {κ : SortKind} {it : Array Keyed} {r : Nat → Nat → Bool} {n : Nat}
def SS (κ : SortKind) (it : Array Keyed) (segs : List (List Nat)) (rest : List Nat) (pend : Array Pnd) (g : Nat) : SortSt := SortSt.mk' κ (Lk it (segs.flatten ++ rest)) pend g none
theorem SW.merge1 (h : LtOk P w A G κ it r n) (W : WO r) {segs : List (List Nat)} {rest : List Nat} {pend : Array Pnd} {g i : Nat} (I : SI r n segs rest pend) (hi : i + 1 < segs.length) {Q : Bool → SortSt → Prop}
    (k : ∀ segs' pend' g', SI r n segs' rest pend' → segs'.flatten.length = segs.flatten.length → segs'.length + 1 = segs.length → Q true (SS κ it segs' rest pend' g')) : SW P w A E G (mergeAt' i) Q (SS κ it segs rest pend g) := by
  obtain ⟨sa, m1, m2, sb, es, el⟩ : ∃ sa m1 m2 sb, segs = sa ++ m1 :: m2 :: sb ∧ sa.length = i := by
    refine ⟨segs.take i, segs[i], segs[i + 1], segs.drop (i + 2), ?_, by rw [List.length_take]; omega⟩
    rw [← List.drop_eq_getElem_cons hi, ← List.drop_eq_getElem_cons (by omega), List.take_append_drop]
  subst es
  have pe := I.pe
  rw [starts_app, Nat.zero_add] at pe
  obtain ⟨pA, pR, eP, eA, eR⟩ := List.map_eq_append_iff.mp pe
  obtain ⟨p1, pR1, e1, e2, e3⟩ := List.map_eq_cons_iff.mp eR
  obtain ⟨p2, pB, e4, e5, e6⟩ := List.map_eq_cons_iff.mp e3
  subst e1 e4
  have lA : pA.length = i := by
    have := congrArg List.length eA
    rw [List.length_map, starts_len] at this
    omega
  have ep : pend = (pA ++ p1 :: p2 :: pB).toArray := by rw [← eP]
  obtain ⟨q1, q2, q3⟩ := p1
  obtain ⟨q4, q5, q6⟩ := p2
  dsimp only at e2 e5
  injection e2 with f1 f2
  injection e5 with f3 f4
  subst f1 f2 f3 f4
  have g1 : pend[i]? = some (sa.flatten.length, m1.length, q3) := by
    rw [ep, List.getElem?_toArray, ← lA, List.getElem?_append_right (Nat.le_refl _), Nat.sub_self]
    rfl
  have g2 : pend[i + 1]? = some (sa.flatten.length + m1.length, m2.length, q6) := by
    rw [ep, List.getElem?_toArray, ← lA, List.getElem?_append_right (by omega), Nat.add_sub_cancel_left]
    rfl
  have hm1 := I.sr m1 (List.mem_append_right _ List.mem_cons_self)
  have hm2 := I.sr m2 (List.mem_append_right _ (List.mem_cons_of_mem _ List.mem_cons_self))
  have ef : (sa ++ m1 :: m2 :: sb).flatten ++ rest = sa.flatten ++ m1 ++ m2 ++ (sb.flatten ++ rest) := by
    simp only [List.flatten_append, List.flatten_cons, List.append_assoc]
  obtain ⟨z1, z2, z3⟩ := List.pairwise_append.mp I.sep
  obtain ⟨z4, z5⟩ := List.pairwise_cons.mp z2
  obtain ⟨z6, z7⟩ := List.pairwise_cons.mp z5
  have lt1 : ∀ x ∈ m1, x < n := fun x hx => I.lt (by rw [ef]; simp [hx])
  have lt2 : ∀ x ∈ m2, x < n := fun x hx => I.lt (by rw [ef]; simp [hx])
  refine SW.mergeAt h W (a := sa.flatten) (m1 := m1) (m2 := m2) (b := sb.flatten ++ rest) (pw := q3) (pw' := q6) rfl rfl (by show Lk it _ = _; rw [ef]) g1 g2 lt1 lt2 hm1.1 hm2.1 hm1.2 hm2.2 (z4 m2 List.mem_cons_self) fun m g' hp hs => ?_
  have hl := hp.length_eq
  rw [List.length_append] at hl
  have key : SI r n (sa ++ m :: sb) rest ((pend.setIfInBounds i (sa.flatten.length, m1.length + m2.length, q3)).eraseIdxIfInBounds (i + 1)) := by
    have mm : ∀ x ∈ m, x ∈ m1 ∨ x ∈ m2 := fun x hx => List.mem_append.mp (hp.mem_iff.mp hx)
    refine ⟨?_, fun s hs' => ?_, List.pairwise_append.mpr ⟨z1, List.pairwise_cons.mpr ⟨fun s hs' x hx y hy => ?_, z7⟩, fun s hs' t ht x hx y hy => ?_⟩, fun s hs' x hx y hy => ?_, ?_⟩
    · refine List.Perm.trans ?_ I.pm
      rw [ef]
      simp only [List.flatten_append, List.flatten_cons, List.append_assoc]
      refine List.Perm.append_left _ ?_
      rw [← List.append_assoc m1 m2]
      exact List.Perm.append_right _ hp
    · rcases List.mem_append.mp hs' with h' | h'
      · exact I.sr s (List.mem_append_left _ h')
      · rcases List.mem_cons.mp h' with rfl | h'
        · exact ⟨hs, by omega⟩
        · exact I.sr s (List.mem_append_right _ (List.mem_cons_of_mem _ (List.mem_cons_of_mem _ h')))
    · rcases mm x hx with g | g
      · exact z4 s (List.mem_cons_of_mem _ hs') x g y hy
      · exact z6 s hs' x g y hy
    · rcases List.mem_cons.mp ht with rfl | ht
      · rcases mm y hy with g | g
        · exact z3 s hs' m1 List.mem_cons_self x hx y g
        · exact z3 s hs' m2 (List.mem_cons_of_mem _ List.mem_cons_self) x hx y g
      · exact z3 s hs' t (List.mem_cons_of_mem _ (List.mem_cons_of_mem _ ht)) x hx y hy
    · rcases List.mem_append.mp hs' with h' | h'
      · exact I.fr s (List.mem_append_left _ h') x hx y hy
      · rcases List.mem_cons.mp h' with rfl | h'
        · rcases mm x hx with g | g
          · exact I.fr m1 (List.mem_append_right _ List.mem_cons_self) x g y hy
          · exact I.fr m2 (List.mem_append_right _ (List.mem_cons_of_mem _ List.mem_cons_self)) x g y hy
        · exact I.fr s (List.mem_append_right _ (List.mem_cons_of_mem _ (List.mem_cons_of_mem _ h'))) x hx y hy
    · rw [ep, List.setIfInBounds_toArray, List.eraseIdxIfInBounds_toArray, ← lA]
      have e7 : (pA ++ (sa.flatten.length, m1.length, q3) :: (sa.flatten.length + m1.length, m2.length, q6) :: pB).set pA.length (sa.flatten.length, m1.length + m2.length, q3) = pA ++ (sa.flatten.length, m1.length + m2.length, q3) :: (sa.flatten.length + m1.length, m2.length, q6) :: pB := by
        rw [List.set_append_right _ _ (Nat.le_refl _), Nat.sub_self]
        rfl
      rw [e7, List.eraseIdx_append_of_length_le (by omega), Nat.add_sub_cancel_left]
      show List.map _ (pA ++ (sa.flatten.length, m1.length + m2.length, q3) :: pB) = _
      rw [List.map_append, eA, starts_app, Nat.zero_add, List.map_cons, e6]
      show _ ++ (sa.flatten.length, m1.length + m2.length) :: _ = _ ++ (sa.flatten.length, m.length) :: _
      rw [hl, Nat.add_assoc]
  have := k (sa ++ m :: sb) _ g' key (by simp only [List.flatten_append, List.flatten_cons, List.length_append]; omega) (by simp only [List.length_append, List.length_cons]; omega)
  unfold SS at this
  have ef2 : (sa ++ m :: sb).flatten ++ rest = sa.flatten ++ m ++ (sb.flatten ++ rest) := by
    simp only [List.flatten_append, List.flatten_cons, List.append_assoc]
  rw [ef2] at this
  exact this
theorem SI.push {segs : List (List Nat)} {q rest : List Nat} {pend : Array Pnd} {m : Nat} (I : SI r n segs (q ++ rest) pend) (hs : Srt r q) (hq : 0 < q.length) (hm : q.length = m) (hr : ∀ x ∈ q, ∀ y ∈ rest, x < y) (pend' : Array Pnd) (hp : pend'.toList.map (fun p => (p.1, p.2.1)) = starts 0 segs) : SI r n (segs ++ [q]) rest (pend'.push (segs.flatten.length, m, 0)) := by
  refine ⟨?_, fun s hs' => ?_, List.pairwise_append.mpr ⟨I.sep, List.pairwise_singleton _ _, fun s hs' t ht x hx y hy => ?_⟩, fun s hs' x hx y hy => ?_, ?_⟩
  · have := I.pm
    rw [← List.append_assoc] at this
    simpa using this
  · rcases List.mem_append.mp hs' with h' | h'
    · exact I.sr s h'
    · rw [List.mem_singleton.mp h']
      exact ⟨hs, hq⟩
  · rw [List.mem_singleton.mp ht] at hy
    exact I.fr s hs' x hx y (List.mem_append_left _ hy)
  · rcases List.mem_append.mp hs' with h' | h'
    · exact I.fr s h' x hx y (List.mem_append_right _ hy)
    · rw [List.mem_singleton.mp h'] at hx
      exact hr x hx y hy
  · rw [Array.toList_push, List.map_append, hp, starts_app, Nat.zero_add, ← hm]
    rfl
theorem map_mod {p : Array Pnd} {i v : Nat} : (p.modify i fun x => (x.1, x.2.1, v)).toList.map (fun p => (p.1, p.2.1)) = p.toList.map (fun p => (p.1, p.2.1)) := by
  apply List.ext_getElem?
  intro k
  rw [List.getElem?_map, List.getElem?_map, Array.getElem?_toList, Array.getElem?_toList, Array.getElem?_modify]
  by_cases e : i = k
  · rw [if_pos e]
    cases p[k]? <;> rfl
  · rw [if_neg e]
theorem SW.sortRuns (h : LtOk P w A G κ it r n) (W : WO r) {Q : Unit → SortSt → Prop} {g0 : Nat} (k : ∀ l pd g, l.Perm (List.range n) → Srt r l → Q () (SortSt.mk' κ (Lk it l) pd g none)) (h2 : 2 ≤ n) : SW P w A E G sortRuns' Q (SortSt.mk' κ (Lk it (List.range n)) #[] g0 none) := by
  rw [sortRuns'_eq]
  refine SW.bind (SW.get ?_)
  dsimp only
  have esz : (arrOf (SortSt.mk' κ (Lk it (List.range n)) #[] g0 none)).size = n := by
    show (Lk it (List.range n)).size = n
    rw [Lk_size, List.length_range]
  rw [esz]
  have I0 : SI r n [] (List.range n) #[] := ⟨List.Perm.refl _, (fun s hs => nomatch hs), .nil, (fun s hs => nomatch hs), rfl⟩
  refine SW.bind (SW.mono (SW.for (D := fun b st' => b.1 = none ∧ ∃ segs pend g, SI r n segs [] pend ∧ st' = SS κ it segs [] pend g) (fun i b st' => b.1 = none ∧ ∃ segs rest pend g, SI r n segs rest pend ∧ rest.Pairwise (· < ·) ∧ b.2 = segs.flatten.length ∧ i ≤ b.2 ∧ st' = SS κ it segs rest pend g) ⟨rfl, [], List.range n, #[], g0, I0, List.pairwise_lt_range, rfl, Nat.le_refl _, rfl⟩ ?_ ?_) ?_)
  · rintro i ⟨b0, lo⟩ st' hi ⟨rfl, segs, rest, pend, g, I, R, el, il, rfl⟩
    dsimp only at el il ⊢
    subst el
    have hl := I.pm.length_eq
    rw [List.length_append, List.length_range] at hl
    by_cases hc : segs.flatten.length ≥ n
    · rw [if_pos hc]
      have er : rest = [] := List.length_eq_zero_iff.mp (by omega)
      subst er
      exact SW.pure ⟨rfl, segs, pend, g, I, rfl⟩
    · rw [if_neg hc]
      have er : n - segs.flatten.length = rest.length := by omega
      rw [er]
      have hN : ∀ x ∈ rest, x < n := fun x hx => I.lt (List.mem_append_right _ hx)
      have go : ∀ m q, RQ r rest m q → SI r n segs (q ++ rest.drop m) pend ∧ Srt r q ∧ 0 < q.length ∧ q.length = m ∧ ∀ x ∈ q, ∀ y ∈ rest.drop m, x < y := fun m q ⟨p1, p2, p3, p4⟩ => by
        have ql := perm_len p4 p1
        have pq : (q ++ rest.drop m).Perm rest := by
          have := p1.append_right (rest.drop m)
          rw [List.take_append_drop] at this
          exact this
        refine ⟨⟨(List.Perm.append_left _ pq).trans I.pm, I.sr, I.sep, fun s hs x hx y hy => I.fr s hs x hx y (pq.mem_iff.mp hy), I.pe⟩, p2, by omega, ql, fun x hx y hy => ?_⟩
        have := R
        rw [← List.take_append_drop m rest] at this
        exact (List.pairwise_append.mp this).2.2 x (p1.mem_iff.mp hx) y hy
      have fin : ∀ m q, RQ r rest m q → ∀ st' : SortSt, (∃ segs2 pend2 g2, SI r n segs2 (rest.drop m) pend2 ∧ segs2.flatten.length = segs.flatten.length + m ∧ st' = SS κ it segs2 (rest.drop m) pend2 g2) → (((none : Option Unit), segs.flatten.length + m).1 = none ∧ ∃ segs2 rest2 pend2 g2, SI r n segs2 rest2 pend2 ∧ rest2.Pairwise (· < ·) ∧ ((none : Option Unit), segs.flatten.length + m).2 = segs2.flatten.length ∧ i + 1 ≤ ((none : Option Unit), segs.flatten.length + m).2 ∧ st' = SS κ it segs2 rest2 pend2 g2) := fun m q hq st' ⟨segs', pend', g', I', e', es⟩ => by
        refine ⟨rfl, segs', rest.drop m, pend', g', I', R.sublist (List.drop_sublist _ _), e'.symm, ?_, es⟩
        have := hq.2.2.1
        dsimp only
        omega
      have cr := SW.countRun (A := A) (E := E) (pre := segs.flatten) (rest := rest) (st := SS κ it segs rest pend g) (Q := fun a st' => ∃ m q, a = some m ∧ RQ r rest m q ∧ st' = setArr (SS κ it segs rest pend g) (Lk it (segs.flatten ++ q ++ rest.drop m))) h W R hN (by omega) rfl (fun m q hq => ⟨m, q, rfl, hq, rfl⟩)
      refine SW.bind (SW.mono cr ?_)
      rintro a st' ⟨m, q, rfl, hq, rfl⟩
      dsimp only
      by_cases hmr : m < minRun' n n 0
      · rw [if_pos hmr]
        refine SW.bind (SW.rule ?_)
        refine SW.bind (SW.binarySort h W R hN (n := min rest.length (minRun' n n 0)) rfl hq (by have := hq.2.2.2; omega) (by omega) fun q2 hq2 => ?_)
        rw [if_neg (by decide)]
        generalize min rest.length (minRun' n n 0) = m2 at hq2 ⊢
        obtain ⟨g1, g2, g3, g4, g5⟩ := go m2 q2 hq2
        have est : setArr (SS κ it segs rest pend g) (Lk it (segs.flatten ++ q2 ++ rest.drop (m2))) = SS κ it segs (q2 ++ rest.drop (m2)) pend g := by
          unfold SS
          rw [← List.append_assoc]
        rw [est]
        refine SW.bind (SW.get ?_)
        have fin2 : ∀ segs' pend' g' (st' : SortSt), SI r n segs' (q2 ++ rest.drop (m2)) pend' → segs'.flatten.length = segs.flatten.length → ∀ pd : Array Pnd, st' = SortSt.mk' κ (Lk it (segs'.flatten ++ (q2 ++ rest.drop (m2)))) (pd.push (segs.flatten.length, m2, 0)) g' none → pd.toList.map (fun p => (p.1, p.2.1)) = starts 0 segs' → ∃ segs2 pend2 g2, SI r n segs2 (rest.drop (m2)) pend2 ∧ segs2.flatten.length = segs.flatten.length + m2 ∧ st' = SS κ it segs2 (rest.drop (m2)) pend2 g2 := fun segs' pend' g' st' I' el pd es hpd => by
          have I2 := I'.push g2 g3 g4 g5 pd hpd
          rw [el] at I2
          refine ⟨segs' ++ [q2], _, g', I2, by rw [List.flatten_append, List.length_append, el]; simp [g4], ?_⟩
          rw [es]
          unfold SS
          have ef : (segs' ++ [q2]).flatten ++ rest.drop (m2) = segs'.flatten ++ (q2 ++ rest.drop (m2)) := by simp
          rw [ef]
        cases eb : (pendingOf (SS κ it segs (q2 ++ rest.drop (m2)) pend g)).back? with
        | none =>
          dsimp only
          refine SW.bind (SW.modify (SW.pure ?_))
          refine fin m2 q2 hq2 _ ?_
          exact fin2 segs pend g _ g1 rfl pend rfl I.pe
        | some p0 =>
          obtain ⟨s1, n1, pw⟩ := p0
          dsimp only
          refine SW.bind (SW.mono (SW.for (D := fun b st' => b.1 = none ∧ ∃ segs' pend' g', SI r n segs' (q2 ++ rest.drop (m2)) pend' ∧ segs'.flatten.length = segs.flatten.length ∧ st' = SS κ it segs' (q2 ++ rest.drop (m2)) pend' g') (fun i b st' => b.1 = none ∧ ∃ segs' pend' g', SI r n segs' (q2 ++ rest.drop (m2)) pend' ∧ segs'.flatten.length = segs.flatten.length ∧ st' = SS κ it segs' (q2 ++ rest.drop (m2)) pend' g') ⟨rfl, segs, pend, g, g1, rfl, rfl⟩ ?_ ?_) ?_)
          · rintro i2 ⟨b2, u2⟩ st2 hi2 ⟨rfl, segs', pend', g', I', el, rfl⟩
            refine SW.bind (SW.get ?_)
            have es : (pendingOf (SS κ it segs' (q2 ++ rest.drop (m2)) pend' g')) = pend' := rfl
            rw [es]
            by_cases hsz : pend'.size > 1
            · rw [if_pos hsz]
              have hlt : pend'.size - 2 < pend'.size := by omega
              obtain ⟨⟨t1, t2, t3⟩, et⟩ : ∃ x, pend'[pend'.size - 2]? = some x := ⟨_, Array.getElem?_eq_getElem hlt⟩
              rw [et]
              dsimp only
              by_cases ho : t3 ≤ power' n (2 * s1 + n1) (2 * s1 + n1 + n1 + m2) n
              · rw [if_pos ho]
                exact SW.pure ⟨rfl, segs', pend', g', I', el, rfl⟩
              · rw [if_neg ho]
                refine SW.bind (SW.merge1 h W I' (by have := I'.size; omega) fun segs2 pend2 g2 I2 e2 _ => ?_)
                rw [if_neg (by decide)]
                exact SW.pure ⟨rfl, segs2, pend2, g2, I2, e2.trans el, rfl⟩
            · rw [if_neg hsz]
              dsimp only
              exact SW.pure ⟨rfl, segs', pend', g', I', el, rfl⟩
          · rintro ⟨b2, u2⟩ st2 hD
            exact hD
          · rintro ⟨b2, u2⟩ st2 ⟨rfl, segs', pend', g', I', el, rfl⟩
            dsimp only
            refine SW.bind (SW.modify (SW.bind (SW.modify (SW.pure ?_))))
            refine fin m2 q2 hq2 _ ?_
            exact fin2 segs' pend' g' _ I' el _ rfl (map_mod.trans I'.pe)
      · rw [if_neg hmr]
        obtain ⟨g1, g2, g3, g4, g5⟩ := go m q hq
        have est : setArr (SS κ it segs rest pend g) (Lk it (segs.flatten ++ q ++ rest.drop (m))) = SS κ it segs (q ++ rest.drop (m)) pend g := by
          unfold SS
          rw [← List.append_assoc]
        rw [est]
        refine SW.bind (SW.get ?_)
        have fin2 : ∀ segs' pend' g' (st' : SortSt), SI r n segs' (q ++ rest.drop (m)) pend' → segs'.flatten.length = segs.flatten.length → ∀ pd : Array Pnd, st' = SortSt.mk' κ (Lk it (segs'.flatten ++ (q ++ rest.drop (m)))) (pd.push (segs.flatten.length, m, 0)) g' none → pd.toList.map (fun p => (p.1, p.2.1)) = starts 0 segs' → ∃ segs2 pend2 g2, SI r n segs2 (rest.drop (m)) pend2 ∧ segs2.flatten.length = segs.flatten.length + m ∧ st' = SS κ it segs2 (rest.drop (m)) pend2 g2 := fun segs' pend' g' st' I' el pd es hpd => by
          have I2 := I'.push g2 g3 g4 g5 pd hpd
          rw [el] at I2
          refine ⟨segs' ++ [q], _, g', I2, by rw [List.flatten_append, List.length_append, el]; simp [g4], ?_⟩
          rw [es]
          unfold SS
          have ef : (segs' ++ [q]).flatten ++ rest.drop (m) = segs'.flatten ++ (q ++ rest.drop (m)) := by simp
          rw [ef]
        cases eb : (pendingOf (SS κ it segs (q ++ rest.drop (m)) pend g)).back? with
        | none =>
          dsimp only
          refine SW.bind (SW.modify (SW.pure ?_))
          refine fin m q hq _ ?_
          exact fin2 segs pend g _ g1 rfl pend rfl I.pe
        | some p0 =>
          obtain ⟨s1, n1, pw⟩ := p0
          dsimp only
          refine SW.bind (SW.mono (SW.for (D := fun b st' => b.1 = none ∧ ∃ segs' pend' g', SI r n segs' (q ++ rest.drop (m)) pend' ∧ segs'.flatten.length = segs.flatten.length ∧ st' = SS κ it segs' (q ++ rest.drop (m)) pend' g') (fun i b st' => b.1 = none ∧ ∃ segs' pend' g', SI r n segs' (q ++ rest.drop (m)) pend' ∧ segs'.flatten.length = segs.flatten.length ∧ st' = SS κ it segs' (q ++ rest.drop (m)) pend' g') ⟨rfl, segs, pend, g, g1, rfl, rfl⟩ ?_ ?_) ?_)
          · rintro i2 ⟨b2, u2⟩ st2 hi2 ⟨rfl, segs', pend', g', I', el, rfl⟩
            refine SW.bind (SW.get ?_)
            have es : (pendingOf (SS κ it segs' (q ++ rest.drop (m)) pend' g')) = pend' := rfl
            rw [es]
            by_cases hsz : pend'.size > 1
            · rw [if_pos hsz]
              have hlt : pend'.size - 2 < pend'.size := by omega
              obtain ⟨⟨t1, t2, t3⟩, et⟩ : ∃ x, pend'[pend'.size - 2]? = some x := ⟨_, Array.getElem?_eq_getElem hlt⟩
              rw [et]
              dsimp only
              by_cases ho : t3 ≤ power' n (2 * s1 + n1) (2 * s1 + n1 + n1 + m) n
              · rw [if_pos ho]
                exact SW.pure ⟨rfl, segs', pend', g', I', el, rfl⟩
              · rw [if_neg ho]
                refine SW.bind (SW.merge1 h W I' (by have := I'.size; omega) fun segs2 pend2 g2 I2 e2 _ => ?_)
                rw [if_neg (by decide)]
                exact SW.pure ⟨rfl, segs2, pend2, g2, I2, e2.trans el, rfl⟩
            · rw [if_neg hsz]
              dsimp only
              exact SW.pure ⟨rfl, segs', pend', g', I', el, rfl⟩
          · rintro ⟨b2, u2⟩ st2 hD
            exact hD
          · rintro ⟨b2, u2⟩ st2 ⟨rfl, segs', pend', g', I', el, rfl⟩
            dsimp only
            refine SW.bind (SW.modify (SW.bind (SW.modify (SW.pure ?_))))
            refine fin m q hq _ ?_
            exact fin2 segs' pend' g' _ I' el _ rfl (map_mod.trans I'.pe)
  · rintro ⟨b0, lo⟩ st' ⟨e0, segs, rest, pend, g, I, R, el, il, es⟩
    have hl := I.pm.length_eq
    rw [List.length_append, List.length_range] at hl
    dsimp only at el il
    have er : rest = [] := List.length_eq_zero_iff.mp (by omega)
    subst er
    exact ⟨e0, segs, pend, g, I, es⟩
  · rintro ⟨b0, lo⟩ st' ⟨rfl, segs, pend, g, I, rfl⟩
    dsimp only
    have hfl : segs.flatten.length = n := by
      have hl := I.pm.length_eq
      rw [List.length_append, List.length_range] at hl
      simpa using hl
    have hsl : segs.length ≤ n := by
      have : ∀ ss : List (List Nat), (∀ s ∈ ss, 0 < s.length) → ss.length ≤ ss.flatten.length := by
        intro ss
        induction ss with
        | nil => intro _; exact Nat.le_refl _
        | cons s ss ih =>
          intro hp
          rw [List.flatten_cons, List.length_append, List.length_cons]
          have := ih fun t ht => hp t (List.mem_cons_of_mem _ ht)
          have := hp s List.mem_cons_self
          omega
      have := this segs fun s hs => (I.sr s hs).2
      omega
    refine SW.bind (SW.mono (SW.for (D := fun b st' => b.1 = none ∧ ∃ segs pend g, SI r n segs [] pend ∧ segs.length ≤ 1 ∧ st' = SS κ it segs [] pend g) (fun j b st' => b.1 = none ∧ ∃ segs pend g, SI r n segs [] pend ∧ segs.length + j ≤ n ∧ st' = SS κ it segs [] pend g) ⟨rfl, segs, pend, g, I, by omega, rfl⟩ ?_ ?_) ?_)
    · rintro j ⟨b0, u⟩ st' hj ⟨rfl, segs, pend, g, I, hsl, rfl⟩
      refine SW.bind (SW.get ?_)
      have es : (pendingOf (SS κ it segs [] pend g)) = pend := rfl
      rw [es]
      have hsz := I.size
      by_cases hc : pend.size ≤ 1
      · rw [if_pos hc]
        exact SW.pure ⟨rfl, segs, pend, g, I, by omega, rfl⟩
      · rw [if_neg hc]
        have step : ∀ i', i' + 1 < segs.length → SW P w A E G (mergeAt' i') (fun b st' => b = true ∧ ∃ segs' pend' g', SI r n segs' [] pend' ∧ segs'.length + (j + 1) ≤ n ∧ st' = SS κ it segs' [] pend' g') (SS κ it segs [] pend g) := fun i' hi' => SW.merge1 h W I hi' fun segs' pend' g' I' e1 e2 => ⟨rfl, segs', pend', g', I', by omega, rfl⟩
        refine SW.bind (SW.mono (step _ ?_) ?_)
        · by_cases hi0 : pend.size - 2 > 0
          · rw [if_pos hi0]
            split <;> omega
          · rw [if_neg hi0]
            split
            · rename_i hh
              exact nomatch hh
            · omega
        · rintro b st' ⟨rfl, segs', pend', g', I', hl', rfl⟩
          rw [if_neg (by decide)]
          exact SW.pure ⟨rfl, segs', pend', g', I', hl', rfl⟩
    · rintro ⟨b0, u⟩ st' ⟨e0, segs, pend, g, I, hsl, es⟩
      exact ⟨e0, segs, pend, g, I, by omega, es⟩
    · rintro ⟨b0, u⟩ st' ⟨rfl, segs, pend, g, I, hsl, rfl⟩
      dsimp only
      refine SW.pure ?_
      have hl := I.pm
      rw [List.append_nil] at hl
      unfold SS
      rw [List.append_nil]
      refine k _ _ _ hl ?_
      match segs, hsl, I with
      | [], _, _ => exact .nil
      | [s], _, I =>
        rw [show [s].flatten = s by simp]
        exact (I.sr s List.mem_cons_self).1
      | _ :: _ :: _, hsl, _ => simp at hsl
end
end L2
end
section
set_option autoImplicit false
namespace L2
open PySem PySem.Spec PyProof.Rows PySem.W
def ltZ (kz : List Int) (i j : Nat) : Bool := decide (kz.getD i 0 < kz.getD j 0)
theorem ltZ_wo (kz : List Int) : WO (ltZ kz) := ⟨fun i => decide_eq_false (by omega), fun i j k h => by
  have h := of_decide_eq_true h
  by_cases e : kz.getD i 0 < kz.getD j 0
  · exact .inl (decide_eq_true e)
  · exact .inr (decide_eq_true (by omega)), fun i j h => by
  have h := of_decide_eq_true h
  exact decide_eq_false (by omega)⟩
def SrtBy (kz : List Int) (xs ys : List V) : Prop := ∃ l : List Nat, l.Perm (List.range xs.length) ∧ Srt (ltZ kz) l ∧ ys = l.map (fun i => xs.getD i .non)
theorem vals_at {xs : List V} {us : List Value} (r : Vals xs us) {i : Nat} (hi : i < xs.length) : RelV (xs.getD i .non) (us.getD i .none) := by
  obtain ⟨u, e, q⟩ := r.get (List.getElem?_eq_getElem hi)
  rw [List.getD_eq_getElem?_getD, List.getD_eq_getElem?_getD, e, List.getElem?_eq_getElem hi]
  exact q
theorem vals_map {xs : List V} {us : List Value} (r : Vals xs us) : ∀ {l : List Nat}, (∀ i ∈ l, i < xs.length) → Vals (l.map fun i => xs.getD i .non) (l.map fun i => us.getD i .none)
  | [], _ => .nil
  | i :: l, h => .cons (vals_at r (h i List.mem_cons_self)) (vals_map r fun j hj => h j (List.mem_cons_of_mem _ hj))
def Ks (kz : List Int) (ks : List Value) : Prop := ∀ i, i < ks.length → ∃ t, ks[i]? = some (.int (kz.getD i 0) t)
section
variable {X : Cx} {pins : List (Addr × Obj)} {σ : St} {H : Hp} {s : Shared}
theorem Inv.adopt {D kS : Addr} {o : HO} {h' : Heap} {t' : Nat} (I : Inv X pins σ H s) (hD : X.s₀.heap.objs.size ≤ D) (hK : X.s₀.heap.objs.size ≤ kS) (nD : H D = none) (nK : H kS = none) (lD : D ≠ X.env.locals) (lK : kS ≠ X.env.locals) (cD : ∀ x c, X.env.cells.lookup x = some c → c ≠ D ∧ c ≠ kS)
    (pD : ∀ p ∈ X.pn ++ pins, p.1 ≠ D ∧ p.1 ≠ kS) (k : ∀ b u, b ≠ D → b ≠ kS → s.heap.get? b = some u → h'.get? b = some u) (new : ObjOk X.prog X.w (upd H D o) h' D o) : Inv X pins σ (upd H D o) { s with heap := h', toks := t' } := by
  have inL : ∀ {b : Addr}, b ∉ [D, kS] → b ≠ D ∧ b ≠ kS := fun h => ⟨fun e => h (by simp [e]), fun e => h (by simp [e])⟩
  refine I.step (g' := s.gens) (d' := s.drawn) (ch := [D, kS]) (fun b hb => ?_) (fun b u _ _ hc e _ => k b u (inL hc).1 (inL hc).2 e) (fun b u _ _ hc e _ => ⟨u.slots, k b u (inL hc).1 (inL hc).2 e⟩) (fun b u hc _ n => by rw [upd_ne (inL hc).1]; exact n) (fun b u hc e => ⟨u, k b u (inL hc).1 (inL hc).2 e⟩)
    (fun b xs e => by rw [upd_ne (ne_of_none e nD)]; exact e) (fun b q u e => by rw [upd_ne (ne_of_none e nD)]; exact e) (fun b ps e => ⟨#[], by rw [upd_ne (ne_of_none e nD), e]; simp⟩) (fun m hm => ?_) (fun b u e => ?_) I.bare
  · rcases List.mem_cons.mp hb with rfl | hb
    · exact ⟨.inr hD, lD, fun x c e => (cD x c e).1, fun p hp => (pD p hp).1⟩
    · cases List.mem_singleton.mp hb
      exact ⟨.inr hK, lK, fun x c e => (cD x c e).2, fun p hp => (pD p hp).2⟩
  · obtain ⟨q, es, ep, hq, r⟩ := hm
    exact ⟨q, es, ep, k _ q lD.symm lK.symm hq, r⟩
  · by_cases hb : b = D
    · subst hb
      rw [upd_same] at e
      cases e
      exact new
    · rw [upd_ne hb] at e
      refine (I.hok b u e).stay (fun c v hc q => k c v ?_ ?_ q) (fun c q => by rw [upd_ne (ne_of_none q nD)]; exact q) fun c xs q => by rw [upd_ne (ne_of_none q nD)]; exact q
      · rcases hc with rfl | hc
        · exact hb
        · exact ne_of_none hc nD
      · rcases hc with rfl | hc
        · exact ne_of_none e nK
        · exact ne_of_none hc nK
theorem ints_of {kz : List Int} : ∀ {ks : List Value}, Ks kz ks → ks.length = kz.length → IntsAre ks kz := by
  intro ks
  induction ks generalizing kz with
  | nil => intro _ e; cases kz with | nil => exact .nil | cons => cases e
  | cons v ks ih =>
    intro h e
    cases kz with
    | nil => cases e
    | cons z kz =>
      obtain ⟨t, q⟩ := h 0 (Nat.succ_pos _)
      cases (Option.some.inj q)
      refine .cons _ _ (ih (fun i hi => ?_) (by simpa using e))
      obtain ⟨t, q⟩ := h (i + 1) (Nat.succ_lt_succ hi)
      exact ⟨t, by simpa using q⟩
end
end L2
end
section
set_option autoImplicit false
namespace L2
open PySem PySem.Spec PyProof.Rows PySem.W
section
variable {X : Cx} {pins : List (Addr × Obj)} {σ : St} {H : Hp} {s : Shared}
theorem sorted_key {E : Value → Shared → Prop} {l f : Addr} {xs : List V} {vs : List Value} {kz : List Int} (I : Inv X pins σ H s) (hl : s.heap.IsList l vs.toArray) (rv : Vals xs vs) (hz : vs.length ≤ sizeLine) (hkz : kz.length = xs.length)
    (hkey : ∀ (pins' : List (Addr × Obj)) (H1 : Hp) (s1 : Shared) (i : Nat) (u : Value) (v : V), Same H H1 → Inv X pins' σ H1 s1 → xs[i]? = some v → RelV v u →
      wpAny (model X.prog X.w) X.A.in1.in1 (call (.ref f) [u]) (fun r s2 => ∃ t H2, r = .int (kz.getD i 0) t ∧ Same H1 H2 ∧ Inv X pins' σ H2 s2) (fun _ _ => False) s1) :
    wpAny (model X.prog X.w) X.A (call (.builtin "sorted") [.ref l] [("key", .ref f)]) (fun r s' => ∃ D ys H1, r = .ref D ∧ SrtBy kz xs ys ∧ Same H H1 ∧ H1 D = none ∧ Inv X pins σ (upd H1 D (.lst ys)) s') E s := by
  have hxv : xs.length = vs.length := rv.length
  refine call_function_entry_kw kind_sorted plain_sorted entry_sorted (ksk_s1 _ _) ?_
  unfold Builtin.«sorted»
  refine wpAny_bind (m := checkCount "sorted" 1 1 _) (wpAny_pure ?_)
  refine wpAny_bind (collect_list hl ?_ (by omega))
  refine wpAny_bind (wpAny_newList ?_ (by omega))
  have hsz : ((s.heap.push (seqObj "list" #[] 0)).update s.heap.objs.size (Obj.mapSeq (· ++ vs.toArray))).objs.size = s.heap.objs.size + 1 := by
    rw [Heap.size_update, size_push']
  have hoL : (((s.heap.push (seqObj "list" #[] 0)).update s.heap.objs.size (Obj.mapSeq (· ++ vs.toArray))).push (seqObj "list" vs.toArray 0)).get? (s.heap.objs.size + 1) = some (seqObj "list" vs.toArray 0) := by
    rw [← hsz]; exact Heap.get?_push_size _ rfl
  have keep : ∀ b o, s.heap.get? b = some o → (((s.heap.push (seqObj "list" #[] 0)).update s.heap.objs.size (Obj.mapSeq (· ++ vs.toArray))).push (seqObj "list" vs.toArray 0)).get? b = some o ∧ b < s.heap.objs.size := fun b o q => by
    have hlt : b < s.heap.objs.size := Heap.lt_size q
    refine ⟨?_, hlt⟩
    rw [Heap.get?_push_ne _ _ _ (by rw [hsz]; exact Nat.ne_of_lt (Nat.lt_succ_of_lt hlt)), Heap.get?_update_ne _ _ _ _ (Nat.ne_of_lt hlt), Heap.get?_push_ne _ _ _ (Nat.ne_of_lt hlt)]
    exact q
  show wpAny _ _ _ _ _ { s with heap := ((s.heap.push (seqObj "list" #[] 0)).update s.heap.objs.size (Obj.mapSeq (· ++ vs.toArray))).push (seqObj "list" vs.toArray 0) }
  rw [hsz]
  have hszA : (((s.heap.push (seqObj "list" #[] 0)).update s.heap.objs.size (Obj.mapSeq (· ++ vs.toArray))).push (seqObj "list" vs.toArray 0)).objs.size = s.heap.objs.size + 2 := by rw [size_push', hsz]
  generalize hA : (((s.heap.push (seqObj "list" #[] 0)).update s.heap.objs.size (Obj.mapSeq (· ++ vs.toArray))).push (seqObj "list" vs.toArray 0)) = hpA at hoL keep hszA
  refine wpAny_bind (wpAny_holding (wpAny_call_entry_kw slot_list_sort ⟨_, hoL, rfl⟩ entry_list_sort ?_ (ksk_l1 _ _)))
  rw [show ([("key", Value.ref f)] : List (Str × Value)) = [(Str.ofString "key", Value.ref f)] from rfl, ksk_t1]
  unfold ksk_tree
  refine wpAny_bind (listItems_at hoL rfl ?_)
  refine wpAny_bind (listUpdate_at hoL rfl ?_ (by rw [List.size_toArray]; omega) (Nat.zero_le _))
  obtain ⟨e1, ho1⟩ : ∃ e1, (hpA.update (s.heap.objs.size + 1) (Obj.mapSeq fun _ => #[])).get? (s.heap.objs.size + 1) = some (seqObj "list" #[] e1) := ⟨_, get?_update_seq hoL (fun _ => #[])⟩
  refine wpAny_bind (seqEpoch_at ho1 rfl ?_)
  refine wpAny_bind (wpAny_newTuple ?_ (by show vs.length ≤ _; omega))
  refine wpAny_bind (wpAny_newList ?_ (Nat.zero_le _))
  refine wpAny_holding ?_
  have sz2 : ((hpA.update (s.heap.objs.size + 1) (Obj.mapSeq fun _ => #[])).push (seqObj "tuple" vs.toArray 0)).objs.size = s.heap.objs.size + 3 := by rw [size_push', Heap.size_update, hszA]
  have keepB : ∀ b o, s.heap.get? b = some o → (((hpA.update (s.heap.objs.size + 1) (Obj.mapSeq fun _ => #[])).push (seqObj "tuple" vs.toArray 0)).push (seqObj "list" #[] 0)).get? b = some o := fun b o e => by
    obtain ⟨e', lt⟩ := keep b o e
    exact Heap.get?_push_of_some _ (Heap.get?_push_of_some _ ((Heap.get?_update_other _ _ (Nat.ne_of_lt (Nat.lt_succ_of_lt lt)).symm).trans e'))
  have hoD : (((hpA.update (s.heap.objs.size + 1) (Obj.mapSeq fun _ => #[])).push (seqObj "tuple" vs.toArray 0)).push (seqObj "list" #[] 0)).get? (s.heap.objs.size + 1) = some (seqObj "list" #[] e1) := Heap.get?_push_of_some _ (Heap.get?_push_of_some _ ho1)
  have hoK : (((hpA.update (s.heap.objs.size + 1) (Obj.mapSeq fun _ => #[])).push (seqObj "tuple" vs.toArray 0)).push (seqObj "list" #[] 0)).get? (s.heap.objs.size + 3) = some (seqObj "list" #[] 0) := by
    rw [← sz2]; exact Heap.get?_push_size _ rfl
  show wpAny (model X.prog X.w) X.A.in1.in1 (ksk_rest (s.heap.objs.size + 1) (.ref f) false vs.toArray e1 (.ref ((hpA.update (s.heap.objs.size + 1) (Obj.mapSeq fun _ => #[])).push (seqObj "tuple" vs.toArray 0)).objs.size)) _ E { s with heap := ((hpA.update (s.heap.objs.size + 1) (Obj.mapSeq fun _ => #[])).push (seqObj "tuple" vs.toArray 0)).push (seqObj "list" #[] 0) }
  rw [sz2]
  generalize (((hpA.update (s.heap.objs.size + 1) (Obj.mapSeq fun _ => #[])).push (seqObj "tuple" vs.toArray 0)).push (seqObj "list" #[] 0)) = hB at keepB hoD hoK
  obtain ⟨D, eD⟩ : ∃ D, D = s.heap.objs.size + 1 := ⟨_, rfl⟩
  obtain ⟨kS, eK⟩ : ∃ k, k = s.heap.objs.size + 3 := ⟨_, rfl⟩
  rw [← eD] at hoD ⊢
  rw [← eK] at hoK ⊢
  have nDK : D ≠ kS := by omega
  have newA : ∀ {b : Addr}, s.heap.objs.size ≤ b → X.s₀.heap.objs.size ≤ b ∧ b ≠ X.env.locals ∧ (∀ x c, X.env.cells.lookup x = some c → c ≠ b) ∧ (∀ p ∈ X.pn ++ pins, p.1 ≠ b) ∧ b ∉ X.fs := fun {b} hb => by
    refine ⟨Nat.le_trans I.sz hb, (Nat.ne_of_lt (Nat.lt_of_lt_of_le I.lt hb)).symm, fun x c e => ?_, fun p hp => ?_, I.nofs hb⟩
    · obtain ⟨v, o, ho, _⟩ := I.cell x c e
      exact Nat.ne_of_lt (Nat.lt_of_lt_of_le (Heap.lt_size ho) hb)
    · exact Nat.ne_of_lt (Nat.lt_of_lt_of_le (Heap.lt_size (I.pin p hp).1) hb)
  obtain ⟨d1, d2, d3, d4, d5⟩ := newA (b := D) (by omega)
  obtain ⟨k1, k2, k3, k4, k5⟩ := newA (b := kS) (by omega)
  let J : Nat → Shared → Prop := fun j s' => ∃ (Hj : Hp) (ks : List Value) (n : Nat), Same H Hj ∧ ks.length = j ∧ Ks kz ks ∧ Hj D = none ∧ Hj kS = none ∧ s'.heap.get? D = some (seqObj "list" #[] e1) ∧ s'.heap.get? kS = some (seqObj "list" ks.toArray n) ∧ Inv X pins σ Hj s'
  have hDn : H D = none := I.hok.fresh (by omega)
  have hKn : H kS = none := I.hok.fresh (by omega)
  have pinned : ∀ {Hj : Hp} {s' : Shared} {o1 o2 : Obj}, Hj D = none → Hj kS = none → s'.heap.get? D = some o1 → s'.heap.get? kS = some o2 → (∀ v, o1.data ≠ .cell v) → (∀ v, o2.data ≠ .cell v) → Inv X pins σ Hj s' → Inv X ((D, o1) :: (kS, o2) :: pins) σ Hj s' := fun {Hj s' o1 o2} h1 h2 h3 h4 h5 h6 J => by
    refine J.pins_of fun p hp => ?_
    rcases List.mem_cons.mp hp with rfl | hp
    · exact ⟨h3, h1, d2, d5, h5⟩
    rcases List.mem_cons.mp hp with rfl | hp
    · exact ⟨h4, h2, k2, k5, h6⟩
    · exact J.pin p (List.mem_append_right _ hp)
  have unpin : ∀ {Hj : Hp} {s' : Shared} {p1 p2 : Addr × Obj}, Inv X (p1 :: p2 :: pins) σ Hj s' → Inv X pins σ Hj s' := fun {Hj s' p1 p2} J => J.pins_of fun p hp => J.pin p (List.mem_append_right _ (List.mem_cons_of_mem _ (List.mem_cons_of_mem _ hp)))
  have IB : Inv X pins σ H { s with heap := hB } := I.kept (t' := s.toks) keepB
  unfold ksk_rest
  refine wpAny_bind (wpAny_rule ?_)
  rw [List.forIn_toArray]
  refine wpAny_bind (ksk_fold J vs 0 _ ⟨H, [], 0, Same.refl H, rfl, fun i hi => absurd hi (Nat.not_lt_zero _), hDn, hKn, hoD, hoK, IB⟩ (fun j u s1 hj hJ => ?_) fun s1 hJ => ?_)
  · obtain ⟨Hj, ks, n, sm, hlen, hks, nD, nK, hD, hK, IJ⟩ := hJ
    have hlen : ks.length = j := by omega
    have hjl : j < vs.length := (List.getElem?_eq_some_iff.mp hj).1
    have hjx : j < xs.length := by omega
    have ru : RelV xs[j] u := by
      obtain ⟨u', e, q⟩ := rv.get (List.getElem?_eq_getElem hjx)
      rw [hj] at e
      cases e
      exact q
    refine wpAny_bind (wpAny_attempt ?_)
    have IP := pinned nD nK hD hK (fun v z => nomatch z) (fun v z => nomatch z) IJ
    refine wpAny_mono (hkey _ Hj s1 j u xs[j] sm IP (List.getElem?_eq_getElem hjx) ru) (fun r s2 hr => ?_) (fun _ _ h => h.elim)
    obtain ⟨t, H2, rfl, sm2, I2⟩ := hr
    have pD := I2.pin (D, seqObj "list" #[] e1) (List.mem_append_right _ List.mem_cons_self)
    have pK := I2.pin (kS, seqObj "list" ks.toArray n) (List.mem_append_right _ (List.mem_cons_of_mem _ List.mem_cons_self))
    have I3 := unpin I2
    refine wpAny_bind (listUpdate_at pK.1 rfl ?_ (by show ks.toArray.size ≤ _; rw [List.size_toArray]; omega) (by show (ks.toArray.push _).size ≤ _; rw [Array.size_push, List.size_toArray]; omega))
    obtain ⟨n', hn'⟩ : ∃ n', (s2.heap.update kS (Obj.mapSeq fun x => x.push (Value.int (kz.getD j 0) t))).get? kS = some (seqObj "list" (ks ++ [Value.int (kz.getD j 0) t]).toArray n') := by
      have := get?_update_seq pK.1 (fun a => a.push (Value.int (kz.getD j 0) t))
      rw [show ks.toArray.push (Value.int (kz.getD j 0) t) = (ks ++ [Value.int (kz.getD j 0) t]).toArray by simp] at this
      exact ⟨_, this⟩
    refine wpAny_pure ⟨rfl, H2, ks ++ [.int (kz.getD j 0) t], n', sm.trans sm2, by rw [List.length_append, hlen]; show j + 1 = 0 + j + 1; omega, fun i hi => ?_, pD.2.1, pK.2.1, ?_, ?_, ?_⟩
    · by_cases hij : i < ks.length
      · obtain ⟨t', e⟩ := hks i hij
        exact ⟨t', by rw [List.getElem?_append_left hij]; exact e⟩
      · rw [List.length_append, List.length_singleton] at hi
        have : i = j := by omega
        subst this
        exact ⟨t, by rw [List.getElem?_append_right (by omega), hlen]; simp⟩
    · exact (Heap.get?_update_other _ _ nDK.symm).trans pD.1
    · exact hn'
    · exact I3.turned (t' := s2.toks) (it := kS) (fun b o hb e => (Heap.get?_update_other _ _ (Ne.symm hb)).trans e) pK.2.1 k2 (.inr k1) k3 k4
  · obtain ⟨Hj, ks, n, sm, hlen, hks, nD, nK, hD, hK, IJ⟩ := hJ
    have hlen : ks.length = vs.length := by omega
    refine wpAny_bind (listItems_at hK rfl ?_)
    have ia : IntsAre ks kz := ints_of hks (by omega)
    have hksz : ks.toArray.size = vs.length := by rw [List.size_toArray]; exact hlen
    have fin : ∀ (st : SortSt) (ol : List Nat), failedOf st = none → ol.Perm (List.range vs.length) → Srt (ltZ kz) ol → ((arrOf st).map (·.2)).toList = ol.map (fun i => vs.getD i Value.none) → wpAny (model X.prog X.w) X.A.in1.in1 (ksk_tail D false e1 (.ref kS) st) (fun fin s' => ∃ v, fin = Fin.done (Flow.ret v) ∧ wpAny (model X.prog X.w) X.A.in1 (ret (.ref D)) (fun fin s' => ∃ v, fin = Fin.done (Flow.ret v) ∧ ∃ D ys H1, v = .ref D ∧ SrtBy kz xs ys ∧ Same H H1 ∧ H1 D = none ∧ Inv X pins σ (upd H1 D (.lst ys)) s') E s') E s1 := fun st ol hf pm sr eo => by
      have ols : ol.length = vs.length := by rw [pm.length_eq, List.length_range]
      have osz : ((arrOf st).map (·.2)).size = vs.length := by
        rw [← Array.length_toList, eo, List.length_map]
        exact ols
      unfold ksk_tail
      refine wpAny_bind (listUpdate_at hK rfl ?_ (by show ks.toArray.size ≤ _; omega) (Nat.zero_le _))
      refine wpAny_bind (wpAny_letGo ?_)
      have hD2 : (s1.heap.update kS (Obj.mapSeq fun _ => #[])).get? D = some (seqObj "list" #[] e1) := (Heap.get?_update_other _ _ nDK.symm).trans hD
      refine wpAny_bind (seqEpoch_at hD2 rfl ?_)
      refine wpAny_bind (listUpdate_at hD2 rfl ?_ (Nat.zero_le _) (by
        simp only [Bool.false_eq_true, if_false]
        rw [osz]
        omega))
      rw [hf]
      simp only [bne_self_eq_false, Bool.false_eq_true, if_false]
      refine wpAny_pure ⟨_, rfl, wpAny_pure ⟨_, rfl, D, ol.map (fun i => xs.getD i .non), Hj, rfl, ⟨ol, by rw [hxv]; exact pm, sr, rfl⟩, sm, nD, ?_⟩⟩
      obtain ⟨n', hoe⟩ : ∃ n', ((s1.heap.update kS (Obj.mapSeq fun _ => #[])).update D (Obj.mapSeq fun _ => (arrOf st).map (·.2))).get? D = some (seqObj "list" ((arrOf st).map (·.2)) n') := ⟨_, get?_update_seq hD2 (fun _ => (arrOf st).map (·.2))⟩
      refine IJ.adopt (t' := s1.toks) d1 k1 nD nK d2 k2 (fun x c e => ⟨d3 x c e, k3 x c e⟩) (fun p hp => ⟨d4 p hp, k4 p hp⟩) (fun b u hb hb2 e => (Heap.get?_update_other _ _ (Ne.symm hb)).trans ((Heap.get?_update_other _ _ (Ne.symm hb2)).trans e)) ⟨by rw [List.length_map, ols]; omega, ol.map (fun i => vs.getD i .none), n', vals_map rv fun i hi => ?_, ?_⟩
      · rw [hxv]
        exact List.mem_range.mp (pm.mem_iff.mp hi)
      · rw [← eo, Array.toArray_toList]
        exact hoe
    unfold ksk_end
    dsimp only
    simp only [Bool.false_eq_true, if_false]
    by_cases h2 : vs.toArray.size < 2
    · rw [if_pos h2, if_pos h2]
      refine wpAny_bind (wpAny_pure ?_)
      rw [StateT.run_pure]
      refine wpAny_bind (wpAny_pure ?_)
      rw [List.size_toArray] at h2
      have e : ((ks.toArray.zip vs.toArray).map (·.2)).toList = vs := by
        simp only [List.zip_toArray, List.map_toArray]
        exact List.map_snd_zip (by omega)
      refine fin (SortSt.mk' general' (ks.toArray.zip vs.toArray) #[] 7 none) (List.range vs.length) rfl (.refl _) ?_ ?_
      · match vs, h2 with
        | [], _ => exact .nil
        | [v], _ => exact List.pairwise_singleton _ _
      · show ((ks.toArray.zip vs.toArray).map (·.2)).toList = _
        rw [e]
        apply List.ext_getElem (by simp)
        intro i a b
        simp [a]
    · rw [if_neg h2, if_neg h2]
      rw [List.size_toArray] at h2
      rw [ksk_kind (kz := kz) (by simpa using ia) (by omega)]
      refine wpAny_bind (wpAny_pure ?_)
      have est : SortSt.mk' oneType' (ks.toArray.zip vs.toArray) #[] 7 none = SortSt.mk' oneType' (Lk (ks.toArray.zip vs.toArray) (List.range vs.length)) #[] 7 none := by
        have e := kas_range (ks.toArray.zip vs.toArray)
        rw [show (ks.toArray.zip vs.toArray).size = vs.length by simp; omega] at e
        have e2 : Lk (ks.toArray.zip vs.toArray) (List.range vs.length) = ks.toArray.zip vs.toArray := by
          refine Eq.trans ?_ e
          unfold Lk
          rw [List.map_toArray]
        rw [e2]
      rw [est]
      have lo : LtOk X.prog X.w X.A.in1.in1 (fun s' => s' = s1) oneType' (ks.toArray.zip vs.toArray) (ltZ kz) vs.length := by
        rintro i j hi hj s' rfl
        rw [show (kas_item (ks.toArray.zip vs.toArray) i).1 = ks.getD i Value.none by rw [kat_item hlen], show (kas_item (ks.toArray.zip vs.toArray) j).1 = ks.getD j Value.none by rw [kat_item hlen], keyLt'_oneType]
        obtain ⟨t1, q1⟩ := hks i (by omega)
        obtain ⟨t2, q2⟩ := hks j (by omega)
        rw [List.getD_eq_getElem?_getD, List.getD_eq_getElem?_getD, q1, q2]
        exact oneLt_int ⟨rfl, rfl⟩
      refine wpAny_bind (wpAny_mono (SW.sortRuns (E := E) lo (ltZ_wo kz) (Q := fun _ st' => failedOf st' = none ∧ ∃ ol : List Nat, ol.Perm (List.range vs.length) ∧ Srt (ltZ kz) ol ∧ ((arrOf st').map (·.2)).toList = ol.map (fun i => vs.getD i Value.none)) (fun ol pd g pm sr => ⟨rfl, ol, pm, sr, ?_⟩) (by omega) _ rfl) ?_ fun _ _ e => e)
      · show ((Lk (ks.toArray.zip vs.toArray) ol).map (·.2)).toList = _
        unfold Lk
        rw [List.map_toArray, List.toList_toArray, List.map_map]
        exact List.map_congr_left fun i _ => by show (kas_item (ks.toArray.zip vs.toArray) i).2 = _; rw [kat_item hlen]
      · rintro ⟨⟨⟩, st'⟩ s' ⟨⟨hf, ol, pm, sr, eo⟩, rfl⟩
        exact fin st' ol hf pm sr eo
end
end L2
end
section
set_option autoImplicit false
namespace L2
open PySem PySem.Spec PyProof.Rows PySem.W
theorem cwB_kw {M : Model} {A : Around} {E : Value → Shared → Prop} {s : Shared} {pos : Pos} {id : String} {args : List (Bool × Sem Value)} {keywords : List (Option Str × Sem Value)} {Q : Value → Shared → Prop} (hp : args.any (·.1) = false) (hk : keywords.any (·.1.isNone) = false)
    (h : wpAny M A (evalArgs (.builtin id) true args keywords) (fun a s₁ => wpAny M A (call (.builtin id) a.pos a.kw) Q E s₁) E s) : wpAny M A (callWith pos (.builtin id) [] args keywords) Q E s := by
  unfold callWith
  refine wpAny_bind (wpAny_holding (wpAny_mono h (fun a s1 h1 => wpAny_bind (wpAny_standAt ?_)) fun _ _ x => x))
  simp only [hk, hp, Bool.or_false]
  exact wpAny_bind (wpAny_pure (wpAny_bind (wpAny_mono h1 (fun r s2 hr => wpAny_bind (wpAny_holding (wpAny_point (wpAny_pure hr)))) fun _ _ x => x)))
theorem cwB_kw1 {M : Model} {A : Around} {E : Value → Shared → Prop} {s : Shared} {env : Env} {pos kp : Pos} {id : String} {a v : Expr} {k : Str} {Q : Value → Shared → Prop}
    (h : wpAny M A (spliced (backTo pos (starEach [a] env))) (fun vs s1 => wpAny M A (eval v env) (fun u s2 => wpAny M A (call (.builtin id) vs [(k, u)]) Q E s2) E s1) E s)
    (he : starEach [a] env = (false, eval a env) :: starEach [] env) (hp : (backTo pos (starEach [a] env)).any (·.1) = false) :
    wpAny M A (callWith pos (.builtin id) [] (backTo pos (starEach [a] env)) (backToKw pos (keywordEach [⟨some k, v, kp⟩] env))) Q E s := by
  refine cwB_kw hp rfl ?_
  rw [he] at h ⊢
  refine evalArgs_kwB rfl (thn h fun vs s1 h1 => kws_cons (thn h1 fun u s2 h2 => kws_nil ?_))
  exact h2
section
variable {X : Cx}
def tSortK (X : Cx) (tA : TA) (tl t : TE) (qual : Str) (params : Arguments) (body : Expr) (scope : Scope) (cl : List (Str × Addr)) (fr : List Nat) : TE := fun σ H Q =>
  tA σ H fun vs H1 => tl σ H1 fun y H2 => ∃ (l f : Addr) (xs : List V) (kz : List Int), vs = [.ref l] ∧ y = .ref f ∧ SqL X.K H2 l xs ∧ LamAt H2 f qual params body scope cl ∧ kz.length = xs.length ∧
    (∀ (i : Nat) (v : V), xs[i]? = some v → ∀ H3, Same H2 H3 → t (some v :: frv σ fr) H3 fun k H4 => k = .int (kz.getD i 0) ∧ Same H3 H4) ∧
    ∀ (d : Addr) (ys : List V) H3, SrtBy kz xs ys → Same H2 H3 → H3 d = none → Q (.ref d) (upd H3 d (.lst ys))
theorem pe_sortK {params : Arguments} {body a lam : Expr} {scope : Scope} {pos kp p : Pos} {tA : TA} {tl t : TE} {qual x : Str} {fr : List Nat} {N : List Str} {k : Nat} (hr : Room k X.A) (S : LamScope X scope x fr N)
    (hb : ∀ pm c ctv u, bindArgs (PySem.W.kla_fn "<lambda>" qual params body scope (clo X.env.cells scope.names []) pm (.ref c) ctv) ⟨[u], []⟩ = pure [(x, u)])
    (hbody : ∀ (A : Around) (f c : Addr) (s : Shared) (H : Hp), PE (cxLam X A qual scope f (.ref c) (clo X.env.cells scope.names []) N s H) body t)
    (hg : Gl X "sorted") (hm : X.mg "sorted" = none) (ha : PA X [a] tA) (hl : PE X lam tl)
    (he : starEach [a] X.env = (false, eval a X.env) :: starEach [] X.env := by rfl) (hp : (backTo pos (starEach [a] X.env)).any (·.1) = false := by rfl) :
    PE X (.Call (.Name "sorted" p) [a] [⟨some "key", lam, kp⟩] pos) (tSortK X tA tl t qual params body scope (clo X.env.cells scope.names []) fr) := by
  intro pins s σ H Q I h
  refine wpAny_Call_Name_kw (ld_blt I hg hm (show bootBuiltins "sorted" = some (.builtin "sorted") by decide +kernel) ?_ (by decide) (by decide))
  refine cwB_kw1 (thn (ha pos pins s σ H _ I h) fun us s1 hs => ?_) he hp
  obtain ⟨vs, H1, I1, r1, q1⟩ := hs
  refine thn (hl pins s1 σ H1 _ I1 q1) fun u2 s2 hs2 => ?_
  obtain ⟨y, H2, I2, r2, l, f, xs, kz, rfl, rfl, hS, hL, hkz, hkey, hQ⟩ := hs2
  obtain ⟨u, rfl, ru⟩ := vals1 r1
  cases ru
  cases (show u2 = Value.ref f from r2)
  obtain ⟨its, rv, pl, hz⟩ := I2.list hS
  obtain ⟨pm, c, ctv, hLf, hLc⟩ := hL
  refine wpAny_mono (sorted_key (E := X.xe) I2 pl.isList rv (by rw [← rv.length]; exact hz) hkz fun pins' H3 s3 i u v sm I3 hv ru => ?_) (fun r s' hr => ?_) fun _ _ e => e
  · have fo : s3.heap.get? f = some (PySem.W.kla_obj "<lambda>" qual params body scope (clo X.env.cells scope.names []) pm c ctv) := (I3.hok f _ (sm f _ hLf)).1
    have fc : s3.heap.CodeRec (.ref c) qual := (I3.hok c _ (sm c _ hLc)).1
    refine wpAny_call (codeAny_mono (lam_run S I3 fo fc ?_ ?_ ?_ (hb _ _ _ _) ru (hbody _ _ _ _ _) (hkey i v hv H3 sm)) fun r s' hs => ?_)
    · exact I3.env0.in1.in1.frames
    · exact hr.hd
    · exact hr.depth
    · obtain ⟨v', u', H', rfl, I', r', rfl, sm'⟩ := hs
      obtain ⟨t', rfl⟩ := r'
      exact ⟨t', H', rfl, sm', I'⟩
  · obtain ⟨D, ys, H3, rfl, srt, sm, nD, I3⟩ := hr
    exact ⟨.ref D, _, I3, rfl, hQ D ys H3 srt sm nD⟩
end
end L2
end
section
set_option autoImplicit false
namespace L2
open PySem PySem.Spec PyProof.Rows
def LSc (scX : Scope) (N0 : List Str) (scope : Scope) (x : Str) (fr : List Nat) (N : List Str) : Prop :=
  CSc scX N0 scope [x] fr N ∧ scope.isCoroutine = false ∧ scope.isGenerator = false ∧ (∀ y ∈ scope.names, y.2 ≠ .cell) ∧ scope.names.lookup x = some .local
instance (scX : Scope) (N0 : List Str) (scope : Scope) (x : Str) (fr : List Nat) (N : List Str) : Decidable (LSc scX N0 scope x fr N) := by
  unfold LSc
  infer_instance
theorem LamScope.of {X : Cx} {scope : Scope} (x : Str) (fr : List Nat) (N : List Str) (scX : Scope) (N0 : List Str) (hsc : X.env.scope = scX) (hN : X.N = N0) (h : LSc scX N0 scope x fr N) : LamScope X scope x fr N := by
  have C := CompScope.of [x] fr N scX N0 hsc hN h.1
  refine ⟨C.kind, h.2.1, h.2.2.1, h.2.2.2.1, C.free, by rw [C.len]; exact Nat.add_comm _ _, fun j i e => ?_, h.2.2.2.2, ?_⟩
  · obtain ⟨y, e1, e2, e3⟩ := C.isfr j i e
    exact ⟨y, by rw [show j + 1 = [x].length + j from Nat.add_comm _ _]; exact e1, e2, e3⟩
  · have h0 : 0 < N.length := by rw [C.len]; exact Nat.lt_of_lt_of_le Nat.zero_lt_one (Nat.le_add_right _ _)
    have := C.frs 0 N[0] (List.getElem?_eq_getElem h0) Nat.zero_lt_one
    rw [List.getElem?_eq_getElem h0, ← (show x = N[0] from by simpa using this)]
theorem Fun.okC {P : Program} {w : World} {K : PySem.W.Frag} {mg : Str → Option Value} {base : Heap} {x qual : Str} {st : Stmt} {f : Addr} {fd : FuncData} {N ps : List Str} {k : Nat} {sp : Sp} (F : Fun K x qual st f fd) (S : FnScope N ps (defScope st)) (len : ∀ vs H Q E, sp vs H Q E → vs.length = ps.length)
    (hbody : ∀ (cdv : Value) (A : Around) (outer : List Env) (s : Shared) (H : Hp) (vs : List V) (Q : VK) (E : XK), cdv = fd.code → Room k (A.deeper (envOfC qual (defScope st) s.heap.objs.size f cdv)) → sp vs H Q E →
      ∃ t, PSs (cxOf CX0 P w K mg base N qual (defScope st) f cdv A outer s H E).nox (defBody st) t ∧ t { nx := fun _ H' => Q .non H', rt := Q } (start N vs) H) : FnOk P w K mg base CX0 (k + 1) f fd ps sp := by
  obtain ⟨oc, od, kV, doc, pm, an, cdv, ct, osl, rfl, lk, hcd⟩ := F.ex
  refine fn_of lk hcd S len fun A outer s H vs Q E hr hsp => ?_
  obtain ⟨t, h, q⟩ := hbody cdv A outer s H vs Q E rfl hr hsp
  exact ⟨t, h.nox, q⟩
section
variable {X : Cx}
theorem pe_sortL {P : Addr} {params : Arguments} {body a : Expr} {scope : Scope} {pos kp p lpos : Pos} {tA : TA} {t : TE} {x : Str} {fr : List Nat} {N : List Str} {k : Nat} (B : Bm X.mg X.base) (C : Cdh X.K X.env.code P) (hr : Room k X.A) (S : LamScope X scope x fr N)
    (hb : ∀ pm c ctv u, bindArgs (PySem.W.kla_fn "<lambda>" (X.env.qual ++ Str.ofString "<lambda>") params body scope (clo X.env.cells scope.names []) pm (.ref c) ctv) ⟨[u], []⟩ = pure [(x, u)])
    (hbody : ∀ (A : Around) (f c : Addr) (s : Shared) (H : Hp), PE (cxLam X A (X.env.qual ++ Str.ofString "<lambda>") scope f (.ref c) (clo X.env.cells scope.names []) N s H) body t)
    (hg : Gl X "sorted") (hm : X.mg "sorted" = none) (ha : PA X [a] tA) (hdf : defaultsOf params X.env = ([], []) := by rfl)
    (he : starEach [a] X.env = (false, eval a X.env) :: starEach [] X.env := by rfl) (hp : (backTo pos (starEach [a] X.env)).any (·.1) = false := by rfl) :
    PE X (.Call (.Name "sorted" p) [a] [⟨some "key", .Lambda params body scope lpos, kp⟩] pos) (tSortK X tA (tLam P lpos (X.env.qual ++ Str.ofString "<lambda>") params body scope (clo X.env.cells scope.names [])) t (X.env.qual ++ Str.ofString "<lambda>") params body scope (clo X.env.cells scope.names []) fr) :=
  pe_sortK hr S hb hbody hg hm ha (pe_lam B C S.free hdf) he hp
end
end L2
end
section
set_option autoImplicit false
namespace K21
open PySem PyProof.Rows L2
def lenAt (ss : List Sto) (j : Nat) : Nat := (ss.getD j []).length
def rowT (ss : List Sto) (k : Nat) : List (Nat × Nat) := ((List.range ss.length).filter fun j => decide (k < lenAt ss j)).map fun j => (k, j)
def baseT (ss : List Sto) (n : Nat) : List (Nat × Nat) := (List.range n).flatMap (rowT ss)
structure Turns (ss : List Sto) (ts : List (Nat × Nat)) : Prop where
  inn : ∀ x ∈ ts, x.2 < ss.length ∧ x.1 < lenAt ss x.2
  all : ∀ k j, j < ss.length → k < lenAt ss j → (k, j) ∈ ts
  pre : ∀ (i k j : Nat), ts[i]? = some (k + 1, j) → ∃ i', i' < i ∧ ts[i']? = some (k, j)
theorem mem_rowT {ss : List Sto} {k : Nat} {x : Nat × Nat} : x ∈ rowT ss k ↔ x.1 = k ∧ x.2 < ss.length ∧ k < lenAt ss x.2 := by
  unfold rowT
  rw [List.mem_map]
  constructor
  · rintro ⟨j, hj, rfl⟩
    obtain ⟨h1, h2⟩ := List.mem_filter.mp hj
    exact ⟨rfl, List.mem_range.mp h1, of_decide_eq_true h2⟩
  · rintro ⟨h1, h2, h3⟩
    exact ⟨x.2, List.mem_filter.mpr ⟨List.mem_range.mpr h2, decide_eq_true h3⟩, by rw [← h1]⟩
theorem mem_baseT {ss : List Sto} {n : Nat} {x : Nat × Nat} : x ∈ baseT ss n ↔ x.1 < n ∧ x.2 < ss.length ∧ x.1 < lenAt ss x.2 := by
  unfold baseT
  rw [List.mem_flatMap]
  constructor
  · rintro ⟨k, hk, hx⟩
    obtain ⟨h1, h2, h3⟩ := mem_rowT.mp hx
    rw [h1]
    exact ⟨List.mem_range.mp hk, h2, h3⟩
  · rintro ⟨h1, h2, h3⟩
    exact ⟨x.1, List.mem_range.mpr h1, mem_rowT.mpr ⟨rfl, h2, h3⟩⟩
theorem baseT_succ (ss : List Sto) (n : Nat) : baseT ss (n + 1) = baseT ss n ++ rowT ss n := by
  unfold baseT
  rw [List.range_succ, List.flatMap_append]
  simp
theorem lenAt_le {ss : List Sto} (h : ∀ s ∈ ss, s.length ≤ 16) (j : Nat) : lenAt ss j ≤ 16 := by
  unfold lenAt
  rw [List.getD_eq_getElem?_getD]
  cases q : ss[j]? with
  | none => exact Nat.zero_le _
  | some s => exact h s (List.mem_of_getElem? q)
theorem baseT_pre (ss : List Sto) : ∀ (n i k j : Nat), (baseT ss n)[i]? = some (k + 1, j) → ∃ i', i' < i ∧ (baseT ss n)[i']? = some (k, j)
  | 0, i, k, j, h => by simp [baseT] at h
  | n + 1, i, k, j, h => by
    rw [baseT_succ] at h ⊢
    by_cases hi : i < (baseT ss n).length
    · rw [List.getElem?_append_left hi] at h
      obtain ⟨i', h1, h2⟩ := baseT_pre ss n i k j h
      exact ⟨i', h1, by rw [List.getElem?_append_left (by omega)]; exact h2⟩
    · rw [List.getElem?_append_right (by omega)] at h
      obtain ⟨e1, e2, e3⟩ := mem_rowT.mp (List.mem_of_getElem? h)
      have e1 : k + 1 = n := e1
      have : (k, j) ∈ baseT ss n := mem_baseT.mpr ⟨by show k < n; omega, e2, by show k < lenAt ss j; have : n < lenAt ss j := e3; omega⟩
      obtain ⟨i', hi', e⟩ := List.mem_iff_getElem.mp this
      exact ⟨i', by omega, by rw [List.getElem?_append_left hi', List.getElem?_eq_getElem hi', e]⟩
theorem baseT_turns {ss : List Sto} (h : ∀ s ∈ ss, s.length ≤ 16) : Turns ss (baseT ss 16) :=
  ⟨fun x hx => (mem_baseT.mp hx).2, fun k j hj hk => mem_baseT.mpr ⟨by have := lenAt_le h j; show k < 16; omega, hj, hk⟩, fun i k j => baseT_pre ss 16 i k j⟩
theorem rowT_len (ss : List Sto) (k : Nat) : (rowT ss k).length ≤ ss.length := by
  unfold rowT
  rw [List.length_map]
  refine Nat.le_trans (List.length_filter_le _ _) ?_
  rw [List.length_range]
  exact Nat.le_refl _
theorem turns_sort {ss : List Sto} {L : List (Nat × Nat)} {kz : List Int} {c : Int} {il : List Nat} (T : Turns ss L) (hk : ∀ i (h : i < L.length), kz.getD i 0 = (L[i].2 : Int) * c) (pm : il.Perm (List.range L.length)) (sr : Srt (ltZ kz) il) : Turns ss (il.map fun i => L.getD i (0, 0)) := by
  have hil : ∀ i ∈ il, i < L.length := fun i hi => List.mem_range.mp (pm.mem_iff.mp hi)
  have at' : ∀ {i : Nat}, i < L.length → L.getD i (0, 0) ∈ L := fun {i} h => by
    rw [List.getD_eq_getElem?_getD, List.getElem?_eq_getElem h]
    exact List.getElem_mem h
  refine ⟨fun x hx => ?_, fun k j hj hk' => ?_, fun b k j hb => ?_⟩
  · obtain ⟨i, hi, rfl⟩ := List.mem_map.mp hx
    exact T.inn _ (at' (hil i hi))
  · obtain ⟨i, hi, e⟩ := List.mem_iff_getElem.mp (T.all k j hj hk')
    refine List.mem_map.mpr ⟨i, pm.mem_iff.mpr (List.mem_range.mpr hi), ?_⟩
    rw [List.getD_eq_getElem?_getD, List.getElem?_eq_getElem hi, e]
    rfl
  · rw [List.getElem?_map] at hb
    cases eb : il[b]? with
    | none => rw [eb] at hb; cases hb
    | some ib =>
      rw [eb] at hb
      have hb : L.getD ib (0, 0) = (k + 1, j) := Option.some.inj hb
      have hibL := hil ib (List.mem_of_getElem? eb)
      have hb' : L[ib]? = some (k + 1, j) := by
        rw [List.getElem?_eq_getElem hibL]
        rw [List.getD_eq_getElem?_getD, List.getElem?_eq_getElem hibL] at hb
        exact congrArg some hb
      obtain ⟨i', lt, e'⟩ := T.pre ib k j hb'
      have hi'L : i' < L.length := (List.getElem?_eq_some_iff.mp e').1
      obtain ⟨a, ha, ea⟩ := List.mem_iff_getElem.mp (pm.mem_iff.mpr (List.mem_range.mpr hi'L))
      have hbl : b < il.length := (List.getElem?_eq_some_iff.mp eb).1
      have ebv : il[b] = ib := (List.getElem?_eq_some_iff.mp eb).2
      have key : ∀ i h v, L[i]? = some (v, j) → kz.getD i 0 = (j : Int) * c := fun i h v e => by
        rw [hk i h]
        rw [List.getElem?_eq_getElem h] at e
        rw [Option.some.inj e]
      have k1 := key ib hibL _ hb'
      have k2 := key i' hi'L _ e'
      have ab : a < b := by
        rcases Nat.lt_trichotomy a b with z | z | z
        · exact z
        · subst z
          rw [ea] at ebv
          omega
        · exfalso
          have := List.pairwise_iff_getElem.mp sr b a hbl ha z
          rw [ebv, ea] at this
          rcases this with q | ⟨_, q⟩
          · have := of_decide_eq_true q
            rw [k1, k2] at this
            omega
          · omega
      refine ⟨a, ab, ?_⟩
      rw [List.getElem?_map, List.getElem?_eq_getElem ha, ea]
      show some (L.getD i' (0, 0)) = _
      rw [List.getD_eq_getElem?_getD, e']
      rfl
end K21
end
section
set_option autoImplicit false
namespace K21
open PySem PyProof.Rows L2
def PrA (H : Hp) (ps : List (Addr × Nat × Nat)) : Prop := ∀ p ∈ ps, H p.1 = some (.tup [.int (p.2.1 : Nat), .int (p.2.2 : Nat)])
theorem PrA.mono {H H' : Hp} {ps : List (Addr × Nat × Nat)} (h : PrA H ps) (t : Tups H H') : PrA H' ps := fun p hp => t _ _ (h p hp)
theorem PrA.append {H : Hp} {ps qs : List (Addr × Nat × Nat)} (h : PrA H ps) (g : PrA H qs) : PrA H (ps ++ qs) := fun p hp => by
  rcases List.mem_append.mp hp with z | z
  · exact h p z
  · exact g p z
theorem off_tups {P : Addr} {H H' : Hp} (o : L2.Off P H H') {ps : Array Value} (h : H P = some (.tbl ps)) : Tups H H' := fun c zs e => o c _ (ne_of e h fun z => nomatch z) e
section
variable {P : Program} {w : World} {K : PySem.W.Frag} {mg : Str → Option Value} {base : Heap} {t : Adr} {pt : Addr}
def spTurns (pt : Addr) : Sp := fun vs H Q _ => ∃ (way : Int) (l : Addr) (ys : List V) (ss : List Sto), vs = [.int way, .ref l] ∧ (way = 0 ∨ way = 1 ∨ way = 2) ∧ H l = some (.lst ys) ∧ DpL H (ss.map stT) ys ∧ ss.length ≤ 12 ∧ (∀ s ∈ ss, s.length ≤ 16) ∧ H pt = some (.tbl #[]) ∧
  ∀ (d : Addr) (ps : List (Addr × Nat × Nat)) H', H' d = some (.lst (ps.map fun p => .ref p.1)) → PrA H' ps → Turns ss (ps.map (·.2)) → ps.length ≤ 200 → H d = none → L2.Off pt H H' → Q (.ref d) H'
theorem ok_turns (D : Defs K mg t) (BM : Bm mg base) (CT0 : Cdh K t._law_turns.2.code pt) : FnOk P w K mg base CX0 1 t._law_turns.1 t._law_turns.2 ["_law_way", "_law_stories"] (spTurns pt) := by
  have hz : sizeLine = 16777216 := sizeLine_eq
  refine D._law_turns.fn.okC sc__law_turns (fun vs H Q E h => ?_) (fun cdv A outer s H vs Q E ec hr h => ?_)
  · obtain ⟨way, l, ys, ss, rfl, _⟩ := h
    rfl
  · obtain ⟨way, l, ys, ss, rfl, hw, hl, dys, sl, s16, hP, k⟩ := h
    have CT : Cdh K cdv pt := by rw [ec]; exact CT0
    have hyl : ys.length = ss.length := by have := dys.length; rwa [List.length_map] at this
    refine ⟨_, (pss_cons (ps_set (i := 2) sc__law_turns.nd rfl (Or.inl rfl) (pe_lst pa_nil))
      (pss_cons (ps_for PassesOwn.never rfl (pi_range1 rfl D.b_range (pa_cons pe_int pa_nil)) (pg_name (i := 3) sc__law_turns.nd rfl (Or.inr rfl))
      (pss_one (ps_set (i := 2) sc__law_turns.nd rfl (Or.inl rfl) (pe_op op_cat (pv 2) (pe_comp rfl (CompScope.of ["_law_j"] [3, 1] ["_law_j", "_law_k", "_law_stories"] (defScope (top 22)) ["_law_way", "_law_stories", "_law_turns_here", "_law_k"] rfl rfl (by decide +kernel)) ⟨fun _ _ _ _ _ => (pg_name (i := 0) (show List.Nodup [("_law_j" : Str), ("_law_k" : Str), ("_law_stories" : Str)] by decide +kernel) rfl (Or.inl (lookup_relabel_local rfl)) (.inr (lookup_relabel_local rfl))), fun _ _ _ _ _ => (pts_one (pt_cmpR op_lt (pv 1) (pe_callB (call_len_seqK (K := K) rfl) (by rfl) D.b_len bt_len (pa_cons (pe_ix (ix_list_K (K := K) rfl) (pv 2) (pv 0) (fun _ _ => rfl)) pa_nil)) (nomark _))), fun _ _ _ _ _ => (pe_tup (pa_cons (pv 1) (pa_cons (pv 0) pa_nil)))⟩ (pi_range1 rfl D.b_range (pa_cons (pe_callB call_len_seq (by rfl) D.b_len bt_len (pa_cons (pv 1) pa_nil)) pa_nil)))))))
      (pss_cons (ps_if (pt_cmpR op_eq (pv 0) pe_int (nomark _))
      (pss_one (ps_ret (pv 2)))
      pss_nil)
      (pss_one (ps_ret (pe_sortL BM CT hr (LamScope.of "_law_turn" [0] ["_law_turn", "_law_way"] (defScope (top 22)) ["_law_way", "_law_stories", "_law_turns_here", "_law_k"] rfl rfl (by decide +kernel)) (fun _ _ _ _ => rfl) (fun _ _ _ _ _ => (pe_op op_mul (pe_ix (ix_tup_K (K := K) rfl) (pv 0) pe_int (fun _ _ => rfl)) (pe_ix (ix_list_K (K := K) rfl) (pe_lst (pa_cons pe_int (pa_cons (pe_un un_neg pe_int) pa_nil))) (pe_op op_sub (pv 1) pe_int) (fun _ _ => rfl)))) (by rfl) D.b_sorted (pa_cons (pv 2) pa_nil))))))), ?_⟩
    refine ⟨Nat.zero_le _, fun l0 hl0 => ?_⟩
    have s0 : Same H (upd H l0 (.lst [])) := Same.new hl0
    have t0 : (upd H l0 (.lst [])) l0 = some (.lst (([] : List (Addr × Nat × Nat)).map fun p => .ref p.1)) := upd_same
    generalize upd H l0 (.lst []) = H0 at s0 t0
    refine ⟨16, rfl, by decide, by decide, ?_⟩
    refine for_range (lo := 0) (n := 16) (fun i σ H2 => ∃ (lk : Addr) (ps : List (Addr × Nat × Nat)) (v3 : Option V), σ = [some (.int way), some (.ref l), some (.ref lk), v3] ∧ H2 lk = some (.lst (ps.map fun p => .ref p.1)) ∧ PrA H2 ps ∧ ps.map (·.2) = baseT ss i ∧ ps.length ≤ 12 * i ∧ H lk = none ∧ Same H H2)
      ⟨l0, [], _, rfl, t0, (fun p hp => nomatch hp), rfl, Nat.zero_le _, hl0, s0⟩ ?_ ?_
    · rintro i σ H2 hi ⟨lk, ps, v3, rfl, hlk, hps, eps, psl, hlkN, s2⟩
      have hl2 := s2 l _ hl
      have dys2 := dys.mono (Same.tups s2)
      refine ⟨_, rfl, _, rfl, l, ys, rfl, .inl (SqL.of hl2), _, rfl, by omega, by omega, fun D1 hD1 => ?_⟩
      refine comp_by (n := ys.length) (fun j zs H3 => ∃ qs : List (Addr × Nat × Nat), zs = qs.map (fun p => V.ref p.1) ∧ PrA H3 qs ∧ qs.map (·.2) = ((List.range j).filter fun j => decide (i < lenAt ss j)).map (fun j => (i, j)) ∧ H3 D1 = some (.lst zs) ∧ Same H2 H3)
        ⟨[], rfl, (fun p hp => nomatch hp), rfl, upd_same, Same.new hD1⟩ ?_ ?_
      · rintro zs H3 ⟨qs, rfl, pr, eq, hD3, s3⟩
        rw [hyl] at eq
        have ql : qs.length ≤ 12 := by
          have := rowT_len ss i
          have e := congrArg List.length eq
          rw [List.length_map] at e
          unfold rowT at this
          omega
        refine ⟨Nat.le_refl _, lk, D1, _, _, rfl, rfl, s3 lk _ hlk, hD3, by rw [List.length_map, List.length_map]; omega, fun q hq => ?_⟩
        have s4 : Same H3 (upd H3 q (.lst (ps.map (fun p => V.ref p.1) ++ qs.map fun p => V.ref p.1))) := Same.new hq
        refine ⟨q, ps ++ qs, _, rfl, by rw [upd_same, List.map_append], (hps.mono (Same.tups (s3.trans s4))).append (pr.mono (Same.tups s4)), ?_, by rw [List.length_append]; omega, (s2.trans s3).free hq, s2.trans (s3.trans s4)⟩
        rw [List.map_append, eps, eq, baseT_succ]
        rfl
      · rintro j zs H3 hj ⟨qs, rfl, pr, eq, hD3, s3⟩
        have hjs : j < ss.length := by omega
        refine ⟨hj, ?_⟩
        rintro x H4 ⟨rfl, rfl⟩ σo ho
        obtain ⟨oo, rfl⟩ := own1 ho
        obtain ⟨y, ey, dy⟩ := (dys2.mono (Same.tups s3)).get (i := j) (t := stT ss[j]) (by rw [List.getElem?_map, List.getElem?_eq_getElem hjs]; rfl)
        obtain ⟨qy, xs, rfl, hqy, dl⟩ := L2.Dp.of_tup dy
        have hxl : xs.length = ss[j].length := by have := dl.length; rwa [List.length_map] at this
        have elen : lenAt ss j = xs.length := by
          unfold lenAt
          rw [hxl, List.getD_eq_getElem?_getD, List.getElem?_eq_getElem hjs]
          rfl
        have ea : atI ys (0 + (j : Int)) = some (.ref qy) := by
          rw [Int.zero_add]
          exact atI_nat (j := j) ey
        refine ⟨⟨[_], rfl, rfl⟩, _, rfl, _, rfl, _, rfl, l, ys, _, _, rfl, rfl, SqL.of (s3 l _ hl2), ea, qy, xs, rfl, .inr (SqT.of hqy), _, _, rfl, rfl, _, rfl, ite2 (fun hb => ?_) (fun hb => ?_)⟩
        · have hb : i < lenAt ss j := by
            have := of_decide_eq_true hb
            omega
          refine ⟨_, rfl, _, rfl, by show 2 ≤ sizeLine; decide, fun q hq => ?_⟩
          have s5 : Same H4 (upd H4 q (.tup [.int (0 + (i : Int)), .int (0 + (j : Int))])) := Same.new hq
          have h5 : (upd H4 q (.tup [.int (0 + (i : Int)), .int (0 + (j : Int))])) q = some (.tup [.int (i : Nat), .int (j : Nat)]) := by rw [upd_same, Int.zero_add, Int.zero_add]
          generalize upd H4 q (.tup [.int (0 + (i : Int)), .int (0 + (j : Int))]) = H5 at s5 h5 ⊢
          have qD : q ≠ D1 := fun e => by rw [e, hD3] at hq; cases hq
          have ql : qs.length ≤ 12 := by
            have e := congrArg List.length eq
            rw [List.length_map, List.length_map] at e
            have := List.length_filter_le (fun j => decide (i < lenAt ss j)) (List.range j)
            rw [List.length_range] at this
            omega
          have tD : ∀ u, Tups H5 (upd H5 D1 (.lst u)) := fun u c zs e => by
            rw [upd_ne (ne_of e (s5 D1 _ hD3) fun z => nomatch z)]
            exact e
          refine ⟨by rw [List.length_map]; omega, s5 D1 _ hD3, less_by hj ⟨qs ++ [(q, i, j)], by rw [List.map_append]; rfl, ((pr.mono (Same.tups s5)).append fun p hp => by rw [List.mem_singleton.mp hp]; exact h5).mono (tD _), ?_, upd_same, fun b u e => ?_⟩⟩
          · rw [List.map_append, eq, List.range_succ, List.filter_append, List.map_append]
            congr 1
            rw [List.filter_cons, if_pos (decide_eq_true hb)]
            rfl
          · rw [upd_ne (ne_of_none e hD1)]
            exact s5 b u (s3 b u e)
        · have hb : ¬ i < lenAt ss j := fun h => hb (decide_eq_true (by omega))
          refine less_by hj ⟨qs, rfl, pr, ?_, hD3, s3⟩
          rw [eq, List.range_succ, List.filter_append]
          rw [show ([j].filter fun j => decide (i < lenAt ss j)) = [] by rw [List.filter_cons, if_neg (by simpa using hb)]; rfl, List.append_nil]
    · rintro σ H2 ⟨lk, ps, v3, rfl, hlk, hps, eps, psl, hlkN, s2⟩
      have T := baseT_turns s16
      rw [← eps] at T
      refine ⟨_, rfl, rfl, _, rfl, ite2 (fun hb => ?_) (fun hb => ?_)⟩
      · exact ⟨_, rfl, k lk ps H2 hlk hps T (by omega) hlkN s2.off⟩
      · have hw : way = 1 ∨ way = 2 := by
          rcases hw with e | e
          · exact absurd (decide_eq_true (by rw [e])) hb
          · exact e
        refine ⟨_, rfl, .inl (s2 pt _ hP), fun f H3 o3 tb lam fN => ?_⟩
        have hlk3 := o3 lk _ (fun e => by rw [e, s2 pt _ hP] at hlk; cases hlk) hlk
        have hps3 := hps.mono (off_tups o3 (s2 pt _ hP))
        obtain ⟨c, hc, hc1⟩ : ∃ c : Int, (c = 1 ∨ c = -1) ∧ atI [V.int 1, V.int (-1)] (way - 1) = some (.int c) := by
          rcases hw with rfl | rfl
          · exact ⟨1, .inl rfl, atI_nat (j := 0) rfl⟩
          · exact ⟨-1, .inr rfl, atI_nat (j := 1) rfl⟩
        refine ⟨lk, f, ps.map (fun p => .ref p.1), ps.map (fun p => ((p.2.2 : Nat) : Int) * c), rfl, rfl, SqL.of hlk3, lam, by rw [List.length_map, List.length_map], fun i v hv H4 s4 => ?_, fun d ys' H4 srt s4 nd => ?_⟩
        · rw [List.getElem?_map] at hv
          cases ei : ps[i]? with
          | none => rw [ei] at hv; cases hv
          | some p =>
            rw [ei] at hv
            cases hv
            have hp := s4 _ _ (hps3 p (List.mem_of_getElem? ei))
            have inn := T.inn p.2 (List.mem_map.mpr ⟨p, List.mem_of_getElem? ei, rfl⟩)
            refine ⟨_, rfl, p.1, _, _, _, rfl, rfl, SqT.of hp, atI_nat (j := 1) rfl, ?_⟩
            refine ⟨_, rfl, by show 2 ≤ sizeLine; decide, fun q hq => ⟨_, rfl, _, _, rfl, rfl, q, _, _, .int c, rfl, rfl, SqL.of upd_same, hc1, _, _, rfl, rfl, .inl ⟨by omega, by omega⟩, ?_, Same.new hq⟩⟩
            rw [List.getD_eq_getElem?_getD, List.getElem?_map, ei]
            rfl
        · obtain ⟨il, pm, sr, rfl⟩ := srt
          rw [List.length_map] at pm
          have hil : ∀ i ∈ il, i < ps.length := fun i hi => List.mem_range.mp (pm.mem_iff.mp hi)
          have eqs : il.map (fun i => (ps.map fun p => V.ref p.1).getD i .non) = (il.map fun i => ps.getD i (0, 0, 0)).map fun p => V.ref p.1 := by
            rw [List.map_map]
            refine List.map_congr_left fun i hi => ?_
            have := hil i hi
            simp [this]
          have nd2 : H2 d = none := by
            cases q : H2 d with
            | none => rfl
            | some u =>
              have n3 := s4.free nd
              by_cases e : d = pt
              · obtain ⟨c', hc', _⟩ := tb
                rw [e, hc'] at n3
                cases n3
              · rw [o3 d u e q] at n3
                cases n3
          refine k d (il.map fun i => ps.getD i (0, 0, 0)) _ (by rw [upd_same, eqs]) (fun p hp => ?_) ?_ (by rw [List.length_map, pm.length_eq, List.length_range]; omega) (s2.free nd2) (s2.off.trans (o3.trans (s4.off.trans (Off.new nd))))
          · obtain ⟨i, hi, rfl⟩ := List.mem_map.mp hp
            have hm : ps.getD i (0, 0, 0) ∈ ps := by
              rw [List.getD_eq_getElem?_getD, List.getElem?_eq_getElem (hil i hi)]
              exact List.getElem_mem _
            have := s4 _ _ (hps3 _ hm)
            rw [upd_ne (ne_of_none this nd)]
            exact this
          · have := turns_sort (c := c) (il := il) (kz := ps.map fun p => ((p.2.2 : Nat) : Int) * c) T (fun i h => by
              rw [List.length_map] at h
              simp [h]) (by rw [List.length_map]; exact pm) sr
            rw [List.map_map]
            rw [show il.map ((fun x : Addr × Nat × Nat => x.2) ∘ fun i => ps.getD i (0, 0, 0)) = il.map fun i => (ps.map (·.2)).getD i (0, 0) from List.map_congr_left fun i hi => by have := hil i hi; simp [this]]
            exact this
end
end K21
end
section
set_option autoImplicit false
namespace K21
open PySem PyProof.Rows L2
theorem shT_lv5 (sh : List Ent) : ∀ t ∈ shT sh, Lv 5 t := fun t ht => by
  rcases List.mem_cons.mp ht with rfl | ht
  · exact fun t h => nomatch h
  · obtain ⟨e, _, rfl⟩ := List.mem_map.mp ht
    show ∀ t ∈ [T.int (e.1 : Int), .str e.2.1, .str e.2.2], Lv 4 t
    intro t ht
    simp only [List.mem_cons, List.not_mem_nil, or_false] at ht
    rcases ht with rfl | rfl | rfl <;> trivial
theorem stT_lv (s : Sto) : ∀ t ∈ (s.map fun p => T.tup [.str p.1, .str p.2]), Lv 5 t := fun t ht => by
  obtain ⟨p, _, rfl⟩ := List.mem_map.mp ht
  show ∀ t ∈ [T.str p.1, .str p.2], Lv 4 t
  intro t ht
  simp only [List.mem_cons, List.not_mem_nil, or_false] at ht
  rcases ht with rfl | rfl <;> trivial
theorem shT_snoc (sh : List Ent) (e : Ent) : shT (sh ++ [e]) = shT sh ++ [entT e] := by
  unfold shT
  rw [List.map_append]
  rfl
theorem shT_len (sh : List Ent) : (shT sh).length = sh.length + 1 := by
  unfold shT
  rw [List.length_cons, List.length_map]
section
variable {P : Program} {w : World} {K : PySem.W.Frag} {mg : Str → Option Value} {base : Heap} {t : Adr}
theorem ok_wholeL (D : Defs K mg t) : FnOk P w K mg base CX0 1 t._law_is_whole.1 t._law_is_whole.2 ["_law_thing"] spWhole := by
  refine D._law_is_whole.fn.ok sc__law_is_whole (fun vs H Q E h => ?_) (fun cdv A outer s H vs Q E hr h => ?_)
  · obtain ⟨n, rfl, _⟩ := h
    rfl
  · obtain ⟨n, rfl, k⟩ := h
    refine ⟨_, (pss_one (ps_ret (pe_and (pe_callB call_isinst (by rfl) D.b_isinstance bt_isinstance (pa_cons (pv 0) (pa_cons (pe_bltn (v := V.ty "int") rfl D.b_int bt_int rfl) pa_nil))) (pe_one (pe_not (pe_callB call_isinst (by rfl) D.b_isinstance bt_isinstance (pa_cons (pv 0) (pa_cons (pe_bltn (v := V.ty "bool") rfl D.b_bool bt_bool rfl) pa_nil)))))))), ?_⟩
    exact ⟨_, rfl, _, _, _, true, rfl, .int n, kit_same K "int", _, rfl, iteT ⟨_, rfl, _, _, _, false, rfl, .int n, kit_ib K, _, rfl, k⟩⟩
def spNumber : Sp := fun vs H Q _ => ∃ (v u : V) (sh sh' : List Ent) (n : Int) (kn : Bool), vs = [v, u, .bl kn] ∧ Dp H (.tup [.tup (shT sh'), .int n]) v ∧ Dp H (.tup (shT sh)) u ∧ sh.length ≤ 900 ∧ ((kn = true ∧ sh' = sh) ∨ (kn = false ∧ n = ((sh.length + 1 : Nat) : Int) ∧ ∃ e, sh' = sh ++ [e])) ∧ ∀ H', Same H H' → Q (.bl true) H'
theorem ok_number (D : Defs K mg t) : FnOk P w K mg base CX0 2 t._law_number.1 t._law_number.2 ["_law_told", "_law_shapes", "_law_known"] spNumber := by
  have G__law_is_whole : FnOk P w K mg base CX0 1 t._law_is_whole.1 t._law_is_whole.2 _ spWhole := ok_wholeL D
  have hz : sizeLine = 16777216 := sizeLine_eq
  refine D._law_number.fn.ok sc__law_number (fun vs H Q E h => ?_) (fun cdv A outer s H vs Q E hr h => ?_)
  · obtain ⟨v, u, sh, sh', n, kn, rfl, _⟩ := h
    rfl
  · obtain ⟨v, u, sh, sh', n, kn, rfl, dv, du, hl, hc, k⟩ := h
    obtain ⟨a, xs, rfl, ha, dl⟩ := L2.Dp.of_tup dv
    obtain ⟨x, r, rfl, dx, dl⟩ := dl.cases
    obtain ⟨y, r, rfl, dy, dl⟩ := dl.cases
    cases dl.of_nil
    obtain rfl := dy.of_int
    obtain ⟨b, zs, rfl, hb, dz⟩ := L2.Dp.of_tup dx
    obtain ⟨c, us, rfl, hcu, dus⟩ := L2.Dp.of_tup du
    have hzl : zs.length = sh'.length + 1 := by rw [dz.length, shT_len]
    have hul : us.length = sh.length + 1 := by rw [dus.length, shT_len]
    refine ⟨_, (pss_cons (ps_if (PW.pt (pw_or (pt_not (pt_val (pe_callB call_isinst (by rfl) D.b_isinstance bt_isinstance (pa_cons (pv 0) (pa_cons (pe_bltn (v := V.ty "tuple") rfl D.b_tuple bt_tuple rfl) pa_nil))))) (pw_or (pt_cmpR op_ne (pe_callB call_len_seq (by rfl) D.b_len bt_len (pa_cons (pv 0) pa_nil)) pe_int (nomark _)) (pw_or (pt_not (pt_val (pe_callF D._law_is_whole G__law_is_whole (hr.mono (by omega)) (by rfl) (pa_cons (pe_ix ix_tup (pv 0) pe_int (fun _ _ => rfl)) pa_nil)))) (pw_or1 (pt_not (pt_val (pe_callB call_isinst (by rfl) D.b_isinstance bt_isinstance (pa_cons (pe_ix ix_tup (pv 0) pe_int (fun _ _ => rfl)) (pa_cons (pe_bltn (v := V.ty "tuple") rfl D.b_tuple bt_tuple rfl) pa_nil))))))))))
      (pss_one (ps_ret pe_bl))
      pss_nil)
      (pss_cons (ps_if (pt_truth (pv 2) (by intro _; rfl))
      (pss_one (ps_ret (pe_cmpR (op_eqT (hu10 hr)) (pe_ix ix_tup (pv 0) pe_int (fun _ _ => rfl)) (pv 1) (nomark _))))
      pss_nil)
      (pss_one (ps_ret (pe_and (pe_cmpR (op_eqT (hu10 hr)) (pe_slice sl_tupW (pe_ix ix_tup (pv 0) pe_int (fun _ _ => rfl)) po_none (po_some (pe_un un_neg pe_int))) (pv 1) (nomark _)) (pe_one (pe_cmpR op_eq (pe_ix ix_tup (pv 0) pe_int (fun _ _ => rfl)) (pe_callB call_len_seq (by rfl) D.b_len bt_len (pa_cons (pv 1) pa_nil)) (nomark _)))))))), ?_⟩
    refine ⟨_, rfl, _, _, _, true, rfl, .tup ha, kit_same K "tuple", _, rfl, iteF ⟨_, rfl, a, _, rfl, .inr (SqT.of ha), rfl, _, rfl, iteF ?_⟩⟩
    refine ⟨_, rfl, a, _, _, _, rfl, rfl, SqT.of ha, atI_nat (j := 1) rfl, n, rfl, _, rfl, iteF ?_⟩
    refine ⟨_, rfl, a, _, _, _, rfl, rfl, SqT.of ha, atI_nat (j := 0) rfl, _, _, _, true, rfl, .tup hb, kit_same K "tuple", _, rfl, iteF ?_⟩
    rcases hc with ⟨rfl, rfl⟩ | ⟨rfl, en, e, rfl⟩
    · refine ⟨_, rfl, true, rfl, iteT ?_⟩
      refine ⟨_, rfl, a, _, _, _, rfl, rfl, SqT.of ha, atI_nat (j := 0) rfl, _, rfl, b, c, zs, us, _, _, rfl, rfl, hb, hcu, dz, dus, shT_lv5 _, ?_⟩
      rw [dcd_t rfl]
      exact k H (Same.refl H)
    · refine ⟨_, rfl, false, rfl, iteF ?_⟩
      refine ⟨_, rfl, a, _, _, _, rfl, rfl, SqT.of ha, atI_nat (j := 0) rfl, _, rfl, _, rfl, b, zs, rfl, hb, fun p H2 hp s2 => ?_⟩
      have hp : H2 p = some (.tup (zs.take (zs.length - 1))) := by rw [← cutV_neg]; exact hp
      have e1 : zs.length - 1 = (shT sh).length := by rw [hzl, shT_len, List.length_append]; rfl
      have dz2 : DpL H2 (shT sh) (zs.take (zs.length - 1)) := by
        have := (dz.take' (shT sh).length).mono (Same.tups s2)
        rw [shT_snoc, List.take_append_of_le_length (Nat.le_refl _), List.take_of_length_le (Nat.le_refl _), ← e1] at this
        exact this
      refine ⟨_, rfl, p, c, _, us, _, _, rfl, rfl, hp, s2 c _ hcu, dz2, dus.mono (Same.tups s2), shT_lv5 _, ?_⟩
      rw [dcd_t rfl]
      refine ⟨_, rfl, iteT ⟨_, rfl, a, _, _, _, rfl, rfl, SqT.of (s2 a _ ha), atI_nat (j := 1) rfl, _, rfl, c, us, rfl, .inr (SqT.of (s2 c _ hcu)), rfl, ?_⟩⟩
      rw [decide_eq_true (by rw [en, hul])]
      exact k H2 s2
structure Book (ts : List Sto) (sh : List Ent) (fl : List (List Str)) : Prop where
  len : ts.length = sh.length + 1
  zero : ts[0]? = some []
  nd : ts.Nodup
  good : Good sh fl
  fld : ∀ (i : Nat) (s : Sto), ts[i]? = some s → fl[i]? = some (fieldsOf s)
  leg : ∀ s ∈ ts, Leg s ∧ s.length ≤ 16
  step : ∀ (i : Nat) (e : Ent), sh[i]? = some e → e.1 ≤ i ∧ ∃ s, ts[e.1]? = some s ∧ ts[i + 1]? = some (s ++ [(e.2.1, e.2.2)])
theorem Book.back {ts : List Sto} {sh : List Ent} {fl : List (List Str)} (B : Book ts sh fl) {n : Nat} {s : Sto} (h : ts[n]? = some s) : (n = 0 ∧ s = []) ∨ ∃ (i : Nat) (e : Ent) (s' : Sto), n = i + 1 ∧ sh[i]? = some e ∧ ts[e.1]? = some s' ∧ s = s' ++ [(e.2.1, e.2.2)] := by
  cases n with
  | zero => rw [B.zero] at h; cases h; exact .inl ⟨rfl, rfl⟩
  | succ i =>
    have hi : i < sh.length := by
      have := (List.getElem?_eq_some_iff.mp h).1
      have := B.len
      omega
    obtain ⟨_, s', h1, h2⟩ := B.step i sh[i] (List.getElem?_eq_getElem hi)
    rw [h2] at h
    cases h
    exact .inr ⟨i, sh[i], s', rfl, List.getElem?_eq_getElem hi, h1, rfl⟩
def spWalked : Sp := fun vs H Q _ => ∃ (u : V) (n : Nat) (ts : List Sto) (sh : List Ent) (fl : List (List Str)) (st : Sto), vs = [u, .int n] ∧ Dp H (.tup (shT sh)) u ∧ Book ts sh fl ∧ ts[n]? = some st ∧ ∀ (v : V) H', Dp H' (stT st) v → Same H H' → Q v H'
theorem ok_walked (D : Defs K mg t) : FnOk P w K mg base CX0 1 t._law_walked.1 t._law_walked.2 ["_law_shapes", "_law_number_here"] spWalked := by
  have hz : sizeLine = 16777216 := sizeLine_eq
  refine D._law_walked.fn.ok sc__law_walked (fun vs H Q E h => ?_) (fun cdv A outer s H vs Q E hr h => ?_)
  · obtain ⟨u, n, ts, sh, fl, st, rfl, _⟩ := h
    rfl
  · obtain ⟨u, n, ts, sh, fl, st, rfl, du, B, hn, k⟩ := h
    obtain ⟨c, us, rfl, hcu, dus⟩ := L2.Dp.of_tup du
    obtain ⟨lg, l16⟩ := B.leg st (List.mem_of_getElem? hn)
    refine ⟨_, (pss_cons (ps_set (i := 2) sc__law_walked.nd rfl (Or.inl rfl) (pe_tup pa_nil))
      (pss_cons (ps_for PassesOwn.never rfl (pi_range1 rfl D.b_range (pa_cons pe_int pa_nil)) (pg_name (i := 3) sc__law_walked.nd rfl (Or.inl rfl))
      (pss_cons (ps_if (pt_cmpR op_eq (pv 1) pe_int (nomark _))
      (pss_one (ps_ret (pv 2)))
      pss_nil)
      (pss_cons (ps_set (i := 2) sc__law_walked.nd rfl (Or.inl rfl) (pe_op op_catN (pe_tup (pa_cons (pe_slice sl_tupW (pe_ix ix_tup (pv 0) (pv 1) (fun _ _ => rfl)) (po_some pe_int) po_none) pa_nil)) (pv 2)))
      (pss_one (ps_set (i := 1) sc__law_walked.nd rfl (Or.inl rfl) (pe_ix ix_tup (pe_ix ix_tup (pv 0) (pv 1) (fun _ _ => rfl)) pe_int (fun _ _ => rfl)))))))
      (pss_one (ps_ret pe_non)))), ?_⟩
    refine ⟨Nat.zero_le _, fun q0 hq0 => ?_⟩
    have d0 : Dp (upd H q0 (.tup [])) (stT []) (.ref q0) := .tup upd_same .nil
    have s0 : Same H (upd H q0 (.tup [])) := Same.new hq0
    generalize upd H q0 (.tup []) = H0 at d0 s0
    refine ⟨17, rfl, by decide, by decide, ?_⟩
    refine for_range (lo := 0) (n := 17) (fun i σ H2 => ∃ (m : Nat) (v : V) (s1 s2 : Sto) (v3 : Option V), σ = [some (.ref c), some (.int m), some v, v3] ∧ ts[m]? = some s1 ∧ st = s1 ++ s2 ∧ s2.length = i ∧ Dp H2 (stT s2) v ∧ Same H H2)
      ⟨n, _, st, [], _, rfl, hn, (List.append_nil _).symm, rfl, d0, s0⟩ ?_ ?_
    · rintro i σ H2 hi ⟨m, v, s1, s2, v3, rfl, hm, est, hs2, d2, sm2⟩
      rcases B.back hm with ⟨rfl, rfl⟩ | ⟨j, e, s', rfl, hj, he, rfl⟩
      · refine ⟨_, rfl, rfl, _, rfl, iteT ⟨_, rfl, ?_⟩⟩
        rw [List.nil_append] at est
        rw [← est] at d2
        exact k v H2 d2 sm2
      · refine ⟨_, rfl, rfl, _, rfl, iteNeg ?_ ?_⟩
        · rw [decide_eq_false (by intro z; injection z with z; omega)]
          exact Bool.false_ne_true
        obtain ⟨y, ey, dy⟩ := (dus.mono (Same.tups sm2)).get (i := j + 1) (t := entT e) (by
          unfold shT
          rw [List.getElem?_cons_succ, List.getElem?_map, hj]
          rfl)
        obtain ⟨qe, zs, rfl, hqe, dz⟩ := L2.Dp.of_tup dy
        obtain ⟨a1, r1, rfl, f1, dz⟩ := dz.cases
        obtain ⟨a2, r2, rfl, f2, dz⟩ := dz.cases
        obtain ⟨a3, r3, rfl, f3, dz⟩ := dz.cases
        cases dz.of_nil
        obtain rfl := f1.of_int
        obtain rfl := f2.of_str
        obtain rfl := f3.of_str
        refine ⟨_, rfl, _, rfl, c, us, _, _, rfl, rfl, SqT.of (sm2 c _ hcu), atI_nat (j := j + 1) ey, _, rfl, qe, _, rfl, hqe, fun p1 H3 hp1 sm3 => ⟨by show 1 ≤ sizeLine; decide, fun p2 hp2 => ?_⟩⟩
        have hp1 : H3 p1 = some (.tup [.str e.2.1, .str e.2.2]) := by
          rw [hp1, show cutV [V.int (e.1 : Int), .str e.2.1, .str e.2.2] (some 1) none = _ from cutV_drop _ 1]
          rfl
        have sm4 : Same H3 (upd H3 p2 (.tup [.ref p1])) := Same.new hp2
        have h42 : (upd H3 p2 (.tup [.ref p1])) p2 = some (.tup [.ref p1]) := upd_same
        generalize upd H3 p2 (.tup [.ref p1]) = H4 at sm4 h42 ⊢
        have sm24 := sm3.trans sm4
        obtain ⟨qv, ws, rfl, hqv, dw⟩ := L2.Dp.of_tup d2
        have hwl : ws.length = s2.length := by have := dw.length; rwa [List.length_map] at this
        refine ⟨_, rfl, p2, qv, _, ws, rfl, rfl, h42, sm24 qv _ hqv, by show 1 + ws.length ≤ sizeLine; omega, fun p5 H5 hp5 sm5 => ?_⟩
        have sm25 := sm24.trans sm5
        refine ⟨_, rfl, _, rfl, c, us, _, _, rfl, rfl, SqT.of (sm25 c _ (sm2 c _ hcu)), atI_nat (j := j + 1) ey, qe, _, _, _, rfl, rfl, SqT.of (sm25 qe _ hqe), atI_nat (j := 0) rfl, ?_⟩
        refine ⟨e.1, .ref p5, s', (e.2.1, e.2.2) :: s2, _, rfl, he, by rw [est, List.append_assoc]; rfl, by rw [List.length_cons, hs2], ?_, sm2.trans sm25⟩
        exact .tup hp5 (.cons (.tup (sm5 p1 _ (sm4 p1 _ hp1)) (.cons (.str _) (.cons (.str _) .nil))) (dw.mono (Same.tups sm25)))
    · rintro σ H2 ⟨m, v, s1, s2, v3, rfl, hm, est, hs2, d2, sm2⟩
      exfalso
      have := congrArg List.length est
      rw [List.length_append] at this
      omega
end
end K21
end
section
set_option autoImplicit false
namespace L2
open PySem PySem.Spec PyProof.Rows
theorem hu2 {A : Around} (h : A.units + 10 < cLine) : A.units + 2 < cLine := by omega
end L2
end
section
set_option autoImplicit false
namespace K21
open PySem PyProof.Rows L2
theorem Good.snoc {sh : List Ent} {fl : List (List Str)} (G : Good sh fl) {n : Nat} {d x : Str} {fs : List Str} (hn : fl[n]? = some fs) (hv : (d = "put" ∧ ¬ x ∈ fs) ∨ (d = "drop" ∧ x ∈ fs)) : Good (sh ++ [(n, d, x)]) (fl ++ [behindL fs d x]) := by
  have hnl := (List.getElem?_eq_some_iff.mp hn).1
  have hl := G.len
  refine ⟨by rw [List.length_append, List.length_append, G.len]; rfl, ?_, ?_, ?_⟩
  · rw [List.getElem?_append_left (by omega)]
    exact G.zero
  · intro gs hg
    rcases List.mem_append.mp hg with h | h
    · exact G.nd gs h
    · rw [List.mem_singleton.mp h]
      have nf := G.nd fs (List.mem_of_getElem? hn)
      unfold behindL
      rcases hv with ⟨rfl, hx⟩ | ⟨rfl, hx⟩
      · rw [if_pos rfl]
        exact nd_snoc nf hx
      · rw [if_neg put_ne_drop]
        exact nf.filter _
  · intro i e h
    by_cases hi : i < sh.length
    · rw [List.getElem?_append_left hi] at h
      obtain ⟨h1, gs, h2, h3, h4⟩ := G.step i e h
      exact ⟨h1, gs, by rw [List.getElem?_append_left (by omega)]; exact h2, h3, by rw [List.getElem?_append_left (by omega)]; exact h4⟩
    · have hi' := (List.getElem?_eq_some_iff.mp h).1
      rw [List.length_append, List.length_singleton] at hi'
      have ei : i = sh.length := by omega
      subst ei
      rw [List.getElem?_append_right (Nat.le_refl _), Nat.sub_self] at h
      have e1 : e = (n, d, x) := by simpa using h.symm
      subst e1
      refine ⟨by show n ≤ sh.length; omega, fs, by rw [List.getElem?_append_left hnl]; exact hn, hv, ?_⟩
      rw [← hl, List.getElem?_append_right (Nat.le_refl _), Nat.sub_self]
      rfl
theorem Good.one : Good [] [[]] := ⟨rfl, rfl, fun fs h => by rw [List.mem_singleton.mp h]; exact List.nodup_nil, fun i e h => by simp at h⟩
theorem app_inj {s s' : Sto} {p p' : Str × Str} (h : s ++ [p] = s' ++ [p']) : s = s' ∧ p = p' := by
  have h1 := List.append_inj' h rfl
  exact ⟨h1.1, by simpa using h1.2⟩
section
variable {ts : List Sto} {sh : List Ent} {fl : List (List Str)}
theorem Book.ix (B : Book ts sh fl) {i j : Nat} {s : Sto} (h1 : ts[i]? = some s) (h2 : ts[j]? = some s) : i = j := by
  obtain ⟨a1, b1⟩ := List.getElem?_eq_some_iff.mp h1
  obtain ⟨a2, b2⟩ := List.getElem?_eq_some_iff.mp h2
  exact (List.getElem_inj B.nd).mp (b1.trans b2.symm)
theorem Book.known (B : Book ts sh fl) {a j : Nat} {s : Sto} {d x : Str} (h : ts[a]? = some s) (e : sh[j]? = some (a, d, x)) : ts[j + 1]? = some (s ++ [(d, x)]) := by
  obtain ⟨_, s', h1, h2⟩ := B.step j _ e
  have h1 : ts[a]? = some s' := h1
  rw [h] at h1
  cases h1
  exact h2
theorem Book.has (B : Book ts sh fl) {a m : Nat} {s : Sto} {d x : Str} (h : ts[a]? = some s) (g : ts[m]? = some (s ++ [(d, x)])) : ∃ i, m = i + 1 ∧ sh[i]? = some (a, d, x) := by
  rcases B.back g with ⟨_, e⟩ | ⟨i, e, s', rfl, h1, h2, e3⟩
  · simp at e
  · obtain ⟨rfl, e4⟩ := app_inj e3
    have := B.ix h h2
    refine ⟨i, rfl, ?_⟩
    rw [h1]
    obtain ⟨e1, e2, e5⟩ := e
    have e4 : (d, x) = (e2, e5) := e4
    cases e4
    have : a = e1 := this
    rw [this]
theorem Book.one : Book [[]] [] [[]] := ⟨rfl, rfl, by simp, Good.one, fun i s h => by
  have : i = 0 := by
    have := (List.getElem?_eq_some_iff.mp h).1
    simpa using this
  subst this
  cases h
  rfl, fun s h => by rw [List.mem_singleton.mp h]; exact ⟨Leg.nil, Nat.zero_le _⟩, fun i e h => by simp at h⟩
theorem Book.more (B : Book ts sh fl) {a : Nat} {s : Sto} {d x : Str} (h : ts[a]? = some s) (m : May s (d, x)) (hn : ¬ s ++ [(d, x)] ∈ ts) (hl : s.length < 16) : Book (ts ++ [s ++ [(d, x)]]) (sh ++ [(a, d, x)]) (fl ++ [behindL (fieldsOf s) d x]) := by
  have hal : a < ts.length := (List.getElem?_eq_some_iff.mp h).1
  have flen := B.good.len
  have tlen := B.len
  refine ⟨by rw [List.length_append, List.length_append, tlen]; rfl, ?_, ?_, B.good.snoc (B.fld a s h) m, fun i s' hi => ?_, fun s' hs' => ?_, fun i e he => ?_⟩
  · rw [List.getElem?_append_left (by omega)]
    exact B.zero
  · exact nd_snoc B.nd hn
  · by_cases hlt : i < ts.length
    · rw [List.getElem?_append_left hlt] at hi
      rw [List.getElem?_append_left (by omega)]
      exact B.fld i s' hi
    · have := (List.getElem?_eq_some_iff.mp hi).1
      rw [List.length_append, List.length_singleton] at this
      have ei : i = ts.length := by omega
      subst ei
      rw [List.getElem?_append_right (Nat.le_refl _), Nat.sub_self] at hi
      cases (show some (s ++ [(d, x)]) = some s' from hi)
      rw [List.getElem?_append_right (by omega), show ts.length - fl.length = 0 by omega]
      show some (behindL (fieldsOf s) d x) = _
      rw [may_behind m]
  · rcases List.mem_append.mp hs' with z | z
    · exact B.leg s' z
    · rw [List.mem_singleton.mp z]
      exact ⟨(B.leg s (List.mem_of_getElem? h)).1.snoc m, by rw [List.length_append]; show s.length + 1 ≤ 16; omega⟩
  · by_cases hlt : i < sh.length
    · rw [List.getElem?_append_left hlt] at he
      obtain ⟨h1, s', h2, h3⟩ := B.step i e he
      exact ⟨h1, s', by rw [List.getElem?_append_left (by omega)]; exact h2, by rw [List.getElem?_append_left (by omega)]; exact h3⟩
    · have := (List.getElem?_eq_some_iff.mp he).1
      rw [List.length_append, List.length_singleton] at this
      have ei : i = sh.length := by omega
      subst ei
      rw [List.getElem?_append_right (Nat.le_refl _), Nat.sub_self] at he
      cases (show some (a, d, x) = some e from he)
      refine ⟨by show a ≤ sh.length; omega, s, by show (ts ++ _)[a]? = _; rw [List.getElem?_append_left hal]; exact h, ?_⟩
      rw [← tlen, List.getElem?_append_right (Nat.le_refl _), Nat.sub_self]
      rfl
end
structure Nums (kvs : List (TTK × Addr × V)) (ts : List Sto) : Prop where
  len : kvs.length = ts.length
  here : ∀ (i : Nat) (s : Sto), ts[i]? = some s → ∃ b, kvs[i]? = some (stK s, b, .int (i : Nat))
section
variable {kvs : List (TTK × Addr × V)} {ts : List Sto}
theorem Nums.mem (N : Nums kvs ts) {x : TTK × Addr × V} (h : x ∈ kvs) : ∃ (i : Nat) (s : Sto) (b : Addr), ts[i]? = some s ∧ x = (stK s, b, .int (i : Nat)) := by
  obtain ⟨i, hi, e⟩ := List.mem_iff_getElem.mp h
  have hit : i < ts.length := by rw [← N.len]; exact hi
  obtain ⟨b, q⟩ := N.here i ts[i] (List.getElem?_eq_getElem hit)
  rw [List.getElem?_eq_getElem hi, e] at q
  exact ⟨i, ts[i], b, List.getElem?_eq_getElem hit, Option.some.inj q⟩
theorem Nums.uniq (N : Nums kvs ts) (nd : ts.Nodup) {i : Nat} {s : Sto} (h : ts[i]? = some s) {x : TTK × Addr × V} (hx : x ∈ kvs) (e : x.1 = stK s) : x.2.2 = .int (i : Nat) := by
  obtain ⟨j, s', b, hj, rfl⟩ := N.mem hx
  have := stK_inj e
  subst this
  obtain ⟨a1, b1⟩ := List.getElem?_eq_some_iff.mp h
  obtain ⟨a2, b2⟩ := List.getElem?_eq_some_iff.mp hj
  rw [(List.getElem_inj nd).mp (b1.trans b2.symm)]
theorem Nums.get (N : Nums kvs ts) (nd : ts.Nodup) {i : Nat} {s : Sto} (h : ts[i]? = some s) : atT kvs (stK s) = some (.int (i : Nat)) := by
  unfold L2.atT
  obtain ⟨b, q⟩ := N.here i s h
  cases f : kvs.find? (fun x => decide (x.1 = stK s)) with
  | none =>
    have := List.find?_eq_none.mp f _ (List.mem_of_getElem? q)
    simp at this
  | some x =>
    have q := List.find?_some f
    simp only [decide_eq_true_eq] at q
    rw [Option.map_some, N.uniq nd h (List.mem_of_find?_eq_some f) q]
theorem Nums.none (N : Nums kvs ts) {s : Sto} (h : ¬ s ∈ ts) : atT kvs (stK s) = none := by
  unfold L2.atT
  cases f : kvs.find? (fun x => decide (x.1 = stK s)) with
  | none => rfl
  | some x =>
    exfalso
    obtain ⟨j, s', b, hj, rfl⟩ := N.mem (List.mem_of_find?_eq_some f)
    have q := List.find?_some f
    simp only [decide_eq_true_eq] at q
    have := stK_inj q
    exact h (this ▸ List.mem_of_getElem? hj)
theorem Nums.put_old (N : Nums kvs ts) (nd : ts.Nodup) {i : Nat} {s : Sto} (h : ts[i]? = some s) (b : Addr) : putT kvs (stK s) b (.int (i : Nat)) = kvs := by
  unfold putT
  rw [N.get nd h, if_pos (show (some (V.int (i : Nat))).isSome = true from rfl)]
  have : ∀ x ∈ kvs, (if x.1 = stK s then (x.1, x.2.1, V.int (i : Nat)) else x) = x := fun x hx => by
    by_cases e : x.1 = stK s
    · rw [if_pos e, ← N.uniq nd h hx e]
    · rw [if_neg e]
  rw [List.map_congr_left this, List.map_id']
theorem Nums.put_new (N : Nums kvs ts) {s : Sto} (h : ¬ s ∈ ts) (b : Addr) : Nums (putT kvs (stK s) b (.int (ts.length : Nat))) (ts ++ [s]) := by
  unfold putT
  rw [N.none h]
  show Nums (kvs ++ [(stK s, b, .int (ts.length : Nat))]) _
  refine ⟨by rw [List.length_append, List.length_append, N.len]; rfl, fun i s' hi => ?_⟩
  by_cases hlt : i < ts.length
  · rw [List.getElem?_append_left hlt] at hi
    obtain ⟨b', q⟩ := N.here i s' hi
    exact ⟨b', by rw [List.getElem?_append_left (by rw [N.len]; exact hlt)]; exact q⟩
  · have := (List.getElem?_eq_some_iff.mp hi).1
    rw [List.length_append, List.length_singleton] at this
    have ei : i = ts.length := by omega
    subst ei
    rw [List.getElem?_append_right (Nat.le_refl _), Nat.sub_self] at hi
    cases (show some s = some s' from hi)
    refine ⟨b, ?_⟩
    rw [List.getElem?_append_right (by rw [N.len]; exact Nat.le_refl _), N.len, Nat.sub_self]
    rfl
end
section
variable {P : Program} {w : World} {K : PySem.W.Frag} {mg : Str → Option Value} {base : Heap} {t : Adr}
theorem SRT.mono {H H' : Hp} {a : Addr} {kvs : List (TTK × Addr × V)} (h : SRT P w H a kvs) (s : Same H H') : SRT P w H' a kvs := by
  refine ⟨?_, fun x hx => (h.ks x hx).mono (Same.tups s)⟩
  rcases h.rd with z | ⟨o, z⟩
  · exact .inl (s a _ z)
  · exact .inr ⟨o, s a _ z⟩
def spAgain (P : Program) (w : World) : Sp := fun vs H Q _ => ∃ (u v : V) (nd : Addr) (kvs : List (TTK × Addr × V)) (ts : List Sto) (sh : List Ent) (fl : List (List Str)) (st : Sto), vs = [u, v, .ref nd] ∧ Dp H (.tup (shT sh)) u ∧ Dp H (stT st) v ∧ SRT P w H nd kvs ∧ Nums kvs ts ∧ Book ts sh fl ∧ sh.length ≤ 900 ∧ (∀ k, k ≤ st.length → st.take k ∈ ts) ∧ Leg st ∧ st.length ≤ 16 ∧ ∀ H', Same H H' → Q (.bl true) H'
theorem ok_again (D : Defs K mg t) : FnOk P w K mg base CX0 5 t._law_again.1 t._law_again.2 ["_law_shapes", "_law_story_here", "_law_numbers"] (spAgain P w) := by
  have G_shape_by : FnOk P w K mg base CX0 4 t.shape_by.1 t.shape_by.2 _ spShape := ok_shape D
  have G__law_number : FnOk P w K mg base CX0 2 t._law_number.1 t._law_number.2 _ spNumber := ok_number D
  have hz : sizeLine = 16777216 := sizeLine_eq
  refine D._law_again.fn.ok sc__law_again (fun vs H Q E h => ?_) (fun cdv A outer s H vs Q E hr h => ?_)
  · obtain ⟨u, v, nd, kvs, ts, sh, fl, st, rfl, _⟩ := h
    rfl
  · obtain ⟨u, v, nd, kvs, ts, sh, fl, st, rfl, du, dv, sr, N, B, hl, hin, lg, l16, k⟩ := h
    obtain ⟨qs, xs, rfl, hqs, dl⟩ := L2.Dp.of_tup dv
    have hxl : xs.length = st.length := by have := dl.length; rwa [List.length_map] at this
    refine ⟨_, (pss_cons (ps_set (i := 3) sc__law_again.nd rfl (Or.inl rfl) pe_int)
      (pss_cons (ps_for PassesOwn.never rfl (pi_range1 rfl D.b_range (pa_cons (pe_callB call_len_seq (by rfl) D.b_len bt_len (pa_cons (pv 1) pa_nil)) pa_nil)) (pg_name (i := 4) sc__law_again.nd rfl (Or.inl rfl))
      (pss_cons (ps_set (i := 5) sc__law_again.nd rfl (Or.inl rfl) (pe_callF D.shape_by G_shape_by (hr.mono (by omega)) (by rfl) (pa_cons (pv 0) (pa_cons (pv 3) (pa_cons (pe_ix ix_tup (pe_ix ix_tup (pv 1) (pv 4) (fun _ _ => rfl)) pe_int (fun _ _ => rfl)) (pa_cons (pe_ix ix_tup (pe_ix ix_tup (pv 1) (pv 4) (fun _ _ => rfl)) pe_int (fun _ _ => rfl)) pa_nil))))))
      (pss_cons (ps_set (i := 3) sc__law_again.nd rfl (Or.inl rfl) (pe_tget (hu2 (hu10 hr)) (pv 2) (pe_slice sl_tupW (pv 1) po_none (po_some (pe_op op_add (pv 4) pe_int))) (fun _ _ => rfl)))
      (pss_one (ps_if (PW.pt (pw_or (pt_not (pt_val (pe_callF D._law_number G__law_number (hr.mono (by omega)) (by rfl) (pa_cons (pv 5) (pa_cons (pv 0) (pa_cons pe_bl pa_nil)))))) (pw_or1 (pt_cmpR op_ne (pe_ix ix_tup (pv 5) pe_int (fun _ _ => rfl)) (pv 3) (nomark _)))))
      (pss_one (ps_ret pe_bl))
      pss_nil)))))
      (pss_one (ps_ret pe_bl)))), ?_⟩
    refine ⟨_, rfl, qs, xs, rfl, .inr (SqT.of hqs), _, rfl, by omega, by omega, ?_⟩
    refine for_range (lo := 0) (n := xs.length) (fun i σ H2 => ∃ (a : Nat) (v4 v5 : Option V), σ = [some u, some (.ref qs), some (.ref nd), some (.int (a : Nat)), v4, v5] ∧ ts[a]? = some (st.take i) ∧ Same H H2)
      ⟨0, _, _, rfl, B.zero, Same.refl H⟩ ?_ ?_
    · rintro i σ H2 hi ⟨a, v4, v5, rfl, ha, s2⟩
      have his : i < st.length := by omega
      have est : st.take (i + 1) = st.take i ++ [(st[i].1, st[i].2)] := by
        rw [List.take_succ, List.getElem?_eq_getElem his]
        rfl
      obtain ⟨y, ey, dy⟩ := (dl.mono (Same.tups s2)).get (i := i) (t := T.tup [.str st[i].1, .str st[i].2]) (by rw [List.getElem?_map, List.getElem?_eq_getElem his]; rfl)
      obtain ⟨qp, rfl, hqp⟩ := K21.Dp.of_pair dy
      have ea : atI xs (0 + (i : Int)) = some (.ref qp) := by
        rw [Int.zero_add]
        exact atI_nat (j := i) ey
      have may := lg i st[i] (List.getElem?_eq_getElem his)
      obtain ⟨m, hm⟩ := List.mem_iff_getElem?.mp (hin (i + 1) (by omega))
      rw [est] at hm
      obtain ⟨j0, rfl, hj0⟩ := B.has ha hm
      refine ⟨_, rfl, _, rfl, _, rfl, _, rfl, qs, xs, _, _, rfl, rfl, SqT.of (s2 qs _ hqs), ea, qp, _, _, _, rfl, rfl, SqT.of hqp, atI_nat (j := 0) rfl, _, rfl, _, rfl, qs, xs, _, _, rfl, rfl, SqT.of (s2 qs _ hqs), ea, qp, _, _, _, rfl, rfl, SqT.of hqp, atI_nat (j := 1) rfl, ?_⟩
      refine ⟨u, a, st[i].1, st[i].2, sh, fl, _, rfl, du.mono (Same.tups s2), B.good, B.fld a _ ha, hl, may, fun j v' H3 hj _ dv' s3 => ?_, fun v' H3 hn _ _ => absurd (List.mem_of_getElem? hj0) hn⟩
      have ej : j = j0 := by
        have h1 := B.known ha hj
        have := B.ix hm h1
        omega
      subst ej
      have s23 := s2.trans s3
      refine ⟨_, rfl, _, rfl, _, rfl, _, _, rfl, rfl, _, rfl, qs, xs, rfl, s23 qs _ hqs, fun q4 H4 hq4 s4 => ?_⟩
      have hq4 : H4 q4 = some (.tup (xs.take (i + 1))) := by
        rw [hq4, Int.zero_add, show ((i : Int) + 1) = ((i + 1 : Nat) : Int) from rfl, cutV_take]
      have d4 := st_cut (i + 1) dl (Same.tups (s23.trans s4)) hq4
      have s24 := s23.trans s4
      refine ⟨nd, kvs, stK (st.take (i + 1)), .int ((j + 1 : Nat) : Int), rfl, K21.SRT.mono sr s24, by rw [stT_eq]; exact d4, N.get B.nd (by rw [est]; exact hm), ?_⟩
      refine ⟨_, rfl, _, rfl, v', u, sh, sh, _, true, rfl, dv'.mono (Same.tups s4), du.mono (Same.tups s24), hl, .inl ⟨rfl, rfl⟩, fun H5 s5 => ?_⟩
      obtain ⟨qv, zs, rfl, hqv, dz⟩ := L2.Dp.of_tup dv'
      obtain ⟨z1, r, rfl, f1, dz⟩ := dz.cases
      obtain ⟨z2, r, rfl, f2, dz⟩ := dz.cases
      cases dz.of_nil
      obtain rfl := f2.of_int
      refine ⟨_, rfl, iteF ⟨_, rfl, qv, _, _, _, rfl, rfl, SqT.of (s5 qv _ (s4 qv _ hqv)), atI_nat (j := 1) rfl, _, rfl, rfl, _, rfl, iteNeg ?_ ?_⟩⟩
      · rw [decide_eq_true rfl]
        exact Bool.false_ne_true
      · exact ⟨j + 1, _, _, rfl, by rw [est]; exact hm, s24.trans s5⟩
    · rintro σ H2 ⟨a, v4, v5, rfl, ha, s2⟩
      exact k H2 s2
end
end K21
end
section
set_option autoImplicit false
namespace K21
open PySem PyProof.Rows L2
theorem same_off {p : Addr} {H H1 H2 : Hp} (s : Same H H1) (o : L2.Off p H1 H2) (hp : H p = none) : Same H H2 := fun b u e => o b u (ne_of_none e hp) (s b u e)
theorem SqL.keep {K : PySem.W.Frag} {H H' : Hp} {a : Addr} {xs : List V} (h : SqL K H a xs) (k : ∀ o, H a = some o → H' a = some o) : SqL K H' a xs := by
  rcases h with (h | ⟨o, h⟩) | h
  · exact .inl (.inl (k _ h))
  · exact .inl (.inr ⟨o, k _ h⟩)
  · exact .inr h
theorem none_of {H H' : Hp} {p : Addr} (s : Same H H') (h : H' p = none) : H p = none := by
  cases q : H p with
  | none => rfl
  | some o => rw [s p o q] at h; cases h
theorem cutS_take (ws : List Str) (i : Nat) : cutV (ws.map V.str) none (some (0 + (i : Int))) = (ws.take i).map V.str := by
  rw [Int.zero_add, cutV_take, List.map_take]
theorem by_rest {G : Prop} (S : Hp → Prop) {NX : Hp → Prop} (use : (∀ H3, S H3 → NX H3) → G) (rest : ∀ H3, S H3 → NX H3) : G := use rest
theorem entT_lz (e : Ent) : Lz 1 (entT e) := by
  refine ⟨by show 3 ≤ 10000; decide, fun t h => ?_⟩
  have h : t ∈ [T.int (e.1 : Int), .str e.2.1, .str e.2.2] := h
  simp only [List.mem_cons, List.not_mem_nil, or_false] at h
  rcases h with rfl | rfl | rfl <;> trivial
theorem for_dictX {P : Program} {w : World} {o : Obj} {d : Addr} {kvs : List (TTK × Addr × V)} {g : TG} {tb : TS} {D : Ends} {σ : L2.St} {H : Hp} (Pv : Nat → L2.St → Hp → Prop) (h0 : Pv 0 σ H) (hl : ∀ i σ H, i ≤ kvs.length → Pv i σ H → H d = some (.frz o (DTT P w d kvs)))
    (hs : ∀ i kv σ H, kvs[i]? = some kv → Pv i σ H → g (.ref kv.2.1) σ H fun σ2 H2 => tb { D with nx := Pv (i + 1), ct := Pv (i + 1), bk := D.nx } σ2 H2) (hd : ∀ σ H, Pv kvs.length σ H → D.nx σ H) :
    ∃ W : Nat → Nat → L2.St → Hp → Prop, (∃ m, W 0 m σ H) ∧ ∀ i m σ H, W i m σ H →
      ((Itx P w o d kvs).stop i H ∧ D.nx σ H) ∨ ((Itx P w o d kvs).go i H ∧ ∃ N : L2.St → Hp → Prop, (∀ σ' H', N σ' H' → ∃ m', m' < m ∧ W (i + 1) m' σ' H') ∧ ∀ x H', (Itx P w o d kvs).yld i H x H' → g x σ H' fun σ2 H2 => tb { D with nx := N, ct := N, bk := D.nx } σ2 H2) := by
  refine ⟨fun i m σ H => m = kvs.length - i ∧ i ≤ kvs.length ∧ Pv i σ H, ⟨kvs.length, by simp, Nat.zero_le _, h0⟩, ?_⟩
  rintro i m σ H ⟨rfl, hi, p⟩
  have q := hl i σ H hi p
  by_cases hlt : i < kvs.length
  · refine .inr ⟨⟨q, hlt⟩, Pv (i + 1), fun σ' H' p' => ⟨kvs.length - (i + 1), by omega, rfl, hlt, p'⟩, fun x H' y => ?_⟩
    obtain ⟨rfl, kv, e, rfl⟩ := y
    exact hs i kv σ _ e p
  · have e : i = kvs.length := by omega
    subst e
    exact .inl ⟨⟨q, Nat.le_refl _⟩, hd σ H p⟩
theorem ks_put {P : Program} {w : World} {H : Hp} {a b : Addr} {kvs : List (TTK × Addr × V)} {k : TTK} {v : V} (e : H a = some (DTT P w a kvs)) (ks : ∀ x ∈ kvs, Dp H (ttT x.1) (.ref x.2.1)) (dy : Dp H (ttT k) (.ref b)) : ∀ x ∈ putT kvs k b v, Dp (upd H a (DTT P w a (putT kvs k b v))) (ttT x.1) (.ref x.2.1) := fun x hx => by
  have nt : Tups H (upd H a (DTT P w a (putT kvs k b v))) := fun c ys ec => by
    rw [upd_ne (ne_of ec e (fun z => nomatch z))]
    exact ec
  rcases mem_put (tk3 P w) (kvs := kvs) (k := k) (b := b) (v := v) hx with ⟨e1, e2⟩ | ⟨y', hy, e1, e2⟩
  · rw [e1, e2]
    exact dy.mono nt
  · rw [← e1, ← e2]
    exact (ks y' hy).mono nt
section
variable {P : Program} {w : World} {K : PySem.W.Frag} {mg : Str → Option Value} {base : Heap} {t : Adr} {pt : Addr}
def spLaw (K : PySem.W.Frag) (pt : Addr) : Sp := fun vs H Q _ => ∃ (a : Addr) (ns : List Int), vs = [.ref a] ∧ SqL K H a (ns.map V.int) ∧ ns.length ≤ 63 ∧ H pt = some (.tbl #[]) ∧ ∀ H', Q (.bl true) H'
theorem ok_law (D : Defs K mg t) (BM : Bm mg base) (CT : Cdh K t._law_turns.2.code pt) : FnOk P w K mg base CX0 6 t.law.1 t.law.2 ["_law_script"] (spLaw K pt) := by
  have G__law_take : FnOk P w K mg base CX0 1 t._law_take.1 t._law_take.2 _ spTake := ok_take D
  have G__law_purse : FnOk P w K mg base CX0 1 t._law_purse.1 t._law_purse.2 _ spPurse := ok_purse D
  have G__law_cell : FnOk P w K mg base CX0 1 t._law_cell.1 t._law_cell.2 _ (spCell K) := ok_cell D
  have G__law_words : FnOk P w K mg base CX0 3 t._law_words.1 t._law_words.2 _ spWords := ok_words D
  have G__law_story : FnOk P w K mg base CX0 2 t._law_story.1 t._law_story.2 _ spStoryL := ok_storyL D
  have G__law_turns : FnOk P w K mg base CX0 1 t._law_turns.1 t._law_turns.2 _ (spTurns pt) := ok_turns D BM CT
  have G_shape_by : FnOk P w K mg base CX0 4 t.shape_by.1 t.shape_by.2 _ spShape := ok_shape D
  have G_fields_at : FnOk P w K mg base CX0 3 t.fields_at.1 t.fields_at.2 _ spFieldsAt := ok_fields_at D
  have G__law_number : FnOk P w K mg base CX0 2 t._law_number.1 t._law_number.2 _ spNumber := ok_number D
  have G__law_same : FnOk P w K mg base CX0 2 t._law_same.1 t._law_same.2 _ (spSame 1) := ok_same D 1
  have G__law_walked : FnOk P w K mg base CX0 1 t._law_walked.1 t._law_walked.2 _ spWalked := ok_walked D
  have G__law_fields : FnOk P w K mg base CX0 1 t._law_fields.1 t._law_fields.2 _ spFieldsL := ok_fieldsL D
  have G__law_again : FnOk P w K mg base CX0 5 t._law_again.1 t._law_again.2 _ (spAgain P w) := ok_again D
  have hz : sizeLine = 16777216 := sizeLine_eq
  refine D.law.fn.ok sc_law (fun vs H Q E h => ?_) (fun cdv A outer s H vs Q E hr h => ?_)
  · obtain ⟨a, ns, rfl, _⟩ := h
    rfl
  · obtain ⟨a, ns, rfl, hS, hl, hP, k⟩ := h
    refine ⟨_, (@pss_cons _ _ _ _ _ (ps_set (i := 1) sc_law.nd rfl (Or.inl rfl) (@pe_callF _ _ _ _ _ _ _ _ _ _ _ _ _ D._law_purse G__law_purse (hr.mono (by omega)) (by rfl) (@pa_cons _ _ _ _ _ (@pe_callF _ _ _ _ _ _ _ _ _ _ _ _ _ D._law_cell G__law_cell (hr.mono (by omega)) (by rfl) (@pa_cons _ _ _ _ _ (pv 0) (@pa_cons _ _ _ _ _ pe_int pa_nil (by rfl)) (by rfl)) (by decide) (by rfl) (by rfl)) pa_nil (by rfl)) (by decide) (by rfl) (by rfl)))
      (@pss_cons _ _ _ _ _ (ps_set (i := 2) sc_law.nd rfl (Or.inl rfl) (@pe_callF _ _ _ _ _ _ _ _ _ _ _ _ _ D._law_take G__law_take (hr.mono (by omega)) (by rfl) (@pa_cons _ _ _ _ _ (pv 1) (@pa_cons _ _ _ _ _ pe_int pa_nil (by rfl)) (by rfl)) (by decide) (by rfl) (by rfl)))
      (@pss_cons _ _ _ _ _ (ps_set (i := 3) sc_law.nd rfl (Or.inl rfl) (@pe_op _ _ _ _ _ _ _ _ op_add pe_int (@pe_callF _ _ _ _ _ _ _ _ _ _ _ _ _ D._law_take G__law_take (hr.mono (by omega)) (by rfl) (@pa_cons _ _ _ _ _ (pv 1) (@pa_cons _ _ _ _ _ pe_int pa_nil (by rfl)) (by rfl)) (by decide) (by rfl) (by rfl))))
      (@pss_cons _ _ _ _ _ (ps_set (i := 4) sc_law.nd rfl (Or.inr rfl) (@pe_callF _ _ _ _ _ _ _ _ _ _ _ _ _ D._law_words G__law_words (hr.mono (by omega)) (by rfl) (@pa_cons _ _ _ _ _ (pv 1) (@pa_cons _ _ _ _ _ (@pe_op _ _ _ _ _ _ _ _ op_add pe_int (@pe_callF _ _ _ _ _ _ _ _ _ _ _ _ _ D._law_take G__law_take (hr.mono (by omega)) (by rfl) (@pa_cons _ _ _ _ _ (pv 1) (@pa_cons _ _ _ _ _ pe_int pa_nil (by rfl)) (by rfl)) (by decide) (by rfl) (by rfl))) (@pa_cons _ _ _ _ _ (@pe_lst _ _ _ _ pa_nil) pa_nil (by rfl)) (by rfl)) (by rfl)) (by decide) (by rfl) (by rfl)))
      (@pss_join _ _ _ _ _ (@ps_if _ _ _ _ _ _ _ _ (pt_cmpR op_eq (@pe_callF _ _ _ _ _ _ _ _ _ _ _ _ _ D._law_take G__law_take (hr.mono (by omega)) (by rfl) (@pa_cons _ _ _ _ _ (pv 1) (@pa_cons _ _ _ _ _ pe_int pa_nil (by rfl)) (by rfl)) (by decide) (by rfl) (by rfl)) pe_int (nomark _))
      (@pss_cons _ _ _ _ _ (ps_set (i := 4) sc_law.nd rfl (Or.inr rfl) (@pe_op _ _ _ _ _ _ _ _ op_cat (@pe_lst _ _ _ _ (@pa_cons _ _ _ _ _ pe_str (@pa_cons _ _ _ _ _ pe_str pa_nil (by rfl)) (by rfl))) (pe_slice sl_list (pv 4) po_none (po_some pe_int))))
      (@pss_one _ _ _ (ps_set (i := 4) sc_law.nd rfl (Or.inr rfl) (pe_comp rfl (CompScope.of ["_law_k"] [4] ["_law_k", "_law_names"] (defScope (top 26)) ["_law_script", "_law_head", "_law_way", "_law_many", "_law_names", "_law_stories", "_law_k", "_law_shapes", "_law_numbers", "_law_j", "_law_story_here", "_law_told", "_law_at"] rfl rfl (by decide +kernel)) ⟨fun _ _ _ _ _ => (pg_name (i := 0) (show List.Nodup [("_law_k" : Str), ("_law_names" : Str)] by decide +kernel) rfl (Or.inl (lookup_relabel_local rfl)) (.inr (lookup_relabel_local rfl))), fun _ _ _ _ _ => (pts_one (pt_cmpR (op_notIn_K (K := K) rfl) (@pe_ix _ _ _ _ _ _ _ (ix_list_K (K := K) rfl) (pv 1) (pv 0) (fun _ _ => rfl)) (pe_slice (sl_list_K (K := K) rfl) (pv 1) po_none (po_some (pv 0))) (by with_unfolding_all rfl))), fun _ _ _ _ _ => (@pe_ix _ _ _ _ _ _ _ (ix_list_K (K := K) rfl) (pv 1) (pv 0) (fun _ _ => rfl))⟩ (pi_range1 rfl D.b_range (@pa_cons _ _ _ _ _ (@pe_callB _ _ _ _ _ _ _ _ _ call_len_seq (by rfl) D.b_len bt_len (@pa_cons _ _ _ _ _ (pv 4) pa_nil (by rfl)) (by decide) (by decide) (by rfl) (by rfl)) pa_nil (by rfl)))))))
      pss_nil)
      (@pss_cons _ _ _ _ _ (ps_set (i := 5) sc_law.nd rfl (Or.inl rfl) (@pe_lst _ _ _ _ pa_nil))
      (@pss_cons _ _ _ _ _ (ps_for PassesOwn.never rfl (pi_range1 rfl D.b_range (@pa_cons _ _ _ _ _ (pv 3) pa_nil (by rfl))) (pg_name (i := 6) sc_law.nd rfl (Or.inl rfl))
      (@pss_one _ _ _ (ps_expr (pe_bm PySem.F.plainAttrs_list PySem.F.slot_list_append PySem.F.type_list_append mt_append (pv 5) (@pa_cons _ _ _ _ _ (@pe_callF _ _ _ _ _ _ _ _ _ _ _ _ _ D._law_story G__law_story (hr.mono (by omega)) (by rfl) (@pa_cons _ _ _ _ _ (@pe_callF _ _ _ _ _ _ _ _ _ _ _ _ _ D._law_purse G__law_purse (hr.mono (by omega)) (by rfl) (@pa_cons _ _ _ _ _ (@pe_callF _ _ _ _ _ _ _ _ _ _ _ _ _ D._law_cell G__law_cell (hr.mono (by omega)) (by rfl) (@pa_cons _ _ _ _ _ (pv 0) (@pa_cons _ _ _ _ _ (@pe_op _ _ _ _ _ _ _ _ op_add pe_int (pv 6)) pa_nil (by rfl)) (by rfl)) (by decide) (by rfl) (by rfl)) pa_nil (by rfl)) (by decide) (by rfl) (by rfl)) (@pa_cons _ _ _ _ _ (pv 4) (@pa_cons _ _ _ _ _ (pv 5) pa_nil (by rfl)) (by rfl)) (by rfl)) (by decide) (by rfl) (by rfl)) pa_nil (by rfl))))))
      (@pss_cons _ _ _ _ _ (@ps_asg _ _ _ _ _ _ (@pe_tup _ _ _ _ _ (@pa_cons _ _ _ _ _ (@pe_tup _ _ _ _ _ (@pa_cons _ _ _ _ _ (@pe_tup _ _ _ _ _ pa_nil) pa_nil (by rfl))) (@pa_cons _ _ _ _ _ (@pe_tnew _ _ _ _ _ _ (hu2 (hu10 hr)) (@pe_tup _ _ _ _ _ pa_nil) pe_int) pa_nil (by rfl)) (by rfl))) (@pg_tup _ _ _ _ _ _ rfl (@pgs_cons _ _ _ _ _ (@pg_name _ _ 7 _ sc_law.nd rfl (Or.inr rfl) (by first | exact .inl rfl | exact .inr rfl)) (@pgs_cons _ _ _ _ _ (@pg_name _ _ 8 _ sc_law.nd rfl (Or.inr rfl) (by first | exact .inl rfl | exact .inr rfl)) pgs_nil (by rfl)) (by rfl)) (by rfl) (by rfl)) (by rfl) (by rfl) (by rfl))
      (@pss_cons _ _ _ _ _ (ps_for PassesOwn.never rfl (pi_list (@pe_callF _ _ _ _ _ _ _ _ _ _ _ _ _ D._law_turns G__law_turns (hr.mono (by omega)) (by rfl) (@pa_cons _ _ _ _ _ (pv 2) (@pa_cons _ _ _ _ _ (pv 5) pa_nil (by rfl)) (by rfl)) (by decide) (by rfl) (by rfl))) (pg_tup rfl (pgs_cons (pg_name (i := 6) sc_law.nd rfl (Or.inl rfl)) (pgs_cons (pg_name (i := 9) sc_law.nd rfl (Or.inl rfl)) pgs_nil)))
      (@pss_cons _ _ _ _ _ (ps_set (i := 10) sc_law.nd rfl (Or.inl rfl) (pe_slice sl_tupW (@pe_ix _ _ _ _ _ _ _ ix_list (pv 5) (pv 9) (fun _ _ => rfl)) po_none (po_some (@pe_op _ _ _ _ _ _ _ _ op_add (pv 6) pe_int))))
      (@pss_cons _ _ _ _ _ (ps_set (i := 11) sc_law.nd rfl (Or.inl rfl) (@pe_callF _ _ _ _ _ _ _ _ _ _ _ _ _ D.shape_by G_shape_by (hr.mono (by omega)) (by rfl) (@pa_cons _ _ _ _ _ (pv 7) (@pa_cons _ _ _ _ _ (pe_tget (hu2 (hu10 hr)) (pv 8) (pe_slice sl_tupW (pv 10) po_none (po_some (pe_un un_neg pe_int))) (fun _ _ => rfl)) (@pa_cons _ _ _ _ _ (@pe_ix _ _ _ _ _ _ _ ix_tup (@pe_ix _ _ _ _ _ _ _ ix_tup (pv 10) (pv 6) (fun _ _ => rfl)) pe_int (fun _ _ => rfl)) (@pa_cons _ _ _ _ _ (@pe_ix _ _ _ _ _ _ _ ix_tup (@pe_ix _ _ _ _ _ _ _ ix_tup (pv 10) (pv 6) (fun _ _ => rfl)) pe_int (fun _ _ => rfl)) pa_nil (by rfl)) (by rfl)) (by rfl)) (by rfl)) (by decide) (by rfl) (by rfl)))
      (@pss_cons _ _ _ _ _ (@ps_if _ _ _ _ _ _ _ _ (pt_not (pt_val (@pe_callF _ _ _ _ _ _ _ _ _ _ _ _ _ D._law_number G__law_number (hr.mono (by omega)) (by rfl) (@pa_cons _ _ _ _ _ (pv 11) (@pa_cons _ _ _ _ _ (pv 7) (@pa_cons _ _ _ _ _ (pe_cmp (pc_tin (hu2 (hu10 hr)) (pv 10) (pv 8))) pa_nil (by rfl)) (by rfl)) (by rfl)) (by decide) (by rfl) (by rfl))))
      (@pss_one _ _ _ (@ps_ret _ _ _ _ pe_bl))
      pss_nil)
      (@pss_cons _ _ _ _ _ (@ps_if _ _ _ _ _ _ _ _ (PW.pt (pw_and (pt_cmp (pc_tin (hu2 (hu10 hr)) (pv 10) (pv 8))) (pw_and1 (pt_cmpR op_ne (pe_tget (hu2 (hu10 hr)) (pv 8) (pv 10) (fun _ _ => rfl)) (@pe_ix _ _ _ _ _ _ _ ix_tup (pv 11) pe_int (fun _ _ => rfl)) (nomark _)))))
      (@pss_one _ _ _ (@ps_ret _ _ _ _ pe_bl))
      pss_nil)
      (@pss_cons _ _ _ _ _ (ps_tput (hu2 (hu10 hr)) (pv 8) (pv 10) (@pe_ix _ _ _ _ _ _ _ ix_tup (pv 11) pe_int (fun _ _ => rfl)) rfl)
      (@pss_one _ _ _ (ps_set (i := 7) sc_law.nd rfl (Or.inr rfl) (@pe_ix _ _ _ _ _ _ _ ix_tup (pv 11) pe_int (fun _ _ => rfl))))))))))
      (@pss_cons _ _ _ _ _ (@ps_if _ _ _ _ _ _ _ _ (PW.pt (pw_or (pt_cmpR op_ne (@pe_callB _ _ _ _ _ _ _ _ _ call_len_seq (by rfl) D.b_len bt_len (@pa_cons _ _ _ _ _ (pv 7) pa_nil (by rfl)) (by decide) (by decide) (by rfl) (by rfl)) (@pe_callB _ _ _ _ _ _ _ _ _ call_lenT (by rfl) D.b_len bt_len (@pa_cons _ _ _ _ _ (pv 8) pa_nil (by rfl)) (by decide) (by decide) (by rfl) (by rfl)) (nomark _)) (pw_or1 (pt_cmpR (op_neT (hu10 hr)) (@pe_ix _ _ _ _ _ _ _ ix_tup (pv 7) pe_int (fun _ _ => rfl)) (@pe_tup _ _ _ _ _ pa_nil) (nomark _)))))
      (@pss_one _ _ _ (@ps_ret _ _ _ _ pe_bl))
      pss_nil)
      (@pss_cons _ _ _ _ _ (ps_for PassesOwn.never rfl (pi_dictX (pv 8)) (pg_name (i := 10) sc_law.nd rfl (Or.inl rfl))
      (@pss_cons _ _ _ _ _ (ps_set (i := 12) sc_law.nd rfl (Or.inl rfl) (pe_tget (hu2 (hu10 hr)) (pv 8) (pv 10) (fun _ _ => rfl)))
      (@pss_cons _ _ _ _ _ (@ps_if _ _ _ _ _ _ _ _ (PW.pt (pw_and (pt_cmpR (op_neT (hu10 hr)) (pv 10) (@pe_tup _ _ _ _ _ pa_nil) (nomark _)) (pw_and1 (pt_not (pt_val (@pe_callF _ _ _ _ _ _ _ _ _ _ _ _ _ D._law_same G__law_same (hr.mono (by omega)) (by rfl) (@pa_cons _ _ _ _ _ (@pe_ix _ _ _ _ _ _ _ ix_tup (pv 7) (pv 12) (fun _ _ => rfl)) (@pa_cons _ _ _ _ _ (@pe_op _ _ _ _ _ _ _ _ op_catN (@pe_tup _ _ _ _ _ (@pa_cons _ _ _ _ _ (pe_tget (hu2 (hu10 hr)) (pv 8) (pe_slice sl_tupW (pv 10) po_none (po_some (pe_un un_neg pe_int))) (fun _ _ => rfl)) pa_nil (by rfl))) (@pe_ix _ _ _ _ _ _ _ ix_tup (pv 10) (pe_un un_neg pe_int) (fun _ _ => rfl))) pa_nil (by rfl)) (by rfl)) (by decide) (by rfl) (by rfl)))))))
      (@pss_one _ _ _ (@ps_ret _ _ _ _ pe_bl))
      pss_nil)
      (@pss_one _ _ _ (@ps_if _ _ _ _ _ _ _ _ (PW.pt (pw_or (pt_cmpR (op_neT (hu10 hr)) (@pe_callF _ _ _ _ _ _ _ _ _ _ _ _ _ D._law_walked G__law_walked (hr.mono (by omega)) (by rfl) (@pa_cons _ _ _ _ _ (pv 7) (@pa_cons _ _ _ _ _ (pv 12) pa_nil (by rfl)) (by rfl)) (by decide) (by rfl) (by rfl)) (pv 10) (nomark _)) (pw_or1 (pt_not (pt_val (@pe_callF _ _ _ _ _ _ _ _ _ _ _ _ _ D._law_same G__law_same (hr.mono (by omega)) (by rfl) (@pa_cons _ _ _ _ _ (@pe_callF _ _ _ _ _ _ _ _ _ _ _ _ _ D.fields_at G_fields_at (hr.mono (by omega)) (by rfl) (@pa_cons _ _ _ _ _ (pv 7) (@pa_cons _ _ _ _ _ (pv 12) pa_nil (by rfl)) (by rfl)) (by decide) (by rfl) (by rfl)) (@pa_cons _ _ _ _ _ (@pe_callF _ _ _ _ _ _ _ _ _ _ _ _ _ D._law_fields G__law_fields (hr.mono (by omega)) (by rfl) (@pa_cons _ _ _ _ _ (pv 10) pa_nil (by rfl)) (by decide) (by rfl) (by rfl)) pa_nil (by rfl)) (by rfl)) (by decide) (by rfl) (by rfl)))))))
      (@pss_one _ _ _ (@ps_ret _ _ _ _ pe_bl))
      pss_nil)))))
      (@pss_one _ _ _ (@ps_ret _ _ _ _ (@pe_callB _ _ _ _ _ _ _ _ _ (call_all rfl) (by rfl) D.b_all bt_all (@pa_cons _ _ _ _ _ (pe_comp rfl (CompScope.of ["_law_story_here"] [7, 8] ["_law_story_here", "_law_shapes", "_law_numbers"] (defScope (top 26)) ["_law_script", "_law_head", "_law_way", "_law_many", "_law_names", "_law_stories", "_law_k", "_law_shapes", "_law_numbers", "_law_j", "_law_story_here", "_law_told", "_law_at"] rfl rfl (by decide +kernel)) ⟨fun _ _ _ _ _ => (pg_name (i := 0) (show List.Nodup [("_law_story_here" : Str), ("_law_shapes" : Str), ("_law_numbers" : Str)] by decide +kernel) rfl (Or.inl (lookup_relabel_local rfl)) (.inr (lookup_relabel_local rfl))), fun _ _ _ _ _ => pts_nil, fun _ _ _ _ _ => (@pe_callF _ _ _ _ _ _ _ _ _ _ _ _ _ D._law_again G__law_again (hr.mono (by omega)) (by rfl) (@pa_cons _ _ _ _ _ (pv 1) (@pa_cons _ _ _ _ _ (pv 0) (@pa_cons _ _ _ _ _ (pv 2) pa_nil (by rfl)) (by rfl)) (by rfl)) (by decide) (by rfl) (by rfl))⟩ (pi_list (pv 5))) pa_nil (by rfl)) (by decide) (by decide) (by rfl) (by rfl))))))))))))))), ?_⟩
    simp only [cxOf, Cx.nox]
    refine ⟨_, rfl, a, ns, 0, rfl, hS, hl, by decide, by decide, fun z0 H1 s1 => ⟨z0, rfl, fun p a1 b1 c1 hp => ?_⟩⟩
    have hpH : H p = none := none_of s1 hp
    have s2 : Same H (upd H1 p (.lst [.int a1, .int b1, .int c1])) := s1.trans (Same.new hp)
    have p2 : Pu (upd H1 p (.lst [.int a1, .int b1, .int c1])) p := Pu.upd
    generalize upd H1 p (.lst [.int a1, .int b1, .int c1]) = H2 at s2 p2
    refine ⟨_, rfl, p, 3, rfl, p2, by decide, by decide, fun r a2 b2 c2 l2 u2 => ?_⟩
    have s3 := same_off s2 (Off.upd (p := p) (o := .lst [.int a2, .int b2, .int c2])) hpH
    have p3 : Pu (upd H2 p (.lst [.int a2, .int b2, .int c2])) p := Pu.upd
    generalize upd H2 p (.lst [.int a2, .int b2, .int c2]) = H3 at s3 p3
    refine ⟨_, rfl, p, 9, rfl, p3, by decide, by decide, fun r2 a3 b3 c3 l3 u3 => ⟨_, _, rfl, rfl, ?_⟩⟩
    have s4 := same_off s3 (Off.upd (p := p) (o := .lst [.int a3, .int b3, .int c3])) hpH
    have p4 : Pu (upd H3 p (.lst [.int a3, .int b3, .int c3])) p := Pu.upd
    generalize upd H3 p (.lst [.int a3, .int b3, .int c3]) = H4 at s4 p4
    obtain ⟨mn, emn, mn1, mn2⟩ : ∃ n : Nat, 2 + r2 = (n : Int) ∧ 2 ≤ n ∧ n ≤ 10 := ⟨(2 + r2).toNat, by omega, by omega, by omega⟩
    refine ⟨_, rfl, _, rfl, p, 4, rfl, p4, by decide, by decide, fun r4 a4 b4 c4 l4 u4 => ⟨_, _, rfl, rfl, Nat.zero_le _, fun u hu => ?_⟩⟩
    have s5 := same_off s4 (Off.upd (p := p) (o := .lst [.int a4, .int b4, .int c4])) hpH
    have p5 : Pu (upd H4 p (.lst [.int a4, .int b4, .int c4])) p := Pu.upd
    generalize upd H4 p (.lst [.int a4, .int b4, .int c4]) = H5 at s5 p5 hu ⊢
    refine ⟨p, u, 1 + r4, rfl, p5.same (Same.new hu), upd_same, by omega, by omega, fun nm ws H6 hnmN hws nds hnm6 o6 p6 => ?_⟩
    have s6 := same_off (s5.trans (Same.new (o := .lst []) hu)) o6 hpH
    refine ⟨fun σ' H' => ∃ (nm : Addr) (ws : List Str), σ' = [some (.ref a), some (.ref p), some (.int r), some (.int (2 + r2)), some (.ref nm), none, none, none, none, none, none, none, none] ∧ H' nm = some (.lst (ws.map V.str)) ∧ 0 < ws.length ∧ ws.length ≤ 100 ∧ Same H H', ?_, ?_⟩
    · refine ⟨_, rfl, p, 4, rfl, p6, by decide, by decide, fun r7 a7 b7 c7 l7 u7 => ⟨rfl, _, rfl, ?_⟩⟩
      have s7 := same_off s6 (Off.upd (p := p) (o := .lst [.int a7, .int b7, .int c7])) hpH
      have hnm7 : (upd H6 p (.lst [.int a7, .int b7, .int c7])) nm = some (.lst (ws.map V.str)) := by rw [upd_ne (p6.ne hnm6)]; exact hnm6
      generalize upd H6 p (.lst [.int a7, .int b7, .int c7]) = H7 at s7 hnm7
      refine ite2 (fun hb => ?_) (fun hb => ?_)
      rotate_left
      · exact ⟨nm, ws, rfl, hnm7, by omega, by omega, s7⟩
      refine ⟨by show 2 ≤ sizeLine; decide, fun q1 hq1 => ?_⟩
      have t1 : Same H7 (upd H7 q1 (.lst [.str "put", .str "drop"])) := Same.new hq1
      have h81 : (upd H7 q1 (.lst [.str "put", .str "drop"])) q1 = some (.lst [.str "put", .str "drop"]) := upd_same
      generalize upd H7 q1 (.lst [.str "put", .str "drop"]) = H8 at t1 h81 ⊢
      refine ⟨_, rfl, _, rfl, nm, _, rfl, SqL.of (t1 nm _ hnm7), fun q2 hq2 => ?_⟩
      have e2 : cutV (ws.map V.str) none (some 2) = (ws.take 2).map V.str := by
        rw [show (2 : Int) = ((2 : Nat) : Int) from rfl, cutV_take, List.map_take]
      rw [e2]
      have t2 : Same H8 (upd H8 q2 (.lst ((ws.take 2).map V.str))) := Same.new hq2
      have h92 : (upd H8 q2 (.lst ((ws.take 2).map V.str))) q2 = some (.lst ((ws.take 2).map V.str)) := upd_same
      generalize upd H8 q2 (.lst ((ws.take 2).map V.str)) = H9 at t2 h92 ⊢
      refine ⟨q1, q2, _, _, rfl, rfl, t2 q1 _ h81, h92, by rw [List.length_map, List.length_take]; show 2 + _ ≤ sizeLine; omega, fun q3 hq3 => ?_⟩
      obtain ⟨vs, evs, vs2, vs4⟩ : ∃ vs : List Str, [V.str "put", V.str "drop"] ++ (ws.take 2).map V.str = vs.map V.str ∧ 2 ≤ vs.length ∧ vs.length ≤ 4 := ⟨(["put", "drop"] : List Str) ++ ws.take 2, by rw [List.map_append]; rfl, by rw [List.length_append]; show 2 ≤ 2 + _; omega, by rw [List.length_append, List.length_take]; show 2 + _ ≤ 4; omega⟩
      rw [evs]
      have t3 : Same H9 (upd H9 q3 (.lst (vs.map V.str))) := Same.new hq3
      have hA3 : (upd H9 q3 (.lst (vs.map V.str))) q3 = some (.lst (vs.map V.str)) := upd_same
      generalize upd H9 q3 (.lst (vs.map V.str)) = HA at t3 hA3 ⊢
      have sA := s7.trans (t1.trans (t2.trans t3))
      refine ⟨_, rfl, q3, _, rfl, .inl (SqL.of hA3), _, rfl, by rw [List.length_map]; omega, by rw [List.length_map]; omega, fun D1 hD1 => ?_⟩
      refine comp_by (n := (vs.map V.str).length) (fun i ys H2 => ∃ zs : List Str, ys = zs.map V.str ∧ zs.length ≤ i ∧ (0 < i → 0 < zs.length) ∧ H2 D1 = some (.lst ys) ∧ Same HA H2) ⟨[], rfl, Nat.le_refl _, fun h => absurd h (Nat.lt_irrefl _), upd_same, Same.new hD1⟩ ?_ ?_
      · rintro ys HB ⟨zs, rfl, zl, z0, hDB, sB⟩
        rw [List.length_map] at zl z0
        exact ⟨Nat.le_refl _, D1, zs, rfl, hDB, z0 (by omega), by omega, sA.trans sB⟩
      · rintro i ys HB hi ⟨zs, rfl, zl, z0, hDB, sB⟩
        have hiv : i < vs.length := by rwa [List.length_map] at hi
        refine ⟨hi, ?_⟩
        rintro x HC ⟨rfl, rfl⟩ σo ho
        obtain ⟨oo, rfl⟩ := own1 ho
        have ea : atI (vs.map V.str) (0 + (i : Int)) = some (.str vs[i]) := by
          rw [Int.zero_add]
          exact atI_nat (j := i) (by rw [List.getElem?_map, List.getElem?_eq_getElem hiv]; rfl)
        refine ⟨⟨[_], rfl, rfl⟩, _, rfl, _, rfl, q3, _, _, _, rfl, rfl, SqL.of (sB q3 _ hA3), ea, _, rfl, _, rfl, _, rfl, q3, _, rfl, SqL.of (sB q3 _ hA3), fun q4 hq4 => ?_⟩
        rw [cutS_take]
        have t4 : Same HC (upd HC q4 (.lst ((vs.take i).map V.str))) := Same.new hq4
        have hC4 : (upd HC q4 (.lst ((vs.take i).map V.str))) q4 = some (.lst ((vs.take i).map V.str)) := upd_same
        generalize upd HC q4 (.lst ((vs.take i).map V.str)) = HD at t4 hC4 ⊢
        refine ⟨q4, _, rfl, .inl (SqL.of hC4), rfl, flat_strs _, _, rfl, ?_⟩
        have hDD := t4 D1 _ hDB
        refine ite2 (fun hb => ?_) (fun hb => ?_)
        · refine ⟨_, rfl, _, rfl, q3, _, _, _, rfl, rfl, SqL.of (t4 q3 _ (sB q3 _ hA3)), ea, by rw [List.length_map]; omega, hDD, less_by hi ⟨zs ++ [vs[i]], by rw [List.map_append]; rfl, by rw [List.length_append]; show zs.length + 1 ≤ i + 1; omega, fun _ => by rw [List.length_append]; show 0 < zs.length + 1; omega, upd_same, fun b u e => by rw [upd_ne (ne_of_none e hD1)]; exact t4 b u (sB b u e)⟩⟩
        · refine less_by hi ⟨zs, rfl, by omega, fun _ => ?_, hDD, sB.trans t4⟩
          cases i with
          | zero => exact absurd rfl hb
          | succ i => exact z0 (Nat.succ_pos _)
    · rintro σ' H' ⟨nm, ws, rfl, hnm, w0, w1, sH⟩
      refine ⟨Nat.zero_le _, fun sl hsl => ?_⟩
      have hslH : H sl = none := none_of sH hsl
      have nmsl : nm ≠ sl := ne_of_none hnm hsl
      have s1 : Same H (upd H' sl (.lst [])) := sH.trans (Same.new hsl)
      have hnm1 : (upd H' sl (.lst [])) nm = some (.lst (ws.map V.str)) := (Same.new hsl) nm _ hnm
      have hsl1 : (upd H' sl (.lst [])) sl = some (.lst []) := upd_same
      generalize upd H' sl (.lst []) = H1 at s1 hnm1 hsl1
      refine ⟨_, rfl, 2 + r2, rfl, by omega, by omega, ?_⟩
      refine for_range (lo := 0) (n := (2 + r2).toNat) (fun i σ H2 => ∃ (ys : List V) (ss : List Sto) (v6 : Option V), σ = [some (.ref a), some (.ref p), some (.int r), some (.int (2 + r2)), some (.ref nm), some (.ref sl), v6, none, none, none, none, none, none] ∧ H2 sl = some (.lst ys) ∧ DpL H2 (ss.map stT) ys ∧ ss.length = i ∧ (∀ s ∈ ss, Leg s ∧ s.length ≤ 16) ∧ H2 nm = some (.lst (ws.map V.str)) ∧ Same H H2)
        ⟨[], [], _, rfl, hsl1, .nil, rfl, (fun s h => nomatch h), hnm1, s1⟩ ?_ ?_
      · rintro i σ H2 hi ⟨ys, ss, v6, rfl, hsl2, dys, ssl, hss, hnm2, s2⟩
        have hyl : ys.length = ss.length := by have := dys.length; rwa [List.length_map] at this
        refine ⟨_, rfl, .inl ⟨rfl, _, SqL.of hsl2⟩, _, rfl, _, rfl, _, _, rfl, rfl, a, ns, _, rfl, K21.SqL.keep hS fun o e => s2 a o e, hl, by omega, by omega, fun z H3 s3 => ⟨z, rfl, fun pc a4 b4 c4 hpc => ?_⟩⟩
        have s4 : Same H3 (upd H3 pc (.lst [.int a4, .int b4, .int c4])) := Same.new hpc
        have p4 : Pu (upd H3 pc (.lst [.int a4, .int b4, .int c4])) pc := Pu.upd
        have hpc2 : H2 pc = none := none_of s3 hpc
        generalize upd H3 pc (.lst [.int a4, .int b4, .int c4]) = H4 at s4 p4
        have s34 := s3.trans s4
        refine ⟨_, rfl, _, rfl, pc, nm, sl, ws, ys, ss, rfl, p4, s34 nm _ hnm2, w0, w1, s34 sl _ hsl2, ne_of_none hsl2 hpc2, dys.mono (Same.tups s34), by omega, hss, fun v st H5 dv lg l16 o5 p5 => ?_⟩
        have s5 : Same H2 H5 := fun b u e => o5 b u (ne_of_none e hpc2) (s34 b u e)
        refine ⟨sl, ys, v, rfl, rfl, s5 sl _ hsl2, by omega, ?_⟩
        have tu : Tups H5 (upd H5 sl (.lst (ys ++ [v]))) := fun c zs e => by
          rw [upd_ne (ne_of e (s5 sl _ hsl2) fun z => nomatch z)]
          exact e
        refine ⟨ys ++ [v], ss ++ [st], _, rfl, upd_same, ?_, by rw [List.length_append, ssl]; rfl, fun s hs => ?_, ?_, fun b u e => ?_⟩
        · rw [List.map_append]
          exact ((dys.mono (Same.tups s5)).append (.cons dv .nil)).mono tu
        · rcases List.mem_append.mp hs with h | h
          · exact hss s h
          · rw [List.mem_singleton.mp h]
            exact ⟨lg, l16⟩
        · rw [upd_ne nmsl]
          exact s5 nm _ hnm2
        · rw [upd_ne (ne_of_none e hslH)]
          exact s5 b u (s2 b u e)
      · rintro σ H2 ⟨ys, ss, v6, rfl, hsl2, dys, ssl, hss, hnm2, s2⟩
        have ssl' : ss.length ≤ 10 := by omega
        have hyl : ys.length = ss.length := by have := dys.length; rwa [List.length_map] at this
        clear hnm2 hnm1 hsl1 hnm
        refine ⟨Nat.zero_le _, fun q1 hq1 => ?_⟩
        have t1 : Same H2 (upd H2 q1 (.tup [])) := Same.new hq1
        have h31 : (upd H2 q1 (.tup [])) q1 = some (.tup []) := upd_same
        generalize upd H2 q1 (.tup []) = H3 at t1 h31 ⊢
        refine ⟨by show 1 ≤ sizeLine; decide, fun q2 hq2 => ?_⟩
        have t2 : Same H3 (upd H3 q2 (.tup [.ref q1])) := Same.new hq2
        have h42 : (upd H3 q2 (.tup [.ref q1])) q2 = some (.tup [.ref q1]) := upd_same
        generalize upd H3 q2 (.tup [.ref q1]) = H4 at t2 h42 ⊢
        refine fun nd hnd => ?_
        have t3 : Same H4 (upd H4 nd (DTT P w nd [])) := Same.new hnd
        have h5n : (upd H4 nd (DTT P w nd [])) nd = some (DTT P w nd []) := upd_same
        generalize upd H4 nd (DTT P w nd []) = H5 at t3 h5n ⊢
        refine ⟨Nat.zero_le _, fun q3 hq3 => ?_⟩
        have t4 : Same H5 (upd H5 q3 (.tup [])) := Same.new hq3
        have h63 : (upd H5 q3 (.tup [])) q3 = some (.tup []) := upd_same
        generalize upd H5 q3 (.tup []) = H6 at t4 h63 ⊢
        have d63 : Dp H6 (ttT []) (.ref q3) := .tup h63 .nil
        refine ⟨q3, [], rfl, t4 nd _ h5n, d63, by show 2 ≤ sizeLine; decide, fun q5 hq5 => ?_⟩
        have hnd2 : H2 nd = none := none_of (t1.trans t2) hnd
        have tu6 : Tups H6 (upd H6 nd (DTT P w nd [([], q3, .int 0)])) := fun c zs e => by
          rw [upd_ne (ne_of e (t4 nd _ h5n) fun z => nomatch z)]
          exact e
        have t7 : Same H2 (upd H6 nd (DTT P w nd [([], q3, .int 0)])) := fun b u e => by
          rw [upd_ne (ne_of_none e hnd2)]
          exact (t1.trans (t2.trans (t3.trans t4))) b u e
        have h7n : (upd H6 nd (DTT P w nd [([], q3, .int 0)])) nd = some (DTT P w nd [([], q3, .int 0)]) := upd_same
        have d7 : Dp (upd H6 nd (DTT P w nd [([], q3, .int 0)])) (ttT []) (.ref q3) := d63.mono tu6
        have e72 : Dp (upd H6 nd (DTT P w nd [([], q3, .int 0)])) (.tup (shT [])) (.ref q2) := (L2.Dp.tup (t4 q2 _ (t3 q2 _ h42)) (.cons (.tup (t4 q1 _ (t3 q1 _ (t2 q1 _ h31))) .nil) .nil)).mono tu6
        generalize upd H6 nd (DTT P w nd [([], q3, .int 0)]) = H7 at t7 h7n d7 e72 hq5 ⊢
        have t8 : Same H7 (upd H7 q5 (.tup [.ref q2, .ref nd])) := Same.new hq5
        have h85 : (upd H7 q5 (.tup [.ref q2, .ref nd])) q5 = some (.tup [.ref q2, .ref nd]) := upd_same
        generalize upd H7 q5 (.tup [.ref q2, .ref nd]) = H8 at t8 h85 ⊢
        refine ⟨q5, _, rfl, SqT.of h85, rfl, _, _, rfl, _, _, rfl, rfl, ?_⟩
        have t28 := t7.trans t8
        have sH8 := s2.trans t28
        have d8 := dys.mono (Same.tups t28)
        refine ⟨_, rfl, _, rfl, r, sl, ys, ss, rfl, by omega, t28 sl _ hsl2, d8, by omega, fun s h => (hss s h).2, sH8 pt _ hP, fun d ps H9 hd pr T psl hdN o9 => ⟨d, rfl, ⟨_, SqL.of hd⟩, ?_⟩⟩
        have npt : ∀ {b : Addr} {u : HO}, H8 b = some u → (∀ q, u ≠ .tbl q) → b ≠ pt := fun {b u} e h z => by
          rw [z, sH8 pt _ hP] at e
          cases e
          exact h _ rfl
        have tu9 := off_tups o9 (sH8 pt _ hP)
        have hsl9 := o9 sl _ (npt (t28 sl _ hsl2) fun q z => nomatch z) (t28 sl _ hsl2)
        have h9n := o9 nd _ (npt (t8 nd _ h7n) fun q z => nomatch z) (t8 nd _ h7n)
        have d9 := d8.mono tu9
        have e9 := (e72.mono (Same.tups t8)).mono tu9
        have k9 := (d7.mono (Same.tups t8)).mono tu9
        clear hP sH8 s2 t7 t28 npt hS s1 sH s6 s5 s4 s3 hpH
        refine for_list (K := K) (a := d) (xs := ps.map fun p => V.ref p.1) (fun i σ H2 => ∃ (u : V) (kvs : List (TTK × Addr × V)) (ts : List Sto) (sh : List Ent) (fl : List (List Str)) (v6 v9 v10 v11 : Option V), σ = [some (.ref a), some (.ref p), some (.int r), some (.int (2 + r2)), some (.ref nm), some (.ref sl), v6, some u, some (.ref nd), v9, v10, v11, none] ∧ Dp H2 (.tup (shT sh)) u ∧ H2 nd = some (DTT P w nd kvs) ∧ (∀ x ∈ kvs, Dp H2 (ttT x.1) (.ref x.2.1)) ∧ Nums kvs ts ∧ Book ts sh fl ∧ ts.length ≤ i + 1 ∧ (∀ (i' : Nat) (p' : Addr × Nat × Nat), i' < i → ps[i']? = some p' → (ss.getD p'.2.2 []).take (p'.2.1 + 1) ∈ ts) ∧ H2 sl = some (.lst ys) ∧ DpL H2 (ss.map stT) ys ∧ H2 d = some (.lst (ps.map fun p => V.ref p.1)) ∧ PrA H2 ps)
          ⟨.ref q2, [([], q3, .int 0)], [[]], [], [[]], _, _, _, _, rfl, e9, h9n, fun x hx => by rw [List.mem_singleton.mp hx]; exact k9, ⟨rfl, fun i s hi => ?_⟩, Book.one, Nat.le_refl _, (fun i' p' h _ => absurd h (Nat.not_lt_zero _)), hsl9, d9, hd, pr⟩ (fun i σ H2 _ h => by obtain ⟨_, _, _, _, _, _, _, _, _, _, _, _, _, _, _, _, _, _, _, e, _⟩ := h; exact SqL.of e) ?_ ?_
        · have : i = 0 := by
            have := (List.getElem?_eq_some_iff.mp hi).1
            simpa using this
          subst this
          cases hi
          exact ⟨q3, rfl⟩
        · rintro i x σ H2 hi ⟨u, kvs, ts, sh, fl, v6, v9, v10, v11, rfl, du, hn2, ks, N, B, tl, done, hsl2, d2, hd2, pr2⟩
          have hip : i < ps.length := by
            have := (List.getElem?_eq_some_iff.mp hi).1
            rwa [List.length_map] at this
          rw [List.getElem?_map, List.getElem?_eq_getElem hip] at hi
          cases hi
          generalize ep : ps[i] = pp
          have epi : ps[i]? = some pp := by rw [List.getElem?_eq_getElem hip, ep]
          obtain ⟨pa, kk, jj⟩ := pp
          have hpp := pr2 _ (List.mem_of_getElem? epi)
          obtain ⟨hj, hk⟩ := T.inn (kk, jj) (List.mem_map.mpr ⟨_, List.mem_of_getElem? epi, rfl⟩)
          have hj : jj < ss.length := hj
          have est0 : ss.getD jj [] = ss[jj] := by rw [List.getD_eq_getElem?_getD, List.getElem?_eq_getElem hj]; rfl
          have hk : kk < ss[jj].length := by
            have hk : kk < (ss.getD jj []).length := hk
            rwa [est0] at hk
          obtain ⟨lg0, l160⟩ := hss _ (List.getElem_mem hj)
          generalize ess : ss[jj] = st0 at *
          have est : st0.take (kk + 1) = st0.take kk ++ [(st0[kk].1, st0[kk].2)] := by
            rw [List.take_succ, List.getElem?_eq_getElem hk]
            rfl
          have may := lg0 kk st0[kk] (List.getElem?_eq_getElem hk)
          have hprev : st0.take kk ∈ ts := by
            cases kk with
            | zero => exact List.mem_of_getElem? B.zero
            | succ k0 =>
              obtain ⟨i', lt, e'⟩ := T.pre i k0 jj (by rw [List.getElem?_map, epi]; rfl)
              rw [List.getElem?_map] at e'
              cases q : ps[i']? with
              | none => rw [q] at e'; cases e'
              | some p' =>
                rw [q] at e'
                have e' : p'.2 = (k0, jj) := Option.some.inj e'
                have := done i' p' lt q
                rw [e', est0] at this
                exact this
          obtain ⟨a0, ha0⟩ := List.mem_iff_getElem?.mp hprev
          refine ⟨pa, _, rfl, SqT.of hpp, rfl, _, _, rfl, _, _, rfl, rfl, ?_⟩
          obtain ⟨y, ey, dy⟩ := d2.get (i := jj) (t := stT st0) (by rw [List.getElem?_map, List.getElem?_eq_getElem hj, ess]; rfl)
          obtain ⟨qy, xs, rfl, hqy, dl⟩ := L2.Dp.of_tup dy
          have hxl : xs.length = st0.length := by have := dl.length; rwa [List.length_map] at this
          refine ⟨_, rfl, _, rfl, sl, ys, _, _, rfl, rfl, SqL.of hsl2, atI_nat (j := jj) ey, _, rfl, _, _, rfl, rfl, _, rfl, qy, xs, rfl, hqy, fun q6 H3 hq6 s3 => ?_⟩
          have hq6 : H3 q6 = some (.tup (xs.take (kk + 1))) := by
            rw [hq6, show ((kk : Int) + 1) = ((kk + 1 : Nat) : Int) from rfl, cutV_take]
          have d6 := st_cut (kk + 1) dl (Same.tups s3) hq6
          have x6l : (xs.take (kk + 1)).length = kk + 1 := by rw [List.length_take]; omega
          have sr3 : SRT P w H3 nd kvs := ⟨.inl (s3 nd _ hn2), fun x hx => (ks x hx).mono (Same.tups s3)⟩
          refine ⟨_, rfl, _, rfl, _, rfl, _, rfl, _, rfl, q6, _, rfl, hq6, fun q7 H4 hq7 s4 => ?_⟩
          have hq7 : H4 q7 = some (.tup (xs.take kk)) := by
            have : cutV (xs.take (kk + 1)) none (some (-1)) = xs.take kk := by
              rw [cutV_neg, x6l, List.take_take]
              congr 1
              omega
            rw [← this]
            exact hq7
          have s24 := s3.trans s4
          have d7 := st_cut kk dl (Same.tups s24) hq7
          obtain ⟨y2, ey2, dy2⟩ := (dl.mono (Same.tups s24)).get (i := kk) (t := L2.T.tup [.str st0[kk].1, .str st0[kk].2]) (by rw [List.getElem?_map, List.getElem?_eq_getElem hk]; rfl)
          obtain ⟨qp, rfl, hqp⟩ := K21.Dp.of_pair dy2
          have ea2 : atI (xs.take (kk + 1)) (kk : Int) = some (.ref qp) := atI_nat (j := kk) (by rw [List.getElem?_take_of_lt (Nat.lt_succ_self kk)]; exact ey2)
          refine ⟨nd, kvs, stK (st0.take kk), .int (a0 : Nat), rfl, K21.SRT.mono sr3 s4, by rw [stT_eq]; exact d7, N.get B.nd ha0, ?_⟩
          refine ⟨_, rfl, _, rfl, q6, _, _, _, rfl, rfl, SqT.of (s4 q6 _ hq6), ea2, qp, _, _, _, rfl, rfl, SqT.of hqp, atI_nat (j := 0) rfl, _, rfl, _, rfl, q6, _, _, _, rfl, rfl, SqT.of (s4 q6 _ hq6), ea2, qp, _, _, _, rfl, rfl, SqT.of hqp, atI_nat (j := 1) rfl, ?_⟩
          have hshl := B.len
          refine ⟨u, a0, st0[kk].1, st0[kk].2, sh, fl, _, rfl, du.mono (Same.tups s24), B.good, B.fld a0 _ ha0, by omega, may, fun j0 v' H5 hj0 _ dv' s5 => ?_, fun v' H5 hnew dv' s5 => ?_⟩
          · have hm := B.known ha0 hj0
            rw [← est] at hm
            have s25 := s24.trans s5
            have hsome : (atT kvs (stK (st0.take (kk + 1)))).isSome = true := by rw [N.get B.nd hm]; rfl
            have sr5 : SRT P w H5 nd kvs := K21.SRT.mono sr3 (s4.trans s5)
            have d65 : Dp H5 (ttT (stK (st0.take (kk + 1)))) (.ref q6) := by rw [stT_eq]; exact d6.mono (Same.tups (s4.trans s5))
            refine ⟨_, rfl, _, rfl, _, rfl, _, rfl, nd, kvs, _, rfl, sr5, d65, v', u, sh, sh, _, _, rfl, dv', du.mono (Same.tups s25), by omega, .inl ⟨hsome, rfl⟩, fun H6 s6 => ⟨_, rfl, iteF ?_⟩⟩
            obtain ⟨qv, zs, rfl, hqv, dz⟩ := L2.Dp.of_tup dv'
            obtain ⟨z1, r', rfl, f1, dz⟩ := dz.cases
            obtain ⟨z2, r', rfl, f2, dz⟩ := dz.cases
            cases dz.of_nil
            obtain rfl := f2.of_int
            have sr6 : SRT P w H6 nd kvs := K21.SRT.mono sr5 s6
            have d66 := d65.mono (Same.tups s6)
            refine ⟨_, rfl, _, rfl, nd, kvs, _, rfl, sr6, d66, _, rfl, itePos hsome ⟨_, rfl, _, rfl, nd, kvs, _, _, rfl, sr6, d66, N.get B.nd hm, _, rfl, qv, _, _, _, rfl, rfl, SqT.of (s6 qv _ hqv), atI_nat (j := 1) rfl, rfl, _, rfl, iteNeg ?_ ?_⟩⟩
            · rw [decide_eq_true rfl]
              exact Bool.false_ne_true
            have s26 := s25.trans s6
            refine ⟨_, rfl, qv, _, _, _, rfl, rfl, SqT.of (s6 qv _ hqv), atI_nat (j := 1) rfl, _, rfl, _, rfl, nd, q6, kvs, _, rfl, rfl, s26 nd _ hn2, fun x hx => (ks x hx).mono (Same.tups s26), by rw [N.len]; omega, d66, ?_⟩
            rw [N.put_old B.nd hm]
            have t7 : ∀ b o, H6 b = some o → (upd H6 nd (DTT P w nd kvs)) b = some o := fun b o e => by
              by_cases hb : b = nd
              · rw [hb, upd_same]
                rw [hb, s26 nd _ hn2] at e
                exact e
              · rw [upd_ne hb]
                exact e
            generalize upd H6 nd (DTT P w nd kvs) = H7 at t7 ⊢
            have s27 : Same H2 H7 := s26.trans t7
            refine ⟨_, rfl, qv, _, _, _, rfl, rfl, SqT.of (t7 qv _ (s6 qv _ hqv)), atI_nat (j := 0) rfl, ?_⟩
            refine ⟨z1, kvs, ts, sh, fl, _, _, _, _, rfl, f1.mono (Same.tups (s6.trans t7)), s27 nd _ hn2, fun x hx => (ks x hx).mono (Same.tups s27), N, B, by omega, fun i' p' lt e' => ?_, s27 sl _ hsl2, d2.mono (Same.tups s27), s27 d _ hd2, pr2.mono (Same.tups s27)⟩
            rcases Nat.lt_succ_iff_lt_or_eq.mp lt with h | h
            · exact done i' p' h e'
            · subst h
              rw [epi] at e'
              cases e'
              show (ss.getD jj []).take (kk + 1) ∈ ts
              rw [est0]
              exact List.mem_of_getElem? hm
          · have hnt : ¬ st0.take (kk + 1) ∈ ts := fun h => by
              obtain ⟨m, hm⟩ := List.mem_iff_getElem?.mp h
              rw [est] at hm
              obtain ⟨i0, _, q⟩ := B.has ha0 hm
              exact hnew (List.mem_of_getElem? q)
            have s25 := s24.trans s5
            have hnone : (atT kvs (stK (st0.take (kk + 1)))).isSome = false := by rw [N.none hnt]; rfl
            have sr5 : SRT P w H5 nd kvs := K21.SRT.mono sr3 (s4.trans s5)
            have d65 : Dp H5 (ttT (stK (st0.take (kk + 1)))) (.ref q6) := by rw [stT_eq]; exact d6.mono (Same.tups (s4.trans s5))
            refine ⟨_, rfl, _, rfl, _, rfl, _, rfl, nd, kvs, _, rfl, sr5, d65, v', u, sh, _, _, _, rfl, dv', du.mono (Same.tups s25), by omega, .inr ⟨hnone, rfl, _, rfl⟩, fun H6 s6 => ⟨_, rfl, iteF ?_⟩⟩
            obtain ⟨qv, zs, rfl, hqv, dz⟩ := L2.Dp.of_tup dv'
            obtain ⟨z1, r', rfl, f1, dz⟩ := dz.cases
            obtain ⟨z2, r', rfl, f2, dz⟩ := dz.cases
            cases dz.of_nil
            obtain rfl := f2.of_int
            have sr6 : SRT P w H6 nd kvs := K21.SRT.mono sr5 s6
            have d66 := d65.mono (Same.tups s6)
            refine ⟨_, rfl, _, rfl, nd, kvs, _, rfl, sr6, d66, _, rfl, iteNeg (by rw [hnone]; exact Bool.false_ne_true) ?_⟩
            have s26 := s25.trans s6
            refine ⟨_, rfl, qv, _, _, _, rfl, rfl, SqT.of (s6 qv _ hqv), atI_nat (j := 1) rfl, _, rfl, _, rfl, nd, q6, kvs, _, rfl, rfl, s26 nd _ hn2, fun x hx => (ks x hx).mono (Same.tups s26), by rw [N.len]; omega, d66, ?_⟩
            have n6 := s26 nd _ hn2
            have N' := N.put_new hnt q6
            rw [hshl] at N'
            have h7n : (upd H6 nd (DTT P w nd (putT kvs (stK (st0.take (kk + 1))) q6 (.int ((sh.length + 1 : Nat) : Int))))) nd = some (DTT P w nd (putT kvs (stK (st0.take (kk + 1))) q6 (.int ((sh.length + 1 : Nat) : Int)))) := upd_same
            have o7 : ∀ b o, b ≠ nd → H6 b = some o → (upd H6 nd (DTT P w nd (putT kvs (stK (st0.take (kk + 1))) q6 (.int ((sh.length + 1 : Nat) : Int))))) b = some o := fun b o hb e => by rw [upd_ne hb]; exact e
            have ksp : ∀ x ∈ putT kvs (stK (st0.take (kk + 1))) q6 (.int ((sh.length + 1 : Nat) : Int)), Dp (upd H6 nd (DTT P w nd (putT kvs (stK (st0.take (kk + 1))) q6 (.int ((sh.length + 1 : Nat) : Int))))) (ttT x.1) (.ref x.2.1) := ks_put n6 (fun x hx => (ks x hx).mono (Same.tups s26)) d66
            generalize upd H6 nd (DTT P w nd (putT kvs (stK (st0.take (kk + 1))) q6 (.int ((sh.length + 1 : Nat) : Int)))) = H7 at h7n o7 ksp ⊢
            generalize putT kvs (stK (st0.take (kk + 1))) q6 (.int ((sh.length + 1 : Nat) : Int)) = kvs' at N' h7n ksp
            have nnd : ∀ {b : Addr} {o : HO}, H6 b = some o → (∀ f, o ≠ .ext f) → b ≠ nd := fun {b o} e h z => by
              rw [z, n6] at e
              cases e
              exact h _ rfl
            have tu7 : Tups H6 H7 := fun c zs e => o7 c _ (nnd e fun f z => nomatch z) e
            have tu27 := (Same.tups s26).trans tu7
            refine ⟨_, rfl, qv, _, _, _, rfl, rfl, SqT.of (tu7 qv _ (s6 qv _ hqv)), atI_nat (j := 0) rfl, ?_⟩
            have l15 : (st0.take kk).length < 16 := by rw [List.length_take]; omega
            have B' := B.more (d := st0[kk].1) (x := st0[kk].2) ha0 may (by rw [← est]; exact hnt) l15
            rw [← est] at B'
            refine ⟨z1, kvs', ts ++ [st0.take (kk + 1)], _, _, _, _, _, _, rfl, f1.mono ((Same.tups s6).trans tu7), h7n, ksp, N', B', by rw [List.length_append]; show ts.length + 1 ≤ _; omega, fun i' p' lt e' => ?_, ?_, d2.mono tu27, ?_, pr2.mono tu27⟩
            · rcases Nat.lt_succ_iff_lt_or_eq.mp lt with h | h
              · exact List.mem_append_left _ (done i' p' h e')
              · subst h
                rw [epi] at e'
                cases e'
                show (ss.getD jj []).take (kk + 1) ∈ _
                rw [est0]
                exact List.mem_append_right _ (List.mem_singleton.mpr rfl)
            · have := s26 sl _ hsl2
              exact o7 sl _ (nnd this fun f z => nomatch z) this
            · have := s26 d _ hd2
              exact o7 d _ (nnd this fun f z => nomatch z) this
        · rintro σ H2 ⟨u, kvs, ts, sh, fl, v6, v9, v10, v11, rfl, du, hn2, ks, N, B, tl, done, hsl2, d2, hd2, pr2⟩
          rw [List.length_map] at tl done
          have hshl := B.len
          have all : ∀ st ∈ ss, ∀ k, k ≤ st.length → st.take k ∈ ts := fun st hst k hk => by
            obtain ⟨j, hj, ej⟩ := List.mem_iff_getElem.mp hst
            cases k with
            | zero => exact List.mem_of_getElem? B.zero
            | succ k0 =>
              have e0 : ss.getD j [] = st := by rw [List.getD_eq_getElem?_getD, List.getElem?_eq_getElem hj, ej]; rfl
              have hm := T.all k0 j hj (by show k0 < (ss.getD j []).length; rw [e0]; omega)
              obtain ⟨p', hp', ep⟩ := List.mem_map.mp hm
              obtain ⟨i', hi'⟩ := List.mem_iff_getElem?.mp hp'
              have := done i' p' (List.getElem?_eq_some_iff.mp hi').1 hi'
              rw [ep, e0] at this
              exact this
          obtain ⟨c, us, rfl, hc, dus⟩ := L2.Dp.of_tup du
          have usl : us.length = sh.length + 1 := by rw [dus.length, shT_len]
          obtain ⟨y0, ey0, dy0⟩ := dus.get (i := 0) (t := L2.T.tup []) rfl
          obtain ⟨q0, zs0, rfl, hq0, dz0⟩ := L2.Dp.of_tup dy0
          cases dz0.of_nil
          refine ⟨_, rfl, c, us, rfl, .inr (SqT.of hc), _, rfl, nd, kvs, rfl, ⟨.inl hn2, ks⟩, by rw [N.len]; omega, rfl, _, rfl, iteNeg ?_ ?_⟩
          · rw [decide_eq_true (by rw [usl, N.len, hshl])]
            exact Bool.false_ne_true
          refine ⟨_, rfl, c, us, _, _, rfl, rfl, SqT.of hc, atI_nat (j := 0) ey0, Nat.zero_le _, fun q1 hq1 => ?_⟩
          have t1 : Same H2 (upd H2 q1 (.tup [])) := Same.new hq1
          have h31 : (upd H2 q1 (.tup [])) q1 = some (.tup []) := upd_same
          generalize upd H2 q1 (.tup []) = H3 at t1 h31 ⊢
          refine ⟨q0, q1, [], [], [], [], rfl, rfl, t1 q0 _ hq0, h31, .nil, .nil, (fun t h => nomatch h), _, rfl, iteNeg ?_ ?_⟩
          · rw [dcd_t rfl]
            exact Bool.false_ne_true
          have ks3 : ∀ x ∈ kvs, Dp H3 (ttT x.1) (.ref x.2.1) := fun x hx => (ks x hx).mono (Same.tups t1)
          refine ⟨_, rfl, nd, kvs, rfl, t1 nd _ hn2, by rw [N.len]; omega, fun o => ?_⟩
          have tuf : Tups H3 (upd H3 nd (.frz o (DTT P w nd kvs))) := fun b zs e => by
            rw [upd_ne (ne_of e (t1 nd _ hn2) fun z => nomatch z)]
            exact e
          have hfn : (upd H3 nd (.frz o (DTT P w nd kvs))) nd = some (.frz o (DTT P w nd kvs)) := upd_same
          have hslf : (upd H3 nd (.frz o (DTT P w nd kvs))) sl = some (.lst ys) := by
            have := t1 sl _ hsl2
            rw [upd_ne (ne_of this (t1 nd _ hn2) fun z => nomatch z)]
            exact this
          have ksf : ∀ x ∈ kvs, Dp (upd H3 nd (.frz o (DTT P w nd kvs))) (ttT x.1) (.ref x.2.1) := fun x hx => (ks3 x hx).mono tuf
          have duf := (L2.Dp.tup hc dus).mono ((Same.tups t1).trans tuf)
          have d2f := d2.mono ((Same.tups t1).trans tuf)
          generalize upd H3 nd (.frz o (DTT P w nd kvs)) = Hf at hfn hslf ksf duf d2f ⊢
          have srf : SRT P w Hf nd kvs := ⟨.inr ⟨o, hfn⟩, ksf⟩
          obtain ⟨c', us', ec, hcf, dusf⟩ := L2.Dp.of_tup duf
          cases ec
          refine for_dictX (P := P) (w := w) (o := o) (d := nd) (kvs := kvs) (fun i σ H4 => ∃ (v10 v12 : Option V), σ = [some (.ref a), some (.ref p), some (.int r), some (.int (2 + r2)), some (.ref nm), some (.ref sl), v6, some (.ref c), some (.ref nd), v9, v10, v11, v12] ∧ Same Hf H4)
            ⟨_, _, rfl, Same.refl Hf⟩ (fun i σ H4 _ h => by obtain ⟨_, _, _, e⟩ := h; exact e nd _ hfn) ?_ ?_
          · rintro i kv σ H4 hi ⟨v10, v12, rfl, s4⟩
            obtain ⟨i', st, b, hst, rfl⟩ := N.mem (List.mem_of_getElem? hi)
            have ei : i' = i := by
              have hit : i < ts.length := by rw [← N.len]; exact (List.getElem?_eq_some_iff.mp hi).1
              obtain ⟨b', q⟩ := N.here i ts[i] (List.getElem?_eq_getElem hit)
              rw [hi] at q
              have q := Option.some.inj q
              injection q with _ q
              injection q with _ q
              injection q with q
              omega
            subst ei
            have dst : Dp H4 (stT st) (.ref b) := by
              have := (ksf _ (List.mem_of_getElem? hi)).mono (Same.tups s4)
              rwa [stT_eq] at this
            have sr4 := K21.SRT.mono srf s4
            obtain ⟨lgs, l16s⟩ := B.leg st (List.mem_of_getElem? hst)
            obtain ⟨b', xs, eb, hb, dl⟩ := L2.Dp.of_tup dst
            cases eb
            have hxl : xs.length = st.length := by have := dl.length; rwa [List.length_map] at this
            refine ⟨_, rfl, _, rfl, nd, kvs, stK st, .int (i' : Nat), rfl, sr4, by rw [stT_eq]; exact dst, N.get B.nd hst, ?_⟩
            apply by_rest (Same H4)
            · intro rest
              refine ⟨_, rfl, Nat.zero_le _, fun q2 hq2 => ?_⟩
              have t5 : Same H4 (upd H4 q2 (.tup [])) := Same.new hq2
              have h52 : (upd H4 q2 (.tup [])) q2 = some (.tup []) := upd_same
              generalize upd H4 q2 (.tup []) = H5 at t5 h52 ⊢
              refine ⟨b, q2, xs, [], _, [], rfl, rfl, t5 b _ hb, h52, dl.mono (Same.tups t5), .nil, stT_lv st, _, rfl, ?_⟩
              rcases B.back hst with ⟨_, es⟩ | ⟨j, e, s', ej, hj, he, es⟩
              · refine iteNeg ?_ (iteF (rest H5 t5))
                rw [dcd_t (by rw [es]; rfl)]
                exact Bool.false_ne_true
              · refine itePos (by rw [dcd_f (by rw [es, List.map_append]; simp)]; rfl) ?_
                obtain ⟨y, ey, dy⟩ := (dusf.mono (Same.tups (s4.trans t5))).get (i := i') (t := entT e) (by
                  unfold shT
                  rw [ej, List.getElem?_cons_succ, List.getElem?_map, hj]
                  rfl)
                refine ⟨_, rfl, _, rfl, c, us', _, _, rfl, rfl, SqT.of (t5 c _ (s4 c _ hcf)), atI_nat (j := i') ey, _, rfl, _, rfl, _, rfl, _, rfl, b, xs, rfl, t5 b _ hb, fun q3 H6 hq3 s6 => ?_⟩
                have dl2 := dl
                rw [es, List.map_append] at dl2
                have hxs : xs.length = s'.length + 1 := by rw [hxl, es, List.length_append]; rfl
                have hq3 : H6 q3 = some (.tup (xs.take s'.length)) := by
                  have : cutV xs none (some (-1)) = xs.take s'.length := by
                    rw [cutV_neg, hxs]
                    rfl
                  rw [← this]
                  exact hq3
                have s46 := t5.trans s6
                have d3 : Dp H6 (stT s') (.ref q3) := by
                  have := st_cut (s := s' ++ [(e.2.1, e.2.2)]) s'.length (by rw [List.map_append]; exact dl2) (Same.tups s46) hq3
                  rwa [List.take_append_of_le_length (Nat.le_refl _), List.take_of_length_le (Nat.le_refl _)] at this
                refine ⟨nd, kvs, stK s', .int (e.1 : Nat), rfl, K21.SRT.mono sr4 s46, by rw [stT_eq]; exact d3, N.get B.nd he, by show 1 ≤ sizeLine; decide, fun q4 hq4 => ?_⟩
                have t7 : Same H6 (upd H6 q4 (.tup [.int (e.1 : Nat)])) := Same.new hq4
                have h74 : (upd H6 q4 (.tup [.int (e.1 : Nat)])) q4 = some (.tup [.int (e.1 : Nat)]) := upd_same
                generalize upd H6 q4 (.tup [.int (e.1 : Nat)]) = H7 at t7 h74 ⊢
                have s47 := s46.trans t7
                obtain ⟨x9, ex9, dx9⟩ := (dl2.mono (Same.tups s47)).get (i := s'.length) (t := L2.T.tup [.str e.2.1, .str e.2.2]) (by rw [List.getElem?_append_right (by rw [List.length_map]; exact Nat.le_refl _), List.length_map, Nat.sub_self]; rfl)
                obtain ⟨qp, rfl, hqp⟩ := K21.Dp.of_pair dx9
                have elast : atI xs (-1) = some (.ref qp) := by
                  have e1 : xs = xs.take s'.length ++ [.ref qp] := by
                    have h1 : xs.take (s'.length + 1) = xs := List.take_of_length_le (by omega)
                    rw [List.take_succ, ex9] at h1
                    exact h1.symm
                  rw [e1]
                  exact atI_last _ _
                refine ⟨_, rfl, _, rfl, b, xs, _, _, rfl, rfl, SqT.of (s47 b _ hb), elast, q4, qp, _, _, rfl, rfl, h74, hqp, by show 1 + 2 ≤ sizeLine; decide, fun q5 H8 hq5 s8 => ?_⟩
                refine ⟨y, .ref q5, entT e, rfl, dy.mono (Same.tups (s6.trans (t7.trans s8))), .tup hq5 (.cons (.int _) (.cons (.str _) (.cons (.str _) .nil))), entT_lz e, fun H9 s9 => ⟨_, rfl, iteF (rest H9 (s47.trans (s8.trans s9)))⟩⟩
            · intro H5 t5
              have du5 : Dp H5 (.tup (shT sh)) (.ref c) := (L2.Dp.tup hcf dusf).mono (Same.tups (s4.trans t5))
              refine ⟨_, rfl, _, rfl, .ref c, i', ts, sh, fl, st, rfl, du5, B, hst, fun v H6 dv s6 => ?_⟩
              obtain ⟨qv, zs, rfl, hqv, dz⟩ := L2.Dp.of_tup dv
              have s46 := t5.trans s6
              refine ⟨_, rfl, qv, b, zs, xs, _, _, rfl, rfl, hqv, s46 b _ hb, dz, dl.mono (Same.tups s46), stT_lv st, _, rfl, iteNeg ?_ ?_⟩
              · rw [dcd_t rfl]
                exact Bool.false_ne_true
              refine ⟨_, rfl, _, rfl, .ref c, i', sh, fl, _, rfl, du5.mono (Same.tups s6), B.good, B.fld i' st hst, by omega, fun v1 H7 dv1 s7 => ?_⟩
              have s47 := s46.trans s7
              refine ⟨_, rfl, .ref b, st, rfl, dst.mono (Same.tups s47), by omega, fun u8 H8 hu8 s8 => ?_⟩
              have fl16 := fieldsOf_len st
              refine ⟨v1, .ref u8, _, rfl, dv1.mono (Same.tups s8), .tup hu8 (DpL.strs _), strs_lz (by omega), fun H9 s9 => ⟨_, rfl, iteF ?_⟩⟩
              exact ⟨_, _, rfl, s4.trans (s47.trans (s8.trans s9))⟩
          · rintro σ H4 ⟨v10, v12, rfl, s4⟩
            refine ⟨_, rfl, sl, rfl, ⟨_, SqL.of (s4 sl _ hslf)⟩, fun D1 hD1 => ?_⟩
            refine comp_by (n := ys.length) (fun i zs H5 => zs = (List.replicate i true).map V.bl ∧ H5 D1 = some (.lst zs) ∧ Same H4 H5) ⟨rfl, upd_same, Same.new hD1⟩ ?_ ?_
            · rintro zs H5 ⟨rfl, hD5, s5⟩
              refine ⟨⟨_, SqL.of (s5 sl _ (s4 sl _ hslf)), Nat.le_refl _⟩, D1, _, rfl, SqL.of hD5, ?_⟩
              have : (List.replicate ys.length true).all id = true := by simp
              rw [this]
              exact k H5
            · rintro i zs H5 hi ⟨rfl, hD5, s5⟩
              have hsl5 := s5 sl _ (s4 sl _ hslf)
              refine ⟨⟨_, ys[i], SqL.of hsl5, List.getElem?_eq_getElem hi⟩, ?_⟩
              rintro y H6 ⟨rfl, hy⟩ σo ho
              obtain ⟨oo, rfl⟩ := own1 ho
              have hy' := hy _ (SqL.of hsl5)
              rw [List.getElem?_eq_getElem hi] at hy'
              cases hy'
              have his : i < ss.length := by omega
              have s46 := s4.trans s5
              obtain ⟨y', ey, dy⟩ := (d2f.mono (Same.tups s46)).get (i := i) (t := stT ss[i]) (by rw [List.getElem?_map, List.getElem?_eq_getElem his]; rfl)
              rw [List.getElem?_eq_getElem hi] at ey
              cases ey
              obtain ⟨lgs, l16s⟩ := hss _ (List.getElem_mem his)
              refine ⟨⟨[_], rfl, rfl⟩, yes_by ⟨_, rfl, _, rfl, _, rfl, .ref c, _, nd, kvs, ts, sh, fl, ss[i], rfl, (L2.Dp.tup hcf dusf).mono (Same.tups s46), dy, K21.SRT.mono srf s46, N, B, by omega, all _ (List.getElem_mem his), lgs, l16s, fun H7 s7 => ?_⟩⟩
              refine ⟨by rw [List.length_map, List.length_replicate]; omega, s7 D1 _ hD5, less_by hi ⟨?_, upd_same, fun b u e => ?_⟩⟩
              · rw [List.replicate_succ', List.map_append]
                rfl
              · rw [upd_ne (ne_of_none e hD1)]
                exact s7 b u (s5 b u e)
end
end K21
end
section
set_option autoImplicit false
namespace L2
open PySem PySem.Spec PyProof.Rows
theorem law_callT {P : Program} {w : World} {K : PySem.W.Frag} {mg mb : Str → Option Value} {CX : CXT} {k : Nat} {fa a : Addr} {fd : FuncData} {x : Str} {sp : Sp} {s₁ : Shared} {vs : List Value} {ns : List Int} {ts : List Addr}
    (KX : K.In s₁.heap) (hns : s₁.heap.Ns mainGlobals mg) (hb : s₁.heap.Ns builtinsNs mb) (hbb : ∀ x : Str, x ≠ "__name__" → mb x = bootBuiltins x) (hlim : s₁.heap.NoLimit) (hg : s₁.gens = #[])
    (ha : s₁.heap.get? a = some { cls := .type "list", data := .seq vs.toArray }) (hi : IntsAre vs ns) (hl : ns.length ≤ sizeLine) (hr : Room k callerA)
    (ht : ∀ q ∈ ts, s₁.heap.get? q = some (PySem.W.tabObj #[])) (hct : ∀ q ∈ ts, isCodeTable s₁.heap q) (hKt : ∀ q ∈ ts, K.lookup q = none) (hbm : Bm mg s₁.heap)
    (F : ∀ base : Heap, K.In base → base.Ns mainGlobals mg → Bm mg base → FnOk P w K mg base CX k fa fd [x] sp) (hbind : ∀ (s : Shared) (u : Value), BindsTo s fd ⟨[u], []⟩ [(x, u)])
    (hsp : ∀ H : Hp, (∀ q ∈ ts, H q = some (.tbl #[])) → SqL K H a (ns.map V.int) → sp [.ref a] H (fun v _ => v = .bl true) fun _ _ _ => False)
    (hCX : ∀ H e s', CX [] H s₁ (fun _ _ _ => False) e s' → False) :
    codeAny (model P w) callerA (.call (.ref fa) ⟨[.ref a], []⟩) (fun r s' => r = .ok (.ret (.bool true)) ∧ OldK s₁.heap s'.heap ∧ s'.os = s₁.os ∧ AllBare s'.gens) s₁ := by
  have rv := vals_ints hi
  have lenV := hi.length
  have nta : a ∉ ts := fun h => by
    have := ht a h
    rw [ha] at this
    cases this
  have core : ∀ H : Hp, (∀ q ∈ ts, H q = some (.tbl #[])) → SqL K H a (ns.map V.int) → HOk P w H s₁.heap → (∀ b u, H b = some u → (b ∈ ts ∧ u = .tbl #[]) ∨ (b = a ∧ K.lookup a = none ∧ ∃ o xs, u = .frz o (.lst xs))) →
      codeAny (model P w) callerA (.call (.ref fa) ⟨[.ref a], []⟩) (fun r s' => r = .ok (.ret (.bool true)) ∧ OldK s₁.heap s'.heap ∧ s'.os = s₁.os ∧ AllBare s'.gens) s₁ := by
    intro H hT hS hok hA
    have base_of : ∀ {b : Addr} {o : Obj}, s₁.heap.get? b = some o → H b = none → (hidT s₁.heap H).get? b = some o := fun e n => hidT_get e n
    have noA : ∀ {b : Addr} {o : Obj}, s₁.heap.get? b = some o → (∀ fs, o.data ≠ .fields fs) → (∀ q n, o.data ≠ .seq q n) → H b = none := fun {b o} e d1 d2 => by
      cases q : H b with
      | none => rfl
      | some u =>
        rcases hA b u q with ⟨h1, _⟩ | ⟨rfl, _⟩
        · rw [ht b h1] at e
          cases e
          exact absurd rfl (d1 _)
        · rw [ha] at e
          cases e
          exact absurd rfl (d2 _ _)
    have nsK : ∀ {b : Addr} {m : Str → Option Value}, s₁.heap.Ns b m → (hidT s₁.heap H).Ns b m := fun {b m} ⟨o, es, ep, e, d, r⟩ => ⟨o, es, ep, base_of e (noA e (fun _ z => by rw [d] at z; cases z) fun _ _ z => by rw [d] at z; cases z), d, r⟩
    have hKb : K.In (hidT s₁.heap H) := fun b o e => base_of (KX b o e) (by
      cases q : H b with
      | none => rfl
      | some u =>
        rcases hA b u q with ⟨h1, _⟩ | ⟨rfl, h2, _⟩
        · rw [hKt b h1] at e; cases e
        · rw [h2] at e; cases e)
    have hM : Mod K mg (hidT s₁.heap H) := ⟨hKb, nsK hns, ⟨mb, nsK hb, hbb⟩, let ⟨mc, h1, h2⟩ := hlim; ⟨mc, nsK h1, h2⟩⟩
    have hB : Bm mg (hidT s₁.heap H) := by
      obtain ⟨bm, ob, h1, h2, h3, h4, h5, h6⟩ := hbm
      exact ⟨bm, ob, h1, h2, base_of h3 (noA h3 (fun _ z => by rw [h6] at z; cases z) fun _ _ z => by rw [h6] at z; cases z), h4, h5, h6⟩
    have e0 : Env0 P w K mg (hidT s₁.heap H) callerA [] s₁ H := ⟨rfl, hM, fun b o e => of_hidT e, Nat.le_of_eq (hidT_size _ _), trivial, fun b hb => absurd (show b ∈ ([] : List Addr) from hb) (by simp), hok, .of_eq hg⟩
    refine codeAny_mono ((F _ hKb (nsK hns) hB).run callerA [] s₁ H ⟨[.ref a], []⟩ [.ref a] [.ref a] _ _ hr e0 (hbind s₁ (.ref a)) (.cons rfl .nil) (hsp H hT hS)) fun r s' h => ?_
    cases r with
    | error e => exact (hCX H e s' h).elim
    | ok fl =>
      cases fl with
      | next => exact False.elim h
      | brk => exact False.elim h
      | cont => exact False.elim h
      | ret u =>
        obtain ⟨v, H', os, bare, un, hok', r', q⟩ := h
        have q' : v = .bl true := q
        subst q'
        obtain rfl : u = Value.bool true := r'
        have kept : ∀ b o, s₁.heap.get? b = some o → b ∉ ts → s'.heap.get? b = some o := fun b o e hb => by
          cases q : H b with
          | none => exact un.keep b o e q (by intro z; exact absurd (show b ∈ ([] : List Addr) from z) (by simp)) (by simp)
          | some u =>
            rcases hA b u q with ⟨h1, _⟩ | ⟨_, _, ob, xs, rfl⟩
            · exact absurd h1 hb
            · have z2 := un.frzs b ob _ q
              obtain ⟨e1, _⟩ := hok b _ q
              obtain ⟨e2, _⟩ := hok' b _ z2
              rw [e] at e1; cases e1
              exact e2
        have tab : ∀ b, b ∈ ts → ∃ more, s'.heap.get? b = some { cls := .none, data := .fields (#[] ++ more) } := fun b hb => by
          obtain ⟨more, e⟩ := un.tbls b _ (hT b hb)
          exact ⟨more, hok' b _ e⟩
        refine ⟨rfl, ⟨fun b o e => ?_, fun b o e => ?_⟩, os, bare⟩
        · by_cases hbt : b ∈ ts
          · obtain ⟨more, e2⟩ := tab b hbt
            rw [ht b hbt] at e
            cases e
            exact .inr (.inl ⟨hct b hbt, rfl, #[], more, rfl, e2⟩)
          · exact .inl (kept b o e hbt)
        · by_cases hbt : b ∈ ts
          · obtain ⟨more, e2⟩ := tab b hbt
            exact ⟨_, e2⟩
          · exact ⟨o, kept b o e hbt⟩
  cases hk : K.lookup a with
  | some o =>
    have e := KX a o hk
    rw [ha] at e
    cases e
    refine core (fun b => if b ∈ ts then some (.tbl #[]) else none) (fun q hq => if_pos hq) (.inr ⟨_, vs.toArray, _, hk, rfl, rfl, rfl, by rw [List.size_toArray, lenV]; exact hl, by simpa using rv⟩) (fun b u z => ?_) (fun b u z => ?_)
    · by_cases hb : b ∈ ts
      · have z' := (if_pos hb).symm.trans z
        cases z'
        exact ht b hb
      · have z' := (if_neg hb).symm.trans z
        cases z'
    · by_cases hb : b ∈ ts
      · have z' := (if_pos hb).symm.trans z
        cases z'
        exact .inl ⟨hb, rfl⟩
      · have z' := (if_neg hb).symm.trans z
        cases z'
  | none =>
    refine core (fun b => if b ∈ ts then some (.tbl #[]) else if b = a then some (.frz { cls := .type "list", data := .seq vs.toArray } (.lst (ns.map V.int))) else none) (fun q hq => if_pos hq) (.inl (.inr ⟨{ cls := .type "list", data := .seq vs.toArray }, (if_neg nta).trans (if_pos rfl)⟩)) (fun b u z => ?_) (fun b u z => ?_)
    · by_cases hb : b ∈ ts
      · have z' := (if_pos hb).symm.trans z
        cases z'
        exact ht b hb
      · have z := (if_neg hb).symm.trans z
        by_cases hb : b = a
        · have z' := (if_pos hb).symm.trans z
          cases z'
          subst hb
          exact ⟨ha, by rw [List.length_map]; exact hl, vs, _, rv, ha⟩
        · have z' := (if_neg hb).symm.trans z
          cases z'
    · by_cases hb : b ∈ ts
      · have z' := (if_pos hb).symm.trans z
        cases z'
        exact .inl ⟨hb, rfl⟩
      · have z := (if_neg hb).symm.trans z
        by_cases hb : b = a
        · have z' := (if_pos hb).symm.trans z
          cases z'
          exact .inr ⟨hb, hk, _, _, rfl⟩
        · have z' := (if_neg hb).symm.trans z
          cases z'
end L2
end
section
set_option autoImplicit false
namespace L2
open PySem PySem.Spec PyProof.Rows
theorem walk_ofU {l : PySem.W.OpenLaw} {n k : Nat} {q : Program} {loose : List Str} {XP : (Str → Option Value) → Heap → Prop} {YP : World → Heap → Prop} {d : DefRec} {K : Params → PySem.W.Frag} {CX : World → CXT} {sp : World → Sp} {x : Str} {ts : List Addr}
    (hn : l.most = some n) (hn2 : n ≤ sizeLine) (hdf : d.params.defaults = []) (hr : Room k callerA)
    (hY : ∀ (w : World) (h : Heap), YP w h → (K w.params).In h ∧ ∀ q ∈ ts, h.get? q = some (PySem.W.tabObj #[]))
    (F : ∀ (w : World) (mg : Str → Option Value) (fa : Addr) (h : Heap), (K w.params).In h → h.Ns mainGlobals mg → mg d.name = some (.ref fa) →
      (∀ q ∈ ts, (∃ cd, Cdh (K w.params) cd q) ∧ (K w.params).lookup q = none) ∧ ∃ fd : FuncData, (∀ (s : Shared) (u : Value), BindsTo s fd ⟨[u], []⟩ [(x, u)]) ∧
        ∀ base : Heap, (K w.params).In base → base.Ns mainGlobals mg → Bm mg base → FnOk l.prog w (K w.params) mg base (CX w) k fa fd [x] (sp w))
    (hsp : ∀ (w : World) (H : Hp) (a : Addr) (ns : List Int), ns.length ≤ n → (∀ q ∈ ts, H q = some (.tbl #[])) → SqL (K w.params) H a (ns.map V.int) → sp w [.ref a] H (fun v _ => v = .bl true) fun _ _ _ => False)
    (hCX : ∀ (w : World) (H : Hp) (s : Shared) (e : Value) (s' : Shared), CX w [] H s (fun _ _ _ => False) e s' → False) :
    PySem.W.WalkO q loose XP YP l.row.toRowW d [] (fun f vs => PySem.call f vs) := by
  refine Att.attach_call hn hdf fun w s₀ s₁ mg mb fa o pm cd doc a vs ns G Y ho hd hcd hmg hobj hints hlen hg => ?_
  obtain ⟨KX, hT⟩ := hY w _ Y
  obtain ⟨hC, fd, hb, hF⟩ := F w mg fa _ KX G.T.g hmg
  refine law_callT KX G.T.g G.T.b G.T.builtins G.T.nolimit hg hobj hints (Nat.le_trans hlen hn2) hr hT (fun q hq => ?_) (fun q hq => (hC q hq).2) G.T.bmain hF hb (fun H hO hS => hsp w H a ns hlen hO hS) fun H e s' => hCX w H s₁ e s'
  obtain ⟨cd, c, _, hc⟩ := (hC q hq).1
  obtain ⟨o, vs, _, _, _, _, _, _, _, h1, h2, h3, h4, _⟩ := hc _ KX
  exact ⟨c, o, vs, h1, h2, h3, h4⟩
theorem kmIn_of {K : Params → PySem.W.Frag} {as : List Addr} {e : ∀ P : Params, as = List.map (fun x => x.fst) (K P)} {ts : List Addr} {w : World} {h : Heap} (Y : (PySem.W.kmHook K as e ts).says w h) : (K w.params).In h ∧ ∀ q ∈ ts, h.get? q = some (PySem.W.tabObj #[]) := Y
def FQT (K : PySem.W.Frag) (mg : Str → Option Value) (x : Str) (st : Stmt) (pt : Addr) : Prop := ∃ f fd, Fun K x x st f fd ∧ mg x = some (.ref f) ∧ Cdh K fd.code pt
theorem mkFT {K : PySem.W.Frag} {h : Heap} {mg : Str → Option Value} (X : K.In h) (G : h.Ns mainGlobals mg) {x : Str} {st : Stmt} {f c pt : Addr} {oc : Value} {od an odc : Option Addr} {sl slc : Array (Option Value)} {kV dc pm ct : Value} {vs : Array Value} {file : Str} {flags text : Int} {tf tg tt : Tok} {inF : Bool}
    (a : PySem.W.nsIn K mainGlobals x = some (some (.ref f))) (l : K.lookup f = some ⟨oc, od, .func (PySem.W.fnOf x x (defArgs st) (defBody st) (defScope st) .none kV dc pm an (.ref c) ct), sl⟩) (cc : PySem.W.codeIn K (.ref c) x = true) (k : PySem.W.keepIn K (.ref f) = true)
    (lc : K.lookup c = some ⟨.type "code", odc, .fields vs, slc⟩) (h11 : vs[11]? = some (.ref pt)) (h18 : vs.getD 18 .none = .str file tf) (h7 : vs.getD 7 .none = .int flags tg) (h9 : vs.getD 9 .none = .bool inF) (h10 : vs.getD 10 .none = .int text tt) (ne : K.lookup pt = none) : FQT K mg x st pt := by
  refine ⟨f, _, fun_mk l cc k, PySem.W.mg_of X G a, c, rfl, fun h' K' => ⟨_, vs, file, tf, flags, tg, inF, text, tt, K' _ _ lc, rfl, rfl, h11, ?_, h18, h7, h9, h10, fun z => ?_⟩⟩
  · rw [Array.getD_eq_getD_getElem?, h11]
    rfl
  · rw [z, ne] at lc
    cases lc
end L2
end
section
set_option autoImplicit false
namespace K21
open PySem PyProof.Rows L2
theorem el1 {α : Type} {C : List α → Prop} (h : ∀ v0, C [v0]) : ∀ us : List α, us.length = 1 → C us
  | [v0], _ => h v0
theorem el2 {α : Type} {C : List α → Prop} (h : ∀ v0 v1, C [v0, v1]) : ∀ us : List α, us.length = 2 → C us
  | [v0, v1], _ => h v0 v1
theorem el3 {α : Type} {C : List α → Prop} (h : ∀ v0 v1 v2, C [v0, v1, v2]) : ∀ us : List α, us.length = 3 → C us
  | [v0, v1, v2], _ => h v0 v1 v2
theorem el4 {α : Type} {C : List α → Prop} (h : ∀ v0 v1 v2 v3, C [v0, v1, v2, v3]) : ∀ us : List α, us.length = 4 → C us
  | [v0, v1, v2, v3], _ => h v0 v1 v2 v3
def FQ (K : PySem.W.Frag) (mg : Str → Option Value) (x : Str) (st : Stmt) : Prop := ∃ f fd, Fun K x x st f fd ∧ mg x = some (.ref f)
theorem mkF {K : PySem.W.Frag} {h : Heap} {mg : Str → Option Value} (X : K.In h) (G : h.Ns mainGlobals mg) {x : Str} {st : Stmt} {f : Addr} {oc : Value} {od an : Option Addr} {sl : Array (Option Value)} {kV dc pm cd ct : Value} (a : PySem.W.nsIn K mainGlobals x = some (some (.ref f))) (l : K.lookup f = some ⟨oc, od, .func (PySem.W.fnOf x x (defArgs st) (defBody st) (defScope st) .none kV dc pm an cd ct), sl⟩) (c : PySem.W.codeIn K cd x = true) (k : PySem.W.keepIn K (.ref f) = true) : FQ K mg x st := ⟨f, _, fun_mk l c k, PySem.W.mg_of X G a⟩
theorem all_mk {l : PySem.W.OpenLaw} {w : World} {K : PySem.W.Frag} {h : Heap} {mg : Str → Option Value} {fa pt : Addr} (X : K.In h) (G : h.Ns mainGlobals mg) (hfa : mg "law" = some (.ref fa))
    (t0 : FQ K mg "is_whole" (top 5)) (t1 : FQ K mg "is_shape" (top 7)) (t2 : FQ K mg "fields_at" (top 8)) (t3 : FQ K mg "story_of" (top 9)) (t4 : FQ K mg "shape_by" (top 10)) (t5 : FQ K mg "can_come" (top 11)) (t6 : FQ K mg "_law_cell" (top 13)) (t7 : FQ K mg "_law_purse" (top 14)) (t8 : FQ K mg "_law_take" (top 15)) (t9 : FQ K mg "_law_word" (top 16)) (t10 : FQ K mg "_law_words" (top 17)) (t11 : FQ K mg "_law_is_whole" (top 18)) (t12 : FQ K mg "_law_same" (top 19)) (t13 : FQ K mg "_law_fields" (top 20)) (t14 : FQ K mg "_law_story" (top 21)) (t15 : FQT K mg "_law_turns" (top 22) pt) (t16 : FQ K mg "_law_number" (top 23)) (t17 : FQ K mg "_law_walked" (top 24)) (t18 : FQ K mg "_law_again" (top 25)) (t19 : FQ K mg "law" (top 26)) (np : K.lookup pt = none)
    (z0 : PySem.W.nsIn K mainGlobals "abs" = some none) (z1 : PySem.W.nsIn K mainGlobals "all" = some none) (z2 : PySem.W.nsIn K mainGlobals "bool" = some none) (z3 : PySem.W.nsIn K mainGlobals "int" = some none) (z4 : PySem.W.nsIn K mainGlobals "isinstance" = some none) (z5 : PySem.W.nsIn K mainGlobals "len" = some none) (z6 : PySem.W.nsIn K mainGlobals "range" = some none) (z7 : PySem.W.nsIn K mainGlobals "sorted" = some none) (z8 : PySem.W.nsIn K mainGlobals "str" = some none) (z9 : PySem.W.nsIn K mainGlobals "tuple" = some none) (z10 : PySem.W.nsIn K mainGlobals "zip" = some none)
    : (∀ q ∈ [pt], (∃ cd, Cdh K cd q) ∧ K.lookup q = none) ∧ ∃ fd : FuncData, (∀ (s : Shared) (v : Value), BindsTo s fd ⟨[v], []⟩ [("_law_script", v)]) ∧ ∀ base : Heap, K.In base → base.Ns mainGlobals mg → Bm mg base → FnOk l.prog w K mg base CX0 6 fa fd ["_law_script"] (spLaw K pt) := by
  obtain ⟨f0, g0, F0, m0⟩ := t0
  obtain ⟨f1, g1, F1, m1⟩ := t1
  obtain ⟨f2, g2, F2, m2⟩ := t2
  obtain ⟨f3, g3, F3, m3⟩ := t3
  obtain ⟨f4, g4, F4, m4⟩ := t4
  obtain ⟨f5, g5, F5, m5⟩ := t5
  obtain ⟨f6, g6, F6, m6⟩ := t6
  obtain ⟨f7, g7, F7, m7⟩ := t7
  obtain ⟨f8, g8, F8, m8⟩ := t8
  obtain ⟨f9, g9, F9, m9⟩ := t9
  obtain ⟨f10, g10, F10, m10⟩ := t10
  obtain ⟨f11, g11, F11, m11⟩ := t11
  obtain ⟨f12, g12, F12, m12⟩ := t12
  obtain ⟨f13, g13, F13, m13⟩ := t13
  obtain ⟨f14, g14, F14, m14⟩ := t14
  obtain ⟨f15, g15, F15, m15, CT⟩ := t15
  obtain ⟨f16, g16, F16, m16⟩ := t16
  obtain ⟨f17, g17, F17, m17⟩ := t17
  obtain ⟨f18, g18, F18, m18⟩ := t18
  obtain ⟨f19, g19, F19, m19⟩ := t19
  have e := hfa.symm.trans m19
  cases e
  have BL : ∀ (s : Shared) (v : Value), BindsTo s g19 ⟨[v], []⟩ [("_law_script", v)] := by
    obtain ⟨⟨_, _, _, _, _, _, _, _, _, rfl, _⟩, _⟩ := F19
    exact fun s v => .of_eq rfl
  have T : Defs K mg ⟨(f0, g0), (f1, g1), (f2, g2), (f3, g3), (f4, g4), (f5, g5), (f6, g6), (f7, g7), (f8, g8), (f9, g9), (f10, g10), (f11, g11), (f12, g12), (f13, g13), (f14, g14), (f15, g15), (f16, g16), (f17, g17), (f18, g18), (fa, g19)⟩ := ⟨⟨F0, F0.binds fun _ _ _ _ _ _ => el1 fun _ => rfl, m0⟩, ⟨F1, F1.binds fun _ _ _ _ _ _ => el2 fun _ _ => rfl, m1⟩, ⟨F2, F2.binds fun _ _ _ _ _ _ => el2 fun _ _ => rfl, m2⟩, ⟨F3, F3.binds fun _ _ _ _ _ _ => el2 fun _ _ => rfl, m3⟩, ⟨F4, F4.binds fun _ _ _ _ _ _ => el4 fun _ _ _ _ => rfl, m4⟩, ⟨F5, F5.binds fun _ _ _ _ _ _ => el3 fun _ _ _ => rfl, m5⟩, ⟨F6, F6.binds fun _ _ _ _ _ _ => el2 fun _ _ => rfl, m6⟩, ⟨F7, F7.binds fun _ _ _ _ _ _ => el1 fun _ => rfl, m7⟩, ⟨F8, F8.binds fun _ _ _ _ _ _ => el2 fun _ _ => rfl, m8⟩, ⟨F9, F9.binds fun _ _ _ _ _ _ => el2 fun _ _ => rfl, m9⟩, ⟨F10, F10.binds fun _ _ _ _ _ _ => el3 fun _ _ _ => rfl, m10⟩, ⟨F11, F11.binds fun _ _ _ _ _ _ => el1 fun _ => rfl, m11⟩, ⟨F12, F12.binds fun _ _ _ _ _ _ => el2 fun _ _ => rfl, m12⟩, ⟨F13, F13.binds fun _ _ _ _ _ _ => el1 fun _ => rfl, m13⟩, ⟨F14, F14.binds fun _ _ _ _ _ _ => el3 fun _ _ _ => rfl, m14⟩, ⟨F15, F15.binds fun _ _ _ _ _ _ => el2 fun _ _ => rfl, m15⟩, ⟨F16, F16.binds fun _ _ _ _ _ _ => el3 fun _ _ _ => rfl, m16⟩, ⟨F17, F17.binds fun _ _ _ _ _ _ => el2 fun _ _ => rfl, m17⟩, ⟨F18, F18.binds fun _ _ _ _ _ _ => el3 fun _ _ _ => rfl, m18⟩, ⟨F19, F19.binds fun _ _ _ _ _ _ => el1 fun _ => rfl, m19⟩, PySem.W.mg_none_of X G z0, PySem.W.mg_none_of X G z1, PySem.W.mg_none_of X G z2, PySem.W.mg_none_of X G z3, PySem.W.mg_none_of X G z4, PySem.W.mg_none_of X G z5, PySem.W.mg_none_of X G z6, PySem.W.mg_none_of X G z7, PySem.W.mg_none_of X G z8, PySem.W.mg_none_of X G z9, PySem.W.mg_none_of X G z10⟩
  exact ⟨fun q hq => by cases List.mem_singleton.mp hq; exact ⟨⟨_, CT⟩, np⟩, g19, BL, fun base _ _ BM => ok_law T BM CT⟩
theorem walk {l : PySem.W.OpenLaw} {q : Program} {loose : List Str} {XP : (Str → Option Value) → Heap → Prop} {YP : World → Heap → Prop} {d : DefRec} {K : Params → PySem.W.Frag} {pt : Addr} (hn : l.most = some 63) (hdf : d.params.defaults = [])
    (hY : ∀ (w : World) (h : Heap), YP w h → (K w.params).In h ∧ ∀ q ∈ [pt], h.get? q = some (PySem.W.tabObj #[]))
    (F : ∀ (w : World) (mg : Str → Option Value) (fa : Addr) (h : Heap), (K w.params).In h → h.Ns mainGlobals mg → mg d.name = some (.ref fa) →
      (∀ q ∈ [pt], (∃ cd, Cdh (K w.params) cd q) ∧ (K w.params).lookup q = none) ∧ ∃ fd : FuncData, (∀ (s : Shared) (u : Value), BindsTo s fd ⟨[u], []⟩ [("_law_script", u)]) ∧ ∀ base : Heap, (K w.params).In base → base.Ns mainGlobals mg → Bm mg base → FnOk l.prog w (K w.params) mg base CX0 6 fa fd ["_law_script"] (spLaw (K w.params) pt)) :
    PySem.W.WalkO q loose XP YP l.row.toRowW d [] (fun f vs => PySem.call f vs) :=
  L2.walk_ofU (n := 63) (k := 6) (x := "_law_script") (CX := fun _ => CX0) (sp := fun w => spLaw (K w.params) pt) (ts := [pt]) hn (by decide) hdf ⟨rfl, by decide, by decide, rfl⟩ hY F (fun _ _ a ns hl hT hS => ⟨a, ns, rfl, hS, hl, hT pt (List.mem_singleton.mpr rfl), fun _ => rfl⟩) fun _ _ _ _ _ z => z
end K21
theorem PySem.W.Fast.tw17746907285723535226 : True := trivial
theorem PySem.W.Fast.tw853623671323141165 : True := trivial
theorem PySem.W.Fast.tw12224829873445727682 : True := trivial
theorem PySem.W.Fast.tw16423619062569510751 : True := trivial
theorem PySem.W.Fast.tw8854289669110189602 : True := trivial
theorem PySem.W.Fast.tw1449893322302562026 : True := trivial
theorem PySem.W.Fast.tw364580168994393780 : True := trivial
theorem PySem.W.Fast.tw5296184961764165157 : True := trivial
theorem PySem.W.Fast.tw315058590969195861 : True := trivial
theorem PySem.W.Fast.tw3573268797627893104 : True := trivial
theorem PySem.W.Fast.tw16474013797786651168 : True := trivial
theorem PySem.W.Fast.tw12512228046978597025 : True := trivial
theorem PySem.W.Fast.tw4968081514352860697 : True := trivial
theorem PySem.W.Fast.tw16925202374927669780 : True := trivial
theorem PySem.W.Fast.tw10863561514266790198 : True := trivial
theorem PySem.W.Fast.tw2787494520618197604 : True := trivial
theorem PySem.W.Fast.tw13693180896431055642 : True := trivial
theorem PySem.W.Fast.tw16784529349019804772 : True := trivial
theorem PySem.W.Fast.tw7433397088614014696 : True := trivial
theorem PySem.W.Fast.tw3863001919621260296 : True := trivial
theorem PySem.W.Fast.tw5062334925418450473 : True := trivial
theorem PySem.W.Fast.tw10584968043865399949 : True := trivial
theorem PySem.W.Fast.tw9869078492243337474 : True := trivial
theorem PySem.W.Fast.tw15977189964099854296 : True := trivial
theorem PySem.W.Fast.tw14092329353954316370 : True := trivial
theorem PySem.W.Fast.tw10097831084205102121 : True := trivial
theorem PySem.W.Fast.tw13468337627689279774 : True := trivial
theorem PySem.W.Fast.tw1032272956455006487 : True := trivial
theorem PySem.W.Fast.tw3176910469342434979 : True := trivial
theorem PySem.W.Fast.tw1624745574060689825 : True := trivial
theorem PySem.W.Fast.tw12801466509165763965 : True := trivial
theorem PySem.W.Fast.tw1522440518444754339 : True := trivial
theorem PySem.W.Fast.tw3787664787277618951 : True := trivial
theorem PySem.W.Fast.tw1005937316157222587 : True := trivial
theorem PySem.W.Fast.tw11828669168595055046 : True := trivial
theorem PySem.W.Fast.tw17083537868649886732 : True := trivial
theorem PySem.W.Fast.tw8413266215010739272 : True := trivial
theorem PySem.W.Fast.tw9113273165624009700 : True := trivial
theorem PySem.W.Fast.tw2169812246957779914 : True := trivial
theorem PySem.W.Fast.tw17252684497962622377 : True := trivial
open PySem PySem.W PyProof.Rows
set_option maxRecDepth 100000 in
set_option maxHeartbeats 0 in
theorem PySem.Challenge.cw_warmrows_k21_whole_stories_and_shapes_holds : PySem.Challenge.rw_warmrows_k21_whole_stories_and_shapes.Holds := by
  w_on; o_law; k_head; (case hw => w_witness2)
  k_fill
  refine K21.walk (l := PySem.Challenge.rw_warmrows_k21_whole_stories_and_shapes) rfl rfl (fun w h Y => L2.kmIn_of Y) ?F
  case F =>
    intro w mg fa h KX G hmg
    refine' K21.all_mk KX G hmg (K21.mkF KX G ?a0 ?l0 ?c0 ?k0) (K21.mkF KX G ?a1 ?l1 ?c1 ?k1) (K21.mkF KX G ?a2 ?l2 ?c2 ?k2) (K21.mkF KX G ?a3 ?l3 ?c3 ?k3) (K21.mkF KX G ?a4 ?l4 ?c4 ?k4) (K21.mkF KX G ?a5 ?l5 ?c5 ?k5) (K21.mkF KX G ?a6 ?l6 ?c6 ?k6) (K21.mkF KX G ?a7 ?l7 ?c7 ?k7) (K21.mkF KX G ?a8 ?l8 ?c8 ?k8) (K21.mkF KX G ?a9 ?l9 ?c9 ?k9) (K21.mkF KX G ?a10 ?l10 ?c10 ?k10) (K21.mkF KX G ?a11 ?l11 ?c11 ?k11) (K21.mkF KX G ?a12 ?l12 ?c12 ?k12) (K21.mkF KX G ?a13 ?l13 ?c13 ?k13) (K21.mkF KX G ?a14 ?l14 ?c14 ?k14) (L2.mkFT KX G ?a15 ?l15 ?c15 ?k15 ?lc ?h11 ?h18 ?h7 ?h9 ?h10 ?ne) (K21.mkF KX G ?a16 ?l16 ?c16 ?k16) (K21.mkF KX G ?a17 ?l17 ?c17 ?k17) (K21.mkF KX G ?a18 ?l18 ?c18 ?k18) (K21.mkF KX G ?a19 ?l19 ?c19 ?k19) ?np ?z0 ?z1 ?z2 ?z3 ?z4 ?z5 ?z6 ?z7 ?z8 ?z9 ?z10   
    case a0 | l0 | c0 | k0 | a1 | l1 | c1 | k1 | a2 | l2 | c2 | k2 | a3 | l3 | c3 | k3 | a4 | l4 | c4 | k4 | a5 | l5 | c5 | k5 | a6 | l6 | c6 | k6 | a7 | l7 | c7 | k7 | a8 | l8 | c8 | k8 | a9 | l9 | c9 | k9 | a10 | l10 | c10 | k10 | a11 | l11 | c11 | k11 | a12 | l12 | c12 | k12 | a13 | l13 | c13 | k13 | a14 | l14 | c14 | k14 | a15 | l15 | c15 | k15 | a16 | l16 | c16 | k16 | a17 | l17 | c17 | k17 | a18 | l18 | c18 | k18 | a19 | l19 | c19 | k19 | z0 | z1 | z2 | z3 | z4 | z5 | z6 | z7 | z8 | z9 | z10 | lc => k_is
    case h11 | h18 | h7 | h9 | h10 => rfl
    case ne | np => rfl
end
