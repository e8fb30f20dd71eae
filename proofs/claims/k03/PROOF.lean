import PyProof.Rows.All
import Wide.All
import OpenK.AllK
import Wide.FinOn
import Lean
import PyProof.EqAt
import PyProof.EqKinds
import PyProof.TupleCall
import KE.KTryMore
import PyProof.ExcAttrAll.ValueError
import PyProof.ExcBaseAll.ValueError
import PyProof.DictWalks
import PyProof.EnumIter
import PyProof.EnumFor
import PyProof.EnumMake
import PyProof.AttrMissHeap
import KE.KDictOf
import KE.KDictList
import PyProof.StrOps2
import KE.KSortTup
import PyProof.NeKinds
import PyProof.Rows.SortStr
import PyProof.TupleOfSeq
import PyProof.ZipIter
import PyProof.Rows.SetFrom
import PyProof.ReprRoads
import PyProof.CallFns
import PyProof.StrLawsRepr
import PySem.Challenge.RW_warmrows_k03_no_kind_is_refused
import PyProof.Rows.StrJoin2
import PyProof.Rows.StrFit
import PyProof.Rows.StrJoinMade
set_option Elab.async false
set_option linter.all false
set_option maxRecDepth 100000
set_option maxHeartbeats 4000000
section
namespace L2
open PySem PySem.Spec PyProof.Rows
abbrev Key := Sum Int Str
def keyIs : Key → Value → Bool
  | .inl k, v => Value.isInt k v
  | .inr x, v => Value.isStrOf x v
def keyH (w : World) : Key → Int
  | .inl k => hashInt k
  | .inr x => hashStr w x
theorem keyIs_shape : ∀ {k : Key} {v : Value}, keyIs k v = true → (∃ i t, k = Sum.inl i ∧ v = Value.int i t) ∨ (∃ x t, k = Sum.inr x ∧ v = Value.str x t)
  | .inl i, v, h => by
    obtain ⟨t, e⟩ := Value.isInt_shape (k := i) (v := v) h
    exact .inl ⟨i, t, rfl, e⟩
  | .inr x, v, h => by
    obtain ⟨t, e⟩ := Value.isStrOf_shape (x := x) (v := v) h
    exact .inr ⟨x, t, rfl, e⟩
theorem keyIs_int (i : Int) (t : Tok) : keyIs (.inl i) (.int i t) = true := by simp [keyIs, Value.isInt]
theorem keyIs_str (x : Str) (t : Tok) : keyIs (.inr x) (.str x t) = true := by simp [keyIs, Value.isStrOf]
theorem key_ll (a b : Int) : decide ((Sum.inl a : Key) = Sum.inl b) = (a == b) := by
  by_cases e : a = b
  · subst e; simp
  · have h : ¬ (Sum.inl a : Key) = Sum.inl b := fun q => e (Sum.inl.inj q)
    rw [decide_eq_false h]
    exact (beq_eq_false_iff_ne.mpr e).symm
theorem key_rr (a b : Str) : decide ((Sum.inr a : Key) = Sum.inr b) = decide (a = b) := by
  by_cases e : a = b
  · subst e; simp
  · have h : ¬ (Sum.inr a : Key) = Sum.inr b := fun q => e (Sum.inr.inj q)
    rw [decide_eq_false h, decide_eq_false e]
theorem key_lr (a : Int) (b : Str) : decide ((Sum.inl a : Key) = Sum.inr b) = false := decide_eq_false (fun q => nomatch q)
theorem key_rl (a : Str) (b : Int) : decide ((Sum.inr a : Key) = Sum.inl b) = false := decide_eq_false (fun q => nomatch q)
def mixKind (prog : Program) (w : World) : PySem.KeyKind prog w Key where
  is := keyIs
  hash := keyH w
  inj := fun v a b ha hb => by
    rcases keyIs_shape ha with ⟨i, t, rfl, rfl⟩ | ⟨x, t, rfl, rfl⟩
    · rcases keyIs_shape hb with ⟨j, u, rfl, e⟩ | ⟨y, u, rfl, e⟩
      · injection e with e1 _; rw [e1]
      · exact nomatch e
    · rcases keyIs_shape hb with ⟨j, u, rfl, e⟩ | ⟨y, u, rfl, e⟩
      · exact nomatch e
      · injection e with e1 _; rw [e1]
  byValue := fun k v h => by
    rcases keyIs_shape h with ⟨i, t, rfl, rfl⟩ | ⟨x, t, rfl, rfl⟩ <;> rfl
  pyHash := fun hv h => by
    rcases keyIs_shape hv with ⟨i, t, rfl, rfl⟩ | ⟨x, t, rfl, rfl⟩
    · exact wpAny_pyHash_int h
    · exact wpAny_pyHash_str h
  eqBool := fun hu hv h => by
    rcases keyIs_shape hu with ⟨i, t, rfl, rfl⟩ | ⟨x, t, rfl, rfl⟩
    · rcases keyIs_shape hv with ⟨j, u, rfl, rfl⟩ | ⟨y, u, rfl, rfl⟩
      · rw [key_ll] at h; exact wpAny_eqBool_int h
      · rw [key_lr] at h; exact SeqAt.EqAt.int_str i t y u _ _ _ _ h
    · rcases keyIs_shape hv with ⟨j, u, rfl, rfl⟩ | ⟨y, u, rfl, rfl⟩
      · rw [key_rl] at h; exact SeqAt.EqAt.str_int x t j u _ _ _ _ h
      · rw [key_rr] at h; exact wpAny_eqBool_str h
  «strs» := fun k x t v h => by
    rcases keyIs_shape h with ⟨i, u, rfl, e⟩ | ⟨y, u, rfl, e⟩
    · exact nomatch e
    · injection e with e1 _
      subst e1
      cases v <;> rfl
theorem mixKind_is (prog : Program) (w : World) (k : Key) (v : Value) : (mixKind prog w).is k v = keyIs k v := rfl
theorem mixKind_int (prog : Program) (w : World) (i : Int) (t : Tok) : (mixKind prog w).is (.inl i) (.int i t) = true := keyIs_int i t
theorem mixKind_str (prog : Program) (w : World) (x : Str) (t : Tok) : (mixKind prog w).is (.inr x) (.str x t) = true := keyIs_str x t
end L2
namespace L2
open PySem PySem.Spec PyProof.Rows
inductive V where
  | non | bl (b : Bool) | int (i : Int) | str (x : Str) | byt (b : Array UInt8) | flt (b : UInt64) | ref (a : Addr) | ty (n : String)
  deriving DecidableEq
def RelV : V → Value → Prop
  | .non, u => u = Value.none
  | .bl b, u => u = Value.bool b
  | .int i, u => ∃ t, u = Value.int i t
  | .str x, u => ∃ t, u = Value.str x t
  | .byt b, u => ∃ t, u = Value.bytes b t
  | .flt b, u => ∃ t, u = Value.float b t
  | .ref a, u => u = Value.ref a
  | .ty n, u => u = Value.type n
abbrev Vals : List V → List Value → Prop := Paired RelV
theorem Vals.length {xs : List V} {us : List Value} (r : Vals xs us) : xs.length = us.length := Paired.length r
theorem Vals.get : ∀ {xs : List V} {us : List Value} {i : Nat} {x : V}, Vals xs us → xs[i]? = some x → ∃ u, us[i]? = some u ∧ RelV x u
  | _, _, _, _, .nil, e => by simp at e
  | _, _, 0, _, .cons r _, e => by simp at e; subst e; exact ⟨_, rfl, r⟩
  | _, _, i + 1, x, .cons _ t, e => by
    obtain ⟨u, h1, h2⟩ := Vals.get (i := i) (x := x) t (by simpa using e)
    exact ⟨u, by simpa using h1, h2⟩
theorem Vals.set {x : V} {u : Value} (r : RelV x u) : ∀ {xs : List V} {us : List Value} (i : Nat), Vals xs us → Vals (xs.set i x) (us.set i u)
  | _, _, _, .nil => .nil
  | _, _, 0, .cons _ t => .cons r t
  | _, _, i + 1, .cons q t => .cons q (Vals.set r i t)
theorem Vals.append : ∀ {xs ys : List V} {us ws : List Value}, Vals xs us → Vals ys ws → Vals (xs ++ ys) (us ++ ws)
  | _, _, _, _, .nil, s => s
  | _, _, _, _, .cons r t, s => .cons r (Vals.append t s)
theorem Vals.take : ∀ {xs : List V} {us : List Value} (n : Nat), Vals xs us → Vals (xs.take n) (us.take n)
  | _, _, 0, _ => .nil
  | _, _, _ + 1, .nil => .nil
  | _, _, n + 1, .cons r t => .cons r (Vals.take n t)
theorem Vals.drop : ∀ {xs : List V} {us : List Value} (n : Nat), Vals xs us → Vals (xs.drop n) (us.drop n)
  | _, _, 0, r => r
  | _, _, _ + 1, .nil => .nil
  | _, _, n + 1, .cons _ t => Vals.drop n t
def RelO : Option V → Option Value → Prop
  | some v, some u => RelV v u
  | none, none => True
  | _, _ => False
def KV {κ : Type} : List (κ × V) → List (κ × Value) → Prop := Paired fun (p : κ × V) (q : κ × Value) => p.1 = q.1 ∧ RelV p.2 q.2
def kV : Key → V
  | .inl i => .int i
  | .inr x => .str x
inductive HO where
  | lst (xs : List V)
  | tup (xs : List V)
  | dK (kvs : List (Key × V)) | dT (kvs : List (List Key × V))
  | set (S : Int → Bool) (n : Nat)
  | ins (C dx : Addr) (fs : List (Str × V))
  | own (x : Addr)
  | xd (fs : List (Str × V))
  | met (f x : Addr)
  | rng (lo hi : Int)
  | frz (o : Obj) (u : HO)
  | tbl (ps : Array Value)
  | ext (φ : Heap → Prop)
abbrev Hp := Addr → Option HO
def upd (H : Hp) (a : Addr) (o : HO) : Hp := fun b => if b = a then some o else H b
theorem upd_same {H : Hp} {a : Addr} {o : HO} : upd H a o a = some o := by unfold upd; rw [if_pos rfl]
theorem upd_ne {H : Hp} {a b : Addr} {o : HO} (h : b ≠ a) : upd H a o b = H b := by unfold upd; rw [if_neg h]
theorem upd_upd {H : Hp} {a : Addr} {o u : HO} : upd (upd H a o) a u = upd H a u := by
  funext b; unfold upd; split <;> rfl
theorem ne_of {H : Hp} {a b : Addr} {o u : HO} (h : H a = some o) (h' : H b = some u) (d : o ≠ u) : a ≠ b := by
  intro e; subst e; rw [h] at h'; exact d (Option.some.inj h')
theorem ne_of_none {H : Hp} {a b : Addr} {o : HO} (h : H a = some o) (h' : H b = none) : a ≠ b := by
  intro e; subst e; rw [h] at h'; cases h'
def NoD (h : Heap) (a : Addr) : Prop := ∀ o, h.get? a = some o → o.dict = none
theorem nod_push (h : Heap) (its : Array Value) : NoD (h.push { cls := .type "tuple", data := .seq its }) h.objs.size := fun o e => by
  rw [Heap.get?_push_size _ rfl] at e
  cases e
  rfl
section
variable (P : Program) (w : World)
def ObjOk (H : Hp) (h : Heap) (a : Addr) : HO → Prop
  | .lst xs => xs.length ≤ sizeLine ∧ ∃ (its : List Value) (n : Nat), Vals xs its ∧ h.get? a = some { cls := .type "list", data := .seq its.toArray n }
  | .tup xs => (xs.length ≤ sizeLine ∧ NoD h a) ∧ ∃ its : List Value, Vals xs its ∧ IsTup h a its.toArray
  | .dK kvs => kvs.length ≤ sizeLine ∧ (a == sysModules) = false ∧ ∃ vs, KV kvs vs ∧ h.DictOf (mixKind P w) a vs
  | .dT kvs => kvs.length ≤ sizeLine ∧ (a == sysModules) = false ∧ ∃ xs : List (List Key × Addr × Value),
      Paired (fun (p : List Key × V) (q : List Key × Addr × Value) => p.1 = q.1 ∧ H q.2.1 = some (.tup (p.1.map kV)) ∧ RelV p.2 q.2.2) kvs xs ∧
      ∃ o es ep, h.get? a = some o ∧ o.ExactDict ∧ o.data = .dict es ep ∧ es.toList = xs.map (entryOfKey (tupleKind (mixKind P w))) ∧ (xs.map (·.1)).Nodup
  | .set S n => h.SetOf (intKind P w) a S n
  | .ins C dx fs => H dx = some (.own a) ∧ fs.length ≤ 1000 ∧ dx ≠ a ∧ h.get? a = some (PySem.W.instObj C dx) ∧
      ∃ mA, h.Ns1 dx mA ∧ (∀ f, RelO (fs.lookup f) (mA f)) ∧ PySem.Within mA (fs.map (·.1))
  | .own _ => ∃ o, h.get? a = some o
  | .xd fs => ∃ mA, h.Ns1 a mA ∧ ∀ f, RelO (fs.lookup f) (mA f)
  | .rng lo hi => ∃ t u v, h.get? a = some { cls := .type "range", data := .fields #[.int lo t, .int hi u, .int 1 v] }
  | .frz o u => h.get? a = some o ∧ ObjOk H h a u
  | .tbl ps => h.get? a = some { cls := .none, data := .fields ps }
  | .met f x => h.get? a = some (PySem.W.methodObj (.ref f) (.ref x))
  | .ext φ => φ h ∧ (∃ o, h.get? a = some o) ∧ ∀ h1 h2 : Heap, φ h1 → (∀ o, h1.get? a = some o → h2.get? a = some o) → φ h2
def HOk (H : Hp) (h : Heap) : Prop := ∀ a o, H a = some o → ObjOk P w H h a o
end
section
variable {P : Program} {w : World} {H H' : Hp} {h h' : Heap} {a : Addr} {o : HO}
theorem ObjOk.lt (x : ObjOk P w H h a o) : a < h.objs.size := by
  cases o with
  | lst xs => obtain ⟨_, _, _, _, e⟩ := x; exact Heap.lt_size e
  | tup xs => obtain ⟨_, _, _, p⟩ := x; exact p.lt
  | dK kvs => obtain ⟨_, _, _, _, o, _, _, e, _⟩ := x; exact Heap.lt_size e
  | dT kvs => obtain ⟨_, _, _, _, o, _, _, e, _⟩ := x; exact Heap.lt_size e
  | set S n => obtain ⟨o, _, _, _, e, _⟩ := x; exact Heap.lt_size e
  | ins C dx fs => obtain ⟨_, _, _, e, _⟩ := x; exact Heap.lt_size e
  | own y => obtain ⟨_, e⟩ := x; exact Heap.lt_size e
  | xd fs => obtain ⟨_, ⟨_, _, _, e, _⟩, _⟩ := x; exact Heap.lt_size e
  | rng lo hi => obtain ⟨_, _, _, e⟩ := x; exact Heap.lt_size e
  | frz ob u => obtain ⟨e, _⟩ := x; exact Heap.lt_size e
  | tbl ps => exact Heap.lt_size (show h.get? a = some _ from x)
  | met f y => exact Heap.lt_size (show h.get? a = some _ from x)
  | ext φ => obtain ⟨_, ⟨_, e⟩, _⟩ := x; exact Heap.lt_size e
theorem Paired.mapP {α β : Type} {F G : α → β → Prop} : ∀ {l₁ : List α} {l₂ : List β}, Paired F l₁ l₂ → (∀ a b, F a b → G a b) → Paired G l₁ l₂
  | _, _, .nil, _ => .nil
  | _, _, .cons r t, f => .cons (f _ _ r) (Paired.mapP t f)
theorem ObjOk.stay (x : ObjOk P w H h a o) (k : ∀ b u, (b = a ∨ H b = some (.own a)) → h.get? b = some u → h'.get? b = some u)
    (ho : ∀ b, H b = some (.own a) → H' b = some (.own a)) (ht : ∀ b xs, H b = some (.tup xs) → H' b = some (.tup xs)) : ObjOk P w H' h' a o := by
  induction o with
  | lst xs => obtain ⟨z, its, n, r, e⟩ := x; exact ⟨z, its, n, r, k _ _ (.inl rfl) e⟩
  | tup xs =>
    obtain ⟨z, its, r, ob, e, c⟩ := x
    have e' := k _ _ (.inl rfl) e
    exact ⟨⟨z.1, fun o q => by rw [e'] at q; cases q; exact z.2 _ e⟩, its, r, ob, e', c⟩
  | dK kvs => obtain ⟨z, y, vs, r, ob, es, ep, e, c⟩ := x; exact ⟨z, y, vs, r, ob, es, ep, k _ _ (.inl rfl) e, c⟩
  | dT kvs =>
    obtain ⟨z, y, xs, r, ob, es, ep, e, c⟩ := x
    exact ⟨z, y, xs, Paired.mapP r fun p q z => ⟨z.1, ht _ _ z.2.1, z.2.2⟩, ob, es, ep, k _ _ (.inl rfl) e, c⟩
  | set S n => obtain ⟨ob, es, ep, t, e, c⟩ := x; exact ⟨ob, es, ep, t, k _ _ (.inl rfl) e, c⟩
  | ins C dx fs =>
    obtain ⟨d, z, ne, e, mA, ⟨od, es, ep, e2, c⟩, r⟩ := x
    exact ⟨ho _ d, z, ne, k _ _ (.inl rfl) e, mA, ⟨od, es, ep, k _ _ (.inr d) e2, c⟩, r⟩
  | own y => obtain ⟨ob, e⟩ := x; exact ⟨ob, k _ _ (.inl rfl) e⟩
  | xd fs => obtain ⟨mA, ⟨od, es, ep, e, c⟩, r⟩ := x; exact ⟨mA, ⟨od, es, ep, k _ _ (.inl rfl) e, c⟩, r⟩
  | rng lo hi => obtain ⟨t, u, v, e⟩ := x; exact ⟨t, u, v, k _ _ (.inl rfl) e⟩
  | frz ob u ih => obtain ⟨e, q⟩ := x; exact ⟨k _ _ (.inl rfl) e, ih q⟩
  | tbl ps =>
    have e : h.get? a = some { cls := .none, data := .fields ps } := x
    show h'.get? a = some { cls := .none, data := .fields ps }
    exact k a _ (.inl rfl) e
  | met f y =>
    have e : h.get? a = some (PySem.W.methodObj (.ref f) (.ref y)) := x
    show h'.get? a = some (PySem.W.methodObj (.ref f) (.ref y))
    exact k a _ (.inl rfl) e
  | ext φ => obtain ⟨p, ⟨o, e⟩, st⟩ := x; exact ⟨st _ _ p fun o q => k _ _ (.inl rfl) q, ⟨o, k _ _ (.inl rfl) e⟩, st⟩
theorem HOk.lt (x : HOk P w H h) (e : H a = some o) : a < h.objs.size := (x a o e).lt
theorem HOk.fresh (x : HOk P w H h) (e : h.objs.size ≤ a) : H a = none := by
  cases q : H a with
  | none => rfl
  | some u => exact absurd (Nat.lt_of_lt_of_le (x.lt q) e) (Nat.lt_irrefl _)
theorem HOk.kept (x : HOk P w H h) (k : ∀ b u, h.get? b = some u → h'.get? b = some u) : HOk P w H h' := fun a o e =>
  (x a o e).stay (fun b u _ q => k b u q) (fun _ q => q) fun _ _ q => q
theorem HOk.laid (x : HOk P w H h) (k : ∀ b u, h.get? b = some u → h'.get? b = some u) (hp : h.objs.size ≤ a) (new : ObjOk P w (upd H a o) h' a o) : HOk P w (upd H a o) h' := fun b u e => by
  have hn := x.fresh hp
  by_cases hb : b = a
  · subst hb; rw [upd_same] at e; cases e; exact new
  · rw [upd_ne hb] at e
    exact (x b u e).stay (fun c v _ q => k c v q) (fun c q => by rw [upd_ne (ne_of_none q hn)]; exact q) fun c xs q => by rw [upd_ne (ne_of_none q hn)]; exact q
end
def Rd (H : Hp) (a : Addr) (u : HO) : Prop := H a = some u ∨ ∃ o, H a = some (.frz o u)
theorem Rd.ok {P : Program} {w : World} {H : Hp} {h : Heap} {a : Addr} {u : HO} (r : Rd H a u) (x : HOk P w H h) : ObjOk P w H h a u := by
  rcases r with r | ⟨o, r⟩
  · exact x a u r
  · obtain ⟨_, q⟩ := x a _ r
    exact q
def Mut : Option HO → Prop
  | some (.lst _) => True
  | some (.dK _) => True
  | some (.dT _) => True
  | some (.set _ _) => True
  | some (.ins _ _ _) => True
  | some (.ext _) => True
  | _ => False
section
variable {P : Program} {w : World} {H : Hp} {h h' : Heap} {x e : Addr} {o' : HO}
theorem HOk.write (ok : HOk P w H h) (mu : Mut (H x)) (he : e = x ∨ H e = some (.own x)) (k : ∀ b u, b ≠ e → h.get? b = some u → h'.get? b = some u) (heo : ∃ u, h'.get? e = some u)
    (new : ObjOk P w (upd H x o') h' x o') : HOk P w (upd H x o') h' := fun b u q => by
  have nown : ∀ c y, H c = some (.own y) → c ≠ x := fun c y r z => by subst z; rw [r] at mu; exact mu
  have ntup : ∀ c xs, H c = some (.tup xs) → c ≠ x := fun c xs r z => by subst z; rw [r] at mu; exact mu
  by_cases hb : b = x
  · subst hb; rw [upd_same] at q; cases q; exact new
  · rw [upd_ne hb] at q
    by_cases hbe : b = e
    · have q' : H b = some (.own x) := by
        rcases he with z | z
        · exact absurd (hbe.trans z) hb
        · rw [hbe]; exact z
      rw [q] at q'; cases q'
      obtain ⟨v, hv⟩ := heo
      exact ⟨v, by rw [hbe]; exact hv⟩
    · refine (ok b u q).stay (fun c v hc r => k c v ?_ r) (fun c r => by rw [upd_ne (nown c b r)]; exact r) fun c xs r => by rw [upd_ne (ntup c xs r)]; exact r
      rcases hc with rfl | hc
      · exact hbe
      · rintro rfl
        rcases he with z | z
        · exact nown c b hc z
        · rw [hc] at z; cases z; exact hb rfl
end
structure Un (fs ex : List Addr) (H H' : Hp) (h h' : Heap) : Prop where
  keep : ∀ b o, h.get? b = some o → H b = none → b ∉ fs → b ∉ ex → h'.get? b = some o
  slot : ∀ b o, h.get? b = some o → H b = none → b ∈ fs → b ∉ ex → ∃ sl, h'.get? b = some { o with slots := sl }
  free : ∀ b o, h.get? b = some o → H b = none → b ∉ ex → H' b = none
  there : ∀ b o, h.get? b = some o → b ∉ ex → ∃ o', h'.get? b = some o'
  tups : ∀ b xs, H b = some (.tup xs) → H' b = some (.tup xs)
  frzs : ∀ b o u, H b = some (.frz o u) → H' b = some (.frz o u)
  tbls : ∀ b ps, H b = some (.tbl ps) → ∃ more, H' b = some (.tbl (ps ++ more))
section
variable {fs fs' ex ex' : List Addr} {H H1 H2 : Hp} {h h1 h2 h' : Heap} {a x e : Addr} {o : HO}
theorem Un.any (u : Un fs ex H H1 h h1) {b : Addr} {ob : Obj} (q : h.get? b = some ob) (n : H b = none) (hx : b ∉ ex) : ∃ sl, h1.get? b = some { ob with slots := sl } := by
  by_cases hb : b ∈ fs
  · exact u.slot b ob q n hb hx
  · exact ⟨ob.slots, u.keep b ob q n hb hx⟩
theorem Un.kept (k : ∀ b u, h.get? b = some u → h'.get? b = some u) : Un fs ex H H h h' :=
  ⟨fun b ob q _ _ _ => k b ob q, fun b ob q _ _ _ => ⟨ob.slots, k b ob q⟩, fun _ _ _ n _ => n, fun b ob q _ => ⟨ob, k b ob q⟩, fun _ _ q => q, fun _ _ _ q => q, fun _ ps q => ⟨#[], by rw [q]; simp⟩⟩
theorem Un.refl : Un fs ex H H h h := Un.kept fun _ _ q => q
theorem Un.laid (k : ∀ b u, h.get? b = some u → h'.get? b = some u) (hp : h.objs.size ≤ a) (hn : H a = none) : Un fs ex H (upd H a o) h h' where
  keep := fun b u q _ _ _ => k b u q
  slot := fun b u q _ _ _ => ⟨u.slots, k b u q⟩
  free := fun b u q n _ => by rw [upd_ne (Nat.ne_of_lt (Nat.lt_of_lt_of_le (Heap.lt_size q) hp))]; exact n
  there := fun b u q _ => ⟨u, k b u q⟩
  tups := fun b xs q => by rw [upd_ne (ne_of_none q hn)]; exact q
  frzs := fun b u xs q => by rw [upd_ne (ne_of_none q hn)]; exact q
  tbls := fun b ps q => ⟨#[], by rw [upd_ne (ne_of_none q hn), q]; simp⟩
theorem Un.write (mu : Mut (H x)) (he : e = x ∨ H e = some (.own x)) (k : ∀ b u, b ≠ e → h.get? b = some u → h'.get? b = some u) (heo : ∃ u, h'.get? e = some u) : Un fs ex H (upd H x o) h h' := by
  have hx : ∀ b, H b = none → b ≠ x := fun b n z => by subst z; rw [n] at mu; exact mu
  have hb : ∀ b, H b = none → b ≠ e := fun b n z => by
    subst z
    rcases he with r | r
    · exact hx b n r
    · rw [n] at r; cases r
  have hm : ∀ b u, H b = some u → ¬ Mut (some u) → b ≠ x := fun b u q nm z => by subst z; rw [q] at mu; exact nm mu
  refine ⟨fun b u q n _ _ => k b u (hb b n) q, fun b u q n _ _ => ⟨u.slots, k b u (hb b n) q⟩, fun b u q n _ => by rw [upd_ne (hx b n)]; exact n, fun b u q _ => ?_,
    fun b xs q => by rw [upd_ne (hm b _ q fun z => z)]; exact q, fun b u xs q => by rw [upd_ne (hm b _ q fun z => z)]; exact q, fun b ps q => ⟨#[], by rw [upd_ne (hm b _ q fun z => z), q]; simp⟩⟩
  by_cases hbe : b = e
  · subst hbe; exact heo
  · exact ⟨u, k b u hbe q⟩
end
def trk (h : Heap) (H : Hp) : List Addr := (List.range h.objs.size).filter fun a => (H a).isSome
def hidT (h : Heap) (H : Hp) : Heap := PySem.W.hideAll h (trk h H)
theorem hidT_size (h : Heap) (H : Hp) : (hidT h H).objs.size = h.objs.size := PySem.W.hideAll_size _ _
theorem hidT_get {h : Heap} {H : Hp} {b : Addr} {o : Obj} (e : h.get? b = some o) (n : H b = none) : (hidT h H).get? b = some o :=
  PySem.W.hideAll_get _ e fun hm => by
    have q : (H b).isSome = true := (List.mem_filter.mp hm).2
    rw [n] at q; simp at q
theorem of_hidT {h : Heap} {H : Hp} {b : Addr} {o : Obj} (e : (hidT h H).get? b = some o) : h.get? b = some o ∧ H b = none := by
  have e' : h.get? b = some o := PySem.W.of_hideAll (trk h H) e
  refine ⟨e', ?_⟩
  cases q : H b with
  | none => rfl
  | some x =>
    have hm : b ∈ trk h H := List.mem_filter.mpr ⟨List.mem_range.mpr (Heap.lt_size e'), by simp [q]⟩
    have z : (hidT h H).get? b = none := PySem.W.hideAll_none (trk h H) hm
    rw [z] at e; cases e
def allNews (g h : Heap) (L : Addr) : List (Addr × Obj) := (List.range h.objs.size).filterMap fun a => if a = L ∨ (g.get? a).isSome = true then none else (h.get? a).map fun o => (a, o)
def rest (g h : Heap) (L d : Addr) : List (Addr × Obj) := (allNews g h L).filter fun p => decide (p.1 ≠ d)
end L2
namespace L2
open PySem PySem.Spec PyProof.Rows
structure Mod (K : PySem.W.Frag) (mg : Str → Option Value) (base : Heap) : Prop where
  kin : K.In base
  glob : base.Ns mainGlobals mg
  blt : ∃ mb, base.Ns builtinsNs mb ∧ ∀ x : Str, x ≠ "__name__" → mb x = bootBuiltins x
  nolimit : base.NoLimit
/-- the context: a def's body (or a comprehension's block) running. base: fixed through the whole law; s₀, H₀: the entry; outer: the frames whose slots others may change (a def's callers); stack: all frames that run;
   ex: iterators that were made ahead of the entry and are walked here (a comprehension's); fn: the names whose cells were made at the entry (a def: all; a comprehension's block: its own); calm: not within an except suite; pn: pins that every state bears; xe: what is wanted of an exception that leaves the code -/
structure Cx where
  prog : Program
  w : World
  K : PySem.W.Frag
  mg : Str → Option Value
  base : Heap
  A : Around
  N : List Str
  s₀ : Shared
  H₀ : Hp
  env : Env
  outer : List Env
  stack : List Env
  ex : List Addr
  fn : Str → Bool
  calm : Bool
  pn : List (Addr × Obj)
  xe : Value → Shared → Prop
def frs (l : List Env) : List Addr := l.filterMap (·.frame)
abbrev Cx.fs (X : Cx) : List Addr := frs X.outer
def Vis (sc : Scope) (x : Str) : Prop := sc.names.lookup x = some .local ∨ sc.names.lookup x = some .cell ∨ sc.names.lookup x = some .free
def Loc (sc : Scope) (x : Str) : Prop := sc.names.lookup x = some .local ∨ sc.names.lookup x = some .cell
def Look (env : Env) (h : Heap) (m : Str → Option Value) (x : Str) (u : Value) : Prop :=
  (env.kindOf x = some .local ∧ m x = some u) ∨ ((env.kindOf x = some .cell ∨ env.kindOf x = some .free) ∧ ∃ c, env.cells.lookup x = some c ∧ h.IsCell c (some u))
structure Cx.Ok (X : Cx) : Prop where
  mod : Mod X.K X.mg X.base
  kind : X.env.scope.kind = .function
  glob : X.env.globals = mainGlobals
  blt : X.env.builtins = builtinsNs
  above : X.s₀.heap.objs.size ≤ X.env.locals
  inj : ∀ x y c, X.env.cells.lookup x = some c → X.env.cells.lookup y = some c → x = y
  has : ∀ x, (X.env.kindOf x = some .cell ∨ X.env.kindOf x = some .free) → ∃ c, X.env.cells.lookup x = some c
  cab : ∀ x c, X.fn x = true → X.env.cells.lookup x = some c → X.s₀.heap.objs.size ≤ c
  hd : X.calm = true → X.A.handled = none
  frames : X.A.frames = some X.stack
  stk : X.stack = X.outer ∨ (X.stack = X.env :: X.outer ∧ X.env.frame = some X.env.locals)
  exf : ∀ b ∈ X.ex, b ≠ X.env.locals ∧ ∀ x c, X.env.cells.lookup x = some c → c ≠ b
  bs : ∀ b o, X.base.get? b = some o → X.s₀.heap.get? b = some o ∧ X.H₀ b = none
  bsz : X.base.objs.size ≤ X.s₀.heap.objs.size
  noex : ∀ b o, X.base.get? b = some o → b ∉ X.ex
  exfs : ∀ b ∈ X.ex, b ∉ X.fs
  funs : X.s₀.heap.FunFrames X.base X.outer
  frf : ∀ b ∈ X.fs, X.H₀ b = none
structure Inv (X : Cx) (pins : List (Addr × Obj)) (σ : List (Option V)) (H : Hp) (s : Shared) : Prop where
  ok : X.Ok
  os : s.os = X.s₀.os
  bare : AllBare s.gens
  base : Un X.fs X.ex X.H₀ H X.s₀.heap s.heap
  loc : ∃ m, s.heap.Ns X.env.locals m ∧ ∀ (i : Nat) (x : Str) (v : V), X.N[i]? = some x → σ[i]? = some (some v) → Vis X.env.scope x → ∃ u, RelV v u ∧ Look X.env s.heap m x u
  cell : ∀ x c, X.env.cells.lookup x = some c → ∃ v, s.heap.IsCell c v
  free : H X.env.locals = none
  freeC : ∀ x c, X.env.cells.lookup x = some c → H c = none
  pin : ∀ p ∈ X.pn ++ pins, s.heap.get? p.1 = some p.2 ∧ H p.1 = none ∧ p.1 ≠ X.env.locals ∧ p.1 ∉ X.fs ∧ ∀ v, p.2.data ≠ .cell v
  hok : HOk X.prog X.w H s.heap
  len : σ.length = X.N.length
section
variable {X : Cx} {pins : List (Addr × Obj)} {σ : List (Option V)} {H H' : Hp} {s : Shared} {h' : Heap}
theorem Cx.Ok.nofr (ok : X.Ok) {b : Addr} {o : Obj} (e : X.base.get? b = some o) : b ∉ X.fs := fun hb => by
  have := (ok.funs.mem hb).1
  rw [e] at this; cases this
theorem Inv.bs (I : Inv X pins σ H s) : ∀ b o, X.base.get? b = some o → s.heap.get? b = some o ∧ H b = none := fun b o e =>
  ⟨I.base.keep b o (I.ok.bs b o e).1 (I.ok.bs b o e).2 (I.ok.nofr e) (I.ok.noex b o e), I.base.free b o (I.ok.bs b o e).1 (I.ok.bs b o e).2 (I.ok.noex b o e)⟩
theorem Inv.bk (I : Inv X pins σ H s) : ∀ b o, X.base.get? b = some o → s.heap.get? b = some o := fun b o e => (I.bs b o e).1
theorem Inv.mod (I : Inv X pins σ H s) : Mod X.K X.mg X.base := I.ok.mod
theorem Inv.kIn (I : Inv X pins σ H s) : X.K.In s.heap := I.ok.mod.kin.keeps I.bk
theorem Inv.lt (I : Inv X pins σ H s) : X.env.locals < s.heap.objs.size := let ⟨_, hn, _⟩ := I.loc; hn.lt
theorem Inv.sz (I : Inv X pins σ H s) : X.s₀.heap.objs.size ≤ s.heap.objs.size := Nat.le_trans I.ok.above (Nat.le_of_lt I.lt)
theorem Inv.nofs (I : Inv X pins σ H s) {a : Addr} (h : s.heap.objs.size ≤ a) : a ∉ X.fs := fun hb => by
  obtain ⟨_, o, ho, _⟩ := I.ok.funs.mem hb
  exact absurd (Nat.lt_of_lt_of_le (Heap.lt_size ho) (Nat.le_trans I.sz h)) (Nat.lt_irrefl _)
theorem Inv.cne (I : Inv X pins σ H s) : ∀ x c, X.env.cells.lookup x = some c → c ≠ X.env.locals := fun x c e z => by
  obtain ⟨v, o, ho, hd⟩ := I.cell x c e
  obtain ⟨m, ⟨o', es, ep, ho', hd', _⟩, _⟩ := I.loc
  rw [z, ho'] at ho; cases ho; rw [hd'] at hd; cases hd
theorem Inv.funs (I : Inv X pins σ H s) : s.heap.FunFrames X.base X.outer := by
  have all : ∀ (l : List Env), (∀ b ∈ frs l, b ∈ X.fs) → X.s₀.heap.FunFrames X.base l → s.heap.FunFrames X.base l := by
    intro l
    induction l with
    | nil => intro _ _; trivial
    | cons env r ih =>
      intro hs hl
      obtain ⟨hk, ⟨L, o, hf, hn, ho, hd⟩, hr⟩ := hl
      have hL : L ∈ X.fs := hs L (by unfold frs; rw [List.filterMap_cons, hf]; exact List.mem_cons_self)
      obtain ⟨sl, e⟩ := I.base.slot L o ho (I.ok.frf L hL) hL fun z => I.ok.exfs L z hL
      exact ⟨hk, ⟨L, _, hf, hn, e, hd⟩, ih (fun b hb => hs b (by unfold frs; rw [List.filterMap_cons, hf]; exact List.mem_cons_of_mem _ hb)) hr⟩
  exact all X.outer (fun _ hb => hb) I.ok.funs
theorem Inv.stack (I : Inv X pins σ H s) : s.heap.FunFrames X.base X.stack := by
  rcases I.ok.stk with e | ⟨e, hf⟩
  · rw [e]; exact I.funs
  · rw [e]
    obtain ⟨m, hn, _⟩ := I.loc
    refine .cons (by rw [I.ok.kind]; decide) hf hn ?_ I.funs
    exact Heap.get?_none_of_le (Nat.le_trans I.ok.bsz I.ok.above)
theorem Inv.stkSub (I : Inv X pins σ H s) : ∀ b ∈ frs X.stack, b ∈ X.env.locals :: X.fs := fun b hb => by
  rcases I.ok.stk with e | ⟨e, hf⟩
  · rw [e] at hb; exact List.mem_cons_of_mem _ hb
  · rw [e] at hb
    unfold frs at hb
    rw [List.filterMap_cons, hf] at hb
    exact hb
theorem Inv.stkFree (I : Inv X pins σ H s) : ∀ b ∈ frs X.stack, H b = none := fun b hb => by
  rcases List.mem_cons.mp (I.stkSub b hb) with e | hb
  · rw [e]; exact I.free
  · obtain ⟨_, o, ho, _⟩ := I.ok.funs.mem hb
    exact I.base.free b o ho (I.ok.frf b hb) fun z => I.ok.exfs b z hb
theorem Inv.step {g' : Array GenState} {t' : Nat} {d' : Drawn} {ch : List Addr} (I : Inv X pins σ H s)
    (hch : ∀ b ∈ ch, (b ∈ X.ex ∨ X.s₀.heap.objs.size ≤ b) ∧ b ≠ X.env.locals ∧ (∀ x c, X.env.cells.lookup x = some c → c ≠ b) ∧ ∀ p ∈ X.pn ++ pins, p.1 ≠ b)
    (keep : ∀ b o, b ≠ X.env.locals → b ∉ X.fs → b ∉ ch → s.heap.get? b = some o → H b = none → h'.get? b = some o)
    (slot : ∀ b o, b ≠ X.env.locals → b ∈ X.fs → b ∉ ch → s.heap.get? b = some o → H b = none → ∃ sl, h'.get? b = some { o with slots := sl }) (free : ∀ b o, b ∉ ch → s.heap.get? b = some o → H b = none → H' b = none)
    (there : ∀ b o, b ∉ ch → s.heap.get? b = some o → ∃ o', h'.get? b = some o')
    (tups : ∀ b xs, H b = some (.tup xs) → H' b = some (.tup xs)) (frzs : ∀ b o u, H b = some (.frz o u) → H' b = some (.frz o u)) (tbls : ∀ b ps, H b = some (.tbl ps) → ∃ more, H' b = some (.tbl (ps ++ more)))
    (ns : ∀ m, s.heap.Ns X.env.locals m → h'.Ns X.env.locals m) (hok : HOk X.prog X.w H' h') (hg : AllBare g') :
    Inv X pins σ H' { s with heap := h', gens := g', drawn := d', toks := t' } := by
  have neL : ∀ b o, X.s₀.heap.get? b = some o → b ≠ X.env.locals := fun b o e => Nat.ne_of_lt (Nat.lt_of_lt_of_le (Heap.lt_size e) I.ok.above)
  have neC : ∀ b o, X.s₀.heap.get? b = some o → b ∉ X.ex → b ∉ ch := fun b o e hx hb => by
    rcases (hch b hb).1 with z | z
    · exact hx z
    · exact absurd (Nat.lt_of_lt_of_le (Heap.lt_size e) z) (Nat.lt_irrefl _)
  have cellK : ∀ x c, X.env.cells.lookup x = some c → ∀ v, s.heap.IsCell c v → h'.IsCell c v := fun x c e v ⟨o, ho, hd⟩ => by
    have nch : c ∉ ch := fun z => (hch c z).2.2.1 x c e rfl
    by_cases hc : c ∈ X.fs
    · obtain ⟨sl, q⟩ := slot c o (I.cne x c e) hc nch ho (I.freeC x c e)
      exact ⟨_, q, hd⟩
    · exact ⟨o, keep c o (I.cne x c e) hc nch ho (I.freeC x c e), hd⟩
  refine ⟨I.ok, I.os, hg, ⟨fun b o e n hb hx => ?_, fun b o e n hb hx => ?_, fun b o e n hx => ?_, fun b o e hx => ?_, fun b xs e => tups b xs (I.base.tups b xs e), fun b o xs e => frzs b o xs (I.base.frzs b o xs e), fun b ps e => ?_⟩, ?_, fun x c e => ?_, ?_, fun x c e => ?_, fun p hp => ?_, hok, I.len⟩
  · exact keep b o (neL b o e) hb (neC b o e hx) (I.base.keep b o e n hb hx) (I.base.free b o e n hx)
  · obtain ⟨sl, e1⟩ := I.base.slot b o e n hb hx
    obtain ⟨sl', e2⟩ := slot b _ (neL b o e) hb (neC b o e hx) e1 (I.base.free b o e n hx)
    exact ⟨sl', e2⟩
  · obtain ⟨o', e1⟩ := I.base.there b o e hx
    exact free b o' (neC b o e hx) e1 (I.base.free b o e n hx)
  · obtain ⟨o', e1⟩ := I.base.there b o e hx
    exact there b o' (neC b o e hx) e1
  · obtain ⟨m1, e1⟩ := I.base.tbls b ps e
    obtain ⟨m2, e2⟩ := tbls b _ e1
    exact ⟨m1 ++ m2, by rw [e2, Array.append_assoc]⟩
  · obtain ⟨m, hn, hl⟩ := I.loc
    refine ⟨m, ns m hn, fun i x v e1 e2 e3 => ?_⟩
    obtain ⟨u, r, l⟩ := hl i x v e1 e2 e3
    refine ⟨u, r, ?_⟩
    rcases l with l | ⟨k, c, e, z⟩
    · exact .inl l
    · exact .inr ⟨k, c, e, cellK x c e _ z⟩
  · obtain ⟨v, z⟩ := I.cell x c e
    exact ⟨v, cellK x c e v z⟩
  · obtain ⟨m, ⟨o, _, _, ho, _⟩, _⟩ := I.loc
    exact free _ o (fun z => (hch _ z).2.1 rfl) ho I.free
  · obtain ⟨v, o, ho, hd⟩ := I.cell x c e
    exact free c o (fun z => (hch c z).2.2.1 x c e rfl) ho (I.freeC x c e)
  · obtain ⟨e, n, ne, nf, d⟩ := I.pin p hp
    have nch : p.1 ∉ ch := fun z => (hch p.1 z).2.2.2 p hp rfl
    exact ⟨keep p.1 p.2 ne nf nch e n, free p.1 p.2 nch e n, ne, nf, d⟩
theorem Inv.un {t' : Nat} (I : Inv X pins σ H s) (u : Un X.fs [] H H' s.heap h') (hok : HOk X.prog X.w H' h') : Inv X pins σ H' { s with heap := h', toks := t' } := by
  obtain ⟨m, ⟨o, es, ep, ho, r⟩, _⟩ := id I.loc
  obtain ⟨sl, hL⟩ := u.any ho I.free (by simp)
  exact I.step (g' := s.gens) (d' := s.drawn) (ch := []) (fun _ z => nomatch z) (fun b o _ hb _ e n => u.keep b o e n hb (by simp)) (fun b o _ hb _ e n => u.slot b o e n hb (by simp)) (fun b o _ e n => u.free b o e n (by simp)) (fun b o _ e => u.there b o e (by simp)) u.tups u.frzs u.tbls (fun m' hm => by
    obtain ⟨o', es', ep', ho', r'⟩ := hm
    rw [ho] at ho'; cases ho'
    exact ⟨_, es', ep', hL, r'⟩) hok I.bare
theorem Inv.call {g' : Array GenState} {t' : Nat} {d' : Drawn} {ch : List Addr} (I : Inv X pins σ H s) (u : Un (frs X.stack) ch H H' s.heap h') (hok : HOk X.prog X.w H' h') (hg : AllBare g')
    (hch : ∀ b ∈ ch, (b ∈ X.ex ∨ X.s₀.heap.objs.size ≤ b) ∧ b ≠ X.env.locals ∧ (∀ x c, X.env.cells.lookup x = some c → c ≠ b) ∧ ∀ p ∈ X.pn ++ pins, p.1 ≠ b) :
    Inv X pins σ H' { s with heap := h', gens := g', drawn := d', toks := t' } := by
  obtain ⟨m, ⟨o, es, ep, ho, r⟩, _⟩ := id I.loc
  obtain ⟨sl, hL⟩ := u.any ho I.free fun z => (hch _ z).2.1 rfl
  exact I.step (ch := ch) hch (fun b o hL hb hc e n => u.keep b o e n (fun z => (List.mem_cons.mp (I.stkSub b z)).elim hL hb) hc) (fun b o _ _ hc e n => u.any e n hc) (fun b o hc e n => u.free b o e n hc) (fun b o hc e => u.there b o e hc) u.tups u.frzs u.tbls (fun m' hm => by
    obtain ⟨o', es', ep', ho', r'⟩ := hm
    rw [ho] at ho'; cases ho'
    exact ⟨_, es', ep', hL, r'⟩) hok hg
theorem Inv.turned {t' : Nat} {it : Addr} (I : Inv X pins σ H s) (k : ∀ b o, b ≠ it → s.heap.get? b = some o → h'.get? b = some o) (hn : H it = none) (hL : it ≠ X.env.locals)
    (h1 : it ∈ X.ex ∨ X.s₀.heap.objs.size ≤ it) (h2 : ∀ x c, X.env.cells.lookup x = some c → c ≠ it) (h3 : ∀ p ∈ X.pn ++ pins, p.1 ≠ it) : Inv X pins σ H { s with heap := h', toks := t' } := by
  have nit : ∀ b u, H b = some u → b ≠ it := fun b u e z => by rw [z, hn] at e; cases e
  refine I.step (g' := s.gens) (d' := s.drawn) (ch := [it]) (fun b hb => ?_) (fun b o _ _ hc e _ => k b o (fun z => hc (by simp [z])) e) (fun b o _ _ hc e _ => ⟨o.slots, k b o (fun z => hc (by simp [z])) e⟩) (fun _ _ _ _ n => n)
    (fun b o hc e => ⟨o, k b o (fun z => hc (by simp [z])) e⟩) (fun _ _ e => e) (fun _ _ _ e => e) (fun b ps e => ⟨#[], by rw [e]; simp⟩) (fun m hm => ?_) (fun b u e => ?_) I.bare
  · have e : b = it := by simpa using hb
    subst e
    exact ⟨h1, hL, h2, h3⟩
  · obtain ⟨o, es, ep, ho, r⟩ := hm
    exact ⟨o, es, ep, k _ o (Ne.symm hL) ho, r⟩
  · refine (I.hok b u e).stay (fun c v hc q => k c v ?_ q) (fun _ q => q) fun _ _ q => q
    rcases hc with z | z
    · rw [z]; exact nit b u e
    · exact nit c _ z
theorem Inv.tok (I : Inv X pins σ H s) (t : Nat) : Inv X pins σ H { s with toks := t } := I.un (h' := s.heap) (t' := t) Un.refl I.hok
theorem Inv.kept {t' : Nat} (I : Inv X pins σ H s) (k : ∀ b u, s.heap.get? b = some u → h'.get? b = some u) : Inv X pins σ H { s with heap := h', toks := t' } := I.un (Un.kept k) (I.hok.kept k)
theorem Inv.laid {a : Addr} {o : HO} {t' : Nat} (I : Inv X pins σ H s) (k : ∀ b u, s.heap.get? b = some u → h'.get? b = some u) (hp : s.heap.objs.size ≤ a) (new : ObjOk X.prog X.w (upd H a o) h' a o) :
    Inv X pins σ (upd H a o) { s with heap := h', toks := t' } := I.un (Un.laid k hp (I.hok.fresh hp)) (I.hok.laid k hp new)
theorem Inv.write {x e : Addr} {o : HO} {t' : Nat} (I : Inv X pins σ H s) (mu : Mut (H x)) (he : e = x ∨ H e = some (.own x)) (k : ∀ b u, b ≠ e → s.heap.get? b = some u → h'.get? b = some u) (heo : ∃ u, h'.get? e = some u)
    (new : ObjOk X.prog X.w (upd H x o) h' x o) : Inv X pins σ (upd H x o) { s with heap := h', toks := t' } := I.un (Un.write mu he k heo) (I.hok.write mu he k heo new)
theorem Inv.pins_of {pins' : List (Addr × Obj)} (I : Inv X pins σ H s) (h : ∀ p ∈ pins', s.heap.get? p.1 = some p.2 ∧ H p.1 = none ∧ p.1 ≠ X.env.locals ∧ p.1 ∉ X.fs ∧ ∀ v, p.2.data ≠ .cell v) : Inv X pins' σ H s :=
  ⟨I.ok, I.os, I.bare, I.base, I.loc, I.cell, I.free, I.freeC, fun p hp => (List.mem_append.mp hp).elim (fun z => I.pin p (List.mem_append_left _ z)) (h p), I.hok, I.len⟩
theorem nodup_ix {N : List Str} (hN : N.Nodup) {i j : Nat} {x : Str} (a : N[i]? = some x) (b : N[j]? = some x) : i = j := by
  obtain ⟨h1, e1⟩ := List.getElem?_eq_some_iff.mp a
  obtain ⟨h2, e2⟩ := List.getElem?_eq_some_iff.mp b
  exact (List.getElem_inj hN).mp (e1.trans e2.symm)
theorem store_ok2 {M : Model} {A : Around} {E : Value → Shared → Prop} {i : Nat} {x : Str} {v : V} {u : Value} {Q : Unit → Shared → Prop} (I : Inv X pins σ H s) (hN : X.N.Nodup) (hi : X.N[i]? = some x) (hx : Loc X.env.scope x) (r : RelV v u)
    (h : ∀ s', Inv X pins (σ.set i (some v)) H s' → (∃ a, Heap.SameBut a s.heap s'.heap ∧ (a = X.env.locals ∨ X.env.cells.lookup x = some a)) → Q () s') (hf : X.fn x = true ∨ X.env.scope.names.lookup x = some .local := by first | exact .inl rfl | exact .inr rfl | assumption) : wpAny M A (storeName X.env x u) Q E s := by
  obtain ⟨m, hn, hl⟩ := id I.loc
  have hcls : (X.env.scope.kind == .class || (X.env.scope.kind == .module && X.env.locals != X.env.globals)) = false := by rw [I.ok.kind]; rfl
  have hiσ : i < σ.length := by rw [I.len]; exact (List.getElem?_eq_some_iff.mp hi).1
  have cne := I.cne
  have tracked : ∀ {a : Addr} {h' : Heap}, (∃ o, s.heap.get? a = some o ∧ H a = none) → Heap.SameBut a s.heap h' → HOk X.prog X.w H h' := fun {a h'} ha hs b ob e => by
    obtain ⟨_, _, hfree⟩ := ha
    refine (I.hok b ob e).stay (fun c w' hc q => (hs.2 c ?_).trans q) (fun _ q => q) fun _ _ q => q
    rintro rfl
    rcases hc with rfl | hc
    · rw [hfree] at e; cases e
    · rw [hfree] at hc; cases hc
  rcases hx with hk | hk
  · refine wpAny_storeName_local hk hn (fun h' hn' hs => ?_) hcls
    obtain ⟨oL, _, _, hoL, _⟩ := id hn
    refine h _ ⟨I.ok, I.os, I.bare, ⟨fun b o e n hb hx => ?_, fun b o e n hb hx => ?_, I.base.free, fun b o e hx => ?_, I.base.tups, I.base.frzs, I.base.tbls⟩, ⟨_, hn', fun j y v' e1 e2 e3 => ?_⟩, fun y c e => ?_, I.free, I.freeC, fun p hp => ?_, tracked ⟨oL, hoL, I.free⟩ hs, by simpa using I.len⟩ ⟨_, hs, .inl rfl⟩
    · exact (hs.2 b (Nat.ne_of_lt (Nat.lt_of_lt_of_le (Heap.lt_size e) I.ok.above))).trans (I.base.keep b o e n hb hx)
    · obtain ⟨sl, e1⟩ := I.base.slot b o e n hb hx
      exact ⟨sl, (hs.2 b (Nat.ne_of_lt (Nat.lt_of_lt_of_le (Heap.lt_size e) I.ok.above))).trans e1⟩
    · obtain ⟨o', e1⟩ := I.base.there b o e hx
      exact ⟨o', (hs.2 b (Nat.ne_of_lt (Nat.lt_of_lt_of_le (Heap.lt_size e) I.ok.above))).trans e1⟩
    · by_cases hj : j = i
      · subst hj
        rw [hi] at e1; cases e1
        rw [List.getElem?_set_self hiσ] at e2
        cases e2
        exact ⟨u, r, .inl ⟨hk, by simp⟩⟩
      · rw [List.getElem?_set_ne (Ne.symm hj)] at e2
        obtain ⟨u', r', q⟩ := hl j y v' e1 e2 e3
        refine ⟨u', r', ?_⟩
        rcases q with ⟨k, e⟩ | ⟨k, c, e, z⟩
        · refine .inl ⟨k, ?_⟩
          have : y ≠ x := fun e => hj (nodup_ix hN e1 (e ▸ hi))
          simp [this, e]
        · exact .inr ⟨k, c, e, z.sameBut hs (cne y c e)⟩
    · obtain ⟨w', z⟩ := I.cell y c e
      exact ⟨w', z.sameBut hs (cne y c e)⟩
    · obtain ⟨e, n, ne, nf, d⟩ := I.pin p hp
      exact ⟨(hs.2 p.1 ne).trans e, n, ne, nf, d⟩
  · have hfn : X.fn x = true := by
      rcases hf with z | z
      · exact z
      · rw [z] at hk; cases hk
    obtain ⟨c, hc⟩ := I.ok.has x (.inl hk)
    obtain ⟨w', z⟩ := I.cell x c hc
    refine wpAny_storeName_cell I.ok.kind hk hc z (fun h' hc' hs => ?_)
    obtain ⟨oc, hoc, hocd⟩ := id z
    refine h { s with heap := h' } ⟨I.ok, I.os, I.bare, ⟨fun b o e n hb hx => ?_, fun b o e n hb hx => ?_, I.base.free, fun b o e hx => ?_, I.base.tups, I.base.frzs, I.base.tbls⟩, ⟨m, hn.sameBut hs (Ne.symm (cne x c hc)), fun j y v' e1 e2 e3 => ?_⟩, fun y c' e => ?_, I.free, I.freeC, fun p hp => ?_, tracked ⟨oc, hoc, I.freeC x c hc⟩ hs, by simpa using I.len⟩ ⟨c, hs, .inr hc⟩
    · exact (hs.2 b (Nat.ne_of_lt (Nat.lt_of_lt_of_le (Heap.lt_size e) (I.ok.cab x c hfn hc)))).trans (I.base.keep b o e n hb hx)
    · obtain ⟨sl, e1⟩ := I.base.slot b o e n hb hx
      exact ⟨sl, (hs.2 b (Nat.ne_of_lt (Nat.lt_of_lt_of_le (Heap.lt_size e) (I.ok.cab x c hfn hc)))).trans e1⟩
    · obtain ⟨o', e1⟩ := I.base.there b o e hx
      exact ⟨o', (hs.2 b (Nat.ne_of_lt (Nat.lt_of_lt_of_le (Heap.lt_size e) (I.ok.cab x c hfn hc)))).trans e1⟩
    · by_cases hj : j = i
      · subst hj
        rw [hi] at e1; cases e1
        rw [List.getElem?_set_self hiσ] at e2
        cases e2
        exact ⟨u, r, .inr ⟨.inl hk, c, hc, hc'⟩⟩
      · rw [List.getElem?_set_ne (Ne.symm hj)] at e2
        obtain ⟨u', r', q⟩ := hl j y v' e1 e2 e3
        refine ⟨u', r', ?_⟩
        rcases q with q | ⟨k, c', e, z'⟩
        · exact .inl q
        · refine .inr ⟨k, c', e, z'.sameBut hs ?_⟩
          rintro rfl
          exact hj (nodup_ix hN e1 (I.ok.inj _ _ _ e hc ▸ hi))
    · by_cases hcc : c' = c
      · subst hcc; exact ⟨_, hc'⟩
      · obtain ⟨w2, z2⟩ := I.cell y c' e
        exact ⟨w2, z2.sameBut hs hcc⟩
    · obtain ⟨e, n, ne, nf, d⟩ := I.pin p hp
      refine ⟨(hs.2 p.1 ?_).trans e, n, ne, nf, d⟩
      intro q
      rw [q, hoc] at e
      have q' : oc = p.2 := Option.some.inj e
      exact d w' (by rw [← q']; exact hocd)
theorem store_ok {M : Model} {A : Around} {E : Value → Shared → Prop} {i : Nat} {x : Str} {v : V} {u : Value} {Q : Unit → Shared → Prop} (I : Inv X pins σ H s) (hN : X.N.Nodup) (hi : X.N[i]? = some x) (hx : Loc X.env.scope x) (r : RelV v u)
    (h : ∀ s', Inv X pins (σ.set i (some v)) H s' → Q () s') (hf : X.fn x = true ∨ X.env.scope.names.lookup x = some .local := by first | exact .inl rfl | exact .inr rfl | assumption) : wpAny M A (storeName X.env x u) Q E s :=
  store_ok2 I hN hi hx r (fun s' I' _ => h s' I') hf
theorem Inv.call' {s' : Shared} {ch : List Addr} (I : Inv X pins σ H s) (ho : s'.os = s.os) (u : Un (frs X.stack) ch H H' s.heap s'.heap) (hok : HOk X.prog X.w H' s'.heap) (hg : AllBare s'.gens)
    (hch : ∀ b ∈ ch, (b ∈ X.ex ∨ X.s₀.heap.objs.size ≤ b) ∧ b ≠ X.env.locals ∧ (∀ x c, X.env.cells.lookup x = some c → c ≠ b) ∧ ∀ p ∈ X.pn ++ pins, p.1 ≠ b) : Inv X pins σ H' s' := by
  obtain ⟨h', g', d', t', o'⟩ := s'
  have e : o' = s.os := ho
  subst e
  exact I.call (g' := g') (t' := t') (d' := d') u hok hg hch
end
abbrev XK := Value → Option Addr → Hp → Prop
abbrev St := List (Option V)
abbrev VK := V → Hp → Prop
abbrev TE := St → Hp → VK → Prop
abbrev TT := St → Hp → (Bool → Hp → Prop) → Prop
abbrev TA := St → Hp → (List V → Hp → Prop) → Prop
structure Ends where
  nx : St → Hp → Prop
  rt : VK
  bk : St → Hp → Prop := fun _ _ => False
  ct : St → Hp → Prop := fun _ _ => False
abbrev TS := Ends → St → Hp → Prop
def EP (X : Cx) (pins : List (Addr × Obj)) (σ : St) (Q : VK) (u : Value) (s' : Shared) : Prop := ∃ v H', Inv X pins σ H' s' ∧ RelV v u ∧ Q v H'
def TP (X : Cx) (pins : List (Addr × Obj)) (σ : St) (Q : Bool → Hp → Prop) (b : Bool) (s' : Shared) : Prop := ∃ H', Inv X pins σ H' s' ∧ Q b H'
def AP (X : Cx) (pins : List (Addr × Obj)) (σ : St) (Q : List V → Hp → Prop) (us : List Value) (s' : Shared) : Prop := ∃ vs H', Inv X pins σ H' s' ∧ Vals vs us ∧ Q vs H'
def SP (X : Cx) (pins : List (Addr × Obj)) (D : Ends) (f : Flow) (s' : Shared) : Prop :=
  match f with
  | .next => ∃ σ' H', Inv X pins σ' H' s' ∧ D.nx σ' H'
  | .brk => ∃ σ' H', Inv X pins σ' H' s' ∧ D.bk σ' H'
  | .cont => ∃ σ' H', Inv X pins σ' H' s' ∧ D.ct σ' H'
  | .ret u => ∃ v σ' H', Inv X pins σ' H' s' ∧ RelV v u ∧ D.rt v H'
def PE (X : Cx) (e : Expr) (t : TE) : Prop :=
  ∀ (pins : List (Addr × Obj)) (s : Shared) (σ : St) (H : Hp) (Q : VK), Inv X pins σ H s → t σ H Q → wpAny (model X.prog X.w) X.A (eval e X.env) (EP X pins σ Q) X.xe s
def PT (X : Cx) (e : Expr) (t : TT) : Prop :=
  ∀ (pins : List (Addr × Obj)) (s : Shared) (σ : St) (H : Hp) (Q : Bool → Hp → Prop), Inv X pins σ H s → t σ H Q → wpAny (model X.prog X.w) X.A (isTrue e X.env (eval e X.env)) (TP X pins σ Q) X.xe s
def PW (X : Cx) (e : Expr) (t : TT) : Prop :=
  ∀ (whole : Sem Value) (pins : List (Addr × Obj)) (s : Shared) (σ : St) (H : Hp) (Q : Bool → Hp → Prop), Inv X pins σ H s → t σ H Q → wpAny (model X.prog X.w) X.A (isTrue e X.env whole) (TP X pins σ Q) X.xe s
theorem PW.pt {X : Cx} {e : Expr} {t : TT} (h : PW X e t) : PT X e t := h _
def PA (X : Cx) (es : List Expr) (t : TA) : Prop :=
  ∀ (pos : Pos) (pins : List (Addr × Obj)) (s : Shared) (σ : St) (H : Hp) (Q : List V → Hp → Prop), Inv X pins σ H s → t σ H Q → wpAny (model X.prog X.w) X.A (spliced (backTo pos (starEach es X.env))) (AP X pins σ Q) X.xe s
def PS (X : Cx) (st : Stmt) (t : TS) : Prop :=
  ∀ (pins : List (Addr × Obj)) (s : Shared) (σ : St) (H : Hp) (D : Ends), Inv X pins σ H s → t D σ H → wpAny (model X.prog X.w) X.A (exec st X.env) (SP X pins D) X.xe s
def PSs (X : Cx) (st : List Stmt) (t : TS) : Prop :=
  ∀ (pins : List (Addr × Obj)) (s : Shared) (σ : St) (H : Hp) (D : Ends), Inv X pins σ H s → t D σ H → wpAny (model X.prog X.w) X.A (execs st X.env) (SP X pins D) X.xe s
theorem thn {α : Type} {t : Sem α} {Q Q' : α → Shared → Prop} {M : Model} {A : Around} {E : Value → Shared → Prop} {s : Shared} (h : wpAny M A t Q E s) (hQ : ∀ a s, Q a s → Q' a s) : wpAny M A t Q' E s := wpAny_mono h hQ fun _ _ x => x
end L2
namespace L2
open PySem PySem.Spec PyProof.Rows
section
variable {X : Cx}
def tVar (i : Nat) : TE := fun σ H Q => ∃ v, σ[i]? = some (some v) ∧ Q v H
def tC (v : V) : TE := fun _ H Q => Q v H
theorem pe_var {i : Nat} {x : Str} {pos : Pos} (hN : X.N[i]? = some x) (hv : Vis X.env.scope x) (hd : (x == ("__debug__" : Str)) = false := by decide) (hcd : (x == ("__classdict__" : Str)) = false := by decide) : PE X (.Name x pos) (tVar i) := by
  intro pins s σ H Q I h
  obtain ⟨v, e, h⟩ := h
  obtain ⟨m, hn, hl⟩ := I.loc
  obtain ⟨u, r, l⟩ := hl i x v hN e hv
  have fin : EP X pins σ Q u s := ⟨v, H, I, r, h⟩
  rcases l with ⟨hk, hm⟩ | ⟨hk, c, hc, hcell⟩
  · exact wpAny_Name (wpAny_loadName_local I.ok.kind hk hn hm fin) hd
  · rcases hk with hk | hk
    · exact wpAny_Name (wpAny_loadName_cell I.ok.kind hk hc hcell fin) hd
    · exact wpAny_Name (wpAny_loadName_free I.ok.kind hk hc hcell fin hcd) hd
theorem pe_int {i j pos} : PE X (.Constant (.int i) j pos) (tC (.int i)) := fun _ _ _ H _ I h => wpAny_Constant_int ⟨.int i, H, I.tok _, ⟨_, rfl⟩, h⟩
theorem pe_bl {b j pos} : PE X (.Constant (.bool b) j pos) (tC (.bl b)) := fun _ _ _ H _ I h => Constant_bool ⟨.bl b, H, I, rfl, h⟩
theorem pe_non {j pos} : PE X (.Constant .none j pos) (tC .non) := fun _ _ _ H _ I h => Constant_none ⟨.non, H, I, rfl, h⟩
theorem pe_str {x j pos} : PE X (.Constant (.str x) j pos) (tC (.str x)) := fun _ _ _ H _ I h => Calls.Constant_str ⟨.str x, H, I.tok _, ⟨_, rfl⟩, h⟩
def Gl (X : Cx) (x : Str) : Prop := X.env.kindOf x = some .globalImplicit
theorem ld_glob {E : Value → Shared → Prop} {pins : List (Addr × Obj)} {s : Shared} {σ : St} {H : Hp} {x : Str} {u : Value} {pos : Pos} {Q : Value → Shared → Prop} (I : Inv X pins σ H s) (hg : Gl X x) (hm : X.mg x = some u) (h : Q u s)
    (hd : (x == ("__debug__" : Str)) = false := by decide) : wpAny (model X.prog X.w) X.A (eval (.Name x pos) X.env) Q E s :=
  Calls.Name_function_global I.ok.kind hg (Calls.loadGlobal_global (by rw [I.ok.glob]; exact I.mod.glob.keeps I.bk) hm h) hd
theorem ld_blt {E : Value → Shared → Prop} {pins : List (Addr × Obj)} {s : Shared} {σ : St} {H : Hp} {x : Str} {u : Value} {pos : Pos} {Q : Value → Shared → Prop} (I : Inv X pins σ H s) (hg : Gl X x) (hm : X.mg x = none) (hv : bootBuiltins x = some u) (h : Q u s)
    (hn : x ≠ "__name__" := by decide) (hd : (x == ("__debug__" : Str)) = false := by decide) : wpAny (model X.prog X.w) X.A (eval (.Name x pos) X.env) Q E s := by
  obtain ⟨mb, h1, h2⟩ := I.mod.blt
  exact Calls.Name_function_global I.ok.kind hg (Calls.loadGlobal_builtin (by rw [I.ok.glob]; exact I.mod.glob.keeps I.bk) hm (by rw [I.ok.blt]; exact h1.keeps I.bk) ((h2 x hn).trans hv) h) hd
theorem pe_glob {x : Str} {v : V} {u : Value} {pos : Pos} (hg : Gl X x) (hm : X.mg x = some u) (r : RelV v u) (hd : (x == ("__debug__" : Str)) = false := by decide) : PE X (.Name x pos) (tC v) :=
  fun _ _ _ H _ I h => ld_glob I hg hm ⟨v, H, I, r, h⟩ hd
theorem pe_bltn {x : Str} {v : V} {u : Value} {pos : Pos} (hg : Gl X x) (hm : X.mg x = none) (hv : bootBuiltins x = some u) (r : RelV v u) (hn : x ≠ "__name__" := by decide) (hd : (x == ("__debug__" : Str)) = false := by decide) : PE X (.Name x pos) (tC v) :=
  fun _ _ _ H _ I h => ld_blt I hg hm hv ⟨v, H, I, r, h⟩ hn hd
variable {a b : Expr} {ta tb : TE} {pos : Pos}
def PC (X : Cx) (op : CmpOp) (a b : Expr) (t : TE) : Prop :=
  ∀ (pins : List (Addr × Obj)) (s : Shared) (σ : St) (H : Hp) (Q : VK), Inv X pins σ H s → t σ H Q →
    wpAny (model X.prog X.w) X.A (eval a X.env) (fun v s₁ => wpAny (model X.prog X.w) X.A (eval b X.env) (fun u s₂ => wpAny (model X.prog X.w) X.A (compareOp op v u) (EP X pins σ Q) X.xe s₂) X.xe s₁) X.xe s
def tB (t : TE) : TT := fun σ H Q => t σ H fun x H1 => ∃ c, x = .bl c ∧ Q c H1
theorem pe_cmp {op : CmpOp} {t : TE} (h : PC X op a b t) (h1 : behindInMarks op b = false := by first | exact nobehind _ (by decide) (by decide) | rfl) : PE X (.Compare a [op] [b] pos) t := fun pins s σ H Q I hw => wpAny_Compare1 (h pins s σ H Q I hw) h1
theorem pt_cmp {op : CmpOp} {t : TE} (h : PC X op a b t) (h1 : behindInMarks op b = false := by first | exact nobehind _ (by decide) (by decide) | rfl) : PT X (.Compare a [op] [b] pos) (tB t) := by
  intro pins s σ H Q I hw
  refine wpAny_isTrue_Compare1 (thn (h pins s σ H _ I hw) fun v s1 h1 => thn h1 fun u s2 h2 => thn h2 fun c s3 ⟨x, H1, I1, r1, q1⟩ => ?_) h1
  obtain ⟨d, rfl, q⟩ := q1
  cases r1
  exact wpAny_truthy_bool ⟨H1, I1, q⟩
theorem pt_val {e : Expr} {t : TE} (h : PE X e t) (he : ∀ whole, isTrue e X.env whole = (do let v ← whole; standAt e.pos; holding [v] (truthy v)) := by intro _; rfl) : PT X e (tB t) := by
  intro pins s σ H Q I hw
  refine isTrue_plain (thn (h pins s σ H _ I hw) fun v s1 ⟨x, H1, I1, r1, q1⟩ => ?_) (he _)
  obtain ⟨d, rfl, q⟩ := q1
  cases r1
  exact wpAny_truthy_bool ⟨H1, I1, q⟩
variable {tA tB' : TT} {rest : List Expr}
def tAnd (t u : TT) : TT := fun σ H Q => t σ H fun c H1 => if c = true then u σ H1 Q else Q false H1
def tOr (t u : TT) : TT := fun σ H Q => t σ H fun c H1 => if c = true then Q true H1 else u σ H1 Q
def tNot (t : TT) : TT := fun σ H Q => t σ H fun c H1 => Q (!c) H1
theorem pw_and1 (ha : PT X a tA) : PW X (.BoolOp .And [a] pos) tA := by
  intro wh pins s σ H Q I h
  refine isTrue_and (thn (ha pins s σ H Q I h) fun c s1 e => ?_)
  cases c with
  | true => exact isTrue_and_nil e
  | false => exact e
theorem pw_or1 (ha : PT X a tA) : PW X (.BoolOp .Or [a] pos) tA := by
  intro wh pins s σ H Q I h
  refine isTrue_or (thn (ha pins s σ H Q I h) fun c s1 e => ?_)
  cases c with
  | false => exact isTrue_or_nil e
  | true => exact e
theorem pw_and (ha : PT X a tA) (hb : PW X (.BoolOp .And (b :: rest) pos) tB') : PW X (.BoolOp .And (a :: b :: rest) pos) (tAnd tA tB') := by
  intro wh pins s σ H Q I h
  refine isTrue_and (thn (ha pins s σ H _ I h) fun c s1 ⟨H1, I1, q1⟩ => ?_)
  cases c with
  | true => exact hb wh pins s1 σ H1 Q I1 q1
  | false => exact ⟨H1, I1, q1⟩
theorem pw_or (ha : PT X a tA) (hb : PW X (.BoolOp .Or (b :: rest) pos) tB') : PW X (.BoolOp .Or (a :: b :: rest) pos) (tOr tA tB') := by
  intro wh pins s σ H Q I h
  refine isTrue_or (thn (ha pins s σ H _ I h) fun c s1 ⟨H1, I1, q1⟩ => ?_)
  cases c with
  | true => exact ⟨H1, I1, q1⟩
  | false => exact hb wh pins s1 σ H1 Q I1 q1
theorem pt_not (ha : PT X a tA) : PT X (.UnaryOp .Not a pos) (tNot tA) := by
  intro pins s σ H Q I h
  exact isTrue_not (ha pins s σ H (fun c H1 => Q (!c) H1) I h)
def tAndV (ta tb : TE) : TE := fun σ H Q => ta σ H fun x H1 => ∃ c, x = .bl c ∧ if c = true then tb σ H1 Q else Q (.bl false) H1
def tOrV (ta tb : TE) : TE := fun σ H Q => ta σ H fun x H1 => ∃ c, x = .bl c ∧ if c = true then Q (.bl true) H1 else tb σ H1 Q
def tNotV (ta : TE) : TE := fun σ H Q => ta σ H fun x H1 => ∃ c, x = .bl c ∧ Q (.bl (!c)) H1
theorem pe_one {op} {t : TE} (h : PE X a t) : PE X (.BoolOp op [a] pos) t := fun pins s σ H Q I hw => BoolOp_one (h pins s σ H Q I hw)
theorem pe_and (ha : PE X a ta) (hb : PE X (.BoolOp .And (b :: rest) pos) tb) : PE X (.BoolOp .And (a :: b :: rest) pos) (tAndV ta tb) := by
  intro pins s σ H Q I h
  refine BoolOp_and (thn (ha pins s σ H _ I h) fun v s1 ⟨x, H1, I1, r1, q1⟩ => ?_)
  obtain ⟨c, rfl, q1⟩ := q1
  cases r1
  refine wpAny_truthy_bool ?_
  cases c with
  | true => exact hb pins s1 σ H1 Q I1 q1
  | false => exact ⟨.bl false, H1, I1, rfl, q1⟩
theorem pe_or (ha : PE X a ta) (hb : PE X (.BoolOp .Or (b :: rest) pos) tb) : PE X (.BoolOp .Or (a :: b :: rest) pos) (tOrV ta tb) := by
  intro pins s σ H Q I h
  refine BoolOp_or (thn (ha pins s σ H _ I h) fun v s1 ⟨x, H1, I1, r1, q1⟩ => ?_)
  obtain ⟨c, rfl, q1⟩ := q1
  cases r1
  refine wpAny_truthy_bool ?_
  cases c with
  | false => exact hb pins s1 σ H1 Q I1 q1
  | true => exact ⟨.bl true, H1, I1, rfl, q1⟩
theorem pe_not (ha : PE X a ta) : PE X (.UnaryOp .Not a pos) (tNotV ta) := by
  intro pins s σ H Q I h
  refine UnaryOp_ (thn (ha pins s σ H _ I h) fun v s1 ⟨x, H1, I1, r1, q1⟩ => ?_)
  obtain ⟨c, rfl, q1⟩ := q1
  cases r1
  exact not_of (wpAny_truthy_bool ⟨.bl (!c), H1, I1, rfl, q1⟩)
end
end L2
namespace L2
open PySem PySem.Spec PyProof.Rows
def SqL (K : PySem.W.Frag) (H : Hp) (a : Addr) (xs : List V) : Prop :=
  Rd H a (.lst xs) ∨
    ∃ (o : Obj) (its : Array Value) (n : Nat), K.lookup a = some o ∧ o.cls = .type "list" ∧ o.dict = none ∧ o.data = .seq its n ∧ its.size ≤ sizeLine ∧ Vals xs its.toList
def SqT (K : PySem.W.Frag) (H : Hp) (a : Addr) (xs : List V) : Prop :=
  Rd H a (.tup xs) ∨
    ∃ (o : Obj) (its : Array Value) (n : Nat), K.lookup a = some o ∧ o.cls = .type "tuple" ∧ o.data = .seq its n ∧ its.size ≤ sizeLine ∧ Vals xs its.toList
def absV : Value → Option V
  | .none => some .non
  | .bool b => some (.bl b)
  | .int i _ => some (.int i)
  | .str x _ => some (.str x)
  | .bytes b _ => some (.byt b)
  | .float b _ => some (.flt b)
  | .ref a => some (.ref a)
  | .type n => some (.ty n)
  | _ => none
theorem RelV.abs {x : V} {u : Value} (r : RelV x u) : absV u = some x := by
  cases x with
  | non => cases r; rfl
  | bl _ => cases r; rfl
  | int _ => obtain ⟨t, rfl⟩ := r; rfl
  | str _ => obtain ⟨t, rfl⟩ := r; rfl
  | byt _ => obtain ⟨t, rfl⟩ := r; rfl
  | flt _ => obtain ⟨t, rfl⟩ := r; rfl
  | ref _ => cases r; rfl
  | ty _ => cases r; rfl
theorem RelV.inj {x y : V} {u : Value} (r : RelV x u) (q : RelV y u) : x = y := Option.some.inj (r.abs.symm.trans q.abs)
theorem Vals.inj : ∀ {xs ys : List V} {us : List Value}, Vals xs us → Vals ys us → xs = ys
  | _, _, _, .nil, .nil => rfl
  | _, _, _, .cons r t, .cons r' t' => by rw [r.inj r', Vals.inj t t']
section
variable {X : Cx} {pins : List (Addr × Obj)} {σ : St} {H : Hp} {s : Shared} {a : Addr} {xs ys : List V}
theorem SqL.of {K : PySem.W.Frag} (h : H a = some (.lst xs)) : SqL K H a xs := .inl (.inl h)
theorem SqT.of {K : PySem.W.Frag} (h : H a = some (.tup xs)) : SqT K H a xs := .inl (.inl h)
theorem Inv.list (I : Inv X pins σ H s) (h : SqL X.K H a xs) : ∃ its : List Value, Vals xs its ∧ PlainL s.heap a its.toArray ∧ xs.length ≤ sizeLine := by
  rcases h with h | ⟨o, its, n, hk, hc, hd, hs, hz, r⟩
  · obtain ⟨z, its, n, r, e⟩ := h.ok I.hok
    exact ⟨its, r, ⟨_, n, e, rfl, rfl, rfl⟩, z⟩
  · refine ⟨its.toList, r, ⟨o, n, I.kIn a o hk, hc, hd, by simpa using hs⟩, ?_⟩
    have e := r.length
    simp only [Array.length_toList] at e
    omega
theorem Inv.tuple (I : Inv X pins σ H s) (h : SqT X.K H a xs) : ∃ its : List Value, Vals xs its ∧ IsTup s.heap a its.toArray ∧ xs.length ≤ sizeLine := by
  rcases h with h | ⟨o, its, n, hk, hc, hs, hz, r⟩
  · obtain ⟨z, its, r, p⟩ := h.ok I.hok
    exact ⟨its, r, p, z.1⟩
  · refine ⟨its.toList, r, ⟨o, I.kIn a o hk, hc, n, by simpa using hs⟩, ?_⟩
    have e := r.length
    simp only [Array.length_toList] at e
    omega
theorem Inv.list_inj (I : Inv X pins σ H s) (h : SqL X.K H a xs) (h' : SqL X.K H a ys) : xs = ys := by
  obtain ⟨its, r, ⟨o, n, e, _, _, d⟩, _⟩ := I.list h
  obtain ⟨its', r', ⟨o', n', e', _, _, d'⟩, _⟩ := I.list h'
  rw [e] at e'; cases e'
  rw [d] at d'
  injection d' with d1 _
  have : its = its' := by simpa using congrArg Array.toList d1
  subst this
  exact r.inj r'
theorem Inv.tuple_inj (I : Inv X pins σ H s) (h : SqT X.K H a xs) (h' : SqT X.K H a ys) : xs = ys := by
  obtain ⟨its, r, ⟨o, e, _, n, d⟩, _⟩ := I.tuple h
  obtain ⟨its', r', ⟨o', e', _, n', d'⟩, _⟩ := I.tuple h'
  rw [e] at e'; cases e'
  rw [d] at d'
  injection d' with d1 _
  have : its = its' := by simpa using congrArg Array.toList d1
  subst this
  exact r.inj r'
end
abbrev Cx.wish (X : Cx) (E : Value → Shared → Prop) : Cx := { X with xe := E }
abbrev Cx.nox (X : Cx) : Cx := X.wish fun _ _ => False
theorem Cx.Ok.wish {X : Cx} (ok : X.Ok) (E : Value → Shared → Prop) : (X.wish E).Ok :=
  ⟨ok.mod, ok.kind, ok.glob, ok.blt, ok.above, ok.inj, ok.has, ok.cab, ok.hd, ok.frames, ok.stk, ok.exf, ok.bs, ok.bsz, ok.noex, ok.exfs, ok.funs, ok.frf⟩
theorem Cx.Ok.unwish {X : Cx} {E : Value → Shared → Prop} (ok : (X.wish E).Ok) : X.Ok :=
  ⟨ok.mod, ok.kind, ok.glob, ok.blt, ok.above, ok.inj, ok.has, ok.cab, ok.hd, ok.frames, ok.stk, ok.exf, ok.bs, ok.bsz, ok.noex, ok.exfs, ok.funs, ok.frf⟩
section
variable {X : Cx} {pins : List (Addr × Obj)} {σ : St} {H : Hp} {s : Shared} {E : Value → Shared → Prop}
theorem Inv.wish (I : Inv X pins σ H s) (E : Value → Shared → Prop) : Inv (X.wish E) pins σ H s := ⟨I.ok.wish E, I.os, I.bare, I.base, I.loc, I.cell, I.free, I.freeC, I.pin, I.hok, I.len⟩
theorem Inv.unwish (I : Inv (X.wish E) pins σ H s) : Inv X pins σ H s := ⟨I.ok.unwish, I.os, I.bare, I.base, I.loc, I.cell, I.free, I.freeC, I.pin, I.hok, I.len⟩
theorem SP.unwish {D : Ends} {f : Flow} {s' : Shared} (h : SP (X.wish E) pins D f s') : SP X pins D f s' := by
  cases f with
  | next => obtain ⟨σ', H', I, q⟩ := h; exact ⟨σ', H', I.unwish, q⟩
  | brk => obtain ⟨σ', H', I, q⟩ := h; exact ⟨σ', H', I.unwish, q⟩
  | cont => obtain ⟨σ', H', I, q⟩ := h; exact ⟨σ', H', I.unwish, q⟩
  | ret u => obtain ⟨v, σ', H', I, r, q⟩ := h; exact ⟨v, σ', H', I.unwish, r, q⟩
theorem PSs.nox {st : List Stmt} {t : TS} (h : PSs X.nox st t) : PSs X st t := fun pins s σ H D I hw =>
  wpAny_mono (h pins s σ H D (I.wish _) hw) (fun _ _ q => q.unwish) fun _ _ z => False.elim z
end
section
variable {X : Cx} {st : Stmt} {rest : List Stmt} {t u : TS} {e : Expr} {te : TE} {pos : Pos}
def tNext : TS := fun D σ H => D.nx σ H
def tSeq (t u : TS) : TS := fun D σ H => t { D with nx := u D } σ H
theorem pss_nil : PSs X [] tNext := fun _ _ σ H _ I h => wpAny_execs_nil ⟨σ, H, I, h⟩
theorem pss_cons (h1 : PS X st t) (h2 : PSs X rest u) : PSs X (st :: rest) (tSeq t u) := by
  intro pins s σ H D I h
  refine wpAny_execs_cons (thn (h1 pins s σ H { D with nx := u D } I h) fun f s1 q => ?_)
  cases f with
  | next =>
    obtain ⟨σ', H', I', q⟩ := q
    exact h2 pins s1 σ' H' D I' q
  | ret v => exact q
  | brk => exact q
  | cont => exact q
theorem pss_one (h1 : PS X st t) : PSs X [st] t := by
  intro pins s σ H D I h
  refine wpAny_execs_cons (thn (h1 pins s σ H D I h) fun f s1 q => ?_)
  cases f with
  | next => exact wpAny_execs_nil q
  | ret v => exact q
  | brk => exact q
  | cont => exact q
theorem Inv.quiet {pins : List (Addr × Obj)} {σ : St} {H : Hp} {s : Shared} (I : Inv X pins σ H s) : interactive X.env = false := by simp [interactive, I.ok.kind]
def tDrop (te : TE) : TS := fun D σ H => te σ H fun _ H1 => D.nx σ H1
theorem ps_expr (he : PE X e te) (hs : swapsWith e none pos.line X.env = pure false := by rfl) : PS X (.Expr e pos) (tDrop te) := by
  intro pins s σ H D I h
  exact wpAny_Expr_any (thn (he pins s σ H _ I h) fun v s1 ⟨x, H1, I1, r1, q1⟩ => ⟨σ, H1, I1, q1⟩) I.quiet hs
def tRet (te : TE) : TS := fun D σ H => te σ H D.rt
theorem ps_ret (he : PE X e te) : PS X (.Return (some e) pos) (tRet te) := by
  intro pins s σ H D I h
  exact wpAny_Return_some (thn (he pins s σ H _ I h) fun v s1 ⟨x, H1, I1, r1, q1⟩ => ⟨x, σ, H1, I1, r1, q1⟩)
def tIfS (c : TT) (t u : TS) : TS := fun D σ H => c σ H fun b H1 => if b = true then t D σ H1 else u D σ H1
theorem ps_if {c : Expr} {a b : List Stmt} {tc : TT} (hc : PT X c tc) (ha : PSs X a t) (hb : PSs X b u) : PS X (.If c a b pos) (tIfS tc t u) := by
  intro pins s σ H D I h
  refine wpAny_If (thn (hc pins s σ H _ I h) fun d s1 ⟨H1, I1, q1⟩ => ?_)
  cases d with
  | true => exact ha pins s1 σ H1 D I1 q1
  | false => exact hb pins s1 σ H1 D I1 q1
end
abbrev TG := V → St → Hp → (St → Hp → Prop) → Prop
abbrev TGs := List V → St → Hp → (St → Hp → Prop) → Prop
def PG (X : Cx) (target : Expr) (t : TG) : Prop :=
  ∀ (pins : List (Addr × Obj)) (s : Shared) (σ : St) (H : Hp) (v : V) (u : Value) (Q : St → Hp → Prop), Inv X pins σ H s → RelV v u → t v σ H Q →
    wpAny (model X.prog X.w) X.A (assign target X.env u) (fun _ s' => ∃ σ' H', Inv X pins σ' H' s' ∧ Q σ' H') X.xe s
def PGs (X : Cx) (ts : List Expr) (t : TGs) : Prop :=
  ∀ (pins : List (Addr × Obj)) (s : Shared) (σ : St) (H : Hp) (vs : List V) (us : List Value) (Q : St → Hp → Prop), Inv X pins σ H s → Vals vs us → t vs σ H Q →
    wpAny (model X.prog X.w) X.A (assignInOrder ((assignEach ts X.env).map (·.2)) us) (fun _ s' => ∃ σ' H', Inv X pins σ' H' s' ∧ Q σ' H') X.xe s
abbrev TSet := V → V → V → Hp → (Hp → Prop) → Prop
def PSet (X : Cx) (t : TSet) : Prop :=
  ∀ (pins : List (Addr × Obj)) (s : Shared) (σ : St) (H : Hp) (o i v : V) (ov iv u : Value) (Q : Hp → Prop), Inv X pins σ H s → RelV o ov → RelV i iv → RelV v u → t o i v H Q →
    wpAny (model X.prog X.w) X.A (setItem ov iv u) (fun _ s' => ∃ H', Inv X pins σ H' s' ∧ Q H') X.xe s
section
variable {X : Cx} {pos : Pos}
def gName (i : Nat) : TG := fun v σ H Q => Q (σ.set i (some v)) H
theorem pg_name {i : Nat} {x : Str} (hN : X.N.Nodup) (hi : X.N[i]? = some x) (hx : Loc X.env.scope x) (hf : X.fn x = true ∨ X.env.scope.names.lookup x = some .local := by first | exact .inl rfl | exact .inr rfl | assumption) : PG X (.Name x pos) (gName i) := by
  intro pins s σ H v u Q I r h
  exact wpAny_assign_Name (store_ok I hN hi hx r (fun s' I' => ⟨_, H, I', h⟩) hf)
def gNil : TGs := fun vs σ H Q => vs = [] ∧ Q σ H
def gCons (t : TG) (u : TGs) : TGs := fun vs σ H Q => ∃ v r, vs = v :: r ∧ t v σ H fun σ' H' => u r σ' H' Q
theorem pgs_nil : PGs X [] gNil := by
  intro pins s σ H vs us Q I r h
  obtain ⟨e, h⟩ := h
  subst e
  cases r
  exact assignInOrder_nil ⟨σ, H, I, h⟩
theorem pgs_cons {e : Expr} {es : List Expr} {t : TG} {u : TGs} (h1 : PG X e t) (h2 : PGs X es u)
    (hs : (assignEach (e :: es) X.env).map (·.2) = assign e X.env :: (assignEach es X.env).map (·.2) := by rfl) : PGs X (e :: es) (gCons t u) := by
  intro pins s σ H vs us Q I r h
  obtain ⟨v, vr, e1, h⟩ := h
  subst e1
  cases r with
  | cons r rr =>
    rw [hs]
    refine assignInOrder_cons (thn (h1 pins s σ H _ _ _ I r h) fun _ s1 ⟨σ1, H1, I1, q1⟩ => ?_)
    exact h2 pins s1 σ1 H1 _ _ Q I1 rr q1
def gTup (K : PySem.W.Frag) (n : Nat) (t : TGs) : TG := fun v σ H Q => ∃ a xs, v = .ref a ∧ SqT K H a xs ∧ xs.length = n ∧ t xs σ H Q
theorem pg_tup {es : List Expr} {k : Nat} {t : TGs} {n : Nat} (hc : X.calm = true) (h : PGs X es t)
    (hn : (assignEach es X.env).length = n := by rfl) (hst : (assignEach es X.env).findIdx? (·.1) = none := by rfl) : PG X (.Tuple es k pos) (gTup X.K n t) := by
  intro pins s σ H v u Q I r hw
  obtain ⟨a, xs, e1, hq, hl, hw⟩ := hw
  subst e1
  cases r
  obtain ⟨its, rv, ht, hz⟩ := I.tuple hq
  refine assign_Tuple_tuple (I.ok.hd hc) ht (by simp [hn, ← hl, rv.length]) hst fun h' hx => ?_
  have I1 : Inv X pins σ H { s with heap := h' } := I.kept (t' := s.toks) fun b o e => hx b o (Nat.ne_of_lt (Heap.lt_size e)) e
  exact h pins _ σ H xs _ Q I1 (by simpa using rv) hw
def gSub (to ti : TE) (t : TSet) : TG := fun v σ H Q => to σ H fun o H1 => ti σ H1 fun i H2 => t o i v H2 fun H3 => Q σ H3
theorem pg_sub {o i : Expr} {to ti : TE} {t : TSet} (ho : PE X o to) (hi : PE X i ti) (hs : PSet X t)
    (ha : ∀ v, assign (.Subscript o i pos) X.env v = (do
      let ov ← holding [v] (eval o X.env)
      let iv ← holding [v, ov] (eval i X.env)
      standAt pos
      holding [v, ov, iv] (setItem ov iv v)
      release [v, ov, iv] []) := by intro _; rfl) : PG X (.Subscript o i pos) (gSub to ti t) := by
  intro pins s σ H v u Q I r h
  rw [ha]
  refine wpAny_bind (wpAny_holding (thn (ho pins s σ H _ I h) fun ov s1 ⟨x, H1, I1, r1, q1⟩ => ?_))
  refine wpAny_bind (wpAny_holding (thn (hi pins s1 σ H1 _ I1 q1) fun iv s2 ⟨y, H2, I2, r2, q2⟩ => ?_))
  refine wpAny_bind (wpAny_standAt (wpAny_bind (wpAny_holding (thn (hs pins s2 σ H2 x y v ov iv u _ I2 r1 r2 r q2) fun _ s3 ⟨H3, I3, q3⟩ => ?_))))
  exact wpAny_release ⟨σ, H3, I3, q3⟩
def tAsg (te : TE) (g : TG) : TS := fun D σ H => te σ H fun x H1 => g x σ H1 D.nx
theorem ps_asg {tg e : Expr} {te : TE} {g : TG} (he : PE X e te) (hg : PG X tg g) (hs : swapsWithSole [tg] e pos.line X.env = pure false := by rfl) (hw : swappedStores [tg] e X.env = pure none := by rfl)
    (h1 : (assignEach [tg] X.env).map (·.2) = [assign tg X.env] := by rfl) : PS X (.Assign [tg] e pos) (tAsg te g) := by
  intro pins s σ H D I h
  refine wpAny_Assign_stores (thn (he pins s σ H _ I h) fun v s1 ⟨x, H1, I1, r1, q1⟩ => ?_) hs hw
  rw [h1]
  exact thn (hg pins s1 σ H1 x v _ I1 r1 q1) fun _ s2 q => q
theorem ps_set {i : Nat} {x : Str} {e : Expr} {te : TE} {pos' : Pos} (hN : X.N.Nodup) (hi : X.N[i]? = some x) (hx : Loc X.env.scope x) (he : PE X e te) (hs : swapsWith e (some (.Name x pos')) pos.line X.env = pure false := by rfl) (hf : X.fn x = true ∨ X.env.scope.names.lookup x = some .local := by first | exact .inl rfl | exact .inr rfl | assumption) :
    PS X (.Assign [.Name x pos'] e pos) (tAsg te (gName i)) := by
  intro pins s σ H D I h
  refine wpAny_Assign_Name (thn (he pins s σ H _ I h) fun v s1 ⟨y, H1, I1, r1, q1⟩ => ?_) hs
  exact store_ok I1 hN hi hx r1 (fun s2 I2 => ⟨_, H1, I2, q1⟩) hf
end
section
variable {X : Cx} {pos : Pos}
def tWhile (c : TT) (tb : TS) : TS := fun D σ H => ∃ W : Nat → St → Hp → Prop, (∃ m, W m σ H) ∧ ∀ m σ H, W m σ H →
  c σ H fun b H1 => if b = true then ∃ N : St → Hp → Prop, (∀ σ' H', N σ' H' → ∃ m', m' < m ∧ W m' σ' H') ∧ tb { D with nx := N, ct := N, bk := D.nx } σ H1 else D.nx σ H1
theorem ps_while {c : Expr} {body : List Stmt} {tc : TT} {tb : TS} (hp : PassesOwn (model X.prog X.w) X.A X.env X.xe) (hc : PT X c tc) (hb : PSs X body tb) : PS X (.While c body [] pos) (tWhile tc tb) := by
  intro pins s σ H D I h
  obtain ⟨W, ⟨m0, w0⟩, turn⟩ := h
  refine wpAny_While (codeAny_whileLoop (fun n s' => ∃ σ' H', Inv X pins σ' H' s' ∧ W n σ' H') ?_ m0 ⟨σ, H, I, w0⟩)
  rintro n s1 ⟨σ1, H1, I1, w1⟩
  refine wpAny_passesOwn hp (thn (hc pins s1 σ1 H1 _ I1 (turn n σ1 H1 w1)) fun b s2 ⟨H2, I2, q2⟩ => ?_)
  cases b with
  | true =>
    obtain ⟨N, hN, q2⟩ := q2
    rw [if_pos rfl]
    refine wpAny_passesOwn hp (thn (hb pins s2 σ1 H2 _ I2 q2) fun f s3 q3 => ?_)
    cases f with
    | next =>
      obtain ⟨σ3, H3, I3, n3⟩ := q3
      obtain ⟨m', hm, w3⟩ := hN σ3 H3 n3
      exact ⟨m', hm, σ3, H3, I3, w3⟩
    | cont =>
      obtain ⟨σ3, H3, I3, n3⟩ := q3
      obtain ⟨m', hm, w3⟩ := hN σ3 H3 n3
      exact ⟨m', hm, σ3, H3, I3, w3⟩
    | brk => exact q3
    | ret v => exact q3
  | false =>
    rw [if_neg Bool.false_ne_true]
    exact wpAny_execs_nil ⟨σ1, H2, I2, q2⟩
end
structure It where
  go : Nat → Hp → Prop
  yld : Nat → Hp → V → Hp → Prop
  stop : Nat → Hp → Prop
def FpOk (X : Cx) (pins : List (Addr × Obj)) (H : Hp) (b : Addr) : Prop :=
  H b = none ∧ b ≠ X.env.locals ∧ b ∉ X.fs ∧ (b ∈ X.ex ∨ X.s₀.heap.objs.size ≤ b) ∧ (∀ x c, X.env.cells.lookup x = some c → c ≠ b) ∧ ∀ p ∈ X.pn ++ pins, p.1 ≠ b
theorem Inv.fpOk {X : Cx} {pins : List (Addr × Obj)} {σ : St} {H H' : Hp} {s : Shared} {b : Addr} (I : Inv X pins σ H s) (hb : s.heap.objs.size ≤ b) (hn : H' b = none) : FpOk X pins H' b := by
  refine ⟨hn, Nat.ne_of_gt (Nat.lt_of_lt_of_le I.lt hb), I.nofs hb, .inr (Nat.le_trans I.sz hb), fun x c e z => ?_, fun p hp z => ?_⟩
  · obtain ⟨v, q⟩ := I.cell x c e
    exact absurd (Nat.lt_of_lt_of_le q.lt (by rw [z]; exact hb)) (Nat.lt_irrefl _)
  · exact absurd (Nat.lt_of_lt_of_le (Heap.lt_size (I.pin p hp).1) (by rw [z]; exact hb)) (Nat.lt_irrefl _)
structure Turn (P : Program) (w : World) (K : PySem.W.Frag) (tg : Expr) (J : It) (fp : List Addr) (it : Addr) (tn : Nat → Heap → Prop) : Prop where
  mem : it ∈ fp
  obj : ∀ i h, tn i h → ∀ b ∈ fp, ∃ o, h.get? b = some o ∧ ∀ v, o.data ≠ .cell v
  keep : ∀ i h h', tn i h → (∀ b ∈ fp, ∀ o, h.get? b = some o → h'.get? b = some o) → tn i h'
  item : ∀ (X : Cx), X.prog = P → X.w = w → X.K = K → X.calm = true → ∀ (i : Nat) (pins : List (Addr × Obj)) (s : Shared) (σ : St) (H : Hp) (E : Value → Shared → Prop), Inv X pins σ H s → (∀ b ∈ fp, FpOk X pins H b) → tn i s.heap → J.go i H →
    wpAny (model P w) X.A (pyNext (.ref it)) (fun r s1 => ∃ u, r = some u ∧
      wpAny (model P w) X.A (letOwnedTupleGo tg (.ref it) u) (fun _ s2 => ∃ x H', Inv X pins σ H' s2 ∧ RelV x u ∧ J.yld i H x H' ∧ tn (i + 1) s2.heap ∧ ∀ b ∈ fp, H' b = none) E s1) E s
  done : ∀ (X : Cx), X.prog = P → X.w = w → X.K = K → X.calm = true → ∀ (i : Nat) (pins : List (Addr × Obj)) (s : Shared) (σ : St) (H : Hp) (E : Value → Shared → Prop), Inv X pins σ H s → (∀ b ∈ fp, FpOk X pins H b) → tn i s.heap → J.stop i H →
    wpAny (model P w) X.A (pyNext (.ref it)) (fun r s1 => r = none ∧ Inv X pins σ H s1) E s
  self : ∀ (A : Around) (i : Nat) (s : Shared) (Q : Value → Shared → Prop) (E : Value → Shared → Prop), tn i s.heap → Q (.ref it) s → wpAny (model P w) A (pyIter (.ref it)) Q E s
abbrev TI := St → Hp → (It → Hp → Prop) → Prop
def PIE (X : Cx) (pins : List (Addr × Obj)) (σ : St) (tg : Expr) (R : It → Hp → Prop) (itv : Value) (s2 : Shared) : Prop :=
  ∃ (it : Addr) (fp : List Addr) (tn : Nat → Heap → Prop) (J : It) (H' : Hp), itv = .ref it ∧ Inv X pins σ H' s2 ∧ Turn X.prog X.w X.K tg J fp it tn ∧ tn 0 s2.heap ∧ (∀ b ∈ fp, FpOk X pins H' b) ∧ R J H'
def PI (X : Cx) (tg iter : Expr) (wi : TI) : Prop :=
  ∀ (pins : List (Addr × Obj)) (s : Shared) (σ : St) (H : Hp) (R : It → Hp → Prop), Inv X pins σ H s → wi σ H R →
    wpAny (model X.prog X.w) X.A (eval iter X.env) (fun v s1 => wpAny (model X.prog X.w) X.A (pyIter v) (PIE X pins σ tg R) X.xe s1) X.xe s
theorem go_of {M : Model} {A : Around} {E : Value → Shared → Prop} {s : Shared} {tg : Expr} {it : Addr} {u : Value} {o : Obj} {n : String} {vs : Array Value} {Q : Unit → Shared → Prop} (ho : s.heap.get? it = some o) (hc : o.cls = .type n) (hd : o.data = .fields vs)
    (hn : ["enumerate", "zip", "dict_itemiterator", "dict_reverseitemiterator", "odict_iterator", "itertools.zip_longest", "itertools.pairwise"].contains n = false) (hQ : Q () s) : wpAny M A (letOwnedTupleGo tg (.ref it) u) Q E s := by
  unfold letOwnedTupleGo
  cases tg <;> first
    | exact wpAny_pure hQ
    | (cases u <;> first
        | exact wpAny_pure hQ
        | (refine wpAny_bind (wpAny_load ho ?_)
           rw [hc, hd]
           show wpAny M A (if (["enumerate", "zip", "dict_itemiterator", "dict_reverseitemiterator", "odict_iterator", "itertools.zip_longest", "itertools.pairwise"].contains n && vs[0]? == some (rawInt _)) = true then _ else _) Q E s
           rw [if_neg (by intro h; rw [hn, Bool.false_and] at h; cases h)]
           exact wpAny_pure hQ))
def Itl (K : PySem.W.Frag) (a : Addr) : It :=
  ⟨fun i H => ∃ xs x, SqL K H a xs ∧ xs[i]? = some x, fun i H x H' => H' = H ∧ ∀ xs, SqL K H a xs → xs[i]? = some x, fun i H => ∃ xs, SqL K H a xs ∧ xs.length ≤ i⟩
def Itt (K : PySem.W.Frag) (a : Addr) : It :=
  ⟨fun i H => ∃ xs x, SqT K H a xs ∧ xs[i]? = some x, fun i H x H' => H' = H ∧ ∀ xs, SqT K H a xs → xs[i]? = some x, fun i H => ∃ xs, SqT K H a xs ∧ xs.length ≤ i⟩
def Itr (lo : Int) (n : Nat) : It := ⟨fun i _ => i < n, fun i H x H' => H' = H ∧ x = .int (lo + i), fun i _ => n ≤ i⟩
theorem turn_list {P : Program} {w : World} {K : PySem.W.Frag} {tg : Expr} (a it : Addr) : Turn P w K tg (Itl K a) [it] it (fun i h => h.IsListIter it a i) where
  mem := by simp
  obj := fun i h st b hb => by
    have e : b = it := by simpa using hb
    subst e
    obtain ⟨o, e, c, d⟩ := st
    exact ⟨o, e, fun v z => by rw [d] at z; cases z⟩
  keep := fun i h h' st k => st.at fun o e => k it (by simp) o e
  item := by
    intro X hP hw hK hc i pins s σ H E I hf st hg
    subst hP hw hK
    obtain ⟨xs, x, hq, hx⟩ := hg
    obtain ⟨its, rv, p, hz⟩ := I.list hq
    obtain ⟨u, hu, ru⟩ := rv.get hx
    obtain ⟨f0, f1, f2, f3, f4, f5⟩ := hf it (by simp)
    refine wpAny_pyNext_list_item st p.isList (x := u) (by simpa using hu) fun h' st' sb => ?_
    have I1 : Inv X pins σ H { s with heap := h' } := I.turned (t' := s.toks) (fun b o hb e => (sb.2 b hb).trans e) f0 f1 f3 f4 f5
    obtain ⟨o, e, c, d⟩ := id st'
    exact ⟨u, rfl, go_of (s := { s with heap := h' }) e c d (by decide) ⟨x, H, I1, ru, ⟨rfl, fun ys hy => by rw [I.list_inj hy hq]; exact hx⟩, st', fun b hb => (hf b hb).1⟩⟩
  done := by
    intro X hP hw hK hc i pins s σ H E I hf st hg
    subst hP hw hK
    obtain ⟨xs, hq, hx⟩ := hg
    obtain ⟨its, rv, p, hz⟩ := I.list hq
    obtain ⟨f0, f1, f2, f3, f4, f5⟩ := hf it (by simp)
    have hl := rv.length
    exact wpAny_pyNext_list_end (I.ok.hd hc) st p.isList (by simp; omega) fun h' eb => ⟨rfl, I.turned (t' := s.toks) (fun b o hb e => eb b o hb e) f0 f1 f3 f4 f5⟩
  self := fun _ _ _ _ _ st h => wpAny_pyIter_listiter st h
theorem turn_tuple {P : Program} {w : World} {K : PySem.W.Frag} {tg : Expr} (a it : Addr) : Turn P w K tg (Itt K a) [it] it (fun i h => h.IsTupleIter it a i) where
  mem := by simp
  obj := fun i h st b hb => by
    have e : b = it := by simpa using hb
    subst e
    obtain ⟨o, e, c, d⟩ := st
    exact ⟨o, e, fun v z => by rw [d] at z; cases z⟩
  keep := fun i h h' st k => st.at fun o e => k it (by simp) o e
  item := by
    intro X hP hw hK hc i pins s σ H E I hf st hg
    subst hP hw hK
    obtain ⟨xs, x, hq, hx⟩ := hg
    obtain ⟨its, rv, p, hz⟩ := I.tuple hq
    obtain ⟨u, hu, ru⟩ := rv.get hx
    obtain ⟨f0, f1, f2, f3, f4, f5⟩ := hf it (by simp)
    refine wpAny_pyNext_tuple_item st (show s.heap.IsTuple a its.toArray from p) (x := u) (by simpa using hu) fun h' st' sb => ?_
    have I1 : Inv X pins σ H { s with heap := h' } := I.turned (t' := s.toks) (fun b o hb e => (sb.2 b hb).trans e) f0 f1 f3 f4 f5
    obtain ⟨o, e, c, d⟩ := id st'
    exact ⟨u, rfl, go_of (s := { s with heap := h' }) e c d (by decide) ⟨x, H, I1, ru, ⟨rfl, fun ys hy => by rw [I.tuple_inj hy hq]; exact hx⟩, st', fun b hb => (hf b hb).1⟩⟩
  done := by
    intro X hP hw hK hc i pins s σ H E I hf st hg
    subst hP hw hK
    obtain ⟨xs, hq, hx⟩ := hg
    obtain ⟨its, rv, p, hz⟩ := I.tuple hq
    obtain ⟨f0, f1, f2, f3, f4, f5⟩ := hf it (by simp)
    have hl := rv.length
    exact wpAny_pyNext_tuple_end (I.ok.hd hc) st (show s.heap.IsTuple a its.toArray from p) (by simp; omega) fun h' eb => ⟨rfl, I.turned (t' := s.toks) (fun b o hb e => eb b o hb e) f0 f1 f3 f4 f5⟩
  self := fun _ _ _ _ _ st h => wpAny_pyIter_tupleiter st h
theorem turn_range {P : Program} {w : World} {K : PySem.W.Frag} {tg : Expr} (it : Addr) (lo : Int) (n : Nat) : Turn P w K tg (Itr lo n) [it] it (fun i h => IsRangeIter h it (lo + (i : Nat) * 1) ((n : Int) - (i : Nat)) 1) where
  mem := by simp
  obj := fun i h st b hb => by
    have e : b = it := by simpa using hb
    subst e
    exact ⟨_, st, fun v z => by
      have z' : Data.fields _ = Data.cell v := z
      cases z'⟩
  keep := fun i h h' st k => k it (by simp) _ st
  item := by
    intro X hP hw hK hc i pins s σ H E I hf st hg
    subst hP hw hK
    obtain ⟨f0, f1, f2, f3, f4, f5⟩ := hf it (by simp)
    have W := Walks.range (prog := X.prog) (w := X.w) (I.ok.hd hc) it lo 1 n
    refine W.item i s _ _ hg st fun v h' tk hv st' kk => ?_
    obtain ⟨t, rfl⟩ := hv
    have I1 : Inv X pins σ H { s with heap := h', toks := tk } := I.turned (fun b o hb e => kk b o (by simpa using hb) e) f0 f1 f3 f4 f5
    refine ⟨_, rfl, go_of (s := { s with heap := h', toks := tk }) (n := "range_iterator") st' rfl rfl (by decide) ⟨.int (lo + i), H, I1, ⟨t, ?_⟩, ⟨rfl, rfl⟩, st', fun b hb => (hf b hb).1⟩⟩
    rw [Int.mul_one]
  done := by
    intro X hP hw hK hc i pins s σ H E I hf st hg
    subst hP hw hK
    obtain ⟨f0, f1, f2, f3, f4, f5⟩ := hf it (by simp)
    exact wpAny_pyNext_range_end (I.ok.hd hc) st (by have : n ≤ i := hg; omega) fun h' eb => ⟨rfl, I.turned (t' := s.toks) (fun b o hb e => eb b o hb e) f0 f1 f3 f4 f5⟩
  self := fun _ _ _ _ _ st h => wpAny_pyIter_rangeiter st h
end L2
namespace L2
open PySem PySem.Spec PyProof.Rows
section
variable {X : Cx} {tg : Expr}
def iList (K : PySem.W.Frag) (tl : TE) : TI := fun σ H R => tl σ H fun x H1 => ∃ a, x = .ref a ∧ (∃ xs, SqL K H1 a xs) ∧ R (Itl K a) H1
def iTup (K : PySem.W.Frag) (tl : TE) : TI := fun σ H R => tl σ H fun x H1 => ∃ a, x = .ref a ∧ (∃ xs, SqT K H1 a xs) ∧ R (Itt K a) H1
theorem pi_list {l : Expr} {tl : TE} (hl : PE X l tl) : PI X tg l (iList X.K tl) := by
  intro pins s σ H R I h
  refine thn (hl pins s σ H _ I h) fun v s1 ⟨x, H1, I1, r1, q1⟩ => ?_
  obtain ⟨a, e, ⟨xs, hq⟩, q⟩ := q1
  subst e
  cases r1
  obtain ⟨its, rv, p, hz⟩ := I1.list hq
  refine wpAny_pyIter_list p.isList ?_
  refine ⟨s1.heap.objs.size, [s1.heap.objs.size], _, _, H1, rfl, I1.kept (t' := s1.toks) fun b o e => Heap.get?_push_of_some _ e, turn_list a _, ⟨_, Heap.get?_push_size _ rfl, rfl, rfl⟩, fun b hb => ?_, q⟩
  have e : b = s1.heap.objs.size := by simpa using hb
  subst e
  exact I1.fpOk (Nat.le_refl _) (I1.hok.fresh (Nat.le_refl _))
theorem pi_tup {l : Expr} {tl : TE} (hl : PE X l tl) : PI X tg l (iTup X.K tl) := by
  intro pins s σ H R I h
  refine thn (hl pins s σ H _ I h) fun v s1 ⟨x, H1, I1, r1, q1⟩ => ?_
  obtain ⟨a, e, ⟨xs, hq⟩, q⟩ := q1
  subst e
  cases r1
  obtain ⟨its, rv, p, hz⟩ := I1.tuple hq
  refine wpAny_pyIter_tuple (show s1.heap.IsTuple a its.toArray from p) ?_
  refine ⟨s1.heap.objs.size, [s1.heap.objs.size], _, _, H1, rfl, I1.kept (t' := s1.toks) fun b o e => Heap.get?_push_of_some _ e, turn_tuple a _, ⟨_, Heap.get?_push_size _ rfl, rfl, rfl⟩, fun b hb => ?_, q⟩
  have e : b = s1.heap.objs.size := by simpa using hb
  subst e
  exact I1.fpOk (Nat.le_refl _) (I1.hok.fresh (Nat.le_refl _))
theorem range_it {pins : List (Addr × Obj)} {σ : St} {H : Hp} {s : Shared} {R : It → Hp → Prop} {E : Value → Shared → Prop} {lo hi : Int} {t u v : Tok} {tk : Nat} (I : Inv X pins σ H s) (h1 : -(2 ^ 62) ≤ lo) (h2 : lo < 2 ^ 62) (h3 : -(2 ^ 62) ≤ hi) (h4 : hi < 2 ^ 62)
    (q : R (Itr lo (hi - lo).toNat) H) : wpAny (model X.prog X.w) X.A (pyIter (.ref s.heap.objs.size)) (PIE X pins σ tg R) E { s with heap := s.heap.push { cls := .type "range", data := .fields #[.int lo t, .int hi u, .int 1 v] }, toks := tk } := by
  refine wpAny_pyIter_range (IsRange.new ..) (small_one h1 h2 h3 h4) ?_
  have I1 : Inv X pins σ H { s with heap := s.heap.push { cls := .type "range", data := .fields #[.int lo t, .int hi u, .int 1 v] }, toks := tk } := I.kept fun b o e => Heap.get?_push_of_some _ e
  refine ⟨(s.heap.push { cls := .type "range", data := .fields #[.int lo t, .int hi u, .int 1 v] }).objs.size, [(s.heap.push { cls := .type "range", data := .fields #[.int lo t, .int hi u, .int 1 v] }).objs.size], _, _, H, rfl,
    I1.kept (t' := tk) fun b o e => Heap.get?_push_of_some _ e, turn_range _ lo (hi - lo).toNat, ?_, fun b hb => ?_, q⟩
  · have e1 : lo + ((0 : Nat) : Int) * 1 = lo := by simp
    have e2 : (((hi - lo).toNat : Nat) : Int) - ((0 : Nat) : Int) = Builtin.Range.rangeSize lo hi 1 := by rw [rangeSize_one]; split <;> omega
    show IsRangeIter _ _ (lo + ((0 : Nat) : Int) * 1) ((((hi - lo).toNat : Nat) : Int) - ((0 : Nat) : Int)) 1
    rw [e1, e2]
    exact Heap.get?_push_size _ rfl
  · have e : b = (s.heap.push { cls := .type "range", data := .fields #[.int lo t, .int hi u, .int 1 v] }).objs.size := by simpa using hb
    subst e
    exact I1.fpOk (Nat.le_refl _) (I1.hok.fresh (Nat.le_refl _))
def iRng1 (ta : TA) : TI := fun σ H R => ta σ H fun vs H1 => ∃ j : Int, vs = [.int j] ∧ -(2 ^ 62) ≤ j ∧ j < 2 ^ 62 ∧ R (Itr 0 j.toNat) H1
theorem pi_range1 {a : Expr} {ta : TA} {p pos : Pos} (hg : Gl X "range") (hm : X.mg "range" = none) (ha : PA X [a] ta) (hs : starEach [a] X.env = [(false, eval a X.env)] := by rfl) : PI X tg (.Call (.Name "range" p) [a] [] pos) (iRng1 ta) := by
  intro pins s σ H R I h
  refine Call_ (ld_blt I hg hm boot_range (PyProof.Rows.callWith_type1 (thn (ha pos pins s σ H _ I h) fun us s1 ⟨vs, H1, I1, r1, q1⟩ => ?_) hs rfl))
  obtain ⟨j, e, q1, q2, q⟩ := q1
  subst e
  cases r1 with
  | cons r rr =>
    cases rr
    obtain ⟨t, rfl⟩ := r
    exact call_range_1 (range_it I1 (by omega) (by omega) q1 q2 (by simpa using q))
def tFor (wi : TI) (g : TG) (tb : TS) : TS := fun D σ H => wi σ H fun J H1 => ∃ W : Nat → Nat → St → Hp → Prop, (∃ m, W 0 m σ H1) ∧ ∀ i m σ H, W i m σ H →
  (J.stop i H ∧ D.nx σ H) ∨ (J.go i H ∧ ∃ N : St → Hp → Prop, (∀ σ' H', N σ' H' → ∃ m', m' < m ∧ W (i + 1) m' σ' H') ∧ ∀ x H', J.yld i H x H' → g x σ H' fun σ2 H2 => tb { D with nx := N, ct := N, bk := D.nx } σ2 H2)
def pinsAt (fp : List Addr) (h : Heap) : List (Addr × Obj) := fp.filterMap fun b => (h.get? b).map fun o => (b, o)
theorem mem_pinsAt {fp : List Addr} {h : Heap} {b : Addr} {o : Obj} (hb : b ∈ fp) (e : h.get? b = some o) : (b, o) ∈ pinsAt fp h := List.mem_filterMap.mpr ⟨b, hb, by rw [e]; rfl⟩
theorem of_pinsAt {fp : List Addr} {h : Heap} {p : Addr × Obj} (hp : p ∈ pinsAt fp h) : p.1 ∈ fp ∧ h.get? p.1 = some p.2 := by
  obtain ⟨b, hb, e⟩ := List.mem_filterMap.mp hp
  cases q : h.get? b with
  | none => rw [q] at e; cases e
  | some o =>
    rw [q] at e
    have e' : (b, o) = p := Option.some.inj e
    subst e'
    exact ⟨hb, q⟩
theorem Inv.pinned {pins : List (Addr × Obj)} {σ : St} {H : Hp} {s : Shared} {fp : List Addr} (I : Inv X pins σ H s) (hf : ∀ b ∈ fp, FpOk X pins H b) (ho : ∀ b ∈ fp, ∃ o, s.heap.get? b = some o ∧ ∀ v, o.data ≠ .cell v) : Inv X (pins ++ pinsAt fp s.heap) σ H s :=
  I.pins_of fun p hp => (List.mem_append.mp hp).elim (fun z => I.pin p (List.mem_append_right _ z)) fun z => by
    obtain ⟨hb, e⟩ := of_pinsAt z
    obtain ⟨f0, f1, f2, _⟩ := hf p.1 hb
    obtain ⟨o, e', d⟩ := ho p.1 hb
    rw [e] at e'; cases e'
    exact ⟨e, f0, f1, f2, d⟩
theorem Inv.unpinned {pins pl : List (Addr × Obj)} {σ : St} {H : Hp} {s : Shared} (I : Inv X (pins ++ pl) σ H s) : Inv X pins σ H s := I.pins_of fun p hp => I.pin p (List.mem_append_right _ (List.mem_append_left _ hp))
theorem ps_for {iter : Expr} {body : List Stmt} {wi : TI} {g : TG} {tb : TS} {pos : Pos} (hp : PassesOwn (model X.prog X.w) X.A X.env X.xe) (hc : X.calm = true) (hi : PI X tg iter wi) (hg : PG X tg g) (hb : PSs X body tb)
    (hs : ∀ x, foldedSetIterable iter X.env x = pure x := by intro _; rfl) : PS X (.For tg iter body [] pos) (tFor wi g tb) := by
  intro pins s σ H D I h
  refine wpAny_For (thn (hi pins s σ H _ I h) fun v s1 h1 => thn h1 fun itv s2 h2 => ?_) hs
  obtain ⟨it, fp, tn, J, H2, e, I2, T, st2, f2, W, ⟨m0, w0⟩, turn⟩ := h2
  subst e
  have stat : ∀ {H' : Hp}, (∀ b ∈ fp, H' b = none) → ∀ b ∈ fp, FpOk X pins H' b := fun hn b hb => ⟨hn b hb, (f2 b hb).2⟩
  refine codeAny_forLoop_any (fun n s' => ∃ i σ' H', Inv X pins σ' H' s' ∧ tn i s'.heap ∧ (∀ b ∈ fp, H' b = none) ∧ W i n σ' H') ?_ m0 ⟨0, σ, H2, I2, st2, fun b hb => (f2 b hb).1, w0⟩
  rintro n s3 ⟨i, σ3, H3, I3, st3, fr3, w3⟩
  rcases turn i n σ3 H3 w3 with ⟨stop, qn⟩ | ⟨go, N, hN, step⟩
  · refine wpAny_passesOwn hp (thn (T.done X rfl rfl rfl hc i pins s3 σ3 H3 X.xe I3 (stat fr3) st3 stop) fun r s4 ⟨hr, I4⟩ => ?_)
    subst hr
    exact wpAny_execs_nil ⟨σ3, H3, I4, qn⟩
  · refine wpAny_passesOwn hp (thn (T.item X rfl rfl rfl hc i pins s3 σ3 H3 X.xe I3 (stat fr3) st3 go) fun r s4 ⟨u, hr, h4⟩ => ?_)
    subst hr
    refine wpAny_passesOwn hp (thn h4 fun _ s5 ⟨x, H5, I5, r5, y5, st5, fr5⟩ => ?_)
    have I5' := I5.pinned (stat fr5) (T.obj _ _ st5)
    refine wpAny_passesOwn hp (thn (hg _ s5 σ3 H5 x u _ I5' r5 (step x H5 y5)) fun _ s6 ⟨σ6, H6, I6, q6⟩ => ?_)
    refine wpAny_passesOwn hp (thn (hb _ s6 σ6 H6 _ I6 q6) fun f s7 q7 => ?_)
    have again : ∀ {σ7 : St} {H7 : Hp}, Inv X (pins ++ pinsAt fp s5.heap) σ7 H7 s7 → N σ7 H7 → ∃ m, m < n ∧ ∃ i σ' H', Inv X pins σ' H' s7 ∧ tn i s7.heap ∧ (∀ b ∈ fp, H' b = none) ∧ W i m σ' H' := fun {σ7 H7} I7 n7 => by
      obtain ⟨m', hm, w7⟩ := hN σ7 H7 n7
      refine ⟨m', hm, i + 1, σ7, H7, I7.unpinned, T.keep _ _ _ st5 fun b hb o e => (I7.pin (b, o) (List.mem_append_right _ (List.mem_append_right _ (mem_pinsAt hb e)))).1, fun b hb => ?_, w7⟩
      obtain ⟨o, e, d⟩ := T.obj _ _ st5 b hb
      exact (I7.pin (b, o) (List.mem_append_right _ (List.mem_append_right _ (mem_pinsAt hb e)))).2.1
    cases f with
    | next => obtain ⟨σ7, H7, I7, n7⟩ := q7; exact again I7 n7
    | cont => obtain ⟨σ7, H7, I7, n7⟩ := q7; exact again I7 n7
    | brk => obtain ⟨σ7, H7, I7, q7⟩ := q7; exact ⟨σ7, H7, I7.unpinned, q7⟩
    | ret v => obtain ⟨x7, σ7, H7, I7, r7, q7⟩ := q7; exact ⟨x7, σ7, H7, I7.unpinned, r7, q7⟩
end
theorem for_list {K : PySem.W.Frag} {a : Addr} {xs : List V} {g : TG} {tb : TS} {D : Ends} {σ : St} {H : Hp} (Pv : Nat → St → Hp → Prop) (h0 : Pv 0 σ H) (hl : ∀ i σ H, i ≤ xs.length → Pv i σ H → SqL K H a xs)
    (hs : ∀ i x σ H, xs[i]? = some x → Pv i σ H → g x σ H fun σ2 H2 => tb { D with nx := Pv (i + 1), ct := Pv (i + 1), bk := D.nx } σ2 H2) (hd : ∀ σ H, Pv xs.length σ H → D.nx σ H) :
    ∃ W : Nat → Nat → St → Hp → Prop, (∃ m, W 0 m σ H) ∧ ∀ i m σ H, W i m σ H →
      ((Itl K a).stop i H ∧ D.nx σ H) ∨ ((Itl K a).go i H ∧ ∃ N : St → Hp → Prop, (∀ σ' H', N σ' H' → ∃ m', m' < m ∧ W (i + 1) m' σ' H') ∧ ∀ x H', (Itl K a).yld i H x H' → g x σ H' fun σ2 H2 => tb { D with nx := N, ct := N, bk := D.nx } σ2 H2) := by
  refine ⟨fun i m σ H => m = xs.length - i ∧ i ≤ xs.length ∧ Pv i σ H, ⟨xs.length, by simp, Nat.zero_le _, h0⟩, ?_⟩
  rintro i m σ H ⟨rfl, hi, p⟩
  have q := hl i σ H hi p
  by_cases hlt : i < xs.length
  · refine .inr ⟨⟨xs, xs[i], q, by simp [hlt]⟩, Pv (i + 1), fun σ' H' p' => ⟨xs.length - (i + 1), by omega, rfl, hlt, p'⟩, fun x H' y => ?_⟩
    obtain ⟨e, y⟩ := y
    subst e
    exact hs i x σ _ (y xs q) p
  · have e : i = xs.length := by omega
    subst e
    exact .inl ⟨⟨xs, q, Nat.le_refl _⟩, hd σ H p⟩
theorem for_tup {K : PySem.W.Frag} {a : Addr} {xs : List V} {g : TG} {tb : TS} {D : Ends} {σ : St} {H : Hp} (Pv : Nat → St → Hp → Prop) (h0 : Pv 0 σ H) (hl : ∀ i σ H, i ≤ xs.length → Pv i σ H → SqT K H a xs)
    (hs : ∀ i x σ H, xs[i]? = some x → Pv i σ H → g x σ H fun σ2 H2 => tb { D with nx := Pv (i + 1), ct := Pv (i + 1), bk := D.nx } σ2 H2) (hd : ∀ σ H, Pv xs.length σ H → D.nx σ H) :
    ∃ W : Nat → Nat → St → Hp → Prop, (∃ m, W 0 m σ H) ∧ ∀ i m σ H, W i m σ H →
      ((Itt K a).stop i H ∧ D.nx σ H) ∨ ((Itt K a).go i H ∧ ∃ N : St → Hp → Prop, (∀ σ' H', N σ' H' → ∃ m', m' < m ∧ W (i + 1) m' σ' H') ∧ ∀ x H', (Itt K a).yld i H x H' → g x σ H' fun σ2 H2 => tb { D with nx := N, ct := N, bk := D.nx } σ2 H2) := by
  refine ⟨fun i m σ H => m = xs.length - i ∧ i ≤ xs.length ∧ Pv i σ H, ⟨xs.length, by simp, Nat.zero_le _, h0⟩, ?_⟩
  rintro i m σ H ⟨rfl, hi, p⟩
  have q := hl i σ H hi p
  by_cases hlt : i < xs.length
  · refine .inr ⟨⟨xs, xs[i], q, by simp [hlt]⟩, Pv (i + 1), fun σ' H' p' => ⟨xs.length - (i + 1), by omega, rfl, hlt, p'⟩, fun x H' y => ?_⟩
    obtain ⟨e, y⟩ := y
    subst e
    exact hs i x σ _ (y xs q) p
  · have e : i = xs.length := by omega
    subst e
    exact .inl ⟨⟨xs, q, Nat.le_refl _⟩, hd σ H p⟩
theorem for_range {lo : Int} {n : Nat} {g : TG} {tb : TS} {D : Ends} {σ : St} {H : Hp} (Pv : Nat → St → Hp → Prop) (h0 : Pv 0 σ H)
    (hs : ∀ i σ H, i < n → Pv i σ H → g (.int (lo + i)) σ H fun σ2 H2 => tb { D with nx := Pv (i + 1), ct := Pv (i + 1), bk := D.nx } σ2 H2) (hd : ∀ σ H, Pv n σ H → D.nx σ H) :
    ∃ W : Nat → Nat → St → Hp → Prop, (∃ m, W 0 m σ H) ∧ ∀ i m σ H, W i m σ H →
      ((Itr lo n).stop i H ∧ D.nx σ H) ∨ ((Itr lo n).go i H ∧ ∃ N : St → Hp → Prop, (∀ σ' H', N σ' H' → ∃ m', m' < m ∧ W (i + 1) m' σ' H') ∧ ∀ x H', (Itr lo n).yld i H x H' → g x σ H' fun σ2 H2 => tb { D with nx := N, ct := N, bk := D.nx } σ2 H2) := by
  refine ⟨fun i m σ H => m = n - i ∧ i ≤ n ∧ Pv i σ H, ⟨n, by simp, Nat.zero_le _, h0⟩, ?_⟩
  rintro i m σ H ⟨rfl, hi, p⟩
  by_cases hlt : i < n
  · refine .inr ⟨hlt, Pv (i + 1), fun σ' H' p' => ⟨n - (i + 1), by omega, rfl, hlt, p'⟩, fun x H' y => ?_⟩
    obtain ⟨e, y⟩ := y
    subst e y
    exact hs i σ _ hlt p
  · have e : i = n := by omega
    subst e
    exact .inl ⟨Nat.le_refl _, hd σ H p⟩
end L2
namespace L2
open PySem PySem.Spec PyProof.Rows
abbrev R2 := V → V → Hp → VK → Prop
def OpR (X : Cx) (f : Value → Value → Sem Value) (r : R2) : Prop :=
  ∀ (pins : List (Addr × Obj)) (s : Shared) (σ : St) (H : Hp) (x y : V) (v u : Value) (Q : VK), Inv X pins σ H s → RelV x v → RelV y u → r x y H Q →
    wpAny (model X.prog X.w) X.A (f v u) (EP X pins σ Q) X.xe s
def UnR (X : Cx) (f : Value → Sem Value) (r : V → Hp → VK → Prop) : Prop :=
  ∀ (pins : List (Addr × Obj)) (s : Shared) (σ : St) (H : Hp) (x : V) (v : Value) (Q : VK), Inv X pins σ H s → RelV x v → r x H Q →
    wpAny (model X.prog X.w) X.A (f v) (EP X pins σ Q) X.xe s
def CallR (X : Cx) (f : Value) (r : List V → Hp → VK → Prop) : Prop :=
  ∀ (pins : List (Addr × Obj)) (s : Shared) (σ : St) (H : Hp) (xs : List V) (us : List Value) (Q : VK), Inv X pins σ H s → Vals xs us → r xs H Q →
    wpAny (model X.prog X.w) X.A (call f us) (EP X pins σ Q) X.xe s
def TruR (X : Cx) (r : V → Hp → (Bool → Hp → Prop) → Prop) : Prop :=
  ∀ (pins : List (Addr × Obj)) (s : Shared) (σ : St) (H : Hp) (x : V) (v : Value) (Q : Bool → Hp → Prop), Inv X pins σ H s → RelV x v → r x H Q →
    wpAny (model X.prog X.w) X.A (truthy v) (TP X pins σ Q) X.xe s
def tOp (r : R2) (ta tb : TE) : TE := fun σ H Q => ta σ H fun x H1 => tb σ H1 fun y H2 => r x y H2 Q
def tUn (r : V → Hp → VK → Prop) (ta : TE) : TE := fun σ H Q => ta σ H fun x H1 => r x H1 Q
def rI (C : Int → Int → Prop) (g : Int → Int → V) : R2 := fun x y H Q => ∃ i j, x = .int i ∧ y = .int j ∧ C i j ∧ Q (g i j) H
def rI0 (g : Int → Int → V) : R2 := fun x y H Q => ∃ i j, x = .int i ∧ y = .int j ∧ Q (g i j) H
def rU (g : Int → V) : V → Hp → VK → Prop := fun x H Q => ∃ i, x = .int i ∧ Q (g i) H
section
variable {X : Cx} {a b c : Expr} {ta tb tc : TE} {pos : Pos}
theorem binT (ha : PE X a ta) (hb : PE X b tb) {pins : List (Addr × Obj)} {s : Shared} {σ : St} {H : Hp} {R : V → V → Hp → Prop} (I : Inv X pins σ H s)
    (h : ta σ H fun x H1 => tb σ H1 fun y H2 => R x y H2) {Q : Value → Shared → Prop} {f : Value → Value → Sem Value}
    (hf : ∀ v u s2 x y H2, Inv X pins σ H2 s2 → RelV x v → RelV y u → R x y H2 → wpAny (model X.prog X.w) X.A (f v u) Q X.xe s2) :
    wpAny (model X.prog X.w) X.A (eval a X.env) (fun v s₁ => wpAny (model X.prog X.w) X.A (eval b X.env) (fun u s₂ => wpAny (model X.prog X.w) X.A (f v u) Q X.xe s₂) X.xe s₁) X.xe s := by
  refine thn (ha pins s σ H _ I h) fun v s1 ⟨x, H1, I1, r1, q1⟩ => ?_
  refine thn (hb pins s1 σ H1 _ I1 q1) fun u s2 ⟨y, H2, I2, r2, q2⟩ => ?_
  exact hf v u s2 x y H2 I2 r1 r2 q2
theorem pe_op {op : Operator} {r : R2} (ho : OpR X (binaryOp op) r) (ha : PE X a ta) (hb : PE X b tb) : PE X (.BinOp a op b pos) (tOp r ta tb) := by
  intro pins s σ H Q I h
  exact wpAny_BinOp (binT ha hb I h fun v u s2 x y H2 I2 rx ry q => ho pins s2 σ H2 x y v u Q I2 rx ry q)
theorem pe_un {op : UnaryOp} {r : V → Hp → VK → Prop} (ho : UnR X (unaryOp op) r) (ha : PE X a ta) : PE X (.UnaryOp op a pos) (tUn r ta) := by
  intro pins s σ H Q I h
  exact UnaryOp_ (thn (ha pins s σ H _ I h) fun v s1 ⟨x, H1, I1, r1, q1⟩ => ho pins s1 σ H1 x v Q I1 r1 q1)
theorem opI {f : Value → Value → Sem Value} {C : Int → Int → Prop} {g : Int → Int → Int}
    (rule : ∀ (i j : Int) (t u : Tok) (s : Shared) (Q : Value → Shared → Prop) (E : Value → Shared → Prop), C i j → Q (.int (g i j) s.toks) { s with toks := s.toks + 1 } → wpAny (model X.prog X.w) X.A (f (.int i t) (.int j u)) Q E s) :
    OpR X f (rI C fun i j => .int (g i j)) := by
  intro pins s σ H x y v u Q I rx ry h
  obtain ⟨i, j, rfl, rfl, hc, q⟩ := h
  obtain ⟨t, rfl⟩ := rx
  obtain ⟨t', rfl⟩ := ry
  exact rule i j t t' s _ _ hc ⟨.int (g i j), H, I.tok _, ⟨_, rfl⟩, q⟩
theorem opI0 {f : Value → Value → Sem Value} {g : Int → Int → Int}
    (rule : ∀ (i j : Int) (t u : Tok) (s : Shared) (Q : Value → Shared → Prop) (E : Value → Shared → Prop), Q (.int (g i j) s.toks) { s with toks := s.toks + 1 } → wpAny (model X.prog X.w) X.A (f (.int i t) (.int j u)) Q E s) :
    OpR X f (rI0 fun i j => .int (g i j)) := by
  intro pins s σ H x y v u Q I rx ry h
  obtain ⟨i, j, rfl, rfl, q⟩ := h
  obtain ⟨t, rfl⟩ := rx
  obtain ⟨t', rfl⟩ := ry
  exact rule i j t t' s _ _ ⟨.int (g i j), H, I.tok _, ⟨_, rfl⟩, q⟩
theorem opB0 {f : Value → Value → Sem Value} {g : Int → Int → Bool}
    (rule : ∀ (i j : Int) (t u : Tok) (s : Shared) (Q : Value → Shared → Prop) (E : Value → Shared → Prop), Q (.bool (g i j)) s → wpAny (model X.prog X.w) X.A (f (.int i t) (.int j u)) Q E s) :
    OpR X f (rI0 fun i j => .bl (g i j)) := by
  intro pins s σ H x y v u Q I rx ry h
  obtain ⟨i, j, rfl, rfl, q⟩ := h
  obtain ⟨t, rfl⟩ := rx
  obtain ⟨t', rfl⟩ := ry
  exact rule i j t t' s _ _ ⟨.bl (g i j), H, I, rfl, q⟩
def CDiv (i j : Int) : Prop := 0 < j ∧ j < 1073741824
def CPow (i j : Int) : Prop := 0 ≤ j ∧ j ≤ 1000000 ∧ i.natAbs < 2 ^ 64
def CMul (i j : Int) : Prop := (-(2 ^ 64) < i ∧ i < 2 ^ 64) ∨ (-(2 ^ 64) < j ∧ j < 2 ^ 64)
theorem CMul.ok {i j : Int} (h : CMul i j) : IntMulOk i j := by
  rcases h with ⟨h1, h2⟩ | ⟨h1, h2⟩
  · exact .of_left (intBits_le_64 h1 h2)
  · exact .of_right (intBits_le_64 h1 h2)
theorem op_add : OpR X (binaryOp .Add) (rI0 fun i j => .int (i + j)) := opI0 fun _ _ _ _ _ _ _ q => add_int q
theorem op_sub : OpR X (binaryOp .Sub) (rI0 fun i j => .int (i - j)) := opI0 fun _ _ _ _ _ _ _ q => sub_int q
theorem op_mul : OpR X (binaryOp .Mult) (rI CMul fun i j => .int (i * j)) := opI fun _ _ _ _ _ _ _ hc q => mul_int q hc.ok
theorem op_fdiv : OpR X (binaryOp .FloorDiv) (rI CDiv fun i j => .int (i / j)) := opI fun i j _ _ _ _ _ hc q => by
  have h1 : (0 : Int) < j := hc.1
  have h2 : j < 1073741824 := hc.2
  exact floordiv_int (by omega) (by rw [Int.fdiv_eq_ediv_of_nonneg i (by omega)]; exact q) (.inl (PyProof.noPylong_small (by omega)))
theorem op_mod : OpR X (binaryOp .Mod) (rI (fun _ j => 0 < j) fun i j => .int (i % j)) := opI fun i j _ _ _ _ _ hc q => by
  have h1 : (0 : Int) < j := hc
  exact mod_int' (by omega) (by rw [Int.fmod_eq_emod_of_nonneg i (by omega)]; exact q)
theorem op_pow : OpR X (binaryOp .Pow) (rI CPow fun i j => .int (i ^ j.toNat)) := opI fun _ _ _ _ _ _ _ hc q => pow_int_small hc.1 hc.2.1 hc.2.2 q
theorem unI {f : Value → Sem Value} {g : Int → Int}
    (rule : ∀ (i : Int) (t : Tok) (s : Shared) (Q : Value → Shared → Prop) (E : Value → Shared → Prop), Q (.int (g i) s.toks) { s with toks := s.toks + 1 } → wpAny (model X.prog X.w) X.A (f (.int i t)) Q E s) :
    UnR X f (rU fun i => .int (g i)) := by
  intro pins s σ H x v Q I rx h
  obtain ⟨i, rfl, q⟩ := h
  obtain ⟨t, rfl⟩ := rx
  exact rule i t s _ _ ⟨.int (g i), H, I.tok _, ⟨_, rfl⟩, q⟩
theorem un_neg : UnR X (unaryOp .USub) (rU fun i => .int (-i)) := unI fun _ _ _ _ _ q => neg_int q
end
def scal : V → V → Bool
  | .non, .non => true | .non, .int _ => true | .int _, .non => true | .non, .bl _ => true | .bl _, .non => true | .non, .str _ => true | .str _, .non => true
  | .int _, .int _ => true | .bl _, .bl _ => true | .str _, .str _ => true | .byt _, .byt _ => true
  | .int _, .str _ => true | .str _, .int _ => true | .bl _, .str _ => true | .str _, .bl _ => true
  | _, _ => false
def rEq : R2 := fun x y H Q => scal x y = true ∧ Q (.bl (decide (x = y))) H
def rNe : R2 := fun x y H Q => scal x y = true ∧ Q (.bl (!decide (x = y))) H
theorem dec_int {i j : Int} : decide (V.int i = V.int j) = (i == j) := by
  rw [Bool.eq_iff_iff]
  simp
theorem dec_bl {i j : Bool} : decide (V.bl i = V.bl j) = (i == j) := by
  rw [Bool.eq_iff_iff]
  simp
theorem dec_str {i j : Str} : decide (V.str i = V.str j) = (i == j) := by
  rw [Bool.eq_iff_iff]
  simp
theorem dec_byt {i j : Array UInt8} : decide (V.byt i = V.byt j) = (i.toList == j.toList) := by
  rw [Bool.eq_iff_iff]
  cases i
  cases j
  simp
section
variable {X : Cx} {a b c : Expr} {ta tb tc : TE} {pos : Pos}
theorem fin_bl {pins : List (Addr × Obj)} {σ : St} {H : Hp} {s : Shared} {Q : VK} {k k' : Bool} (I : Inv X pins σ H s) (q : Q (.bl k) H) (e : k = k') : EP X pins σ Q (.bool k') s := by
  subst e
  exact ⟨.bl k, H, I, rfl, q⟩
theorem op_eq : OpR X (compareOp .Eq) rEq := by
  intro pins s σ H x y v u Q I rx ry h
  obtain ⟨hs, q⟩ := h
  cases x with
  | non =>
    cases rx
    cases y with
    | non => cases ry; exact PySem.EqNone.eq_none_none (fin_bl I q (by simp))
    | bl j => cases ry; exact PySem.EqNone.eq_none_bool (fin_bl I q (by simp))
    | int j => obtain ⟨t', rfl⟩ := ry; exact PySem.EqNone.eq_none_int (fin_bl I q (by simp))
    | str j => obtain ⟨t', rfl⟩ := ry; exact PySem.EqNone.eq_none_str (fin_bl I q (by simp))
    | _ => exact absurd (show false = true from hs) Bool.false_ne_true
  | bl i =>
    cases rx
    cases y with
    | non => cases ry; exact PySem.EqNone.eq_bool_none (fin_bl I q (by simp))
    | bl j => cases ry; exact eq_bool (fin_bl I q dec_bl)
    | str j => obtain ⟨t', rfl⟩ := ry; exact PySem.EqMixed.eq_bool_str (fin_bl I q (by simp))
    | _ => exact absurd (show false = true from hs) Bool.false_ne_true
  | int i =>
    obtain ⟨t, rfl⟩ := rx
    cases y with
    | non => cases ry; exact PySem.EqNone.eq_int_none (fin_bl I q (by simp))
    | int j => obtain ⟨t', rfl⟩ := ry; exact eq_int (fin_bl I q dec_int)
    | str j => obtain ⟨t', rfl⟩ := ry; exact PySem.EqMixed.eq_int_str (fin_bl I q (by simp))
    | _ => exact absurd (show false = true from hs) Bool.false_ne_true
  | str i =>
    obtain ⟨t, rfl⟩ := rx
    cases y with
    | non => cases ry; exact PySem.EqNone.eq_str_none (fin_bl I q (by simp))
    | bl j => cases ry; exact PySem.EqMixed.eq_str_bool (fin_bl I q (by simp))
    | int j => obtain ⟨t', rfl⟩ := ry; exact PySem.EqMixed.eq_str_int (fin_bl I q (by simp))
    | str j => obtain ⟨t', rfl⟩ := ry; exact eq_str (fin_bl I q dec_str)
    | _ => exact absurd (show false = true from hs) Bool.false_ne_true
  | byt i =>
    obtain ⟨t, rfl⟩ := rx
    cases y with
    | byt j => obtain ⟨t', rfl⟩ := ry; exact PySem.W.eq_bytes (fin_bl I q dec_byt)
    | _ => exact absurd (show false = true from hs) Bool.false_ne_true
  | _ => cases y <;> exact absurd (show false = true from hs) Bool.false_ne_true
theorem op_ne : OpR X (compareOp .NotEq) rNe := by
  intro pins s σ H x y v u Q I rx ry h
  obtain ⟨hs, q⟩ := h
  cases x with
  | non =>
    cases rx
    cases y with
    | non => cases ry; exact PySem.EqNone.ne_none_none (fin_bl I q (by simp))
    | bl j => cases ry; exact PySem.EqNone.ne_none_bool (fin_bl I q (by simp))
    | int j => obtain ⟨t', rfl⟩ := ry; exact PySem.EqNone.ne_none_int (fin_bl I q (by simp))
    | str j => obtain ⟨t', rfl⟩ := ry; exact PySem.EqNone.ne_none_str (fin_bl I q (by simp))
    | _ => exact absurd (show false = true from hs) Bool.false_ne_true
  | bl i =>
    cases rx
    cases y with
    | non => cases ry; exact PySem.EqNone.ne_bool_none (fin_bl I q (by simp))
    | bl j => cases ry; exact ne_bool (fin_bl I q (congrArg not dec_bl))
    | str j => obtain ⟨t', rfl⟩ := ry; exact PySem.EqMixed.ne_bool_str (fin_bl I q (by simp))
    | _ => exact absurd (show false = true from hs) Bool.false_ne_true
  | int i =>
    obtain ⟨t, rfl⟩ := rx
    cases y with
    | non => cases ry; exact PySem.EqNone.ne_int_none (fin_bl I q (by simp))
    | int j => obtain ⟨t', rfl⟩ := ry; exact ne_int (fin_bl I q (congrArg not dec_int))
    | str j => obtain ⟨t', rfl⟩ := ry; exact PySem.EqMixed.ne_int_str (fin_bl I q (by simp))
    | _ => exact absurd (show false = true from hs) Bool.false_ne_true
  | str i =>
    obtain ⟨t, rfl⟩ := rx
    cases y with
    | non => cases ry; exact PySem.EqNone.ne_str_none (fin_bl I q (by simp))
    | bl j => cases ry; exact PySem.EqMixed.ne_str_bool (fin_bl I q (by simp))
    | int j => obtain ⟨t', rfl⟩ := ry; exact PySem.EqMixed.ne_str_int (fin_bl I q (by simp))
    | str j => obtain ⟨t', rfl⟩ := ry; exact ne_str (fin_bl I q (congrArg not dec_str))
    | _ => exact absurd (show false = true from hs) Bool.false_ne_true
  | byt i =>
    obtain ⟨t, rfl⟩ := rx
    cases y with
    | byt j => obtain ⟨t', rfl⟩ := ry; exact PySem.W.ne_bytes (fin_bl I q (congrArg not dec_byt))
    | _ => exact absurd (show false = true from hs) Bool.false_ne_true
  | _ => cases y <;> exact absurd (show false = true from hs) Bool.false_ne_true
theorem op_lt : OpR X (compareOp .Lt) (rI0 fun i j => .bl (decide (i < j))) := opB0 fun _ _ _ _ _ _ _ q => lt_int q
theorem op_gt : OpR X (compareOp .Gt) (rI0 fun i j => .bl (decide (j < i))) := opB0 fun _ _ _ _ _ _ _ q => gt_int q
theorem op_ge : OpR X (compareOp .GtE) (rI0 fun i j => .bl (decide (j ≤ i))) := opB0 fun _ _ _ _ _ _ _ q => ge_int q
theorem op_isN : OpR X (compareOp .Is) (fun x y H Q => y = .non ∧ Q (.bl (decide (x = .non))) H) := by
  intro pins s σ H x y v u Q I rx ry h
  obtain ⟨rfl, q⟩ := h
  cases ry
  refine is_none_gen (fin_bl I q ?_)
  cases x <;> first
    | (cases rx; rfl)
    | (obtain ⟨t, rfl⟩ := rx; rfl)
theorem op_notN : OpR X (compareOp .IsNot) (fun x y H Q => y = .non ∧ Q (.bl (!decide (x = .non))) H) := by
  intro pins s σ H x y v u Q I rx ry h
  obtain ⟨rfl, q⟩ := h
  cases ry
  refine isnot_none_gen (fin_bl I q ?_)
  cases x <;> first
    | (cases rx; rfl)
    | (obtain ⟨t, rfl⟩ := rx; rfl)
theorem OpR.or {f : Value → Value → Sem Value} {r r' : R2} (h : OpR X f r) (h' : OpR X f r') : OpR X f (fun x y H Q => r x y H Q ∨ r' x y H Q) := by
  intro pins s σ H x y v u Q I rx ry q
  rcases q with q | q
  · exact h pins s σ H x y v u Q I rx ry q
  · exact h' pins s σ H x y v u Q I rx ry q
theorem nomark (b : Expr) {op : CmpOp} (h : op ≠ .In := by decide) (h2 : op ≠ .NotIn := by decide) : behindInMarks op b = false := by
  have e1 : (op == CmpOp.In) = false := by cases op <;> first | rfl | exact absurd rfl h
  have e2 : (op == CmpOp.NotIn) = false := by cases op <;> first | rfl | exact absurd rfl h2
  cases b <;> simp [behindInMarks, e1, e2]
theorem pe_cmpR {op : CmpOp} {r : R2} (ho : OpR X (compareOp op) r) (ha : PE X a ta) (hb : PE X b tb) (hm : behindInMarks op b = false) : PE X (.Compare a [op] [b] pos) (tOp r ta tb) := by
  intro pins s σ H Q I h
  exact wpAny_Compare1 (binT ha hb I h fun v u s2 x y H2 I2 rx ry q => ho pins s2 σ H2 x y v u Q I2 rx ry q) hm
def tTest (t : TE) : TT := fun σ H Q => t σ H fun x H' => ∃ k, x = .bl k ∧ Q k H'
theorem pt_cmpR {op : CmpOp} {r : R2} (ho : OpR X (compareOp op) r) (ha : PE X a ta) (hb : PE X b tb) (hm : behindInMarks op b = false) : PT X (.Compare a [op] [b] pos) (tTest (tOp r ta tb)) := by
  intro pins s σ H Q I h
  refine wpAny_isTrue_Compare1 (thn (ha pins s σ H _ I h) fun v s1 ⟨x, H1, I1, r1, q1⟩ => thn (hb pins s1 σ H1 _ I1 q1) fun u s2 ⟨y, H2, I2, r2, q2⟩ =>
    thn (ho pins s2 σ H2 x y v u _ I2 r1 r2 q2) fun c s3 ⟨z, H3, I3, r3, k, e, q3⟩ => ?_) hm
  subst e
  cases r3
  exact wpAny_truthy_bool ⟨H3, I3, q3⟩
def TruV (K : PySem.W.Frag) (x : V) (H : Hp) (k : Bool) : Prop :=
  match x with
  | .non => k = false
  | .bl b => k = b
  | .int i => k = (i != 0)
  | .str y => y.length ≤ sizeLine ∧ k = ((y.length : Int) != 0)
  | .byt y => y.size ≤ sizeLine ∧ k = ((y.size : Int) != 0)
  | .ref p => (∃ xs, SqL K H p xs ∧ k = !xs.isEmpty) ∨ (∃ xs, SqT K H p xs ∧ k = !xs.isEmpty) ∨ ∃ kvs, H p = some (.dK kvs) ∧ k = !kvs.isEmpty
  | _ => False
theorem isEmpty_kv {κ : Type} {kvs : List (κ × V)} {vs : List (κ × Value)} (r : KV kvs vs) : (!vs.isEmpty) = !kvs.isEmpty := by
  cases r <;> rfl
theorem isEmpty_of {xs : List V} {its : List Value} (r : Vals xs its) : (!its.toArray.isEmpty) = !xs.isEmpty := by
  cases r <;> simp
theorem line63 : (sizeLine : Nat) < 2 ^ 63 := by rw [sizeLine_eq]; decide
theorem tru_ok : TruR X (fun x H Q => ∃ k, TruV X.K x H k ∧ Q k H) := by
  intro pins s σ H x v Q I rx h
  obtain ⟨k, e, q⟩ := h
  have hl := line63
  have hs : sizeLine = 16777216 := sizeLine_eq
  cases x with
  | non =>
    cases rx
    have e' : k = false := e
    subst e'
    exact truthy_none ⟨H, I, q⟩
  | bl b =>
    cases rx
    have e' : k = b := e
    subst e'
    exact wpAny_truthy_bool ⟨H, I, q⟩
  | int i =>
    obtain ⟨t, rfl⟩ := rx
    have e' : k = (i != 0) := e
    subst e'
    exact PySem.P.truthy_int ⟨H, I, q⟩
  | str y =>
    obtain ⟨t, rfl⟩ := rx
    obtain ⟨hy, e'⟩ : y.length ≤ sizeLine ∧ k = ((y.length : Int) != 0) := e
    subst e'
    exact PySem.P.truthy_str (by omega) ⟨H, I.tok _, q⟩
  | byt y =>
    obtain ⟨t, rfl⟩ := rx
    obtain ⟨hy, e'⟩ : y.size ≤ sizeLine ∧ k = ((y.size : Int) != 0) := e
    subst e'
    exact PySem.W.truthy_bytes (by omega) ⟨H, I.tok _, q⟩
  | ref p =>
    cases rx
    have e' : (∃ xs, SqL X.K H p xs ∧ k = !xs.isEmpty) ∨ (∃ xs, SqT X.K H p xs ∧ k = !xs.isEmpty) ∨ ∃ kvs, H p = some (.dK kvs) ∧ k = !kvs.isEmpty := e
    rcases e' with ⟨xs, hx, e'⟩ | ⟨xs, hx, e'⟩ | ⟨kvs, hx, e'⟩
    · subst e'
      obtain ⟨its, r, pl, hz⟩ := I.list hx
      have hlen := r.length
      exact wpAny_truthy_list pl.isList (by simp only [List.size_toArray]; omega) ⟨H, I.tok _, by rw [isEmpty_of r]; exact q⟩
    · subst e'
      obtain ⟨its, r, pl, hz⟩ := I.tuple hx
      have hlen := r.length
      exact truthy_tuple pl (by simp only [List.size_toArray]; omega) ⟨H, I.tok _, by rw [isEmpty_of r]; exact q⟩
    · subst e'
      obtain ⟨hz, hS, vs, r, m⟩ : kvs.length ≤ sizeLine ∧ (p == sysModules) = false ∧ ∃ vs, KV kvs vs ∧ s.heap.DictOf (mixKind X.prog X.w) p vs := I.hok p _ hx
      have hlen : kvs.length = vs.length := Paired.length r
      exact wpAny_truthy_dict hS m (by omega) ⟨H, I.tok _, by rw [isEmpty_kv r]; exact q⟩
  | _ => exact (show False from e).elim
theorem pt_truth (ha : PE X a ta) (he : ∀ whole, isTrue a X.env whole = (do let v ← whole; standAt a.pos; holding [v] (truthy v))) :
    PT X a (fun σ H Q => ta σ H fun x H' => ∃ k, TruV X.K x H' k ∧ Q k H') := by
  intro pins s σ H Q I h
  exact isTrue_plain (thn (ha pins s σ H _ I h) fun v s1 ⟨x, H1, I1, r1, q1⟩ => tru_ok pins s1 σ H1 x v Q I1 r1 q1) (he _)
theorem op_add_str : OpR X (binaryOp .Add) (fun x y H Q => ∃ i j, x = .str i ∧ y = .str j ∧ i.length + j.length ≤ sizeLine ∧ Q (.str (i ++ j)) H) := by
  intro pins s σ H x y v u Q I rx ry h
  obtain ⟨i, j, rfl, rfl, hz, q⟩ := h
  obtain ⟨t, rfl⟩ := rx
  obtain ⟨t', rfl⟩ := ry
  exact add_str (fun t' tk => ⟨.str (i ++ j), H, I.tok _, ⟨_, rfl⟩, q⟩) hz
theorem vals1 {x : V} {us : List Value} (r : Vals [x] us) : ∃ u, us = [u] ∧ RelV x u := by
  cases r with
  | cons r1 r2 => cases r2; exact ⟨_, rfl, r1⟩
theorem vals2 {x y : V} {us : List Value} (r : Vals [x, y] us) : ∃ u w', us = [u, w'] ∧ RelV x u ∧ RelV y w' := by
  cases r with
  | cons r1 r2 =>
    cases r2 with
    | cons r3 r4 => cases r4; exact ⟨_, _, rfl, r1, r3⟩
theorem call_abs : CallR X (.builtin "abs") (fun xs H Q => ∃ i, xs = [.int i] ∧ Q (.int (if i < 0 then -i else i)) H) := by
  intro pins s σ H xs us Q I r h
  obtain ⟨i, rfl, q⟩ := h
  obtain ⟨u, rfl, t, rfl⟩ := vals1 r
  exact call_abs_int fun u tk => ⟨.int (if i < 0 then -i else i), H, I.tok _, ⟨_, rfl⟩, q⟩
theorem call_max2 (hc : X.calm = true) : CallR X (.builtin "max") (fun xs H Q => ∃ i j, xs = [.int i, .int j] ∧ Q (.int (if j > i then j else i)) H) := by
  intro pins s σ H xs us Q I r h
  obtain ⟨i, j, rfl, q⟩ := h
  obtain ⟨u, w', rfl, ⟨t, rfl⟩, ⟨t', rfl⟩⟩ := vals2 r
  refine max_two_ints (I.ok.hd hc) fun h' tk k => ⟨_, H, I.kept k, ?_, q⟩
  by_cases hj : j > i
  · rw [if_pos hj, if_pos hj]; exact ⟨_, rfl⟩
  · rw [if_neg hj, if_neg hj]; exact ⟨_, rfl⟩
theorem call_min2 (hc : X.calm = true) : CallR X (.builtin "min") (fun xs H Q => ∃ i j, xs = [.int i, .int j] ∧ Q (.int (if j < i then j else i)) H) := by
  intro pins s σ H xs us Q I r h
  obtain ⟨i, j, rfl, q⟩ := h
  obtain ⟨u, w', rfl, ⟨t, rfl⟩, ⟨t', rfl⟩⟩ := vals2 r
  refine min_two_ints (I.ok.hd hc) fun h' tk k => ⟨_, H, I.kept k, ?_, q⟩
  by_cases hj : j < i
  · rw [if_pos hj, if_pos hj]; exact ⟨_, rfl⟩
  · rw [if_neg hj, if_neg hj]; exact ⟨_, rfl⟩
end
end L2
namespace L2
open PySem PySem.Spec PyProof.Rows
structure ObjM (h : Heap) (x dx C : Addr) (mA : Str → Option Value) : Prop where
  obj : h.get? x = some (PySem.W.instObj C dx)
  ns : h.Ns1 dx mA
  ne : dx ≠ x
theorem lookIn_ns {h : Heap} {dx : Addr} {mA : Str → Option Value} (n : h.Ns1 dx mA) : ∃ od, h.get? dx = some od ∧ ∀ name, PySem.W.lookIn name od = some (mA name) := by
  obtain ⟨o, es, ep, ho, hd, hk, _, hm⟩ := n
  refine ⟨o, ho, fun name => ?_⟩
  have e := hm name
  unfold nsFind findBy at e
  rw [← Array.find?_toList] at e
  unfold PySem.W.lookIn
  rw [hd]
  dsimp only
  split
  · rename_i y q
    rw [q] at e
    exact congrArg some e
  · rename_i q
    rw [q] at e
    have a : es.toList.any (·.refKey) = false := by
      rw [List.any_eq_false]
      intro y hy
      obtain ⟨z, t, hkey⟩ := hk y (Array.mem_toList_iff.mp hy)
      simp [DictEntry.refKey, hkey]
    have a' : ¬ es.toList.any (·.refKey) = true := by rw [a]; exact Bool.false_ne_true
    rw [if_neg a']
    exact congrArg some e
theorem ObjM.look {h : Heap} {x dx C : Addr} {mA : Str → Option Value} (I : ObjM h x dx C mA) : ∃ od, PySem.W.InstAt h x (PySem.W.instObj C dx) C (some od) ∧ ∀ name, PySem.W.lookIn name od = some (mA name) :=
  let ⟨od, ho, hl⟩ := lookIn_ns I.ns
  ⟨od, ⟨I.obj, rfl, rfl, ho⟩, hl⟩
section
variable {prog : Program} {w : World} {A : Around} {E : Value → Shared → Prop} {s : Shared} {K : PySem.W.Frag} {x dx C f : Addr} {mA : Str → Option Value} {name : Str} {v : Value}
end
theorem RelO.some_of {v : V} {o : Option Value} (r : RelO (some v) o) : ∃ u, o = some u ∧ RelV v u := by
  cases o with
  | none => exact (show False from r).elim
  | some u => exact ⟨u, rfl, r⟩
section
variable {P : Program} {w : World} {H H' : Hp} {h h' : Heap} {a C dx : Addr} {fs fs' : List (Str × V)}
theorem ins_get (hok : HOk P w H h) (e : H a = some (.ins C dx fs)) : ∃ mA, ObjM h a dx C mA ∧ (∀ f, RelO (fs.lookup f) (mA f)) ∧ PySem.Within mA (fs.map (·.1)) ∧ fs.length ≤ 1000 ∧ H dx = some (.own a) := by
  obtain ⟨d, z, ne, ob, mA, n, r, q⟩ := (show ObjOk P w H h a (.ins C dx fs) from hok a _ e)
  exact ⟨mA, ⟨ob, n, ne⟩, r, q, z, d⟩
end
structure Cls (K : PySem.W.Frag) (C : Addr) : Prop where
  pg : PySem.W.plainGet K C Str.empty = true
  hd : PySem.W.hasDictIn K C = true
  po : PySem.W.plainOver K C = true
  sa : PySem.W.findIn K (.ref C) "__setattr__" = some (some (.builtin "object.__setattr__"))
theorem Cls.get {K : PySem.W.Frag} {C : Addr} (c : Cls K C) (f : Str) : PySem.W.plainGet K C f = true := c.pg
structure Con (K : PySem.W.Frag) (C : Addr) (f : Str) (v : V) (u : Value) : Prop where
  at_ : PySem.W.findIn K (.ref C) f = some (some u)
  rel : RelV v u
  get : PySem.W.specialIn K u "__get__" = some none
  cp : PySem.W.copiedNames.contains f = false
structure Meth (K : PySem.W.Frag) (C : Addr) (m : Str) (f : Addr) : Prop where
  at_ : PySem.W.findIn K (.ref C) m = some (some (.ref f))
  fn : PySem.W.isFn K (.ref f) = true
  kp : PySem.W.keepIn K (.ref f) = true
section
variable {X : Cx} {pins : List (Addr × Obj)} {σ : St} {H : Hp} {s : Shared} {a C dx : Addr} {fs : List (Str × V)} {f : Str} {v : V} {A : Around} {E : Value → Shared → Prop}
end
section
variable {X : Cx} {o e value : Expr} {f : Str} {pos pos' tpos : Pos} {ta tv : TE}
end
section
variable {X : Cx} {pins : List (Addr × Obj)} {σ : St} {H : Hp} {s : Shared} {A : Around} {E : Value → Shared → Prop} {Q : Value → Shared → Prop} {c : Value} {b : Bool}
inductive TyOf (K : PySem.W.Frag) (H : Hp) : V → Value → Prop where
  | non : TyOf K H .non (.type "NoneType")
  | bl (x : Bool) : TyOf K H (.bl x) (.type "bool")
  | int (i : Int) : TyOf K H (.int i) (.type "int")
  | str (x : Str) : TyOf K H (.str x) (.type "str")
  | flt (x : UInt64) : TyOf K H (.flt x) (.type "float")
  | lst {a : Addr} {xs : List V} (e : H a = some (.lst xs)) : TyOf K H (.ref a) (.type "list")
  | frz {a : Addr} {o : Obj} {xs : List V} (e : H a = some (.frz o (.lst xs))) : TyOf K H (.ref a) (.type "list")
  | tup {a : Addr} {xs : List V} (e : H a = some (.tup xs)) : TyOf K H (.ref a) (.type "tuple")
  | dK {a : Addr} {kvs : List (Key × V)} (e : H a = some (.dK kvs)) : TyOf K H (.ref a) (.type "dict")
  | dT {a : Addr} {kvs : List (List Key × V)} (e : H a = some (.dT kvs)) : TyOf K H (.ref a) (.type "dict")
  | ins {a C dx : Addr} {fs : List (Str × V)} (e : H a = some (.ins C dx fs)) (cl : Cls K C) (ha : PySem.W.findIn K (.ref C) "__class__" = some (some (.builtin "object.__class__")))
      (hn : PySem.W.specialIn K (.builtin "object.__class__") "__get__" = some (some (.builtin "getset_descriptor.__get__"))) (htk : PySem.W.takesIn K (.builtin "object.__class__") = some true)
      (hm : PySem.W.mroIn K C (.type "object") = some true) : TyOf K H (.ref a) (.ref C)
theorem isinst_ok {x : V} {u t : Value} (I : Inv X pins σ H s) (rx : RelV x u) (ty : TyOf X.K H x t) (e : PySem.W.kitOne X.K t c = some b) (h : ∀ tk, Q (.bool b) { s with toks := tk }) :
    wpAny (model X.prog X.w) A (call (.builtin "isinstance") [u, c]) Q E s := by
  cases ty with
  | non => cases (show u = Value.none from rx); exact PySem.W.kia_one PySem.W.kitx_none I.kIn True.intro e (fun z => nomatch z) h
  | bl y => cases (show u = Value.bool y from rx); exact PySem.W.kia_one PySem.W.kitx_bool I.kIn True.intro e (fun z => nomatch z) h
  | int i => obtain ⟨t, q⟩ := (show ∃ t, u = Value.int i t from rx); cases q; exact PySem.W.kia_one PySem.W.kitx_int I.kIn True.intro e (fun z => nomatch z) h
  | str y => obtain ⟨t, q⟩ := (show ∃ t, u = Value.str y t from rx); cases q; exact PySem.W.kia_one PySem.W.kitx_str I.kIn True.intro e (fun z => nomatch z) h
  | flt y => obtain ⟨t, q⟩ := (show ∃ t, u = Value.float y t from rx); cases q; exact PySem.W.kia_one PySem.W.kitx_float I.kIn True.intro e (fun z => nomatch z) h
  | @lst a xs ea =>
    cases (show u = Value.ref a from rx)
    obtain ⟨_, _, n, _, h1⟩ := (show ObjOk X.prog X.w H s.heap a (.lst xs) from I.hok a _ ea)
    exact PySem.W.kia_one PySem.W.kitx_list I.kIn ⟨_, h1, rfl⟩ e (fun z => nomatch z) h
  | @frz a ob xs ea =>
    cases (show u = Value.ref a from rx)
    obtain ⟨_, _, _, n, _, h1⟩ := (show ObjOk X.prog X.w H s.heap a (.frz ob (.lst xs)) from I.hok a _ ea)
    exact PySem.W.kia_one PySem.W.kitx_list I.kIn ⟨_, h1, rfl⟩ e (fun z => nomatch z) h
  | @tup a xs ea =>
    cases (show u = Value.ref a from rx)
    obtain ⟨_, _, _, p⟩ := (show ObjOk X.prog X.w H s.heap a (.tup xs) from I.hok a _ ea)
    obtain ⟨o, h1, h2, _⟩ := p
    exact PySem.W.kia_one PySem.W.kitx_tuple I.kIn ⟨o, h1, h2⟩ e (fun z => nomatch z) h
  | @dK a kvs ea =>
    cases (show u = Value.ref a from rx)
    obtain ⟨_, _, vs, _, p⟩ := (show ObjOk X.prog X.w H s.heap a (.dK kvs) from I.hok a _ ea)
    obtain ⟨o, es, ep, h1, h2, _⟩ := p
    exact PySem.W.kia_one PySem.W.kitx_dict I.kIn ⟨o, h1, h2.1⟩ e (fun z => nomatch z) h
  | @dT a kvs ea =>
    cases (show u = Value.ref a from rx)
    obtain ⟨_, _, xs, _, o, es, ep, h1, h2, _⟩ := (show ObjOk X.prog X.w H s.heap a (.dT kvs) from I.hok a _ ea)
    exact PySem.W.kia_one PySem.W.kitx_dict I.kIn ⟨o, h1, h2.1⟩ e (fun z => nomatch z) h
  | @ins a C dx fs ea cl ha hn htk hm =>
    cases (show u = Value.ref a from rx)
    obtain ⟨mA, O, _⟩ := ins_get I.hok ea
    obtain ⟨od, J, _⟩ := O.look
    exact PySem.W.kia_one (PySem.W.kitx_own (cl.get _) cl.hd ha hn htk hm) I.kIn J e (fun z => nomatch z) h
end
end L2
namespace L2
open PySem PySem.Spec PyProof.Rows
structure Room (k : Nat) (A : Around) : Prop where
  hd : A.handled = none
  dp : A.depth + 3 * k + 5 < recursionLimit
  un : A.units + 16 * k + 200 < cLine
  gd : A.guards = some []
theorem Room.mono {j k : Nat} {A : Around} (r : Room k A) (h : j ≤ k) : Room j A := ⟨r.hd, by have := r.dp; omega, by have := r.un; omega, r.gd⟩
theorem Room.deeper {k : Nat} {A : Around} (r : Room (k + 1) A) (env : Env) : Room k (A.deeper env) :=
  ⟨r.hd, by have := r.dp; show A.depth + 1 + 3 * k + 5 < _; omega, by have := r.un; show A.units + 3 + 16 * k + 200 < _; omega, by have := r.gd; first | exact this | simp [Around.deeper, this, pushGuards]⟩
theorem Room.depth {k : Nat} {A : Around} (r : Room k A) : A.depth < recursionLimit := by have := r.dp; omega
theorem Room.units {k : Nat} {A : Around} (r : Room k A) : A.units + 64 < cLine := by have := r.un; omega
theorem Room.units0 {k : Nat} {A : Around} (r : Room k A) : A.units < cLine := by have := r.un; omega
def tNil : TA := fun _ H Q => Q [] H
def tCons (ta : TE) (tr : TA) : TA := fun σ H Q => ta σ H fun x H1 => tr σ H1 fun xs H2 => Q (x :: xs) H2
section
variable {X : Cx} {e : Expr} {es : List Expr} {te : TE} {t : TA} {pos : Pos}
theorem pa_nil : PA X [] tNil := fun _ _ _ _ H Q I h => Calls.spliced_nil ⟨[], H, I, .nil, h⟩
theorem pa_cons (ha : PE X e te) (hr : PA X es t) (hs : starEach (e :: es) X.env = (false, eval e X.env) :: starEach es X.env := by rfl) : PA X (e :: es) (tCons te t) := by
  intro pos pins s σ H Q I h
  rw [hs]
  show wpAny _ _ (spliced ((false, eval e X.env) :: backTo pos (starEach es X.env))) _ _ s
  refine Calls.spliced_cons (thn (ha pins s σ H _ I h) fun u s1 ⟨x, H1, I1, r1, q1⟩ => ?_)
  exact thn (hr pos pins s1 σ H1 _ I1 q1) fun us s2 ⟨xs, H2, I2, r2, q2⟩ => ⟨x :: xs, H2, I2, .cons r1 r2, q2⟩
def tTup (t : TA) : TE := fun σ H Q => t σ H fun xs H1 => xs.length ≤ sizeLine ∧ ∀ p, H1 p = none → Q (.ref p) (upd H1 p (.tup xs))
def tLst (t : TA) : TE := fun σ H Q => t σ H fun xs H1 => xs.length ≤ sizeLine ∧ ∀ p, H1 p = none → Q (.ref p) (upd H1 p (.lst xs))
theorem pe_tup {x1} (h : PA X es t) : PE X (.Tuple es x1 pos) (tTup t) := by
  intro pins s σ H Q I hq
  refine wpAny_Tuple_spliced (thn (h pos pins s σ H _ I hq) fun us s1 ⟨xs, H1, I1, r, z, q⟩ => ⟨by rw [← r.length]; exact z, ?_⟩)
  have hf : H1 s1.heap.objs.size = none := I1.hok.fresh (Nat.le_refl _)
  refine ⟨.ref s1.heap.objs.size, upd H1 s1.heap.objs.size (.tup xs), I1.laid (t' := s1.toks) (fun b u e => Heap.get?_push_of_some _ e) (Nat.le_refl _) ?_, rfl, q _ hf⟩
  exact ⟨⟨z, nod_push _ _⟩, us, r, ⟨_, Heap.get?_push_size _ rfl, rfl, _, rfl⟩⟩
theorem pe_lst (h : PA X es t) : PE X (.List es pos) (tLst t) := by
  intro pins s σ H Q I hq
  refine wpAny_List_spliced (thn (h pos pins s σ H _ I hq) fun us s1 ⟨xs, H1, I1, r, z, q⟩ => ⟨by rw [← r.length]; exact z, ?_⟩)
  have hf : H1 s1.heap.objs.size = none := I1.hok.fresh (Nat.le_refl _)
  refine ⟨.ref s1.heap.objs.size, upd H1 s1.heap.objs.size (.lst xs), I1.laid (t' := s1.toks) (fun b u e => Heap.get?_push_of_some _ e) (Nat.le_refl _) ?_, rfl, q _ hf⟩
  exact ⟨z, us, 0, r, Heap.get?_push_size _ rfl⟩
end
abbrev Sp := List V → Hp → VK → XK → Prop
abbrev CXT := List Env → Hp → Shared → XK → Value → Shared → Prop
structure Env0 (P : Program) (w : World) (K : PySem.W.Frag) (mg : Str → Option Value) (base : Heap) (A : Around) (outer : List Env) (s : Shared) (H : Hp) : Prop where
  frames : A.frames = some outer
  mod : Mod K mg base
  bs : ∀ b o, base.get? b = some o → s.heap.get? b = some o ∧ H b = none
  bsz : base.objs.size ≤ s.heap.objs.size
  funs : s.heap.FunFrames base outer
  frf : ∀ b ∈ frs outer, H b = none
  hok : HOk P w H s.heap
  bare : AllBare s.gens
def CE (outer : List Env) (P : Program) (w : World) (H : Hp) (s : Shared) (Q : VK) (u : Value) (s' : Shared) : Prop :=
  ∃ v H', s'.os = s.os ∧ AllBare s'.gens ∧ Un (frs outer) [] H H' s.heap s'.heap ∧ HOk P w H' s'.heap ∧ RelV v u ∧ Q v H'
def CR (CX : CXT) (outer : List Env) (P : Program) (w : World) (H : Hp) (s : Shared) (Q : VK) (E : XK) (r : Result) (s' : Shared) : Prop :=
  match r with
  | .ok (.ret u) => CE outer P w H s Q u s'
  | .ok _ => False
  | .error e => CX outer H s E e s'
structure FnOk (P : Program) (w : World) (K : PySem.W.Frag) (mg : Str → Option Value) (base : Heap) (CX : CXT) (k : Nat) (f : Addr) (fd : FuncData) (ps : List Str) (sp : Sp) : Prop where
  len : ∀ vs H Q E, sp vs H Q E → vs.length = ps.length
  run : ∀ (A : Around) (outer : List Env) (s : Shared) (H : Hp) (args : Args) (us : List Value) (vs : List V) (Q : VK) (E : XK), Room k A → Env0 P w K mg base A outer s H → BindsTo s fd args (ps.zip us) → Vals vs us → sp vs H Q E →
    codeAny (model P w) A (.call (.ref f) args) (CR CX outer P w H s Q E) s
section
variable {X : Cx} {pins : List (Addr × Obj)} {σ : St} {H : Hp} {s s' : Shared}
theorem Inv.env0 (I : Inv X pins σ H s) : Env0 X.prog X.w X.K X.mg X.base X.A X.stack s H :=
  ⟨I.ok.frames, I.ok.mod, I.bs, Nat.le_trans I.ok.bsz I.sz, I.stack, I.stkFree, I.hok, I.bare⟩
theorem Inv.after {Q : VK} {u : Value} (I : Inv X pins σ H s) (h : CE X.stack X.prog X.w H s Q u s') : EP X pins σ Q u s' := by
  obtain ⟨v, H', os, bare, un, hok, r, q⟩ := h
  obtain ⟨hh, g, d, t, os'⟩ := s'
  obtain rfl : os' = s.os := os
  exact ⟨v, H', I.call (h' := hh) (g' := g) (d' := d) (t' := t) (ch := []) un hok bare (fun b z => absurd z (by simp)), r, q⟩
end
def tCall (sp : Sp) (dvs : List V) (E : XK) (t : TA) : TE := fun σ H Q => t σ H fun vs H1 => sp (vs ++ dvs) H1 Q E
def Binds (K : PySem.W.Frag) (fd : FuncData) (ps : List Str) (ds : List Value) : Prop :=
  ∀ (s : Shared) (us : List Value), K.In s.heap → (us ++ ds).length = ps.length → BindsTo s fd ⟨us, []⟩ (ps.zip (us ++ ds))
theorem Binds.all {K : PySem.W.Frag} {fd : FuncData} {ps : List Str} (h : ∀ us : List Value, us.length = ps.length → bindArgs fd ⟨us, []⟩ = pure (ps.zip us)) : Binds K fd ps [] := fun s us _ hl => by
  rw [List.append_nil] at hl ⊢
  exact .of_eq (h us hl)
def Passes (CX : CXT) (X : Cx) (E : XK) : Prop := ∀ (pins : List (Addr × Obj)) (σ : St) (H : Hp) (s : Shared) (e : Value) (s' : Shared), Inv X pins σ H s → CX X.stack H s E e s' → X.xe e s'
section
variable {X : Cx} {CX : CXT} {k : Nat} {f C : Addr} {fd : FuncData} {ps : List Str} {sp : Sp} {dvs : List V} {ds : List Value} {E : XK} {x m : Str} {p pos apos : Pos} {e o : Expr} {es : List Expr} {ta : TE} {t : TA}
theorem run_fn {pins : List (Addr × Obj)} {σ : St} {H : Hp} {s : Shared} {Q : VK} {us : List Value} {vs : List V} (F : FnOk X.prog X.w X.K X.mg X.base CX k f fd ps sp) (hr : Room k X.A) (hb : Binds X.K fd ps ds) (hd : Vals dvs ds) (hx : Passes CX X E)
    (I : Inv X pins σ H s) (r : Vals vs us) (h : sp (vs ++ dvs) H Q E) : wpAny (model X.prog X.w) X.A (call (.ref f) us) (EP X pins σ Q) X.xe s := by
  have r2 : Vals (vs ++ dvs) (us ++ ds) := r.append hd
  have hl : (us ++ ds).length = ps.length := by rw [← r2.length]; exact F.len _ _ _ _ h
  refine wpAny_call (codeAny_mono (F.run X.A X.stack s H ⟨us, []⟩ (us ++ ds) (vs ++ dvs) Q E hr I.env0 (hb s us I.kIn hl) r2 h) fun r s' hq => ?_)
  cases r with
  | error e => exact hx pins σ H s e s' I hq
  | ok fl =>
    cases fl with
    | ret u => exact I.after hq
    | next => exact False.elim hq
    | brk => exact False.elim hq
    | cont => exact False.elim hq
theorem pe_call (F : FnOk X.prog X.w X.K X.mg X.base CX k f fd ps sp) (hr : Room k X.A) (hg : Gl X x) (hm : X.mg x = some (.ref f)) (hk : PySem.W.keepIn X.K (.ref f) = true) (hb : Binds X.K fd ps ds) (hd : Vals dvs ds) (hx : Passes CX X E)
    (ha : PA X (e :: es) t) (hdb : (x == ("__debug__" : Str)) = false := by decide) (he : starEach (e :: es) X.env = (false, eval e X.env) :: starEach es X.env := by rfl) (hpl : (backTo pos (starEach es X.env)).any (·.1) = false := by rfl) :
    PE X (.Call (.Name x p) (e :: es) [] pos) (tCall sp dvs E t) := by
  intro pins s σ H Q I h
  refine wpAny_Call_Name_kw (ld_glob I hg hm ?_ hdb)
  refine PySem.W.callWith_K (h₀ := X.base) I.ok.mod.kin hk (thn (ha pos pins s σ H _ I h) fun us s1 ⟨vs, H1, I1, r, q⟩ => ⟨I1.kIn, ?_⟩) he hpl
  exact run_fn F hr hb hd hx I1 r q
structure Mk (K : PySem.W.Frag) (C f : Addr) : Prop where
  makes : PySem.W.makesIn K C = true
  init : PySem.W.findIn K (.ref C) "__init__" = some (some (.ref f))
  fn : PySem.W.isFn K (.ref f) = true
  kp : PySem.W.keepIn K (.ref C) = true
end
section
variable {X : Cx} {CX : CXT} {k : Nat} {f C : Addr} {fd : FuncData} {ps ks : List Str} {sp : Sp} {E : XK} {x m : Str} {p pos apos kpos : Pos} {e o : Expr} {es : List Expr} {kws : List Keyword} {te ta : TE} {t tk : TA} {nm : Option Str}
structure KBinds (K : PySem.W.Frag) (fd : FuncData) (ps ks : List Str) (g : List Value → List Value → List Value) (gV : List V → List V → List V) : Prop where
  to : ∀ (s : Shared) (us ws : List Value), K.In s.heap → (g us ws).length = ps.length → BindsTo s fd ⟨us, ks.zip ws⟩ (ps.zip (g us ws))
  rel : ∀ {vs : List V} {us : List Value} {zs : List V} {ws : List Value}, Vals vs us → Vals zs ws → Vals (gV vs zs) (g us ws)
variable {g : List Value → List Value → List Value} {gV : List V → List V → List V}
end
structure FnScope (N P : List Str) (sc : Scope) : Prop where
  kind : sc.kind = .function
  co : sc.isCoroutine = false
  gen : sc.isGenerator = false
  nd : N.Nodup
  pre : N.take P.length = P
  par : ∀ x ∈ P, sc.names.lookup x = some .local ∨ sc.names.lookup x = some .cell
  nofree : ∀ y ∈ sc.names, y.2 ≠ .free
theorem bindL_out {kindOf : Str → Option NameKind} {x : Str} : ∀ {binds : List (Str × Value)} {m : Str → Option Value}, (∀ v, (x, v) ∉ binds) → bindL kindOf binds m x = m x
  | [], _, _ => rfl
  | (n, v) :: r, m, h => by
    unfold bindL
    rw [bindL_out fun w hw => h w (List.mem_cons_of_mem _ hw)]
    split
    · have : x ≠ n := by rintro rfl; exact h v List.mem_cons_self
      simp [this]
    · rfl
theorem bindC_out {kindOf : Str → Option NameKind} {x : Str} : ∀ {binds : List (Str × Value)} {m : Str → Option Value}, (∀ v, (x, v) ∉ binds) → bindC kindOf binds m x = m x
  | [], _, _ => rfl
  | (n, v) :: r, m, h => by
    unfold bindC
    rw [bindC_out fun w hw => h w (List.mem_cons_of_mem _ hw)]
    split
    · rfl
    · have : x ≠ n := by rintro rfl; exact h v List.mem_cons_self
      simp [this]
theorem bindL_get {kindOf : Str → Option NameKind} {x : Str} {v : Value} : ∀ {P : List Str} {vs : List Value} {i : Nat} {m : Str → Option Value}, P.Nodup → P[i]? = some x → vs[i]? = some v → kindOf x = some .local →
    bindL kindOf (P.zip vs) m x = some v
  | [], _, _, _, _, h, _, _ => by simp at h
  | _ :: _, [], _, _, _, _, h, _ => by simp at h
  | p :: P, w :: vs, 0, m, nd, h1, h2, hk => by
    simp at h1 h2; subst h1; subst h2
    show bindL kindOf ((p, w) :: P.zip vs) m p = _
    unfold bindL
    rw [bindL_out fun v hv => (List.nodup_cons.mp nd).1 (List.of_mem_zip hv).1, if_pos hk]
    simp
  | p :: P, w :: vs, i + 1, m, nd, h1, h2, hk => by
    show bindL kindOf ((p, w) :: P.zip vs) m x = _
    unfold bindL
    exact bindL_get (i := i) (List.nodup_cons.mp nd).2 (by simpa using h1) (by simpa using h2) hk
theorem bindC_get {kindOf : Str → Option NameKind} {x : Str} {v : Value} : ∀ {P : List Str} {vs : List Value} {i : Nat} {m : Str → Option Value}, P.Nodup → P[i]? = some x → vs[i]? = some v → kindOf x ≠ some .local →
    bindC kindOf (P.zip vs) m x = some v
  | [], _, _, _, _, h, _, _ => by simp at h
  | _ :: _, [], _, _, _, _, h, _ => by simp at h
  | p :: P, w :: vs, 0, m, nd, h1, h2, hk => by
    simp at h1 h2; subst h1; subst h2
    show bindC kindOf ((p, w) :: P.zip vs) m p = _
    unfold bindC
    rw [bindC_out fun v hv => (List.nodup_cons.mp nd).1 (List.of_mem_zip hv).1, if_neg hk]
    simp
  | p :: P, w :: vs, i + 1, m, nd, h1, h2, hk => by
    show bindC kindOf ((p, w) :: P.zip vs) m x = _
    unfold bindC
    exact bindC_get (i := i) (List.nodup_cons.mp nd).2 (by simpa using h1) (by simpa using h2) hk
def start (N : List Str) (vs : List V) : St := vs.map some ++ List.replicate (N.length - vs.length) none
def cxOf (CX : CXT) (P : Program) (w : World) (K : PySem.W.Frag) (mg : Str → Option Value) (base : Heap) (N : List Str) (qual : Str) (scope : Scope) (f : Addr) (cd : Value) (A : Around) (outer : List Env) (s : Shared) (H : Hp) (E : XK) : Cx where
  prog := P
  w := w
  K := K
  mg := mg
  base := base
  A := A.deeper (envOfC qual scope s.heap.objs.size f cd)
  N := N
  s₀ := s
  H₀ := H
  env := envOfC qual scope s.heap.objs.size f cd
  outer := outer
  stack := envOfC qual scope s.heap.objs.size f cd :: outer
  ex := []
  calm := true
  fn := fun _ => true
  pn := []
  xe := fun e s' => wpAny (model P w) (A.deeper (envOfC qual scope s.heap.objs.size f cd)) (leaving (envOfC qual scope s.heap.objs.size f cd) e) (fun _ s'' => CX outer H s E e s'') (fun e' s'' => CX outer H s E e' s'') s'
theorem cell_has {sc : Scope} {n : Nat} {x : Str} (h : sc.names.lookup x = some .cell) : ∃ c, (cellsFrom n sc.names []).lookup x = some c := by
  have q := PySem.W.cellsFrom_some sc.names n [] (.inl h)
  exact Option.isSome_iff_exists.mp q
theorem inv_start {CX : CXT} {P : Program} {w : World} {K : PySem.W.Frag} {mg : Str → Option Value} {base : Heap} {N ps : List Str} {qual : Str} {scope : Scope} {f : Addr} {cd : Value} {A : Around} {outer : List Env} {s s1 : Shared} {H : Hp} {E : XK} {us : List Value} {vs : List V}
    (S : FnScope N ps scope) (hd : A.handled = none) (e0 : Env0 P w K mg base A outer s H) (hl : vs.length = ps.length) (r : Vals vs us)
    (x : InCallC s s.heap.objs.size (bindL (envOfC qual scope s.heap.objs.size f cd).kindOf (ps.zip us) fun _ => none) (cellsFrom (s.heap.objs.size + 1) scope.names []) (bindC (envOfC qual scope s.heap.objs.size f cd).kindOf (ps.zip us) fun _ => none) s1) :
    Inv (cxOf CX P w K mg base N qual scope f cd A outer s H E) [] (start N vs) H s1 := by
  have hpl : ps.length ≤ N.length := by have := congrArg List.length S.pre; rw [List.length_take] at this; omega
  obtain ⟨h1, tk, rfl, hk⟩ := x.done
  have noA : ∀ b : Addr, b ∉ (cxOf CX P w K mg base N qual scope f cd A outer s H E).ex := fun b z => absurd (show b ∈ ([] : List Addr) from z) (by simp)
  refine ⟨⟨e0.mod, S.kind, rfl, rfl, Nat.le_refl _, fun y z c h1 h2 => ?_, fun y hy => ?_, fun y c _ h => ?_, fun _ => hd, Around.frames_deeper e0.frames, .inr ⟨rfl, rfl⟩, fun b z => absurd z (noA b), e0.bs, e0.bsz, fun b _ _ => noA b, fun b z => absurd z (noA b), e0.funs, e0.frf⟩,
    rfl, e0.bare, Un.kept hk, ⟨_, x.toInCall.ns, fun i y v h1 h2 h3 => ?_⟩, fun y c h => ⟨_, x.cell y c h⟩, e0.hok.fresh (Nat.le_refl _), fun y c h => ?_, fun p hp => absurd (show p ∈ ([] : List (Addr × Obj)) from hp) (by simp), e0.hok.kept hk, ?_⟩
  · exact name_of_addr x.apart (PySem.mem_of_lookup h1) (PySem.mem_of_lookup h2)
  · have hy : scope.names.lookup y = some .cell ∨ scope.names.lookup y = some .free := hy
    rcases hy with hy | hy
    · exact cell_has hy
    · exact absurd rfl (S.nofree _ (PySem.mem_of_lookup hy))
  · exact Nat.le_of_lt (x.above y c (PySem.mem_of_lookup h))
  · have hi : i < vs.length := by
      unfold start at h2
      by_cases hi : i < vs.length
      · exact hi
      · rw [List.getElem?_append_right (by simpa using hi)] at h2
        rw [List.getElem?_replicate] at h2
        split at h2 <;> cases h2
    have ha : vs[i]? = some v := by
      unfold start at h2
      rw [List.getElem?_append_left (by simpa using hi), List.getElem?_map] at h2
      cases e : vs[i]? with
      | none => rw [e] at h2; cases h2
      | some a => rw [e] at h2; cases h2; rfl
    obtain ⟨u, hu, rv⟩ := r.get ha
    have hp : ps[i]? = some y := by
      rw [← S.pre, List.getElem?_take_of_lt (by omega)]; exact h1
    have ndP : ps.Nodup := by rw [← S.pre]; exact S.nd.sublist (List.take_sublist _ _)
    refine ⟨u, rv, ?_⟩
    rcases S.par y (List.mem_of_getElem? hp) with k | k
    · exact .inl ⟨k, bindL_get ndP hp hu k⟩
    · obtain ⟨c, e⟩ := cell_has (n := s.heap.objs.size + 1) k
      refine .inr ⟨.inl k, c, e, ?_⟩
      have q := x.cell y c e
      rw [bindC_get ndP hp hu (by show scope.names.lookup y ≠ _; rw [k]; decide)] at q
      exact q
  · exact e0.hok.fresh (Nat.le_of_lt (x.above y c (PySem.mem_of_lookup h)))
  · unfold start
    show _ = N.length
    rw [List.length_append, List.length_map, List.length_replicate]
    omega
theorem fn_of {CX : CXT} {P : Program} {w : World} {K : PySem.W.Frag} {mg : Str → Option Value} {base : Heap} {k : Nat} {f : Addr} {name qual : Str} {params : Arguments} {body : List Stmt} {scope : Scope} {dV kV doc pm cdv ct oc : Value} {an od : Option Addr}
    {osl : Array (Option Value)} {N ps : List Str} {sp : Sp} (lk : K.lookup f = some ⟨oc, od, .func (PySem.W.fnOf name qual params body scope dV kV doc pm an cdv ct), osl⟩) (hcd : PySem.W.codeIn K cdv qual = true) (S : FnScope N ps scope)
    (len : ∀ vs H Q E, sp vs H Q E → vs.length = ps.length)
    (hbody : ∀ (A : Around) (outer : List Env) (s : Shared) (H : Hp) (vs : List V) (Q : VK) (E : XK), Room k (A.deeper (envOfC qual scope s.heap.objs.size f cdv)) → sp vs H Q E →
      ∃ t, PSs (cxOf CX P w K mg base N qual scope f cdv A outer s H E) body t ∧ t { nx := fun _ H' => Q .non H', rt := Q } (start N vs) H) :
    FnOk P w K mg base CX (k + 1) f (PySem.W.fnOf name qual params body scope dV kV doc pm an cdv ct) ps sp := by
  refine ⟨len, fun A outer s H args us vs Q E hr e0 hb r hsp => ?_⟩
  have hl := len _ _ _ _ hsp
  have KX : K.In s.heap := e0.mod.kin.keeps fun b o e => (e0.bs b o e).1
  have lim : s.heap.NoLimit := e0.mod.nolimit.keeps fun b o e => (e0.bs b o e).1
  have hkind : ∀ y ∈ ps.zip us, scope.names.lookup y.1 = some .local ∨ (scope.names.lookup y.1 = some .cell ∧ ((cellsFrom (s.heap.objs.size + 1) scope.names []).lookup y.1).isSome = true) := fun ⟨n, v⟩ hy => by
    rcases S.par n (List.of_mem_zip hy).1 with q | q
    · exact .inl q
    · exact .inr ⟨q, PySem.W.cellsFrom_some _ _ _ (.inl q)⟩
  refine codeAny_call_function hr.depth (KX _ _ lk) rfl S.co S.gen rfl (PySem.W.codeRec_of KX hcd) (hb _ _ _ _ ?_)
  refine wpAny_newFunctionEnv_cells S.kind hkind fun env he s1 x => ?_
  subst he
  refine ⟨lim.keeps x.toInCall.keep, codeAny_func ?_⟩
  obtain ⟨t, ht, hq⟩ := hbody A outer s H vs Q E (hr.deeper _) hsp
  have I : Inv (cxOf CX P w K mg base N qual scope f cdv A outer s H E) [] (start N vs) H s1 := inv_start S hr.hd e0 hl r x
  refine wpAny_mono (ht [] s1 (start N vs) H _ I hq) (fun fl s' hs => ?_) fun e s' hs => hs
  have fin : ∀ {σ' : St} {H' : Hp} {v : V} {u : Value}, Inv (cxOf CX P w K mg base N qual scope f cdv A outer s H E) [] σ' H' s' → RelV v u → Q v H' → CE outer P w H s Q u s' :=
    fun {σ' H' v u} J rv q => ⟨v, H', J.os, J.bare, J.base, J.hok, rv, q⟩
  cases fl with
  | ret u =>
    obtain ⟨v, σ', H', J, rv, q⟩ := hs
    exact fin J rv q
  | next =>
    obtain ⟨σ', H', J, q⟩ := hs
    exact fin (v := V.non) (u := Value.none) J rfl q
  | brk =>
    obtain ⟨_, _, _, q⟩ := hs
    exact False.elim q
  | cont =>
    obtain ⟨_, _, _, q⟩ := hs
    exact False.elim q
end L2
namespace L2
open PySem PySem.Spec PyProof.Rows
section
variable {X : Cx} {x : Str} {p pos : Pos} {e : Expr} {es : List Expr} {t : TA} {id T : String} {r : List V → Hp → VK → Prop}
def tCB (r : List V → Hp → VK → Prop) (t : TA) : TE := fun σ H Q => t σ H fun vs H1 => r vs H1 Q
theorem pe_callB (hc : CallR X (.builtin id) r) (hg : Gl X x) (hm : X.mg x = none) (hv : bootBuiltins x = some (.builtin id)) (ha : PA X (e :: es) t) (hn : x ≠ "__name__" := by decide) (hdb : (x == ("__debug__" : Str)) = false := by decide)
    (he : starEach (e :: es) X.env = (false, eval e X.env) :: starEach es X.env := by rfl) (hpl : (backTo pos (starEach es X.env)).any (·.1) = false := by rfl) : PE X (.Call (.Name x p) (e :: es) [] pos) (tCB r t) := by
  intro pins s σ H Q I h
  refine wpAny_Call_Name_kw (ld_blt I hg hm hv ?_ hn hdb)
  exact PyProof.Rows.callWith_builtin1 (thn (ha pos pins s σ H _ I h) fun us s1 ⟨vs, H1, I1, r1, q1⟩ => hc pins s1 σ H1 vs us Q I1 r1 q1) he hpl
theorem pe_callTy (hc : CallR X (.type T) r) (hg : Gl X x) (hm : X.mg x = none) (hv : bootBuiltins x = some (.type T)) (ha : PA X (e :: es) t) (hn : x ≠ "__name__" := by decide) (hdb : (x == ("__debug__" : Str)) = false := by decide)
    (he : starEach (e :: es) X.env = (false, eval e X.env) :: starEach es X.env := by rfl) (hpl : (backTo pos (starEach es X.env)).any (·.1) = false := by rfl) : PE X (.Call (.Name x p) (e :: es) [] pos) (tCB r t) := by
  intro pins s σ H Q I h
  refine wpAny_Call_Name_kw (ld_blt I hg hm hv ?_ hn hdb)
  exact PyProof.Rows.callWith_type1 (thn (ha pos pins s σ H _ I h) fun us s1 ⟨vs, H1, I1, r1, q1⟩ => hc pins s1 σ H1 vs us Q I1 r1 q1) he hpl
end
end L2
end
section
namespace HT
open PySem PyProof.Rows
section
open PySem.SeqAt
open PySem.AutoSeq1 (wpAny_loadPart')
open PySem.MeetsSeq PySem.MeetsSeq2 PySem.MeetsSeq3
end
section
variable {prog : Program} {w : World} {A : Around} {E : Value → Shared → Prop} {s : Shared}
theorem cat_tup {t b : Addr} {vs ws : List Value} {Q : Value → Shared → Prop} (ht : IsTup s.heap t vs.toArray) (hb : IsTup s.heap b ws.toArray) (hv : vs ≠ [])
    (h1 : ws = [] → Q (.ref t) s) (h2 : ws ≠ [] → Q (.ref s.heap.objs.size) { s with heap := s.heap.push { cls := .type "tuple", data := .seq (vs ++ ws).toArray } })
    (hsz : vs.length + ws.length ≤ sizeLine) : wpAny (model prog w) A (binaryOp .Add (.ref t) (.ref b)) Q E s := by
  obtain ⟨⟨cls, dd, data, sl⟩, ho, hc, n, hd⟩ := id ht
  obtain ⟨⟨cls2, dd2, data2, sl2⟩, ho2, hc2, n2, hd2⟩ := id hb
  simp only at hc hd hc2 hd2
  subst hc hd hc2 hd2
  have e : vs.toArray ++ ws.toArray = (vs ++ ws).toArray := by simp
  by_cases hw : ws = []
  · exact concat_meets ⟨_, ho, rfl⟩ ⟨_, ho2, rfl⟩ noFill_tuple_add seq_tuple_add PySem.F.slot_tuple_add PySem.F.entry_tuple_add (PySem.F.args_tuple_add_2 _ _)
      (tuple_addW1 t b vs.toArray ws.toArray n n2 dd dd2 sl sl2 (by simpa using hv) (by simp [hw])) ⟨ho, ho2, h1 hw⟩
  · refine concat_meets ⟨_, ho, rfl⟩ ⟨_, ho2, rfl⟩ noFill_tuple_add seq_tuple_add PySem.F.slot_tuple_add PySem.F.entry_tuple_add (PySem.F.args_tuple_add_2 _ _)
      (tuple_addW2 t b vs.toArray ws.toArray n n2 dd dd2 sl sl2 (by simpa using hv) (by simpa using hw) (by rw [List.size_toArray, List.size_toArray]; exact hsz)) ⟨ho, ho2, ?_⟩
    rw [e]
    exact h2 hw
def sIx (n d : Nat) : Option Int → Nat
  | none => d
  | some v => if v < 0 then (v + (n : Int)).toNat else min v.toNat n
theorem sIx_nat (n d k : Nat) : sIx n d (some (k : Int)) = min k n := by
  show (if (k : Int) < 0 then ((k : Int) + (n : Int)).toNat else min (k : Int).toNat n) = min k n
  rw [if_neg (by omega), Int.toNat_natCast]
theorem sIx_le (n d : Nat) (hd : d ≤ n) (o : Option Int) : sIx n d o ≤ n := by
  cases o with
  | none => exact hd
  | some v =>
    show (if v < 0 then (v + (n : Int)).toNat else min v.toNat n) ≤ n
    by_cases hv : v < 0
    · rw [if_pos hv]; omega
    · rw [if_neg hv]; exact Nat.min_le_right _ _
theorem clip_eq (v : Int) (n d : Nat) : (if v < 0 then max (v + (n : Int)) 0 else min v (n : Int)) = ((sIx n d (some v) : Nat) : Int) := by
  show (if v < 0 then max (v + (n : Int)) 0 else min v (n : Int)) = (((if v < 0 then (v + (n : Int)).toNat else min v.toNat n) : Nat) : Int)
  by_cases hv : v < 0
  · simp only [if_pos hv]; omega
  · simp only [if_neg hv]; omega
theorem adjust_gen (lo hi : Option Int) (n : Nat) : Builtin.Slice.sliceAdjust lo hi 1 (n : Int) = (((sIx n 0 lo : Nat) : Int), ((sIx n n hi : Nat) : Int)) := by
  have h1 : ¬ ((1 : Int) < 0) := by omega
  unfold Builtin.Slice.sliceAdjust
  simp only [h1, if_false]
  refine Prod.ext ?_ ?_
  · cases lo with
    | none => rfl
    | some v => exact clip_eq v n 0
  · cases hi with
    | none => rfl
    | some v => exact clip_eq v n n
theorem places_gen (i j : Nat) : Builtin.Slice.slicePlaces (i : Int) (j : Int) 1 = j - i := by
  unfold Builtin.Slice.slicePlaces
  have h1 : (1 : Int) > 0 := by omega
  simp only [h1, if_true, Int.ediv_one]
  split <;> omega
theorem slicePart_ {v : Value} {o : Option Int} {Q : Option Int → Shared → Prop} (p : IsPart v o) (h : Q o s) : wpAny (model prog w) A (Builtin.Slice.slicePartIndex v) Q E s := by
  cases p with
  | none => exact slicePart_none h
  | int i t => exact slicePart_int h
theorem sliceApplied_gen {sl : Addr} {vl vu : Value} {lo hi : Option Int} {n : Nat} {Q : Int × Int × Nat → Shared → Prop} (hs : s.heap.IsSliceOf sl vl vu .none) (pl : IsPart vl lo) (pu : IsPart vu hi)
    (h : Q (((sIx n 0 lo : Nat) : Int), 1, sIx n n hi - sIx n 0 lo) s) : wpAny (model prog w) A (Builtin.Slice.sliceApplied (.ref sl) (pure (n : Int))) Q E s := by
  obtain ⟨os, hos, hcs, hds⟩ := id hs
  unfold Builtin.Slice.sliceApplied Builtin.Slice.sliceFields
  refine wpAny_bind (wpAny_bind (wpAny_field hos hds (x := vl) rfl (wpAny_bind (wpAny_field hos hds (x := vu) rfl (wpAny_bind (wpAny_field hos hds (x := .none) rfl (wpAny_pure ?_)))))))
  refine wpAny_bind (slicePart_none ?_)
  show wpAny _ _ (if ((1 : Int) == 0) = true then _ else _) _ _ s
  rw [if_neg (by decide)]
  refine wpAny_bind (slicePart_ pl (wpAny_bind (slicePart_ pu (wpAny_bind (wpAny_pure ?_)))))
  show wpAny _ _ (match Builtin.Slice.sliceAdjust lo hi 1 (n : Int) with | (lo, hi) => pure (lo, (1 : Int), Builtin.Slice.slicePlaces lo hi 1)) _ _ s
  rw [adjust_gen lo hi n]
  show wpAny _ _ (pure (((sIx n 0 lo : Nat) : Int), (1 : Int), Builtin.Slice.slicePlaces ((sIx n 0 lo : Nat) : Int) ((sIx n n hi : Nat) : Int) 1)) _ _ s
  rw [places_gen]
  exact wpAny_pure h
theorem pick_gen (xs : Array Value) (i k : Nat) : ((List.range k).filterMap fun (m : Nat) => xs[((i : Int) + (m : Int) * 1).toNat]?).toArray = ((xs.toList.drop i).take k).toArray := by
  have e : (fun (m : Nat) => xs[((i : Int) + (m : Int) * 1).toNat]?) = fun m => xs[i + m]? := by
    funext m
    have : ((i : Int) + (m : Int) * 1).toNat = i + m := by omega
    rw [this]
  rw [e]
  have := pick_run xs i k
  rw [List.filterMap_map] at this
  have e2 : ((fun x => xs[x]?) ∘ fun x => i + x) = fun m => xs[i + m]? := rfl
  rw [e2] at this
  rw [this]
theorem getItem_tuple_cut {t sl : Addr} {items : Array Value} {vl vu : Value} {lo hi : Option Int} {Q : Value → Shared → Prop} (ht : IsTup s.heap t items) (hs : s.heap.IsSliceOf sl vl vu .none) (pl : IsPart vl lo) (pu : IsPart vu hi)
    (hw : ¬ (sIx items.size 0 lo = 0 ∧ sIx items.size items.size hi = items.size))
    (h : Q (.ref s.heap.objs.size) { s with heap := s.heap.push { cls := .type "tuple", data := .seq ((items.toList.drop (sIx items.size 0 lo)).take (sIx items.size items.size hi - sIx items.size 0 lo)).toArray } })
    (hsz : items.size ≤ sizeLine) : wpAny (model prog w) A (getItem (.ref t) (.ref sl)) Q E s := by
  have htake : sizeOk (.seq ((items.toList.drop (sIx items.size 0 lo)).take (sIx items.size items.size hi - sIx items.size 0 lo)).toArray) := by
    show ((items.toList.drop (sIx items.size 0 lo)).take (sIx items.size items.size hi - sIx items.size 0 lo)).toArray.size ≤ sizeLine
    rw [List.size_toArray, List.length_take, List.length_drop, Array.length_toList]
    omega
  have hj : sIx items.size items.size hi ≤ items.size := sIx_le _ _ (Nat.le_refl _) hi
  obtain ⟨os, hos, hcs, hds⟩ := id hs
  have hTs : s.TypeIs (.ref sl) "slice" := ⟨os, hos, hcs⟩
  unfold getItem
  try with_reducible refine wpAny_holding ?_
  first | refine wpAny_bind (wpAny_pure ?_) | skip
  refine wpAny_bind (wpAny_sequenceKey ht.typeIs (by decide) ?_)
  refine wpAny_bind (wpAny_callSpecial?_slot (name := Str.ofString "__getitem__") ht.typeIs PyProof.Rows.slot_tuple_getitem
    (wpAny_call_entry PyProof.Rows.slot_tuple_getitem ht.typeIs entry_tuple_getitem ?_ (args_tuple_getitem _ _)))
  show wpAny _ _ (Builtin.Tuple.tupleItemsOf (.ref t) >>= _) _ _ s
  refine wpAny_bind (tupleItemsOf_ ht ?_)
  refine wpAny_bind (wpAny_typeOf hTs ?_)
  rw [if_pos (by decide)]
  refine wpAny_bind (sliceApplied_gen hs pl pu ?_)
  have hno : ¬ ((((sIx items.size 0 lo : Nat) : Int) == 0 && (1 : Int) == 1 && (sIx items.size items.size hi - sIx items.size 0 lo) == items.size) = true) := by
    intro q
    rw [Bool.and_eq_true, Bool.and_eq_true] at q
    have q1 : ((sIx items.size 0 lo : Nat) : Int) = 0 := eq_of_beq q.1.1
    have q2 : sIx items.size items.size hi - sIx items.size 0 lo = items.size := eq_of_beq q.2
    exact hw ⟨by omega, by omega⟩
  show wpAny _ _ (if (((sIx items.size 0 lo : Nat) : Int) == 0 && (1 : Int) == 1 && (sIx items.size items.size hi - sIx items.size 0 lo) == items.size) = true then _ else _) _ _ s
  rw [if_neg hno, pick_gen]
  first
    | exact wpAny_bind (m := Builtin.Tuple.tupleExact _) (wpAny_newObj_type (wpAny_pure ⟨_, rfl, wpAny_pure h⟩) htake)
    | exact wpAny_bind (m := Builtin.Tuple.tupleExact _) (wpAny_newObj_type (wpAny_bind (wpAny_pure (wpAny_pure ⟨_, rfl, wpAny_pure h⟩))) htake)
    | exact wpAny_bind (wpAny_bind (m := Builtin.Tuple.tupleExact _) (wpAny_newObj_type (wpAny_pure (wpAny_pure ⟨_, rfl, wpAny_pure h⟩)) htake))
    | exact wpAny_bind (wpAny_bind (m := Builtin.Tuple.tupleExact _) (wpAny_newObj_type (wpAny_pure ⟨_, rfl, wpAny_pure h⟩) htake))
end
end HT
namespace L2
open PySem PySem.Spec PyProof.Rows
abbrev TO := St → Hp → (Option Int → Hp → Prop) → Prop
def PO (X : Cx) (e : Option Expr) (t : TO) : Prop :=
  ∀ (pins : List (Addr × Obj)) (s : Shared) (σ : St) (H : Hp) (Q : Option Int → Hp → Prop), Inv X pins σ H s → t σ H Q →
    wpAny (model X.prog X.w) X.A (evalPart e X.env) (fun u s' => ∃ o H', Inv X pins σ H' s' ∧ IsPart u o ∧ Q o H') X.xe s
def tNoPart : TO := fun _ H Q => Q none H
def tPart (t : TE) : TO := fun σ H Q => t σ H fun x H1 => ∃ i, x = .int i ∧ Q (some i) H1
section
variable {X : Cx} {e : Expr} {te : TE} {lo hi : Option Expr} {tl th : TO} {pos p2 : Pos}
theorem po_none : PO X none tNoPart := by
  intro pins s σ H Q I h
  rw [evalPart_none]
  exact wpAny_pure ⟨none, H, I, .none, h⟩
theorem po_some (h : PE X e te) : PO X (some e) (tPart te) := by
  intro pins s σ H Q I hw
  rw [evalPart_some]
  refine thn (h pins s σ H _ I hw) fun u s1 ⟨x, H1, I1, r1, q1⟩ => ?_
  obtain ⟨i, rfl, q⟩ := q1
  obtain ⟨t, rfl⟩ := r1
  exact ⟨some i, H1, I1, .int i t, q⟩
def SlR (X : Cx) (r : V → Option Int → Option Int → Hp → VK → Prop) : Prop :=
  ∀ (pins : List (Addr × Obj)) (s : Shared) (σ : St) (H : Hp) (x : V) (v vl vu : Value) (lo hi : Option Int) (sl : Addr) (Q : VK), Inv X pins σ H s → RelV x v → s.heap.IsSliceOf sl vl vu .none → IsPart vl lo → IsPart vu hi → r x lo hi H Q →
    ∃ T id, typeLookup (.type T) "__getitem__" = pure (some (.builtin id)) ∧ s.TypeIs v T ∧ wpAny (model X.prog X.w) X.A (getItem v (.ref sl)) (EP X pins σ Q) X.xe s
theorem SlR.or {r r' : V → Option Int → Option Int → Hp → VK → Prop} (h : SlR X r) (h' : SlR X r') : SlR X (fun x lo hi H Q => r x lo hi H Q ∨ r' x lo hi H Q) := by
  intro pins s σ H x v vl vu lo hi sl Q I rx hs pl pu q
  rcases q with q | q
  · exact h pins s σ H x v vl vu lo hi sl Q I rx hs pl pu q
  · exact h' pins s σ H x v vl vu lo hi sl Q I rx hs pl pu q
def tSl (r : V → Option Int → Option Int → Hp → VK → Prop) (te : TE) (tl th : TO) : TE := fun σ H Q => te σ H fun x H1 => tl σ H1 fun l H2 => th σ H2 fun u H3 => r x l u H3 Q
theorem pe_slice {r : V → Option Int → Option Int → Hp → VK → Prop} (hr : SlR X r) (he : PE X e te) (hl : PO X lo tl) (hu : PO X hi th) : PE X (.Subscript e (.Slice lo hi none p2) pos) (tSl r te tl th) := by
  intro pins s σ H Q I h
  refine Subscript_ (thn (he pins s σ H _ I h) fun v s1 ⟨x, H1, I1, r1, q1⟩ => ?_)
  refine wpAny_Slice (thn (hl pins s1 σ H1 _ I1 q1) fun vl s2 ⟨l, H2, I2, pl, q2⟩ => thn (hu pins s2 σ H2 _ I2 q2) fun vu s3 ⟨u, H3, I3, pu, q3⟩ => ?_)
  rw [evalPart_none]
  refine wpAny_pure ?_
  have I4 : Inv X pins σ H3 { s3 with heap := s3.heap.push { cls := .type "slice", data := .fields #[vl, vu, .none] } } := I3.kept (t' := s3.toks) fun b ob q => Heap.get?_push_of_some _ q
  obtain ⟨T, id, hT, ht, hg⟩ := hr pins { s3 with heap := s3.heap.push { cls := .type "slice", data := .fields #[vl, vu, .none] } } σ H3 x v vl vu l u s3.heap.objs.size Q I4 r1 (Heap.IsSliceOf.new ..) pl pu q3
  show wpAny (model X.prog X.w) X.A (subscriptTail e (.Slice lo hi none p2) v (.ref s3.heap.objs.size)) (EP X pins σ Q) X.xe { s3 with heap := s3.heap.push { cls := .type "slice", data := .fields #[vl, vu, .none] } }
  exact tail_any (ops := [.ref s3.heap.objs.size, v]) ht hT hg (by with_unfolding_all rfl)
def cutV (xs : List V) (lo hi : Option Int) : List V := (xs.drop (HT.sIx xs.length 0 lo)).take (HT.sIx xs.length xs.length hi - HT.sIx xs.length 0 lo)
theorem cutV_length (xs : List V) (lo hi : Option Int) : (cutV xs lo hi).length ≤ xs.length := by
  unfold cutV
  rw [List.length_take, List.length_drop]
  omega
def rSlT (K : PySem.W.Frag) : V → Option Int → Option Int → Hp → VK → Prop := fun x lo hi H Q => ∃ a xs, x = .ref a ∧ SqT K H a xs ∧
  ¬ (HT.sIx xs.length 0 lo = 0 ∧ HT.sIx xs.length xs.length hi = xs.length) ∧ ∀ p, H p = none → Q (.ref p) (upd H p (.tup (cutV xs lo hi)))
theorem sl_tup : SlR X (rSlT X.K) := by
  intro pins s σ H x v vl vu lo hi sl Q I rx hs pl pu h
  obtain ⟨a, xs, rfl, hx, hw, q⟩ := h
  cases rx
  obtain ⟨its, r, ht, hz⟩ := I.tuple hx
  have hlen : its.toArray.size = xs.length := by rw [List.size_toArray]; exact r.length.symm
  refine ⟨"tuple", _, PyProof.Rows.slot_tuple_getitem.lookup, ht.typeIs, ?_⟩
  refine HT.getItem_tuple_cut ht hs pl pu (by rw [hlen]; exact hw) ?_ (by rw [hlen]; exact hz)
  rw [hlen]
  refine ⟨.ref s.heap.objs.size, _, I.laid (t' := s.toks) (o := .tup (cutV xs lo hi)) (fun b ob q => Heap.get?_push_of_some _ q) (Nat.le_refl _) ?_, rfl, q _ (I.hok.fresh (Nat.le_refl _))⟩
  exact ⟨⟨Nat.le_trans (cutV_length xs lo hi) hz, nod_push _ _⟩, _, (r.drop (HT.sIx xs.length 0 lo)).take (HT.sIx xs.length xs.length hi - HT.sIx xs.length 0 lo), IsTup.new _ _⟩
def rCatT (K : PySem.W.Frag) : R2 := fun x y H Q => ∃ a b xs ys, x = .ref a ∧ y = .ref b ∧ SqT K H a xs ∧ SqT K H b ys ∧ xs ≠ [] ∧ xs.length + ys.length ≤ sizeLine ∧
  (ys = [] → Q (.ref a) H) ∧ (ys ≠ [] → ∀ p, H p = none → Q (.ref p) (upd H p (.tup (xs ++ ys))))
theorem Vals.nil_iff {xs : List V} {us : List Value} (r : Vals xs us) : us = [] ↔ xs = [] := by
  cases r with
  | nil => simp
  | cons _ _ => simp
theorem op_catT : OpR X (binaryOp .Add) (rCatT X.K) := by
  intro pins s σ H x y v u Q I rx ry h
  obtain ⟨a, b, xs, ys, rfl, rfl, ha, hb, hx, hz, q1, q2⟩ := h
  cases rx
  cases ry
  obtain ⟨its, r1, p1, _⟩ := I.tuple ha
  obtain ⟨its2, r2, p2, _⟩ := I.tuple hb
  refine HT.cat_tup p1 p2 (fun z => hx (r1.nil_iff.mp z)) (fun z => ⟨.ref a, H, I, rfl, q1 (r2.nil_iff.mp z)⟩) (fun z => ?_) (by rw [← r1.length, ← r2.length]; exact hz)
  refine ⟨.ref s.heap.objs.size, _, I.laid (t' := s.toks) (o := .tup (xs ++ ys)) (fun b ob q => Heap.get?_push_of_some _ q) (Nat.le_refl _) ?_, rfl, q2 (fun w => z (r2.nil_iff.mpr w)) _ (I.hok.fresh (Nat.le_refl _))⟩
  exact ⟨⟨by rw [List.length_append]; exact hz, nod_push _ _⟩, _, r1.append r2, IsTup.new _ _⟩
end
end L2
namespace L2
open PySem PySem.Spec PyProof.Rows
def ixN (n : Nat) (i : Int) : Option Nat := if 0 ≤ i then (if i < n then some i.toNat else none) else if -(n : Int) ≤ i then some (i + n).toNat else none
def atI {α : Type} (xs : List α) (i : Int) : Option α := (ixN xs.length i).bind fun j => xs[j]?
theorem ixN_seq {n : Nat} {i : Int} {j : Nat} (h : ixN n i = some j) : seqIndex? i n = some j ∧ j < n ∧ -(n : Int) ≤ i ∧ i < n := by
  unfold ixN at h
  by_cases h0 : 0 ≤ i
  · rw [if_pos h0] at h
    by_cases h1 : i < n
    · rw [if_pos h1] at h
      have e : i.toNat = j := Option.some.inj h
      exact ⟨by rw [seqIndex_of h0 h1, e], by omega, by omega, h1⟩
    · rw [if_neg h1] at h; cases h
  · rw [if_neg h0] at h
    by_cases h1 : -(n : Int) ≤ i
    · rw [if_pos h1] at h
      have e : (i + n).toNat = j := Option.some.inj h
      exact ⟨by rw [seqIndex_neg (by omega) h1, e], by omega, h1, by omega⟩
    · rw [if_neg h1] at h; cases h
theorem atI_get {α : Type} {xs : List α} {i : Int} {v : α} (h : atI xs i = some v) : ∃ j, seqIndex? i xs.length = some j ∧ xs[j]? = some v ∧ j < xs.length ∧ -(xs.length : Int) ≤ i ∧ i < xs.length := by
  unfold atI at h
  cases e : ixN xs.length i with
  | none => rw [e] at h; cases h
  | some j =>
    rw [e] at h
    obtain ⟨h1, h2, h3, h4⟩ := ixN_seq e
    exact ⟨j, h1, h, h2, h3, h4⟩
theorem atI_nat {α : Type} {xs : List α} {j : Nat} {v : α} (h : xs[j]? = some v) : atI xs (j : Int) = some v := by
  have hj : j < xs.length := (List.getElem?_eq_some_iff.mp h).1
  have e : ixN xs.length (j : Int) = some j := by
    unfold ixN
    rw [if_pos (by omega), if_pos (by omega)]; simp
  unfold atI; rw [e]; exact h
theorem atI_last {α : Type} (xs : List α) (v : α) : atI (xs ++ [v]) (-1) = some v := by
  have hl : (xs ++ [v]).length = xs.length + 1 := by simp
  have e : ixN (xs ++ [v]).length (-1) = some xs.length := by
    unfold ixN
    rw [hl, if_neg (by decide), if_pos (by omega)]
    congr 1
    omega
  unfold atI
  rw [e]
  show (xs ++ [v])[xs.length]? = some v
  simp
def PlainIx (b : Expr) : Prop := ∀ o i, subscripted b false o i = operate [o, i] (getItem o i)
def IxR (X : Cx) (r : R2) : Prop :=
  ∀ (value slice : Expr) (pins : List (Addr × Obj)) (s : Shared) (σ : St) (H : Hp) (x y : V) (v u : Value) (Q : VK), Inv X pins σ H s → RelV x v → RelV y u → r x y H Q →
    subscripted slice false v u = operate [v, u] (getItem v u) → wpAny (model X.prog X.w) X.A (subscriptTail value slice v u) (EP X pins σ Q) X.xe s
def MtR (X : Cx) (id : String) (r : V → List V → Hp → VK → Prop) : Prop :=
  ∀ (pins : List (Addr × Obj)) (s : Shared) (σ : St) (H : Hp) (x : V) (xs : List V) (v : Value) (us : List Value) (Q : VK), Inv X pins σ H s → RelV x v → Vals xs us → r x xs H Q →
    wpAny (model X.prog X.w) X.A (call (.builtin id) (v :: us)) (EP X pins σ Q) X.xe s
section
variable {X : Cx} {a b : Expr} {ta tb : TE} {pos : Pos}
theorem IxR.or {r r' : R2} (h : IxR X r) (h' : IxR X r') : IxR X (fun x y H Q => r x y H Q ∨ r' x y H Q) := by
  intro value slice pins s σ H x y v u Q I rx ry q hs
  rcases q with q | q
  · exact h value slice pins s σ H x y v u Q I rx ry q hs
  · exact h' value slice pins s σ H x y v u Q I rx ry q hs
theorem pe_ix {r : R2} (hr : IxR X r) (ha : PE X a ta) (hb : PE X b tb) (hs : PlainIx b) : PE X (.Subscript a b pos) (tOp r ta tb) := by
  intro pins s σ H Q I h
  exact Subscript_ (binT ha hb I h fun v u s2 x y H2 I2 rx ry q => hr a b pins s2 σ H2 x y v u Q I2 rx ry q (hs _ _))
def rIxL (K : PySem.W.Frag) : R2 := fun x y H Q => ∃ p xs i v, x = .ref p ∧ y = .int i ∧ SqL K H p xs ∧ atI xs i = some v ∧ Q v H
def rIxT (K : PySem.W.Frag) : R2 := fun x y H Q => ∃ p xs i v, x = .ref p ∧ y = .int i ∧ SqT K H p xs ∧ atI xs i = some v ∧ Q v H
def rIxS : R2 := fun x y H Q => ∃ z i c, x = .str z ∧ y = .int i ∧ z.length ≤ sizeLine ∧ atI z.cps.toList i = some c ∧ Q (.str ⟨#[c]⟩) H
theorem ix_list : IxR X (rIxL X.K) := by
  intro value slice pins s σ H x y v u Q I rx ry h hs
  obtain ⟨p, xs, i, z, rfl, rfl, hq, he, q⟩ := h
  cases rx
  obtain ⟨t, rfl⟩ := ry
  obtain ⟨its, r, pl, hz⟩ := I.list hq
  obtain ⟨j, h1, h2, h3, h4, h5⟩ := atI_get he
  obtain ⟨w, ew, rw'⟩ := r.get h2
  have hl := r.length
  have hn := line63
  have fin : EP X pins σ Q w s := ⟨z, H, I, rw', q⟩
  by_cases h0 : 0 ≤ i
  · have hj : i.toNat = j := by
      rw [seqIndex_of h0 h5] at h1
      exact Option.some.inj h1
    exact item_listR pl.isList h0 (by omega) (by rw [hj]; simpa using ew) fin hs
  · have hj : (i + (its.toArray.size : Int)).toNat = j := by
      rw [seqIndex_neg (by omega) h4] at h1
      rw [List.size_toArray, ← hl]
      exact Option.some.inj h1
    exact subscriptTail_builtinR (x := w) pl.isList.typeIs slot_list_getitem.lookup
      (wpAny_getItem_list_neg (Q := fun r s' => r = w ∧ EP X pins σ Q r s') pl.isList (by omega) (by rw [List.size_toArray] <;> omega) (by omega) (by rw [hj]; simpa using ew) ⟨rfl, fin⟩) hs
theorem ix_tup : IxR X (rIxT X.K) := by
  intro value slice pins s σ H x y v u Q I rx ry h hs
  obtain ⟨p, xs, i, z, rfl, rfl, hq, he, q⟩ := h
  cases rx
  obtain ⟨t, rfl⟩ := ry
  obtain ⟨its, r, pl, hz⟩ := I.tuple hq
  obtain ⟨j, h1, h2, h3, h4, h5⟩ := atI_get he
  obtain ⟨w, ew, rw'⟩ := r.get h2
  have hl := r.length
  have hn := line63
  have fin : EP X pins σ Q w s := ⟨z, H, I, rw', q⟩
  exact subscriptTail_builtinR (x := w) pl.typeIs slot_tuple_getitem.lookup
    (getItem_tuple (j := j) (Q := fun r s' => r = w ∧ EP X pins σ Q r s') pl (by omega) (by omega) (by rw [List.size_toArray, ← hl]; exact h1) (by simpa using ew) ⟨rfl, fin⟩) hs
theorem ix_str : IxR X rIxS := by
  intro value slice pins s σ H x y v u Q I rx ry h hs
  obtain ⟨z, i, c, rfl, rfl, hz, he, q⟩ := h
  obtain ⟨t, rfl⟩ := rx
  obtain ⟨t', rfl⟩ := ry
  obtain ⟨j, h1, h2, h3, h4, h5⟩ := atI_get he
  have hl : z.cps.toList.length = z.length := by simp [Str.length]
  rw [hl] at h1 h4 h5
  have hn := line63
  exact tail_any (typeIs_str s z t) slot_str_getitem.lookup (getItem_str (c := c) (by
    have e1 : decide (i < -(2 ^ 63 : Int)) = false := decide_eq_false (by omega)
    have e2 : decide (i ≥ 2 ^ 63) = false := decide_eq_false (by omega)
    rw [e1, e2, Bool.or_false]) (by rw [h1]; simpa using h2) ⟨.str ⟨#[c]⟩, H, I.tok _, ⟨_, rfl⟩, q⟩) hs
theorem mapSeq_set (its : List Value) (n j : Nat) (u : Value) : Obj.mapSeq (·.setIfInBounds j u) { cls := .type "list", data := .seq its.toArray n } = { cls := .type "list", data := .seq (its.set j u).toArray n } := by
  simp [Obj.mapSeq]
theorem Inv.lst {pins : List (Addr × Obj)} {σ : St} {H : Hp} {s : Shared} {p : Addr} {xs : List V} (I : Inv X pins σ H s) (h : H p = some (.lst xs)) :
    ∃ (its : List Value) (n : Nat), Vals xs its ∧ s.heap.get? p = some { cls := .type "list", data := .seq its.toArray n } ∧ xs.length ≤ sizeLine := by
  obtain ⟨z, its, n, r, e⟩ := I.hok p _ h
  exact ⟨its, n, r, e, z⟩
theorem Inv.lstUpd {pins : List (Addr × Obj)} {σ : St} {H : Hp} {s : Shared} {p : Addr} {xs ys : List V} {its its' : List Value} {n n' : Nat} {f : Obj → Obj} (I : Inv X pins σ H s) (h : H p = some (.lst xs))
    (ho : s.heap.get? p = some { cls := .type "list", data := .seq its.toArray n }) (hf : f { cls := .type "list", data := .seq its.toArray n } = { cls := .type "list", data := .seq its'.toArray n' }) (r : Vals ys its') (hz : ys.length ≤ sizeLine) (t : Nat) :
    Inv X pins σ (upd H p (.lst ys)) { s with heap := s.heap.update p f, toks := t } := by
  have e : (s.heap.update p f).get? p = some { cls := .type "list", data := .seq its'.toArray n' } := by
    rw [Heap.get?_update_self f ho (by rw [hf] <;> rfl), hf]
  refine I.write (x := p) (e := p) (by rw [h]; trivial) (.inl rfl) (fun b u hb q => (Heap.get?_update_other _ _ (Ne.symm hb)).trans q) ⟨_, e⟩ ?_
  exact ⟨hz, its', n', r, e⟩
def rSetL : V → V → V → Hp → (Hp → Prop) → Prop := fun o i v H Q => ∃ p xs k j, o = .ref p ∧ i = .int k ∧ H p = some (.lst xs) ∧ ixN xs.length k = some j ∧ Q (upd H p (.lst (xs.set j v)))
theorem set_list : PSet X rSetL := by
  intro pins s σ H o i v ov iv u Q I ro ri rv h
  obtain ⟨p, xs, k, j, rfl, rfl, hp, hj, q⟩ := h
  cases ro
  obtain ⟨t, rfl⟩ := ri
  obtain ⟨its, n, r, ho, hz⟩ := I.lst hp
  obtain ⟨h1, h2, h3, h4⟩ := ixN_seq hj
  have hl := r.length
  have hn := line63
  have I' : Inv X pins σ (upd H p (.lst (xs.set j v))) { s with heap := s.heap.update p (Obj.mapSeq (·.setIfInBounds j u)) } :=
    I.lstUpd hp ho (mapSeq_set its n j u) (r.set rv j) (by rw [List.length_set]; exact hz) s.toks
  by_cases h0 : 0 ≤ k
  · have hk : k.toNat = j := by
      rw [seqIndex_of h0 h4] at h1
      exact Option.some.inj h1
    exact PySem.W.ki_setAt ho h0 (by omega) (by rw [List.size_toArray, ← hl]; exact h4) (by rw [hk]; exact ⟨_, I', q⟩)
  · have hk : (k + (its.toArray.size : Int)).toNat = j := by
      rw [seqIndex_neg (by omega) h3] at h1
      rw [List.size_toArray, ← hl]
      exact Option.some.inj h1
    exact PySem.W.ki_setBack ho (by omega) (by rw [List.size_toArray, ← hl]; exact h3) (by omega) (by rw [hk]; exact ⟨_, I', q⟩)
theorem slice_bounds (lo hi : Option Int) (n : Nat) : (sliceBounds lo hi none n).1 = ((HT.sIx n 0 lo : Nat) : Int) ∧ (sliceBounds lo hi none n).2.1 = ((HT.sIx n n hi : Nat) : Int) ∧ (sliceBounds lo hi none n).2.2 = 1 := by
  refine ⟨?_, ?_, rfl⟩
  · cases lo with
    | none => simp [sliceBounds, HT.sIx]
    | some i =>
      simp only [sliceBounds, HT.sIx, Option.getD_none, show (1 : Int) > 0 by decide, if_true]
      by_cases h : i < 0
      · simp only [h, if_true] <;> omega
      · simp only [h, if_false] <;> omega
  · cases hi with
    | none => simp [sliceBounds, HT.sIx]
    | some i =>
      simp only [sliceBounds, HT.sIx, Option.getD_none, show (1 : Int) > 0 by decide, if_true]
      by_cases h : i < 0
      · simp only [h, if_true] <;> omega
      · simp only [h, if_false] <;> omega
theorem slicePick_cut (its : List Value) (lo hi : Option Int) : slicePick its.toArray lo hi none = ((its.drop (HT.sIx its.length 0 lo)).take (HT.sIx its.length its.length hi - HT.sIx its.length 0 lo)).toArray := by
  obtain ⟨h1, h2, h3⟩ := slice_bounds lo hi its.toArray.size
  unfold slicePick
  rw [h1, h2, h3]
  simp only [sliceRange_one, pick_run, List.size_toArray] <;> rfl
def rSlL (K : PySem.W.Frag) : V → Option Int → Option Int → Hp → VK → Prop := fun x lo hi H Q => ∃ a xs, x = .ref a ∧ SqL K H a xs ∧ ∀ p, H p = none → Q (.ref p) (upd H p (.lst (cutV xs lo hi)))
theorem sl_list : SlR X (rSlL X.K) := by
  intro pins s σ H x v vl vu lo hi sl Q I rx hs pl pu h
  obtain ⟨a, xs, rfl, hx, q⟩ := h
  cases rx
  obtain ⟨its, r, ht, hz⟩ := I.list hx
  have hlen := r.length
  refine ⟨"list", _, slot_list_getitem.lookup, ht.isList.typeIs, ?_⟩
  refine wpAny_getItem_list_slice ht.isList hs pl pu .none (by simp) ?_ (by rw [List.size_toArray] <;> omega)
  rw [slicePick_cut, ← hlen]
  refine ⟨.ref s.heap.objs.size, _, I.laid (t' := s.toks) (o := .lst (cutV xs lo hi)) (fun b ob q => Heap.get?_push_of_some _ q) (Nat.le_refl _) ?_, rfl, q _ (I.hok.fresh (Nat.le_refl _))⟩
  exact ⟨Nat.le_trans (cutV_length xs lo hi) hz, _, 0, (r.drop (HT.sIx xs.length 0 lo)).take (HT.sIx xs.length xs.length hi - HT.sIx xs.length 0 lo), Heap.get?_push_size _ rfl⟩
def flatV : V → Bool
  | .non => true
  | .bl _ => true
  | .int _ => true
  | .str _ => true
  | _ => false
def eqV : V → V → Bool
  | .non, .non => true
  | .bl a, .bl b => a == b
  | .bl a, .int b => (if a then 1 else 0) == b
  | .int a, .bl b => a == (if b then 1 else 0)
  | .int a, .int b => a == b
  | .str a, .str b => a == b
  | _, _ => false
theorem eqAt_V {A : Around} {s : Shared} {y x : V} {u v : Value} (ry : RelV y u) (rx : RelV x v) (fy : flatV y = true) (fx : flatV x = true) : SeqAt.EqAt A s u v (eqV y x) := by
  cases y with
  | non =>
    cases ry
    cases x with
    | non => cases rx; exact SeqAt.EqAt.same _
    | bl b => cases rx; exact SeqAt.EqAt.none_bool b
    | int b => obtain ⟨t, rfl⟩ := rx; exact SeqAt.EqAt.none_int b t
    | str b => obtain ⟨t, rfl⟩ := rx; exact SeqAt.EqAt.none_str b t
    | _ => exact absurd (show false = true from fx) Bool.false_ne_true
  | bl a =>
    cases ry
    cases x with
    | non => cases rx; exact SeqAt.EqAt.bool_none a
    | bl b => cases rx; exact SeqAt.EqAt.bool_bool a b
    | int b => obtain ⟨t, rfl⟩ := rx; exact SeqAt.EqAt.bool_int a b t
    | str b => obtain ⟨t, rfl⟩ := rx; exact SeqAt.EqAt.bool_str a b t
    | _ => exact absurd (show false = true from fx) Bool.false_ne_true
  | int a =>
    obtain ⟨t', rfl⟩ := ry
    cases x with
    | non => cases rx; exact SeqAt.EqAt.int_none a t'
    | bl b => cases rx; exact SeqAt.EqAt.int_bool a t' b
    | int b => obtain ⟨t, rfl⟩ := rx; exact SeqAt.EqAt.int_int a t' b t
    | str b => obtain ⟨t, rfl⟩ := rx; exact SeqAt.EqAt.int_str a t' b t
    | _ => exact absurd (show false = true from fx) Bool.false_ne_true
  | str a =>
    obtain ⟨t', rfl⟩ := ry
    cases x with
    | non => cases rx; exact SeqAt.EqAt.str_none a t'
    | bl b => cases rx; exact SeqAt.EqAt.str_bool a t' b
    | int b => obtain ⟨t, rfl⟩ := rx; exact SeqAt.EqAt.str_int a t' b t
    | str b => obtain ⟨t, rfl⟩ := rx; exact SeqAt.EqAt.str_str a t' b t
    | _ => exact absurd (show false = true from fx) Bool.false_ne_true
  | _ => exact absurd (show false = true from fy) Bool.false_ne_true
def eqU (x : V) (u : Value) : Bool := match u with
  | .none => eqV .non x
  | .bool b => eqV (.bl b) x
  | .int i _ => eqV (.int i) x
  | .str z _ => eqV (.str z) x
  | _ => false
theorem eqU_of {x y : V} {u : Value} (r : RelV y u) (f : flatV y = true) : eqU x u = eqV y x := by
  cases y with
  | non => cases r; rfl
  | bl b => cases r; rfl
  | int i => obtain ⟨t, rfl⟩ := r; rfl
  | str z => obtain ⟨t, rfl⟩ := r; rfl
  | _ => exact absurd (show false = true from f) Bool.false_ne_true
theorem any_eqU {x : V} : ∀ {xs : List V} {us : List Value}, Vals xs us → xs.all flatV = true → us.any (eqU x) = xs.any fun y => eqV y x
  | _, _, .nil, _ => rfl
  | y :: xs, u :: us, .cons r t, f => by
    rw [List.all_cons, Bool.and_eq_true] at f
    rw [List.any_cons, List.any_cons, eqU_of r f.1, any_eqU t f.2]
theorem mem_eqAt {A : Around} {s : Shared} {x : V} {v : Value} (rx : RelV x v) (fx : flatV x = true) : ∀ {xs : List V} {us : List Value}, Vals xs us → xs.all flatV = true → ∀ u ∈ us, SeqAt.EqAt A s u v (eqU x u)
  | _, _, .nil, _ => fun u hu => by cases hu
  | y :: xs, u :: us, .cons r t, f => fun u' hu => by
    rw [List.all_cons, Bool.and_eq_true] at f
    rcases List.mem_cons.mp hu with rfl | hu
    · rw [eqU_of r f.1]; exact eqAt_V r rx f.1 fx
    · exact mem_eqAt rx fx t f.2 u' hu
def inV (x : V) (xs : List V) : Bool := xs.any fun y => eqV y x
def rIn (K : PySem.W.Frag) (neg : Bool) : R2 := fun x y H Q => ∃ p xs, y = .ref p ∧ (SqL K H p xs ∨ SqT K H p xs) ∧ flatV x = true ∧ xs.all flatV = true ∧ Q (.bl (if neg then !inV x xs else inV x xs)) H
theorem op_in_seq : OpR X (compareOp .In) (rIn X.K false) := by
  intro pins s σ H x y v u Q I rx ry h
  obtain ⟨p, xs, rfl, hq, fx, fs, q⟩ := h
  cases ry
  rcases hq with hq | hq
  · obtain ⟨its, r, pl, hz⟩ := I.list hq
    refine SeqAt.in_listAt (eqU x) pl.isList (fun w hw => mem_eqAt rx fx r fs w (by simpa using hw)) ⟨.bl _, H, I, rfl, ?_⟩
    rw [show its.toArray.any (eqU x) = its.any (eqU x) by simp, any_eqU r fs]
    exact q
  · obtain ⟨its, r, pl, hz⟩ := I.tuple hq
    refine SeqAt.in_tupleAt (eqU x) pl (fun w hw => mem_eqAt rx fx r fs w (by simpa using hw)) ⟨.bl _, H, I, rfl, ?_⟩
    rw [show its.toArray.any (eqU x) = its.any (eqU x) by simp, any_eqU r fs]
    exact q
theorem op_notIn_seq : OpR X (compareOp .NotIn) (rIn X.K true) := by
  intro pins s σ H x y v u Q I rx ry h
  obtain ⟨p, xs, rfl, hq, fx, fs, q⟩ := h
  cases ry
  rcases hq with hq | hq
  · obtain ⟨its, r, pl, hz⟩ := I.list hq
    refine SeqAt.notIn_listAt (eqU x) pl.isList (fun w hw => mem_eqAt rx fx r fs w (by simpa using hw)) ⟨.bl _, H, I, rfl, ?_⟩
    rw [show its.toArray.any (eqU x) = its.any (eqU x) by simp, any_eqU r fs]
    exact q
  · obtain ⟨its, r, pl, hz⟩ := I.tuple hq
    refine SeqAt.notIn_tupleAt (eqU x) pl (fun w hw => mem_eqAt rx fx r fs w (by simpa using hw)) ⟨.bl _, H, I, rfl, ?_⟩
    rw [show its.toArray.any (eqU x) = its.any (eqU x) by simp, any_eqU r fs]
    exact q
theorem call_len_seq : CallR X (.builtin "len") (fun xs H Q => ∃ p ys, xs = [.ref p] ∧ (SqL X.K H p ys ∨ SqT X.K H p ys) ∧ Q (.int ys.length) H) := by
  intro pins s σ H xs us Q I r h
  obtain ⟨p, ys, rfl, hq, q⟩ := h
  obtain ⟨u, rfl, rx⟩ := vals1 r
  cases rx
  have hn := line63
  rcases hq with hq | hq
  · obtain ⟨its, r', pl, hz⟩ := I.list hq
    have hlen := r'.length
    exact Calls.call_len_list pl.isList (by simp only [List.size_toArray] <;> omega) ⟨.int ys.length, H, I.tok _, ⟨s.toks + 1, by rw [List.size_toArray, hlen]⟩, q⟩
  · obtain ⟨its, r', pl, hz⟩ := I.tuple hq
    have hlen := r'.length
    exact len_tuple pl (by simp only [List.size_toArray] <;> omega) ⟨.int ys.length, H, I.tok _, ⟨s.toks + 1, by rw [List.size_toArray, hlen]⟩, q⟩
theorem call_len_str : CallR X (.builtin "len") (fun xs H Q => ∃ z, xs = [.str z] ∧ z.length ≤ sizeLine ∧ Q (.int z.length) H) := by
  intro pins s σ H xs us Q I r h
  obtain ⟨z, rfl, hz, q⟩ := h
  obtain ⟨u, rfl, t, rfl⟩ := vals1 r
  have hn := line63
  exact len_str (by omega) ⟨.int z.length, H, I.tok _, ⟨_, rfl⟩, q⟩
theorem call_list_of : CallR X (.type "list") (fun xs H Q => ∃ p ys, xs = [.ref p] ∧ (SqL X.K H p ys ∨ SqT X.K H p ys) ∧ ∀ l, H l = none → Q (.ref l) (upd H l (.lst ys))) := by
  intro pins s σ H xs us Q I r h
  obtain ⟨p, ys, rfl, hq, q⟩ := h
  obtain ⟨u, rfl, rx⟩ := vals1 r
  cases rx
  have fin : ∀ (its : List Value), Vals ys its → ys.length ≤ sizeLine → ∀ (h' : Heap) (c' : Nat), (∀ b o', s.heap.get? b = some o' → h'.get? b = some o') →
      h'.get? s.heap.objs.size = some { cls := .type "list", dict := none, data := .seq its.toArray c', slots := #[] } → EP X pins σ Q (.ref s.heap.objs.size) { s with heap := h' } := fun its r' hz h' c' kp e =>
    ⟨.ref s.heap.objs.size, _, I.laid (t' := s.toks) kp (Nat.le_refl _) (show ObjOk X.prog X.w _ h' _ (.lst ys) from ⟨hz, its, c', r', e⟩), rfl, q _ (I.hok.fresh (Nat.le_refl _))⟩
  rcases hq with hq | hq
  · obtain ⟨its, r', pl, hz⟩ := I.list hq
    have hlen := r'.length
    obtain ⟨o, ho, hc, n, hd⟩ := pl.isList
    exact call_list_seq p (.inl rfl) ho hc hd (fun h' c' kp e => fin its r' hz h' c' kp e) (by simp only [List.size_toArray] <;> omega)
  · obtain ⟨its, r', pl, hz⟩ := I.tuple hq
    have hlen := r'.length
    obtain ⟨o, ho, hc, n, hd⟩ := pl
    exact call_list_seq p (.inr rfl) ho hc hd (fun h' c' kp e => fin its r' hz h' c' kp e) (by simp only [List.size_toArray] <;> omega)
theorem call_tuple_of : CallR X (.type "tuple") (fun xs H Q => ∃ p ys, xs = [.ref p] ∧ ((SqL X.K H p ys ∧ ∀ l, H l = none → Q (.ref l) (upd H l (.tup ys))) ∨ (SqT X.K H p ys ∧ Q (.ref p) H))) := by
  intro pins s σ H xs us Q I r h
  obtain ⟨p, ys, rfl, h⟩ := h
  obtain ⟨u, rfl, rx⟩ := vals1 r
  cases rx
  rcases h with ⟨hq, q⟩ | ⟨hq, q⟩
  · obtain ⟨its, r', pl, hz⟩ := I.list hq
    have hlen := r'.length
    refine call_tuple_list pl.isList (fun h' kp => ?_) (by simp only [List.size_toArray] <;> omega)
    have I1 : Inv X pins σ H { s with heap := h' } := I.kept (t' := s.toks) kp
    have I2 : Inv X pins σ (upd H h'.objs.size (.tup ys)) { s with heap := h'.push { cls := .type "tuple", data := .seq its.toArray } } :=
      I1.laid (t' := s.toks) (fun b o e => Heap.get?_push_of_some _ e) (Nat.le_refl _) (show ObjOk X.prog X.w _ _ _ (.tup ys) from ⟨⟨hz, nod_push _ _⟩, its, r', IsTup.new _ _⟩)
    exact ⟨.ref h'.objs.size, _, I2, rfl, q _ (I1.hok.fresh (Nat.le_refl _))⟩
  · obtain ⟨its, r', pl, hz⟩ := I.tuple hq
    exact call_tuple_same pl ⟨.ref p, H, I, rfl, q⟩
def tyV (K : PySem.W.Frag) (T : String) (x : V) (H : Hp) : Prop := match x with
  | .str _ => T = "str"
  | .int _ => T = "int"
  | .ref p => (T = "list" ∧ ∃ xs, SqL K H p xs) ∨ (T = "tuple" ∧ ∃ o, K.lookup p = some o ∧ o.cls = .type "tuple" ∧ o.dict = none) ∨
      (T = "dict" ∧ ((∃ kvs, H p = some (.dK kvs)) ∨ ∃ kvs, H p = some (.dT kvs))) ∨ (T = "set" ∧ ∃ S n, H p = some (.set S n))
  | _ => False
theorem tyV_is {pins : List (Addr × Obj)} {σ : St} {H : Hp} {s : Shared} {T : String} {x : V} {v : Value} (I : Inv X pins σ H s) (r : RelV x v) (ty : tyV X.K T x H) :
    s.TypeIs v T ∧ ∀ a, v = .ref a → ∃ ob, s.heap.get? a = some ob ∧ ob.dict = none := by
  cases x with
  | str z =>
    obtain ⟨t, rfl⟩ := r
    cases (show T = "str" from ty)
    exact ⟨typeIs_str s z t, fun _ e => nomatch e⟩
  | int i =>
    obtain ⟨t, rfl⟩ := r
    cases (show T = "int" from ty)
    exact ⟨typeIs_int s i t, fun _ e => nomatch e⟩
  | ref p =>
    cases r
    rcases ty with ⟨rfl, xs, hq⟩ | ⟨rfl, o, hk, hc, hd⟩ | ⟨rfl, hk⟩ | ⟨rfl, S, n, hk⟩
    · obtain ⟨its, _, pl, _⟩ := I.list hq
      refine ⟨pl.isList.typeIs, fun a e => ?_⟩
      cases e
      obtain ⟨o, n, e, c, hd, _⟩ := pl
      exact ⟨o, e, hd⟩
    · refine ⟨⟨o, I.kIn p o hk, hc⟩, fun a e => ?_⟩
      cases e
      exact ⟨o, I.kIn _ o hk, hd⟩
    · have z : ∃ o, s.heap.get? p = some o ∧ o.ExactDict := by
        rcases hk with ⟨kvs, hk⟩ | ⟨kvs, hk⟩
        · obtain ⟨_, _, _, _, o, _, _, e, ex, _⟩ := I.hok p _ hk
          exact ⟨o, e, ex⟩
        · obtain ⟨_, _, _, _, o, _, _, e, ex, _⟩ := I.hok p _ hk
          exact ⟨o, e, ex⟩
      obtain ⟨o, e, ex⟩ := z
      refine ⟨⟨o, e, ex.1⟩, fun a e2 => ?_⟩
      cases e2
      exact ⟨o, e, ex.2.1⟩
    · obtain ⟨o, _, _, _, e, ex, _⟩ := I.hok p _ hk
      refine ⟨⟨o, e, ex.1⟩, fun a e2 => ?_⟩
      cases e2
      exact ⟨o, e, ex.2.1⟩
  | _ => exact False.elim ty
def tBM0 (K : PySem.W.Frag) (T : String) (r : V → List V → Hp → VK → Prop) (to : TE) : TE := fun σ H Q => to σ H fun x H1 => tyV K T x H1 ∧ r x [] H1 Q
def tBM (K : PySem.W.Frag) (T : String) (r : V → List V → Hp → VK → Prop) (to : TE) (t : TA) : TE := fun σ H Q => to σ H fun x H1 => tyV K T x H1 ∧ t σ H1 fun xs H2 => r x xs H2 Q
variable {o e : Expr} {es : List Expr} {to : TE} {t : TA} {name : Str} {apos cpos : Pos} {T id : String} {r : V → List V → Hp → VK → Prop}
theorem pe_bm0 (pa : PlainAttrs T) (slot : Slot T name id) (hty : typeOf (.builtin id) = pure (.type "method_descriptor")) (hm : MtR X id r) (ho : PE X o to)
    (hbase : attributeBase o name X.env (eval o X.env) = eval o X.env := by rfl) (hline : (apos.endLine == cpos.line) = true := by rfl) : PE X (.Call (.Attribute o name apos) [] [] cpos) (tBM0 X.K T r to) := by
  intro pins s σ H Q I h
  refine wpAny_Call_method0_late hbase hline (thn (ho pins s σ H _ I h) fun v s1 ⟨x, H1, I1, r1, ty, q1⟩ => ?_)
  obtain ⟨h1, h2⟩ := tyV_is I1 r1 ty
  exact ⟨T, id, pa, slot, hty, h1, h2, Calls.callWith_builtin rfl (PySem.evalArgs_none (hm pins s1 σ H1 x [] v [] Q I1 r1 .nil q1))⟩
theorem pe_bm (pa : PlainAttrs T) (slot : Slot T name id) (hty : typeOf (.builtin id) = pure (.type "method_descriptor")) (hm : MtR X id r) (ho : PE X o to) (ha : PA X (e :: es) t)
    (hbase : attributeBase o name X.env (eval o X.env) = eval o X.env := by rfl)
    (hfew : ((backTo cpos (starEach (e :: es) X.env)).all (fun x => !x.1) && (backToKw cpos (keywordEach [] X.env)).all (fun x => x.1.isSome)
      && decide ((e :: es).length + ([] : List Keyword).length + (if ([] : List Keyword).isEmpty then 0 else 1) < 30)) = true := by rfl)
    (hline : (apos.endLine == cpos.line) = true := by rfl) (hs : starEach (e :: es) X.env = (false, eval e X.env) :: starEach es X.env := by rfl) (hplain : (backTo cpos (starEach es X.env)).any (·.1) = false := by rfl) :
    PE X (.Call (.Attribute o name apos) (e :: es) [] cpos) (tBM X.K T r to t) := by
  intro pins s σ H Q I h
  refine wpAny_Call_method_late hbase hfew hline rfl (thn (ho pins s σ H _ I h) fun v s1 ⟨x, H1, I1, r1, ty, q1⟩ => ?_)
  obtain ⟨h1, h2⟩ := tyV_is I1 r1 ty
  refine ⟨T, id, pa, slot, hty, h1, h2, ?_⟩
  have hA := ha cpos pins s1 σ H1 _ I1 q1
  rw [hs] at hA ⊢
  refine Calls.callWith_builtin (by show (false || (backTo cpos (starEach es X.env)).any (·.1)) = false; rw [hplain] <;> rfl) (Calls.evalArgs_plain ?_)
  exact thn hA fun us s2 ⟨vs, H2, I2, r2, q2⟩ => hm pins s2 σ H2 x vs v us Q I2 r1 r2 q2
/- xs.append(e), list.index on a module's tuple .. are MtR facts of 06m -/
end
end L2
namespace L2
open PySem PySem.Spec PyProof.Rows
def MtM (X : Cx) (id : String) (r : V → List V → Hp → VK → Prop) : Prop :=
  ∀ (pins : List (Addr × Obj)) (s : Shared) (σ : St) (H : Hp) (x : V) (xs : List V) (v : Value) (us : List Value) (Q : VK), Inv X pins σ H s → RelV x v → Vals xs us → r x xs H Q →
    wpAny (model X.prog X.w) X.A (call (.builtin id) (v :: us)) (EP X pins σ Q) X.xe s
theorem Vals.one : ∀ {x : V} {us : List Value}, Vals [x] us → ∃ u, us = [u] ∧ RelV x u
  | _, _, .cons r .nil => ⟨_, rfl, r⟩
theorem Vals.two : ∀ {x y : V} {us : List Value}, Vals [x, y] us → ∃ u v, us = [u, v] ∧ RelV x u ∧ RelV y v
  | _, _, _, .cons r (.cons q .nil) => ⟨_, _, rfl, r, q⟩
theorem Vals.zero : ∀ {us : List Value}, Vals [] us → us = []
  | _, .nil => rfl
theorem Vals.dropLast {xs : List V} {us : List Value} (h : Vals xs us) : Vals xs.dropLast us.dropLast := by
  induction h with
  | nil => exact .nil
  | cons r t ih =>
    cases t with
    | nil => exact .nil
    | cons q t' => exact .cons r ih
theorem Vals.reverse {xs : List V} {us : List Value} (h : Vals xs us) : Vals xs.reverse us.reverse := by
  induction h with
  | nil => exact .nil
  | cons r t ih => rw [List.reverse_cons, List.reverse_cons]; exact Vals.append ih (.cons r .nil)
theorem erase_last {α : Type} (l : List α) : l.eraseIdx (l.length - 1) = l.dropLast := by
  induction l with
  | nil => rfl
  | cons a r ih =>
    cases r with
    | nil => rfl
    | cons b r =>
      have e : (a :: b :: r).length - 1 = ((b :: r).length - 1) + 1 := by
        have h1 : (a :: b :: r).length = r.length + 2 := rfl
        have h2 : (b :: r).length = r.length + 1 := rfl
        omega
      rw [e, List.eraseIdx_cons_succ, ih]
      all_goals rfl
section
variable {X : Cx} {pins : List (Addr × Obj)} {σ : St} {H : Hp} {s : Shared} {l b : Addr} {xs ys zs : List V}
theorem Inv.lset {its its' : List Value} {n : Nat} {f : Array Value → Array Value} {t' : Nat} (I : Inv X pins σ H s) (hH : H l = some (.lst xs))
    (e : s.heap.get? l = some { cls := .type "list", data := .seq its.toArray n }) (hf : f its.toArray = its'.toArray) (hv : Vals ys its') (hz : ys.length ≤ sizeLine) :
    Inv X pins σ (upd H l (.lst ys)) { s with heap := s.heap.update l (Obj.mapSeq f), toks := t' } := by
  have q := PySem.IsL.update e f
  rw [hf] at q
  refine I.write (x := l) (e := l) (by rw [hH]; exact trivial) (.inl rfl) (fun b' u hb hu => (Heap.get?_update_other s.heap (Obj.mapSeq f) (Ne.symm hb)).trans hu) ⟨_, q⟩ ?_
  exact ⟨hz, its', _, hv, q⟩
theorem Inv.lnew {its : List Value} {t' : Nat} (I : Inv X pins σ H s) (hv : Vals ys its) (hz : ys.length ≤ sizeLine) :
    Inv X pins σ (upd H s.heap.objs.size (.lst ys)) { s with heap := s.heap.push { cls := .type "list", data := .seq its.toArray }, toks := t' } :=
  I.laid (fun _ _ q => Heap.get?_push_of_some _ q) (Nat.le_refl _) ⟨hz, its, 0, hv, Heap.get?_push_size _ rfl⟩
theorem Inv.fresh (I : Inv X pins σ H s) : H s.heap.objs.size = none := I.hok.fresh (Nat.le_refl _)
theorem Inv.lstM (I : Inv X pins σ H s) (hH : H l = some (.lst xs)) : xs.length ≤ sizeLine ∧ ∃ (its : List Value) (n : Nat), Vals xs its ∧ xs.length = its.length ∧ s.heap.get? l = some { cls := .type "list", data := .seq its.toArray n } := by
  obtain ⟨z, its, n, r, e⟩ := I.hok l _ hH
  exact ⟨z, its, n, r, r.length, e⟩
theorem notLongL {n : Nat} (h : n ≤ sizeLine) : Builtin.List.listTooLong n = false := by
  unfold Builtin.List.listTooLong
  exact decide_eq_false (by omega)
end
section
variable {X : Cx}
def rAppend : V → List V → Hp → VK → Prop := fun x vs H Q => ∃ l xs y, x = .ref l ∧ vs = [y] ∧ H l = some (.lst xs) ∧ xs.length < sizeLine ∧ Q .non (upd H l (.lst (xs ++ [y])))
theorem mt_append : MtM X "list.append" rAppend := by
  intro pins s σ H x vs v us Q I rx rv h
  obtain ⟨l, xs, y, rfl, rfl, hH, hz, q⟩ := h
  cases rx
  obtain ⟨u, rfl, ru⟩ := rv.one
  obtain ⟨z, its, n, r, hl, e⟩ := I.lstM hH
  refine call_meets F.slot_list_append ⟨_, e, rfl⟩ F.entry_list_append (F.args_list_append_2 _ _) (PySem.list_append l its.toArray n u (by rw [List.size_toArray]; omega)) ⟨e, ?_⟩
  refine ⟨.non, _, I.lset (its' := its ++ [u]) hH e (by simp) (r.append (.cons ru .nil)) ?_, rfl, q⟩
  rw [List.length_append, List.length_singleton]
  omega
def rPop : V → List V → Hp → VK → Prop := fun x vs H Q => ∃ l xs y, x = .ref l ∧ vs = [] ∧ H l = some (.lst xs) ∧ xs[xs.length - 1]? = some y ∧ Q y (upd H l (.lst xs.dropLast))
theorem mt_pop : MtM X "list.pop" rPop := by
  intro pins s σ H x vs v us Q I rx rv h
  obtain ⟨l, xs, y, rfl, rfl, hH, hy, q⟩ := h
  cases rx
  have hus := rv.zero
  subst hus
  obtain ⟨z, its, n, r, hl, e⟩ := I.lstM hH
  obtain ⟨u, hu, ru⟩ := r.get hy
  have hy' : its.toArray[its.toArray.size - 1]? = some u := by
    show its.toArray[its.length - 1]? = some u
    rw [← Array.getElem?_toList, ← hl]
    exact hu
  refine call_meets F.slot_list_pop ⟨_, e, rfl⟩ F.entry_list_pop (F.args_list_pop_1 _) (MeetsSeq.list_pop_last l its.toArray n u hy' (by rw [List.size_toArray]; omega)) ⟨e, ?_⟩
  refine ⟨y, _, I.lset (its' := its.dropLast) hH e ?_ r.dropLast ?_, ru, q⟩
  · show its.toArray.eraseIdxIfInBounds (its.toArray.size - 1) = its.dropLast.toArray
    rw [List.size_toArray, List.eraseIdxIfInBounds_toArray, erase_last]
  · rw [List.length_dropLast]
    omega
def rCat : R2 := fun x y H Q => ∃ l b xs zs, x = .ref l ∧ y = .ref b ∧ H l = some (.lst xs) ∧ H b = some (.lst zs) ∧ xs.length + zs.length ≤ sizeLine ∧ ∀ p, H p = none → Q (.ref p) (upd H p (.lst (xs ++ zs)))
theorem op_cat : OpR X (binaryOp .Add) rCat := by
  intro pins s σ H x y v u Q I rx ry h
  obtain ⟨l, b, xs, zs, rfl, rfl, hH, hB, hz, q⟩ := h
  cases rx
  cases ry
  obtain ⟨z, its, n, r, hl, e⟩ := I.lstM hH
  obtain ⟨z2, its2, n2, r2, hl2, e2⟩ := I.lstM hB
  refine PySem.P.add_list e e2 ?_ (by rw [List.size_toArray, List.size_toArray]; omega)
  have ea : its.toArray ++ its2.toArray = (its ++ its2).toArray := by simp
  rw [ea]
  exact ⟨.ref _, _, I.lnew (t' := s.toks) (r.append r2) (by rw [List.length_append]; omega), rfl, q _ I.fresh⟩
end
section
variable {prog : Program} {w : World} {A : Around} {E : Value → Shared → Prop} {s : Shared}
set_option maxRecDepth 100000 in
end
section
variable {X : Cx}
end
end L2
end
section
namespace L2
open PySem PySem.Spec PyProof.Rows
section
variable {κ : Type} [DecidableEq κ]
def valV (kvs : List (κ × V)) (k : κ) : Option V := (kvs.find? fun kv => decide (kv.1 = k)).map (·.2)
def putK (kvs : List (κ × V)) (k : κ) (v : V) : List (κ × V) :=
  if (kvs.any fun kv => decide (kv.1 = k)) = true then kvs.map (fun kv => if kv.1 = k then (kv.1, v) else kv) else kvs ++ [(k, v)]
def dropK (kvs : List (κ × V)) (k : κ) : List (κ × V) := kvs.filter fun kv => decide (kv.1 ≠ k)
theorem valV_pos {p : κ × V} {r : List (κ × V)} {k : κ} (e : p.1 = k) : valV (p :: r) k = some p.2 := by simp [valV, List.find?_cons, e]
theorem valV_neg {p : κ × V} {r : List (κ × V)} {k : κ} (e : ¬ p.1 = k) : valV (p :: r) k = valV r k := by simp [valV, List.find?_cons, e]
theorem valV_any (k : κ) : ∀ kvs : List (κ × V), (kvs.any fun kv => decide (kv.1 = k)) = (valV kvs k).isSome
  | [] => rfl
  | p :: r => by
    rw [List.any_cons]
    by_cases e : p.1 = k
    · simp only [valV_pos e, decide_eq_true e, Bool.true_or, Option.isSome_some]
    · rw [valV_neg e, decide_eq_false e, Bool.false_or]; exact valV_any k r
theorem valV_map (k j : κ) (y : V) : ∀ kvs : List (κ × V), valV (kvs.map fun kv => if kv.1 = k then (kv.1, y) else kv) j = (valV kvs j).map fun x => if j = k then y else x
  | [] => rfl
  | p :: r => by
    have ih := valV_map k j y r
    rw [List.map_cons]
    by_cases h : p.1 = k
    · rw [if_pos h]
      by_cases e : p.1 = j
      · rw [valV_pos (p := (p.1, y)) e, valV_pos e, Option.map_some, if_pos (e.symm.trans h)]
      · rw [valV_neg (p := (p.1, y)) e, valV_neg e, ih]
    · rw [if_neg h]
      by_cases e : p.1 = j
      · rw [valV_pos (p := p) e, valV_pos e, Option.map_some, if_neg (fun z => h (e.trans z))]
      · rw [valV_neg (p := p) e, valV_neg e, ih]
theorem valV_snoc (k j : κ) (y : V) : ∀ kvs : List (κ × V), valV kvs k = none → valV (kvs ++ [(k, y)]) j = if j = k then some y else valV kvs j
  | [], _ => by
    by_cases e : k = j
    · rw [if_pos e.symm]; exact valV_pos (p := (k, y)) e
    · rw [if_neg (fun z => e z.symm)]; exact valV_neg (p := (k, y)) e
  | p :: r, hn => by
    rw [List.cons_append]
    have hk : ¬ p.1 = k := fun z => by rw [valV_pos z] at hn; cases hn
    rw [valV_neg hk] at hn
    have ih := valV_snoc k j y r hn
    by_cases e : p.1 = j
    · rw [valV_pos e, valV_pos e, if_neg (fun z => hk (e.trans z))]
    · rw [valV_neg e, valV_neg e, ih]
theorem valV_put (kvs : List (κ × V)) (k j : κ) (y : V) : valV (putK kvs k y) j = if j = k then some y else valV kvs j := by
  unfold putK
  by_cases a : (kvs.any fun kv => decide (kv.1 = k)) = true
  · rw [if_pos a, valV_map]
    rw [valV_any] at a
    by_cases e : j = k
    · obtain ⟨x, hx⟩ := Option.isSome_iff_exists.mp a
      rw [if_pos e, e, hx, Option.map_some, if_pos rfl]
    · rw [if_neg e]
      cases valV kvs j with
      | none => rfl
      | some x => rw [Option.map_some, if_neg e]
  · rw [if_neg a]
    refine valV_snoc k j y kvs ?_
    rw [valV_any] at a
    cases q : valV kvs k with
    | none => rfl
    | some x => rw [q] at a; exact (a rfl).elim
theorem length_putK (kvs : List (κ × V)) (k : κ) (v : V) : (putK kvs k v).length ≤ kvs.length + 1 := by
  unfold putK
  split
  · rw [List.length_map]; omega
  · rw [List.length_append, List.length_cons, List.length_nil]; omega
theorem putK_new {kvs : List (κ × V)} {k : κ} (v : V) (h : valV kvs k = none) : putK kvs k v = kvs ++ [(k, v)] := by
  unfold putK
  rw [valV_any, h]
  exact if_neg (by decide)
theorem RelO.isSome_eq {o : Option V} {u : Option Value} (r : RelO o u) : o.isSome = u.isSome := by
  cases o with
  | none => cases u with
    | none => rfl
    | some _ => exact (show False from r).elim
  | some _ => cases u with
    | none => exact (show False from r).elim
    | some _ => rfl
theorem KV.val {kvs : List (κ × V)} {vs : List (κ × Value)} (r : KV kvs vs) (k : κ) : RelO (valV kvs k) (valueAt vs k) := by
  unfold KV at r
  induction r with
  | nil => exact True.intro
  | @cons p q ps qs h t ih =>
    obtain ⟨h1, h2⟩ := h
    by_cases e : p.1 = k
    · have e' : q.1 = k := h1.symm.trans e
      have b : valueAt (q :: qs) k = some q.2 := by simp [valueAt, List.find?_cons, e']
      rw [valV_pos e, b]; exact h2
    · have e' : ¬ q.1 = k := fun z => e (h1.trans z)
      have b : valueAt (q :: qs) k = valueAt qs k := by simp [valueAt, List.find?_cons, e']
      rw [valV_neg e, b]; exact ih
theorem KV.any {kvs : List (κ × V)} {vs : List (κ × Value)} (r : KV kvs vs) (k : κ) : (kvs.any fun kv => decide (kv.1 = k)) = vs.any fun kv => decide (kv.1 = k) := by
  unfold KV at r
  induction r with
  | nil => rfl
  | cons h t ih => rw [List.any_cons, List.any_cons, ih, h.1]
theorem KV.repl {kvs : List (κ × V)} {vs : List (κ × Value)} (r : KV kvs vs) (k : κ) {y : V} {u : Value} (ry : RelV y u) :
    KV (kvs.map fun kv => if kv.1 = k then (kv.1, y) else kv) (vs.map fun kv => if kv.1 = k then (kv.1, u) else kv) := by
  unfold KV at r ⊢
  induction r with
  | nil => exact .nil
  | @cons p q ps qs h t ih =>
    rw [List.map_cons, List.map_cons]
    refine .cons ?_ ih
    obtain ⟨h1, h2⟩ := h
    by_cases e : p.1 = k
    · rw [if_pos e, if_pos (h1.symm.trans e)]; exact ⟨h1, ry⟩
    · rw [if_neg e, if_neg (fun z => e (h1.trans z))]; exact ⟨h1, h2⟩
theorem KV.put {kvs : List (κ × V)} {vs : List (κ × Value)} (r : KV kvs vs) (k : κ) {y : V} {u : Value} (ry : RelV y u) : KV (putK kvs k y) (stored vs k u) := by
  unfold putK stored
  rw [r.any k]
  by_cases e : (vs.any fun kv => decide (kv.1 = k)) = true
  · rw [if_pos e, if_pos e]; exact r.repl k ry
  · rw [if_neg e, if_neg e]; exact Paired.snoc r ⟨rfl, ry⟩
theorem KV.length {kvs : List (κ × V)} {vs : List (κ × Value)} (r : KV kvs vs) : kvs.length = vs.length := Paired.length r
end
theorem kV_is {P : Program} {w : World} {k : Key} {u : Value} (r : RelV (kV k) u) : (mixKind P w).is k u = true := by
  cases k with
  | inl i => obtain ⟨t, e⟩ := (show ∃ t, u = Value.int i t from r); subst e; exact mixKind_int P w i t
  | inr x => obtain ⟨t, e⟩ := (show ∃ t, u = Value.str x t from r); subst e; exact mixKind_str P w x t
theorem items_are {P : Program} {w : World} : ∀ {ks : List Key} {us : List Value}, Vals (ks.map kV) us → ItemsAre (mixKind P w) ks us
  | [], _, r => by rw [List.map_nil] at r; cases r; exact .nil
  | k :: ks, _, r => by
    rw [List.map_cons] at r
    cases r with
    | cons h t => exact .cons (kV_is h) (items_are t)
abbrev KT (H : Hp) : List (List Key × V) → List (List Key × Addr × Value) → Prop := Paired fun p q => p.1 = q.1 ∧ H q.2.1 = some (.tup (p.1.map kV)) ∧ RelV p.2 q.2.2
theorem KT.val {H : Hp} {kvs : List (List Key × V)} {xs : List (List Key × Addr × Value)} (r : KT H kvs xs) (k : List Key) : RelO (valV kvs k) ((atKey xs k).map (·.2)) := by
  induction r with
  | nil => exact True.intro
  | @cons p q ps qs h t ih =>
    obtain ⟨h1, _, h2⟩ := h
    by_cases e : p.1 = k
    · have e' : q.1 = k := h1.symm.trans e
      have b : atKey (q :: qs) k = some q.2 := by simp [atKey, List.find?_cons, e']
      rw [valV_pos e, b]; exact h2
    · have e' : ¬ q.1 = k := fun z => e (h1.trans z)
      have b : atKey (q :: qs) k = atKey qs k := by simp [atKey, List.find?_cons, e']
      rw [valV_neg e, b]; exact ih
theorem KT.repl {H : Hp} {kvs : List (List Key × V)} {xs : List (List Key × Addr × Value)} (r : KT H kvs xs) (k : List Key) {y : V} {u : Value} (ry : RelV y u) :
    KT H (kvs.map fun kv => if kv.1 = k then (kv.1, y) else kv) (xs.map (putAt k u)) := by
  induction r with
  | nil => exact .nil
  | @cons p q ps qs h t ih =>
    rw [List.map_cons, List.map_cons]
    refine .cons ?_ ih
    obtain ⟨h1, h2, h3⟩ := h
    unfold putAt
    by_cases e : p.1 = k
    · rw [if_pos e, if_pos (h1.symm.trans e)]; exact ⟨h1, h2, ry⟩
    · rw [if_neg e, if_neg (fun z => e (h1.trans z))]; exact ⟨h1, h2, h3⟩
theorem KT.put {H : Hp} {kvs : List (List Key × V)} {xs : List (List Key × Addr × Value)} (r : KT H kvs xs) (k : List Key) {b : Addr} {y : V} {u : Value} (hb : H b = some (.tup (k.map kV))) (ry : RelV y u) :
    KT H (putK kvs k y) (storedH xs k b u) := by
  have e : (kvs.any fun kv => decide (kv.1 = k)) = (atKey xs k).isSome := by
    rw [valV_any, (r.val k).isSome_eq, Option.isSome_map]
  unfold putK storedH
  rw [e]
  by_cases q : (atKey xs k).isSome = true
  · rw [if_pos q, if_pos q]; exact r.repl k ry
  · rw [if_neg q, if_neg q]; exact Paired.snoc r ⟨rfl, hb, ry⟩
theorem KT.keeps {H H' : Hp} {kvs : List (List Key × V)} {xs : List (List Key × Addr × Value)} (r : KT H kvs xs) (ht : ∀ b ys, H b = some (.tup ys) → H' b = some (.tup ys)) : KT H' kvs xs :=
  Paired.mapP r fun _ _ z => ⟨z.1, ht _ _ z.2.1, z.2.2⟩
section
variable {P : Program} {w : World} {H : Hp} {h : Heap} {a : Addr}
theorem rd_of {u : HO} (ok : HOk P w H h) (e : Rd H a u) : ObjOk P w H h a u := e.ok ok
theorem dk_rd {kvs : List (Key × V)} (ok : HOk P w H h) (e : Rd H a (.dK kvs)) : kvs.length ≤ sizeLine ∧ (a == sysModules) = false ∧ ∃ vs, KV kvs vs ∧ h.DictOf (mixKind P w) a vs :=
  show ObjOk P w H h a (.dK kvs) from rd_of ok e
theorem dk_of {kvs : List (Key × V)} (ok : HOk P w H h) (e : H a = some (.dK kvs)) : kvs.length ≤ sizeLine ∧ (a == sysModules) = false ∧ ∃ vs, KV kvs vs ∧ h.DictOf (mixKind P w) a vs := dk_rd ok (.inl e)
theorem key_of {ks : List Key} (ok : HOk P w H h) (e : H a = some (.tup (ks.map kV))) : (tupleKind (mixKind P w)).is h ks a := by
  obtain ⟨_, its, r, o, h1, h2, n, h3⟩ := (show ObjOk P w H h a (.tup (ks.map kV)) from ok a _ e)
  exact ⟨o, its.toArray, n, h1, h2, h3, by simpa using items_are r⟩
theorem dt_rd {kvs : List (List Key × V)} (ok : HOk P w H h) (e : Rd H a (.dT kvs)) : kvs.length ≤ sizeLine ∧ (a == sysModules) = false ∧
    ∃ xs, KT H kvs xs ∧ h.DictOfH (tupleKind (mixKind P w)) a xs := by
  obtain ⟨z, y, xs, r, o, es, ep, h1, h2, h3, h4, h5⟩ := (show ObjOk P w H h a (.dT kvs) from rd_of ok e)
  refine ⟨z, y, xs, r, o, es, ep, h1, h2, h3, h4, fun x hx => ?_, h5⟩
  have all : ∀ {l : List (List Key × V)} {m : List (List Key × Addr × Value)}, KT H l m → ∀ x ∈ m, (tupleKind (mixKind P w)).is h x.1 x.2.1 := by
    intro l m q
    induction q with
    | nil => intro x hx; exact nomatch hx
    | @cons p q ps qs hq t ih =>
      intro x hx
      rcases List.mem_cons.mp hx with e | hx
      · subst e
        exact key_of ok (by rw [← hq.1]; exact hq.2.1)
      · exact ih x hx
  exact all r x hx
theorem dt_of {kvs : List (List Key × V)} (ok : HOk P w H h) (e : H a = some (.dT kvs)) : kvs.length ≤ sizeLine ∧ (a == sysModules) = false ∧
    ∃ xs, KT H kvs xs ∧ h.DictOfH (tupleKind (mixKind P w)) a xs := dt_rd ok (.inl e)
end
def DGet (H : Hp) (a : Addr) (y : V) (r : Option V) : Prop :=
  (∃ kvs k, Rd H a (.dK kvs) ∧ y = kV k ∧ r = valV kvs k) ∨ ∃ kvs k b, Rd H a (.dT kvs) ∧ y = .ref b ∧ H b = some (.tup (k.map kV)) ∧ r = valV kvs k
def DPut (H : Hp) (a : Addr) (y v : V) (H' : Hp) : Prop :=
  (∃ kvs k, H a = some (.dK kvs) ∧ y = kV k ∧ kvs.length < sizeLine ∧ H' = upd H a (.dK (putK kvs k v))) ∨
  ∃ kvs k b, H a = some (.dT kvs) ∧ y = .ref b ∧ H b = some (.tup (k.map kV)) ∧ kvs.length < sizeLine ∧ H' = upd H a (.dT (putK kvs k v))
theorem DGet.k {H : Hp} {a : Addr} {kvs : List (Key × V)} {k : Key} (e : H a = some (.dK kvs)) : DGet H a (kV k) (valV kvs k) := .inl ⟨kvs, k, .inl e, rfl, rfl⟩
theorem DPut.k {H : Hp} {a : Addr} {kvs : List (Key × V)} {k : Key} {v : V} (e : H a = some (.dK kvs)) (hl : kvs.length < sizeLine) : DPut H a (kV k) v (upd H a (.dK (putK kvs k v))) := .inl ⟨kvs, k, e, rfl, hl, rfl⟩
section
variable {X : Cx} {pins : List (Addr × Obj)} {σ : St} {H : Hp} {s : Shared} {a : Addr} {y v : V} {u r : Value} {o : Option V} {A : Around} {E : Value → Shared → Prop}
theorem Inv.big (I : Inv X pins σ H s) : sysModules < s.heap.objs.size := by
  have h : mainGlobals < s.heap.objs.size := (I.mod.glob.keeps I.bk).lt
  exact Nat.lt_trans (by decide) h
theorem d_getItem {Q : Value → Shared → Prop} (hu : A.units + 1 < cLine) (I : Inv X pins σ H s) (g : DGet H a y (some v)) (ry : RelV y u) (h : ∀ w' s', Inv X pins σ H s' → RelV v w' → Q w' s') :
    wpAny (model X.prog X.w) A (getItem (.ref a) u) Q E s := by
  rcases g with ⟨kvs, k, e, ey, l⟩ | ⟨kvs, k, b, e, ey, eb, l⟩
  · subst ey
    obtain ⟨z, hd, vs, rel, dd⟩ := dk_rd I.hok e
    obtain ⟨w', hw, rw'⟩ := RelO.some_of (v := v) (o := valueAt vs k) (by rw [l]; exact rel.val k)
    exact wpAny_getItem_of (kV_is ry) dd.mapOf hw (h w' _ (I.tok _) rw')
  · subst ey
    cases (show u = Value.ref b from ry)
    obtain ⟨z, hd, xs, rel, dd⟩ := dt_rd I.hok e
    obtain ⟨w', hw, rw'⟩ := RelO.some_of (v := v) (o := (atKey xs k).map (·.2)) (by rw [l]; exact rel.val k)
    obtain ⟨p, hp, hp2⟩ := Option.map_eq_some_iff.mp hw
    refine wpAny_getItem_heap (tupleKind_room_in1 hu) (key_of I.hok eb) dd hp ?_
    rw [hp2]
    exact h w' _ (I.tok _) rw'
theorem d_in {Q : Value → Shared → Prop} (hu : A.units + 1 < cLine) (I : Inv X pins σ H s) (g : DGet H a y o) (ry : RelV y u) (h : ∀ s', Inv X pins σ H s' → Q (.bool o.isSome) s') :
    wpAny (model X.prog X.w) A (compareOp .In u (.ref a)) Q E s := by
  rcases g with ⟨kvs, k, e, ey, l⟩ | ⟨kvs, k, b, e, ey, eb, l⟩
  · subst ey
    obtain ⟨z, hd, vs, rel, dd⟩ := dk_rd I.hok e
    refine wpAny_in_of (kV_is ry) hd dd.mapOf ?_
    rw [← (rel.val k).isSome_eq, ← l]
    exact h _ (I.tok _)
  · subst ey
    cases (show u = Value.ref b from ry)
    obtain ⟨z, hd, xs, rel, dd⟩ := dt_rd I.hok e
    refine wpAny_in_heap (tupleKind_room_in1 hu) (key_of I.hok eb) hd dd ?_
    have q := (rel.val k).isSome_eq
    rw [Option.isSome_map] at q
    rw [← q, ← l]
    exact h _ (I.tok _)
theorem d_notIn {Q : Value → Shared → Prop} (hu : A.units + 1 < cLine) (I : Inv X pins σ H s) (g : DGet H a y o) (ry : RelV y u) (h : ∀ s', Inv X pins σ H s' → Q (.bool (!o.isSome)) s') :
    wpAny (model X.prog X.w) A (compareOp .NotIn u (.ref a)) Q E s := by
  rcases g with ⟨kvs, k, e, ey, l⟩ | ⟨kvs, k, b, e, ey, eb, l⟩
  · subst ey
    obtain ⟨z, hd, vs, rel, dd⟩ := dk_rd I.hok e
    refine wpAny_notIn_of (kV_is ry) hd dd.mapOf ?_
    rw [← (rel.val k).isSome_eq, ← l]
    exact h _ (I.tok _)
  · subst ey
    cases (show u = Value.ref b from ry)
    obtain ⟨z, hd, xs, rel, dd⟩ := dt_rd I.hok e
    refine wpAny_notIn_heap (tupleKind_room_in1 hu) (key_of I.hok eb) hd dd ?_
    have q := (rel.val k).isSome_eq
    rw [Option.isSome_map] at q
    rw [← q, ← l]
    exact h _ (I.tok _)
theorem d_write {h' : Heap} {t' : Nat} {ob : HO} (I : Inv X pins σ H s) (mu : Mut (H a)) (hs : Heap.SameBut a s.heap h') (he : ∃ q, h'.get? a = some q) (new : ObjOk X.prog X.w (upd H a ob) h' a ob) :
    Inv X pins σ (upd H a ob) { s with heap := h', toks := t' } :=
  I.write (x := a) (e := a) mu (.inl rfl) (fun b q hb z => (hs.2 b hb).trans z) he new
theorem dk_new {P : Program} {w : World} {H' : Hp} {h' : Heap} {kvs : List (Key × V)} {vs : List (Key × Value)} (z : kvs.length ≤ sizeLine) (hd : (a == sysModules) = false) (rel : KV kvs vs) (dd : h'.DictOf (mixKind P w) a vs) :
    ObjOk P w H' h' a (.dK kvs) := ⟨z, hd, vs, rel, dd⟩
theorem d_setItem {H' : Hp} {Q : Unit → Shared → Prop} (hu : A.units + 1 < cLine) (I : Inv X pins σ H s) (g : DPut H a y v H') (ry : RelV y u) (rv : RelV v r) (h : ∀ s', Inv X pins σ H' s' → Q () s') :
    wpAny (model X.prog X.w) A (setItem (.ref a) u r) Q E s := by
  rcases g with ⟨kvs, k, e, ey, l, eH⟩ | ⟨kvs, k, b, e, ey, eb, l, eH⟩
  · subst ey eH
    obtain ⟨z, hd, vs, rel, dd⟩ := dk_of I.hok e
    have hz : vs.length ≤ sizeLine := by rw [← rel.length]; exact z
    have hl : (putK kvs k v).length ≤ sizeLine := by have := length_putK kvs k v; omega
    refine wpAny_setItem_pairs (hsz := hz) (kV_is ry) dd fun h' dd' hs => h _ ?_
    have he : ∃ q, h'.get? a = some q := let ⟨q, _, _, hq, _⟩ := dd'; ⟨q, hq⟩
    exact d_write I (by rw [e]; exact True.intro) hs he (dk_new hl hd (rel.put k rv) dd')
  · subst ey eH
    cases (show u = Value.ref b from ry)
    obtain ⟨z, hd, xs, rel, dd⟩ := dt_of I.hok e
    have hz : xs.length ≤ sizeLine := by rw [← Paired.length rel]; exact z
    have hl : (putK kvs k v).length ≤ sizeLine := by have := length_putK kvs k v; omega
    refine wpAny_setItem_heap (hsz := hz) (tupleKind_room_in1 hu) (key_of I.hok eb) dd fun h' dd' hs => h _ ?_
    obtain ⟨q, es, ep, hq, h2, h3, h4, _, h5⟩ := dd'
    refine d_write I (by rw [e]; exact True.intro) hs ⟨q, hq⟩ ⟨hl, hd, _, (rel.put k eb rv).keeps fun c ys ec => ?_, q, es, ep, hq, h2, h3, h4, h5⟩
    rw [upd_ne (ne_of ec e (fun z => nomatch z))]
    exact ec
end
section
variable {X : Cx} {pins : List (Addr × Obj)} {σ : St} {H : Hp} {s : Shared} {a : Addr} {kvs : List (Key × V)} {k : Key} {u : Value} {A : Around} {E : Value → Shared → Prop}
end
def NoSl (i : Expr) : Prop := ∀ ov iv, subscripted i false ov iv = operate [ov, iv] (getItem ov iv)
theorem subD_of {prog : Program} {w : World} {A : Around} {E : Value → Shared → Prop} {s : Shared} {env : Env} {value slice : Expr} {pos : Pos} {T id : String} {Q : Value → Shared → Prop}
    (hl : typeLookup (.type T) "__getitem__" = pure (some (.builtin id))) (hs : NoSl slice)
    (h : wpAny (model prog w) A (eval value env) (fun o s₁ => wpAny (model prog w) A (eval slice env) (fun i s₂ => s₂.TypeIs o T ∧ wpAny (model prog w) A (getItem o i) Q E s₂) E s₁) E s) :
    wpAny (model prog w) A (eval (.Subscript value slice pos) env) Q E s := by
  refine Subscript_ (wpAny_mono h (fun o s₁ h₁ => wpAny_mono h₁ (fun i s₂ h₂ => ?_) fun _ _ x => x) fun _ _ x => x)
  obtain ⟨hT, h₂⟩ := h₂
  unfold subscriptTail
  refine wpAny_bind ?_
  rw [getitemInPython_of_ne hT.not_modules]
  refine wpAny_bind (wpAny_specialOf hT hl ?_)
  have fin : wpAny (model prog w) A (subscripted slice false o i) (fun r s₃ => wpAny (model prog w) A (letTemporaryGo value o r >>= fun _ => pure r) Q E s₃) E s₂ := by
    rw [hs o i]
    exact wpAny_operating (wpAny_mono h₂ (fun r s₃ h₃ => wpAny_bind (wpAny_letTemporaryGo (wpAny_pure h₃))) fun _ _ x => x)
  first
    | exact wpAny_pure (wpAny_bind fin)
    | exact wpAny_bind (wpAny_pure (wpAny_bind fin))
    | exact wpAny_bind fin
theorem dict_typeIs {X : Cx} {pins : List (Addr × Obj)} {σ : St} {H : Hp} {s : Shared} {a : Addr} {y : V} {o : Option V} (I : Inv X pins σ H s) (g : DGet H a y o) : s.TypeIs (.ref a) "dict" := by
  rcases g with ⟨kvs, k, e, _, _⟩ | ⟨kvs, k, b, e, _, _, _⟩
  · obtain ⟨_, _, vs, _, dd⟩ := dk_rd I.hok e
    exact dd.typeIs
  · obtain ⟨_, _, xs, _, dd⟩ := dt_rd I.hok e
    exact dd.typeIs
def tDGet (td ty : TE) : TE := fun σ H Q => td σ H fun x H1 => ty σ H1 fun y H2 => ∃ a v, x = .ref a ∧ DGet H2 a y (some v) ∧ Q v H2
def tDIn (ty td : TE) : TE := fun σ H Q => ty σ H fun y H1 => td σ H1 fun x H2 => ∃ a o, x = .ref a ∧ DGet H2 a y o ∧ Q (.bl o.isSome) H2
def tDNotIn (ty td : TE) : TE := fun σ H Q => ty σ H fun y H1 => td σ H1 fun x H2 => ∃ a o, x = .ref a ∧ DGet H2 a y o ∧ Q (.bl (!o.isSome)) H2
def sDPut (td ty tv : TE) : TS := fun D σ H => tv σ H fun v H1 => td σ H1 fun x H2 => ty σ H2 fun y H3 => ∃ a H4, x = .ref a ∧ DPut H3 a y v H4 ∧ D.nx σ H4
section
variable {X : Cx} {o i e value : Expr} {pos pos' tpos : Pos} {td ty tv : TE}
theorem pe_dget (hu : X.A.units + 1 < cLine) (ho : PE X o td) (hi : PE X i ty) (hs : NoSl i) : PE X (.Subscript o i pos) (tDGet td ty) := by
  intro pins s σ H Q I h
  refine subD_of PySem.F.slot_dict_getitem.lookup hs (thn (ho pins s σ H _ I h) fun u s1 ⟨x, H1, I1, rx, q1⟩ => thn (hi pins s1 σ H1 _ I1 q1) fun iv s2 ⟨y, H2, I2, ry, a, v, ex, g, q2⟩ => ?_)
  subst ex
  obtain rfl : u = Value.ref a := rx
  exact ⟨dict_typeIs I2 g, d_getItem hu I2 g ry fun w' s3 I3 rw' => ⟨v, H2, I3, rw', q2⟩⟩
theorem pc_din (hu : X.A.units + 1 < cLine) (hi : PE X i ty) (ho : PE X o td) : PC X .In i o (tDIn ty td) := by
  intro pins s σ H Q I h
  refine thn (hi pins s σ H _ I h) fun iv s1 ⟨y, H1, I1, ry, q1⟩ => thn (ho pins s1 σ H1 _ I1 q1) fun u s2 ⟨x, H2, I2, rx, a, ov, ex, g, q2⟩ => ?_
  subst ex
  obtain rfl : u = Value.ref a := rx
  exact d_in hu I2 g ry fun s3 I3 => ⟨.bl ov.isSome, H2, I3, rfl, q2⟩
theorem pc_dnotin (hu : X.A.units + 1 < cLine) (hi : PE X i ty) (ho : PE X o td) : PC X .NotIn i o (tDNotIn ty td) := by
  intro pins s σ H Q I h
  refine thn (hi pins s σ H _ I h) fun iv s1 ⟨y, H1, I1, ry, q1⟩ => thn (ho pins s1 σ H1 _ I1 q1) fun u s2 ⟨x, H2, I2, rx, a, ov, ex, g, q2⟩ => ?_
  subst ex
  obtain rfl : u = Value.ref a := rx
  exact d_notIn hu I2 g ry fun s3 I3 => ⟨.bl (!ov.isSome), H2, I3, rfl, q2⟩
theorem ps_dput (hu : X.A.units + 1 < cLine) (ho : PE X o td) (hi : PE X i ty) (hv : PE X value tv) (hs : swapsWith value (some (.Subscript o i pos')) pos.line X.env = pure false) :
    PS X (.Assign [.Subscript o i pos'] value pos) (sDPut td ty tv) := by
  intro pins s σ H D I h
  refine wpAny_Assign_Subscript (thn (hv pins s σ H _ I h) fun r s1 ⟨v, H1, I1, rv, q1⟩ => thn (ho pins s1 σ H1 _ I1 q1) fun u s2 ⟨x, H2, I2, rx, q2⟩ => thn (hi pins s2 σ H2 _ I2 q2) fun iv s3 ⟨y, H3, I3, ry, a, H4, ex, g, q3⟩ => ?_) hs
  subst ex
  obtain rfl : u = Value.ref a := rx
  exact d_setItem hu I3 g ry rv fun s4 I4 => ⟨σ, H4, I4, q3⟩
end
theorem dk_empty {P : Program} {w : World} {H : Hp} (h : Heap) (hb : sysModules < h.objs.size) : ObjOk P w H (h.push { cls := .type "dict", data := .dict #[] }) h.objs.size (.dK []) :=
  ⟨Nat.zero_le _, beq_eq_false_iff_ne.mpr (Ne.symm (Nat.ne_of_lt hb)), [], .nil, Heap.DictOf.new h⟩
def tDNewK : TE := fun _ H Q => ∀ p, H p = none → Q (.ref p) (upd H p (.dK []))
section
variable {X : Cx} {pos : Pos}
theorem pe_dnewK : PE X (.Dict [] [] pos) tDNewK := fun pins s σ H Q I h =>
  wpAny_Dict_empty ⟨.ref s.heap.objs.size, _, I.laid (a := s.heap.objs.size) (o := .dK []) (t' := s.toks) (fun _ _ q => Heap.get?_push_of_some _ q) (Nat.le_refl _) (dk_empty s.heap I.big), rfl, h _ (I.hok.fresh (Nat.le_refl _))⟩
end
def tPairs : List (TE × TE) → St → Hp → (List (V × V) → Hp → Prop) → Prop
  | [], _, H, Q => Q [] H
  | (tk, tv) :: r, σ, H, Q => tk σ H fun x H1 => tv σ H1 fun y H2 => tPairs r σ H2 fun ps H3 => Q ((x, y) :: ps) H3
abbrev VV : List (V × V) → List (Value × Value) → Prop := Paired fun p q => RelV p.1 q.1 ∧ RelV p.2 q.2
def PPs (X : Cx) (pos : Pos) (keys : List (Option Expr)) (values : List Expr) (trs : List (TE × TE)) : Prop :=
  ∀ (pins : List (Addr × Obj)) (s : Shared) (σ : St) (H : Hp) (Q : List (V × V) → Hp → Prop), Inv X pins σ H s → tPairs trs σ H Q →
    wpAny (model X.prog X.w) X.A (evalPairs (pairTrees keys values X.env pos)) (fun vs s' => ∃ ps H', Inv X pins σ H' s' ∧ VV ps vs ∧ Q ps H') X.xe s
theorem pps_nil {X : Cx} {pos : Pos} : PPs X pos [] [] [] := fun pins s σ H Q I h => pairTrees_nil_walk ⟨[], H, I, .nil, h⟩
theorem pps_cons {X : Cx} {pos : Pos} {k v : Expr} {ks : List (Option Expr)} {vs : List Expr} {tk tv : TE} {trs : List (TE × TE)} (hk : PE X k tk) (hv : PE X v tv) (hr : PPs X pos ks vs trs) :
    PPs X pos (some k :: ks) (v :: vs) ((tk, tv) :: trs) := fun pins s σ H Q I h =>
  pairTrees_cons_walk (thn (hk pins s σ H _ I h) fun u s1 ⟨x, H1, I1, rx, q1⟩ => thn (hv pins s1 σ H1 _ I1 q1) fun w2 s2 ⟨y, H2, I2, ry, q2⟩ =>
    thn (hr pins s2 σ H2 _ I2 q2) fun ws s3 ⟨ps, H3, I3, rel, q3⟩ => ⟨(x, y) :: ps, H3, I3, .cons ⟨rx, ry⟩ rel, q3⟩)
def mergeK (kvs more : List (Key × V)) : List (Key × V) := more.foldl (fun acc kv => putK acc kv.1 kv.2) kvs
theorem KV.merge : ∀ {more : List (Key × V)} {rs : List (Key × Value)} {kvs : List (Key × V)} {vs : List (Key × Value)}, KV more rs → KV kvs vs → KV (mergeK kvs more) (merged vs rs) := by
  intro more rs kvs vs r
  unfold KV at r
  induction r generalizing kvs vs with
  | nil => intro q; exact q
  | @cons p q ps qs h t ih =>
    intro r0
    have e : KV (putK kvs p.1 p.2) (stored vs q.1 q.2) := by
      have := r0.put p.1 h.2
      rw [← h.1]; exact this
    exact ih e
theorem length_mergeK : ∀ (more kvs : List (Key × V)), (mergeK kvs more).length ≤ kvs.length + more.length
  | [], kvs => by show kvs.length ≤ kvs.length + 0; omega
  | p :: r, kvs => by
    have h1 := length_mergeK r (putK kvs p.1 p.2)
    have h2 := length_putK kvs p.1 p.2
    show (mergeK (putK kvs p.1 p.2) r).length ≤ _
    rw [List.length_cons]; omega
theorem carries_of {P : Program} {w : World} : ∀ {kvs : List (Key × V)} {ws : List (Value × Value)}, VV (kvs.map fun kv => (kV kv.1, kv.2)) ws → ∃ rs, Carries (mixKind P w) ws rs ∧ KV kvs rs
  | [], _, r => by rw [List.map_nil] at r; cases r; exact ⟨[], True.intro, .nil⟩
  | p :: kvs, _, r => by
    rw [List.map_cons] at r
    cases r with
    | @cons a b as bs h t =>
      obtain ⟨rs, c, q⟩ := carries_of (P := P) (w := w) t
      obtain ⟨b1, b2⟩ := b
      exact ⟨(p.1, b2) :: rs, ⟨kV_is h.1, rfl, c⟩, .cons ⟨rfl, h.2⟩ q⟩
def tDisp (trs : List (TE × TE)) : TE := fun σ H Q => ∀ p, H p = none → tPairs trs σ (upd H p (.dK [])) fun ps H2 => H2 p = some (.dK []) ∧ ∃ kvs : List (Key × V), ps = kvs.map (fun kv => (kV kv.1, kv.2)) ∧ kvs.length ≤ 15 ∧ Q (.ref p) (upd H2 p (.dK (mergeK [] kvs)))
theorem pe_disp {X : Cx} {pos : Pos} {keys : List (Option Expr)} {values : List Expr} {trs : List (TE × TE)} (h : PPs X pos keys values trs) (hall : keys.all (·.isSome) = true) (hl : keys.length = values.length) (h0 : keys ≠ [])
    (h15 : keys.length ≤ 15) : PE X (.Dict keys values pos) (tDisp trs) := by
  intro pins s σ H Q I q
  have hn := I.hok.fresh (Nat.le_refl s.heap.objs.size)
  have I1 := I.laid (a := s.heap.objs.size) (o := .dK []) (h' := s.heap.push { cls := .type "dict", data := .dict #[] }) (t' := s.toks) (fun _ _ q => Heap.get?_push_of_some _ q) (Nat.le_refl _) (dk_empty s.heap I.big)
  refine wpAny_Dict_walk (knd := mixKind X.prog X.w) hall hl h0 h15 (thn (h pins _ σ _ _ I1 (q _ hn)) fun ws s2 ⟨ps, H2, I2, rel, e, kvs, ep, lk, q2⟩ => ?_)
  subst ep
  obtain ⟨rs, c, rk⟩ := carries_of (P := X.prog) (w := X.w) rel
  obtain ⟨z, hd, vs0, r0, dd⟩ := dk_of I2.hok e
  cases r0
  refine ⟨rs, c, dd, fun h' dd' hs => ⟨.ref s.heap.objs.size, _, ?_, rfl, q2⟩⟩
  have hz : (mergeK [] kvs).length ≤ sizeLine := by
    have h1 := length_mergeK kvs []
    rw [List.length_nil] at h1
    rw [sizeLine_eq]; omega
  have he : ∃ q, h'.get? s.heap.objs.size = some q := let ⟨q, _, _, hq, _⟩ := dd'; ⟨q, hq⟩
  exact d_write I2 (by rw [e]; exact True.intro) hs he (dk_new hz hd (rk.merge .nil) dd')
structure M1 (X : Cx) (o : Expr) (m : Str) (apos : Pos) (e : Expr) (cpos : Pos) : Prop where
  base : attributeBase o m X.env (eval o X.env) = eval o X.env
  few : ((backTo cpos (starEach [e] X.env)).all (fun x => !x.1) && (backToKw cpos (keywordEach [] X.env)).all (fun x => x.1.isSome)
    && decide (([e] : List Expr).length + ([] : List Keyword).length + (if ([] : List Keyword).isEmpty then 0 else 1) < 30)) = true
  line : (apos.endLine == cpos.line) = true
  trees : backTo cpos (starEach [e] X.env) = [(false, eval e X.env)]
structure M2 (X : Cx) (o : Expr) (m : Str) (apos : Pos) (e f : Expr) (cpos : Pos) : Prop where
  base : attributeBase o m X.env (eval o X.env) = eval o X.env
  few : ((backTo cpos (starEach [e, f] X.env)).all (fun x => !x.1) && (backToKw cpos (keywordEach [] X.env)).all (fun x => x.1.isSome)
    && decide (([e, f] : List Expr).length + ([] : List Keyword).length + (if ([] : List Keyword).isEmpty then 0 else 1) < 30)) = true
  line : (apos.endLine == cpos.line) = true
  trees : backTo cpos (starEach [e, f] X.env) = [(false, eval e X.env), (false, eval f X.env)]
section
variable {X : Cx} {pins : List (Addr × Obj)} {σ : St} {H : Hp} {s : Shared} {a : Addr} {y d : V} {u r : Value} {o : Option V} {A : Around} {E : Value → Shared → Prop}
end
section
variable {X : Cx} {o e f : Expr} {apos cpos : Pos} {td ty tx : TE}
end
section
variable {X : Cx} {pins : List (Addr × Obj)} {σ : St} {H : Hp} {s : Shared} {a : Addr} {kvs : List (Key × V)} {A : Around} {E : Value → Shared → Prop}
end
section
variable {X : Cx} {pins : List (Addr × Obj)} {σ : St} {H : Hp} {s : Shared} {a : Addr} {y : V} {u : Value} {A : Around} {E : Value → Shared → Prop}
end
end L2
end
section
namespace Att
open PySem PySem.W PySem.Calls PyProof.Rows
theorem ints_of_wellAll {P : Params} {h : Heap} : ∀ (ns : List Int) (vs : List Value), WellAll P h vs (ns.map WData.int) → IntsAre vs ns := by
  intro ns
  induction ns with
  | nil =>
    intro vs w
    rw [List.map_nil] at w
    cases w
    exact .nil
  | cons n ns ih =>
    intro vs w
    rw [List.map_cons] at w
    cases w with
    | cons a b =>
      cases a
      exact .cons _ _ (ih _ b)
theorem script_of {l : OpenLaw} {n : Nat} (hn : l.most = some n) {P : Params} {h : Heap} {args : List WData} {vals : List Value}
    (hpre : l.row.toRowW.claim.pre args = true) (hwl : WellAll P h vals args) :
    ∃ a vs ns, vals = [Value.ref a] ∧ args = [WData.list (ns.map WData.int)] ∧ h.get? a = some { cls := .type "list", data := .seq vs.toArray } ∧ IntsAre vs ns ∧ ns.length ≤ n := by
  have hsh : WShape.hasAll [] args [.list .int] = true := (pre_splitW hpre).1
  have hc : l.pre.holds [] { args := args } = true := (pre_splitW hpre).2
  obtain ⟨d, r, rfl, h1, h2⟩ := hasAllW_cons hsh
  obtain rfl := hasAllW_nil h2
  obtain ⟨xs, rfl, h3⟩ := hasW_list h1
  obtain ⟨ns, rfl⟩ := items_int h3
  have hlen : ns.length ≤ n := by
    unfold OpenLaw.pre at hc
    have h4 : (WTm.not (.lt (.lit (.int (n : Int))) (.len (.arg 0)))).holds [] { args := [.list (ns.map .int)] } = true := by
      have h4 := (holds_andW hc).1
      rw [hn] at h4
      exact h4
    have h5 := condW_of h4 (w_not (w_lt w_lit (w_len_list (w_arg rfl))))
    rw [List.length_map] at h5
    refine Nat.le_of_not_lt fun q => ?_
    have q' : (n : Int) < ((ns.length : Nat) : Int) := by omega
    first
      | (rw [decide_eq_true q'] at h5; exact absurd h5 (by decide))
      | (simp at h5; omega)
  cases hwl with
  | cons w1 w2 =>
    cases w2
    cases w1 with
    | list ho hall => exact ⟨_, _, ns, rfl, rfl, ho, ints_of_wellAll ns _ hall, hlen⟩
theorem post_true (l : OpenLaw) (args : List WData) : l.row.toRowW.claim.post args (.bool true) args = true :=
  postW_of (r := l.row.toRowW) (X := (true == true))
    (show WShape.has [] (.bool true) .bool = true by first | rfl | decide | simp [WShape.has, WShape.arms, WShape.armsAll])
    (show (WTm.eq .res (.lit (.bool true))).value [] { args := args, res := some (.bool true), after := args } = some (.bool (true == true)) from w_eq_bool (w_res rfl) w_lit) rfl
theorem attach_call {l : OpenLaw} {n : Nat} {q : Program} {loose : List Str} {XP : (Str → Option Value) → Heap → Prop} {YP : World → Heap → Prop} {d : DefRec}
    (hn : l.most = some n) (hdf : d.params.defaults = [])
    (call : ∀ (w : World) (s₀ s₁ : Shared) (mg mb : Str → Option Value) (fa : Addr) (o : Obj) (pm cd doc : Value) (a : Addr) (vs : List Value) (ns : List Int),
      Ground q loose [] XP w s₀ mg mb s₁.heap → YP w s₁.heap →
      s₁.heap.get? fa = some o → o.data = .func (docDef d.name d.params d.body d.scope pm cd doc) → s₁.heap.CodeRec cd d.name → mg d.name = some (.ref fa) →
      s₁.heap.get? a = some { cls := .type "list", data := .seq vs.toArray } → IntsAre vs ns → ns.length ≤ n → s₁.gens = #[] →
      codeAny (model l.prog w) callerA (.call (.ref fa) ⟨[.ref a], []⟩) (fun r s' => r = .ok (.ret (.bool true)) ∧ OldK s₁.heap s'.heap ∧ s'.os = s₁.os ∧ AllBare s'.gens) s₁) :
    WalkO q loose XP YP l.row.toRowW d [] (fun f vs => PySem.call f vs) := by
  intro w s₀ s₁ mg mb G Y fa o pm cd doc dV kV ho hd hcd hD hmg hg args vals as hpre hlay hrd hwl hlo
  obtain rfl : dV = .none := Dflts.none hD hdf
  obtain rfl : kV = .none := Dflts.noKw hD
  obtain ⟨a, vs, ns, rfl, rfl, hobj, hints, hlen⟩ := script_of hn hpre hwl
  refine enter_call (codeAny_mono (call w s₀ s₁ mg mb fa o pm cd doc a vs ns G Y ho (fd_plain hd) hcd hmg hobj hints hlen hg) fun r s' hq => ?_)
  obtain ⟨rfl, h2, h3, h4⟩ := hq
  exact ⟨.inl ⟨.bool true, .bool true, [], rfl, fun _ => rfl, .bool true, post_true l _, fun _ => ⟨List.Pairwise.nil, fun _ hm => (nomatch hm)⟩⟩, h2, h3, h4⟩
section
variable {prog : Program} {w : World} {A : Around} {E : Value → Shared → Prop} {s : Shared} {K : Frag}
def ledger (h : Heap) (L d : Addr) : List (Addr × Obj) := (List.range h.objs.size).filterMap fun a => if a = L ∨ a = d then none else (h.get? a).map fun o => (a, o)
end
end Att
namespace L2
open PySem PySem.Spec PyProof.Rows
theorem vals_ints : ∀ {vs : List Value} {ns : List Int}, IntsAre vs ns → Vals (ns.map V.int) vs
  | _, _, .nil => .nil
  | _, _, .cons n t h => .cons ⟨t, rfl⟩ (vals_ints h)
def Only (H : Hp) : Prop := ∀ b, H b = none ∨ ∃ o xs, H b = some (.frz o (.lst xs))
theorem law_call {P : Program} {w : World} {K : PySem.W.Frag} {mg mb : Str → Option Value} {CX : CXT} {k : Nat} {fa a : Addr} {fd : FuncData} {x : Str} {sp : Sp} {s₁ : Shared} {vs : List Value} {ns : List Int}
    (KX : K.In s₁.heap) (hns : s₁.heap.Ns mainGlobals mg) (hb : s₁.heap.Ns builtinsNs mb) (hbb : ∀ x : Str, x ≠ "__name__" → mb x = bootBuiltins x) (hlim : s₁.heap.NoLimit) (hg : s₁.gens = #[])
    (ha : s₁.heap.get? a = some { cls := .type "list", data := .seq vs.toArray }) (hi : IntsAre vs ns) (hl : ns.length ≤ sizeLine) (hr : Room k callerA)
    (F : ∀ base : Heap, K.In base → base.Ns mainGlobals mg → FnOk P w K mg base CX k fa fd [x] sp) (hbind : ∀ (s : Shared) (u : Value), BindsTo s fd ⟨[u], []⟩ [(x, u)])
    (hsp : ∀ H : Hp, Only H → SqL K H a (ns.map V.int) → sp [.ref a] H (fun v _ => v = .bl true) fun _ _ _ => False)
    (hCX : ∀ H e s', CX [] H s₁ (fun _ _ _ => False) e s' → False) :
    codeAny (model P w) callerA (.call (.ref fa) ⟨[.ref a], []⟩) (fun r s' => r = .ok (.ret (.bool true)) ∧ OldK s₁.heap s'.heap ∧ s'.os = s₁.os ∧ AllBare s'.gens) s₁ := by
  have rv := vals_ints hi
  have lenV := hi.length
  have core : ∀ H : Hp, Only H → SqL K H a (ns.map V.int) → HOk P w H s₁.heap → (∀ b, H b ≠ none → b = a) → (H a ≠ none → K.lookup a = none) →
      codeAny (model P w) callerA (.call (.ref fa) ⟨[.ref a], []⟩) (fun r s' => r = .ok (.ret (.bool true)) ∧ OldK s₁.heap s'.heap ∧ s'.os = s₁.os ∧ AllBare s'.gens) s₁ := by
    intro H hO hS hok hA hK
    have base_of : ∀ {b : Addr} {o : Obj}, s₁.heap.get? b = some o → H b = none → (hidT s₁.heap H).get? b = some o := fun e n => hidT_get e n
    have noA : ∀ {b : Addr} {o : Obj} {es : Array DictEntry} {ep : Nat}, s₁.heap.get? b = some o → o.data = .dict es ep → H b = none := fun {b o es ep} e d => by
      cases q : H b with
      | none => rfl
      | some u =>
        have e' : b = a := hA b (by rw [q]; simp)
        subst e'
        rw [ha] at e; cases e
        have d' : Data.seq vs.toArray _ = Data.dict es ep := d
        cases d'
    have nsK : ∀ {b : Addr} {m : Str → Option Value}, s₁.heap.Ns b m → (hidT s₁.heap H).Ns b m := fun {b m} ⟨o, es, ep, e, d, r⟩ => ⟨o, es, ep, base_of e (noA e d), d, r⟩
    have hKb : K.In (hidT s₁.heap H) := fun b o e => base_of (KX b o e) (by
      cases q : H b with
      | none => rfl
      | some u =>
        have e' : b = a := hA b (by rw [q]; simp)
        subst e'
        rw [hK (by rw [q]; simp)] at e; cases e)
    have hM : Mod K mg (hidT s₁.heap H) := ⟨hKb, nsK hns, ⟨mb, nsK hb, hbb⟩, let ⟨mc, h1, h2⟩ := hlim; ⟨mc, nsK h1, h2⟩⟩
    have e0 : Env0 P w K mg (hidT s₁.heap H) callerA [] s₁ H := ⟨rfl, hM, fun b o e => of_hidT e, Nat.le_of_eq (hidT_size _ _), trivial, fun b hb => absurd (show b ∈ ([] : List Addr) from hb) (by simp), hok, .of_eq hg⟩
    refine codeAny_mono ((F _ hKb (nsK hns)).run callerA [] s₁ H ⟨[.ref a], []⟩ [.ref a] [.ref a] _ _ hr e0 (hbind s₁ (.ref a)) (.cons rfl .nil) (hsp H hO hS)) fun r s' h => ?_
    cases r with
    | error e => exact (hCX H e s' h).elim
    | ok fl =>
      cases fl with
      | next => exact False.elim h
      | brk => exact False.elim h
      | cont => exact False.elim h
      | ret u =>
        obtain ⟨v, H', os, bare, un, hok', r', q⟩ := h
        have q' : v = .bl true := q
        subst q'
        obtain rfl : u = Value.bool true := r'
        refine ⟨rfl, OldK.of_keep fun b o e => ?_, os, bare⟩
        cases q : H b with
        | none => exact un.keep b o e q (by intro z; exact absurd (show b ∈ ([] : List Addr) from z) (by simp)) (by simp)
        | some u =>
          rcases hO b with z | ⟨ob, xs, z⟩
          · rw [q] at z; cases z
          · have z2 := un.frzs b ob _ z
            obtain ⟨e1, _⟩ := hok b _ z
            obtain ⟨e2, _⟩ := hok' b _ z2
            rw [e] at e1; cases e1
            exact e2
  cases hk : K.lookup a with
  | some o =>
    have e := KX a o hk
    rw [ha] at e
    cases e
    refine core (fun _ => none) (fun _ => .inl rfl) (.inr ⟨_, vs.toArray, _, hk, rfl, rfl, rfl, by rw [List.size_toArray, lenV]; exact hl, by simpa using rv⟩) (fun b u z => by have z' : (none : Option HO) = some u := z; cases z') (fun b z => absurd rfl z) fun z => absurd rfl z
  | none =>
    refine core (fun b => if b = a then some (.frz { cls := .type "list", data := .seq vs.toArray } (.lst (ns.map V.int))) else none) (fun b => ?_) (.inl (.inr ⟨{ cls := .type "list", data := .seq vs.toArray }, if_pos rfl⟩)) (fun b u z => ?_) (fun b z => ?_) fun _ => hk
    · by_cases hb : b = a
      · exact .inr ⟨_, _, if_pos hb⟩
      · exact .inl (if_neg hb)
    · by_cases hb : b = a
      · have z' := (if_pos hb).symm.trans z
        cases z'
        subst hb
        exact ⟨ha, by rw [List.length_map]; exact hl, vs, _, rv, ha⟩
      · have z' := (if_neg hb).symm.trans z
        cases z'
    · by_cases hb : b = a
      · exact hb
      · exact absurd (if_neg hb) z
end L2
namespace L2
open PySem PySem.Spec PyProof.Rows
theorem walk_of {l : PySem.W.OpenLaw} {n k : Nat} {q : Program} {loose : List Str} {XP : (Str → Option Value) → Heap → Prop} {YP : World → Heap → Prop} {d : DefRec} {K : Params → PySem.W.Frag} {CX : World → CXT} {sp : World → Sp} {x : Str}
    (hn : l.most = some n) (hn2 : n ≤ sizeLine) (hdf : d.params.defaults = []) (hr : Room k callerA)
    (hY : ∀ (w : World) (h : Heap), YP w h → (K w.params).In h)
    (F : ∀ (w : World) (mg : Str → Option Value) (fa : Addr) (h : Heap), (K w.params).In h → h.Ns mainGlobals mg → mg d.name = some (.ref fa) →
      ∃ fd : FuncData, (∀ (s : Shared) (u : Value), BindsTo s fd ⟨[u], []⟩ [(x, u)]) ∧
        ∀ base : Heap, (K w.params).In base → base.Ns mainGlobals mg → FnOk l.prog w (K w.params) mg base (CX w) k fa fd [x] (sp w))
    (hsp : ∀ (w : World) (H : Hp) (a : Addr) (ns : List Int), ns.length ≤ n → Only H → SqL (K w.params) H a (ns.map V.int) → sp w [.ref a] H (fun v _ => v = .bl true) fun _ _ _ => False)
    (hCX : ∀ (w : World) (H : Hp) (s : Shared) (e : Value) (s' : Shared), CX w [] H s (fun _ _ _ => False) e s' → False) :
    PySem.W.WalkO q loose XP YP l.row.toRowW d [] (fun f vs => PySem.call f vs) := by
  refine Att.attach_call hn hdf fun w s₀ s₁ mg mb fa o pm cd doc a vs ns G Y ho hd hcd hmg hobj hints hlen hg => ?_
  have KX := hY w _ Y
  obtain ⟨fd, hb, hF⟩ := F w mg fa _ KX G.T.g hmg
  exact law_call KX G.T.g G.T.b G.T.builtins G.T.nolimit hg hobj hints (Nat.le_trans hlen hn2) hr hF hb (fun H hO hS => hsp w H a ns hlen hO hS) fun H e s' => hCX w H s₁ e s'
end L2
/- THE LAST THEOREM (shape; LID, My.* are yours):
   My.Adr: a structure of the addresses that your layer names (classes, functions); My.Txt K t: a structure (Prop) of the equations over K;
   My.txt_mk : {K} {implicit addresses ..} (e1 : nsIn K mainGlobals "law" = some (some (.ref f))) (e2 : K.lookup f = some ⟨oc, od, .func (fnOf "law" "law" params body scope dV kV doc pm an cdv ct), sl⟩) (e3 : codeIn K cdv "law" = true) .. : ∃ t, My.Txt K t
set_option maxRecDepth 100000 in
set_option maxHeartbeats 0 in
(the tactic k_is has no namespace: write k_is) -/
namespace L2
open PySem PySem.Spec PyProof.Rows
def defArgs (s : Stmt) : Arguments := match s with
  | .FunctionDef _ a _ _ _ _ _ _ _ _ => a
  | _ => { posonlyargs := [], args := [], vararg := none, kwonlyargs := [], kw_defaults := [], kwarg := none, defaults := [] }
def defBody (s : Stmt) : List Stmt := match s with
  | .FunctionDef _ _ b _ _ _ _ _ _ _ => b
  | _ => []
def defScope (s : Stmt) : Scope := match s with
  | .FunctionDef _ _ _ _ _ _ sc _ _ _ => sc
  | _ => { kind := .function, names := [], isGenerator := false, isCoroutine := false }
abbrev CX0 : CXT := fun _ _ _ _ _ _ => False
abbrev E0 : XK := fun _ _ _ => False
theorem pass0 {X : Cx} : Passes CX0 X E0 := fun _ _ _ _ _ _ _ h => h.elim
structure Fun (K : PySem.W.Frag) (x qual : Str) (st : Stmt) (f : Addr) (fd : FuncData) : Prop where
  ex : ∃ (oc : Value) (od : Option Addr) (kV doc pm : Value) (an : Option Addr) (cdv ct : Value) (osl : Array (Option Value)),
    fd = PySem.W.fnOf x qual (defArgs st) (defBody st) (defScope st) .none kV doc pm an cdv ct ∧ K.lookup f = some ⟨oc, od, .func fd, osl⟩ ∧ PySem.W.codeIn K cdv qual = true
  kp : PySem.W.keepIn K (.ref f) = true
section
variable {P : Program} {w : World} {K : PySem.W.Frag} {mg : Str → Option Value} {base : Heap}
theorem Fun.ok {x qual : Str} {st : Stmt} {f : Addr} {fd : FuncData} {N ps : List Str} {k : Nat} {sp : Sp} (F : Fun K x qual st f fd) (S : FnScope N ps (defScope st)) (len : ∀ vs H Q E, sp vs H Q E → vs.length = ps.length)
    (hbody : ∀ (cdv : Value) (A : Around) (outer : List Env) (s : Shared) (H : Hp) (vs : List V) (Q : VK) (E : XK), Room k (A.deeper (envOfC qual (defScope st) s.heap.objs.size f cdv)) → sp vs H Q E →
      ∃ t, PSs (cxOf CX0 P w K mg base N qual (defScope st) f cdv A outer s H E).nox (defBody st) t ∧ t { nx := fun _ H' => Q .non H', rt := Q } (start N vs) H) : FnOk P w K mg base CX0 (k + 1) f fd ps sp := by
  obtain ⟨oc, od, kV, doc, pm, an, cdv, ct, osl, rfl, lk, hcd⟩ := F.ex
  refine fn_of lk hcd S len fun A outer s H vs Q E hr hsp => ?_
  obtain ⟨t, h, q⟩ := hbody cdv A outer s H vs Q E hr hsp
  exact ⟨t, h.nox, q⟩
theorem Fun.binds {x qual : Str} {st : Stmt} {f : Addr} {fd : FuncData} {ps : List Str} (F : Fun K x qual st f fd)
    (h : ∀ (kV doc pm : Value) (an : Option Addr) (cdv ct : Value) (us : List Value), us.length = ps.length → bindArgs (PySem.W.fnOf x qual (defArgs st) (defBody st) (defScope st) .none kV doc pm an cdv ct) ⟨us, []⟩ = pure (ps.zip us)) : Binds K fd ps [] := by
  obtain ⟨oc, od, kV, doc, pm, an, cdv, ct, osl, rfl, lk, hcd⟩ := F.ex
  exact .all (h kV doc pm an cdv ct)
theorem fun_mk {x qual : Str} {st : Stmt} {f : Addr} {oc : Value} {od an : Option Addr} {osl : Array (Option Value)} {kV doc pm cdv ct : Value} (l : K.lookup f = some ⟨oc, od, .func (PySem.W.fnOf x qual (defArgs st) (defBody st) (defScope st) .none kV doc pm an cdv ct), osl⟩)
    (c : PySem.W.codeIn K cdv qual = true) (k : PySem.W.keepIn K (.ref f) = true) : Fun K x qual st f (PySem.W.fnOf x qual (defArgs st) (defBody st) (defScope st) .none kV doc pm an cdv ct) := ⟨⟨oc, od, kV, doc, pm, an, cdv, ct, osl, rfl, l, c⟩, k⟩
end
theorem hu_of {A : Around} {k : Nat} (hr : Room k A) : A.units + 1 < cLine := Nat.lt_of_le_of_lt (Nat.add_le_add_left (by decide : 1 ≤ 64) _) hr.units
section
variable {X : Cx}
theorem pv (i : Nat) {x : Str} {pos : Pos} (hN : X.N[i]? = some x := by rfl) (hv : Vis X.env.scope x := by first | exact Or.inl rfl | exact Or.inr (Or.inl rfl) | exact Or.inr (Or.inr rfl)) (hd : (x == ("__debug__" : Str)) = false := by decide)
    (hcd : (x == ("__classdict__" : Str)) = false := by decide) : PE X (.Name x pos) (tVar i) := pe_var hN hv hd hcd
end
theorem iteF {A B : Prop} (h : B) : if false = true then A else B := by
  rw [if_neg Bool.false_ne_true]
  exact h
theorem iteT {A B : Prop} (h : A) : if true = true then A else B := by
  rw [if_pos rfl]
  exact h
theorem ite2 {c A B : Prop} [Decidable c] (h1 : c → A) (h2 : ¬ c → B) : if c then A else B := by
  by_cases h : c
  · rw [if_pos h]
    exact h1 h
  · rw [if_neg h]
    exact h2 h
def Same (H H' : Hp) : Prop := ∀ b o, H b = some o → H' b = some o
theorem Same.refl (H : Hp) : Same H H := fun _ _ h => h
theorem Same.trans {H H1 H2 : Hp} (a : Same H H1) (b : Same H1 H2) : Same H H2 := fun c o h => b c o (a c o h)
section
variable {κ : Type} [DecidableEq κ]
end
end L2
end
section
set_option autoImplicit false
namespace L2
open PySem PySem.Spec PyProof.Rows
def clo (cells : List (Str × Addr)) : List (Str × NameKind) → List (Str × Addr) → List (Str × Addr)
  | [], acc => acc
  | (n, k) :: r, acc => if k == .free then clo cells r ((n, (cells.lookup n).getD 0) :: acc) else clo cells r acc
theorem clo_of {cells : List (Str × Addr)} : ∀ {names : List (Str × NameKind)} {acc : List (Str × Addr)} {x : Str} {c : Addr}, (∀ y ∈ names, y.2 = .free → ∃ c, cells.lookup y.1 = some c) →
    (clo cells names acc).lookup x = some c → cells.lookup x = some c ∨ acc.lookup x = some c
  | [], acc, x, c, _, h => .inr h
  | (n, k) :: r, acc, x, c, ha, h => by
    have har : ∀ y ∈ r, y.2 = .free → ∃ c, cells.lookup y.1 = some c := fun y hy => ha y (List.mem_cons_of_mem _ hy)
    unfold clo at h
    by_cases hk : k = .free
    · subst hk
      rw [if_pos (by rfl)] at h
      rcases clo_of har h with q | q
      · exact .inl q
      · obtain ⟨c', e⟩ := ha (n, .free) List.mem_cons_self rfl
        rw [List.lookup_cons] at q
        cases hx : x == n with
        | true =>
          rw [hx] at q
          have hx' : x = n := by simpa using hx
          have e' : cells.lookup n = some c' := e
          rw [e'] at q
          rw [hx', e']
          exact .inl q
        | false =>
          rw [hx] at q
          exact .inr q
    · rw [if_neg (by simpa using hk)] at h
      exact clo_of har h
theorem clo_acc {cells : List (Str × Addr)} : ∀ {names : List (Str × NameKind)} {acc : List (Str × Addr)} {x : Str}, (∃ c, acc.lookup x = some c) → ∃ c, (clo cells names acc).lookup x = some c
  | [], _, _, h => h
  | (n, k) :: r, acc, x, h => by
    unfold clo
    split
    · refine clo_acc ?_
      rw [List.lookup_cons]
      cases hx : x == n with
      | true => exact ⟨_, rfl⟩
      | false => exact h
    · exact clo_acc h
theorem clo_has {cells : List (Str × Addr)} : ∀ {names : List (Str × NameKind)} {acc : List (Str × Addr)} {x : Str}, (x, NameKind.free) ∈ names → ∃ c, (clo cells names acc).lookup x = some c
  | [], _, _, h => by simp at h
  | (n, k) :: r, acc, x, h => by
    unfold clo
    rcases List.mem_cons.mp h with e | e
    · cases e
      rw [if_pos (by rfl)]
      exact clo_acc ⟨(cells.lookup n).getD 0, by simp [List.lookup_cons]⟩
    · split
      · exact clo_has e
      · exact clo_has e
theorem closure_go {env : Env} {scope : Scope}
    (ha : ∀ y ∈ scope.names, y.2 = .free → ∃ c, env.cells.lookup y.1 = some c) : closureFor scope env = pure (clo env.cells scope.names []) := by
  have go : ∀ (names : List (Str × NameKind)) (acc : List (Str × Addr)), (∀ y ∈ names, y.2 = .free → ∃ c, env.cells.lookup y.1 = some c) →
      (forIn names acc fun (x : Str × NameKind) (cs : List (Str × Addr)) => (do
        if x.2 == .free then
          let c ← cellOf env x.1
          pure (ForInStep.yield ((x.1, c) :: cs))
        else pure (ForInStep.yield cs) : Sem (ForInStep (List (Str × Addr))))) = pure (clo env.cells names acc) := by
    intro names
    induction names with
    | nil => intro acc _; rfl
    | cons y r ih =>
      intro acc h
      obtain ⟨n, k⟩ := y
      have hr : ∀ y ∈ r, y.2 = .free → ∃ c, env.cells.lookup y.1 = some c := fun y hy => h y (List.mem_cons_of_mem _ hy)
      rw [List.forIn_cons]
      unfold clo
      by_cases hk : k = .free
      · subst hk
        obtain ⟨c, e⟩ := h (n, .free) List.mem_cons_self rfl
        have e' : env.cells.lookup n = some c := e
        have hc : cellOf env n = pure c := by
          unfold cellOf
          rw [e']
        simp only [beq_self_eq_true, if_true, hc, pure_bind, e', Option.getD_some]
        exact ih _ hr
      · have hb : (k == NameKind.free) = false := by simpa using hk
        simp only [hb, Bool.false_eq_true, if_false, pure_bind]
        exact ih _ hr
  have q := go scope.names [] ha
  unfold closureFor
  simp only [bind_pure]
  exact q
theorem relabel_lookup {scope : Scope} {env : Env} {x : Str} : ∀ {names : List (Str × NameKind)},
    (names.map fun (n, k) => if (k == NameKind.free && env.scope.kind == .function && env.kindOf n == some .cell) then (n, NameKind.cell) else (n, k)).lookup x =
      (names.lookup x).map fun k => if (k == NameKind.free && env.scope.kind == .function && env.kindOf x == some .cell) then NameKind.cell else k
  | [] => rfl
  | (n, k) :: r => by
    have ih := @relabel_lookup scope env x r
    show List.lookup x ((if (k == NameKind.free && env.scope.kind == .function && env.kindOf n == some .cell) = true then (n, NameKind.cell) else (n, k)) :: _) = _
    cases hx : x == n with
    | true =>
      have hx' : x = n := by simpa using hx
      subst hx'
      by_cases hc : (k == NameKind.free && env.scope.kind == .function && env.kindOf x == some .cell) = true
      · rw [if_pos hc]
        simp only [List.lookup_cons, hx, Option.map_some, hc, if_true]
      · rw [if_neg hc]
        simp only [List.lookup_cons, hx, Option.map_some, if_neg hc]
    | false =>
      by_cases hc : (k == NameKind.free && env.scope.kind == .function && env.kindOf n == some .cell) = true
      · rw [if_pos hc]
        simp only [List.lookup_cons, hx]
        exact ih
      · rw [if_neg hc]
        simp only [List.lookup_cons, hx]
        exact ih
theorem cells_app : ∀ (names : List (Str × NameKind)) (n : Nat) (acc : List (Str × Addr)), cellsFrom n names acc = cellsFrom n names [] ++ acc
  | [], _, _ => rfl
  | (x, k) :: r, n, acc => by
    unfold cellsFrom
    split
    · rw [cells_app r (n + 1) ((x, n) :: acc), cells_app r (n + 1) [(x, n)], List.append_assoc]
      rfl
    · exact cells_app r n acc
theorem cells_mem : ∀ {names : List (Str × NameKind)} {n : Nat} {x : Str} {c : Addr}, (x, c) ∈ cellsFrom n names [] → (x, NameKind.cell) ∈ names ∧ n ≤ c
  | [], _, _, _, h => by cases h
  | (y, k) :: r, n, x, c, h => by
    unfold cellsFrom at h
    split at h
    · rename_i hk
      rw [cells_app] at h
      rcases List.mem_append.mp h with q | q
      · obtain ⟨h1, h2⟩ := cells_mem q
        exact ⟨List.mem_cons_of_mem _ h1, by omega⟩
      · cases List.mem_singleton.mp q
        have e : k = .cell := by simpa using hk
        rw [e]
        exact ⟨List.mem_cons_self, Nat.le_refl _⟩
    · obtain ⟨h1, h2⟩ := cells_mem h
      exact ⟨List.mem_cons_of_mem _ h1, h2⟩
theorem look_app {α : Type} {x : Str} : ∀ (l m : List (Str × α)), (l ++ m).lookup x = (l.lookup x).or (m.lookup x)
  | [], m => by simp
  | (k, v) :: r, m => by
    rw [List.cons_append, List.lookup_cons, List.lookup_cons]
    cases x == k with
    | true => rfl
    | false => exact look_app r m
theorem nd_kind : ∀ {names : List (Str × NameKind)} {x : Str} {k k' : NameKind}, (names.map (·.1)).Nodup → names.lookup x = some k → (x, k') ∈ names → k' = k
  | [], _, _, _, _, h, _ => by cases h
  | (y, j) :: r, x, k, k', hn, h, hm => by
    rw [List.map_cons] at hn
    obtain ⟨n1, n2⟩ := List.nodup_cons.mp hn
    rw [List.lookup_cons] at h
    rcases List.mem_cons.mp hm with e | e
    · cases e
      rw [show (y == y) = true by simp] at h
      exact Option.some.inj h
    · cases hx : x == y with
      | true =>
        have hx' : x = y := by simpa using hx
        subst hx'
        exact absurd (List.mem_map.mpr ⟨_, e, rfl⟩) n1
      | false =>
        rw [hx] at h
        exact nd_kind n2 h e
abbrev allC (C : Addr) (cells : List (Str × Addr)) (names : List (Str × NameKind)) : List (Str × Addr) := cellsFrom (C + 1) names (clo cells names [])
theorem allC_cases {C : Addr} {cells : List (Str × Addr)} {names : List (Str × NameKind)} {x : Str} {c : Addr} (h : (allC C cells names).lookup x = some c) :
    ((x, c) ∈ cellsFrom (C + 1) names [] ∧ (x, NameKind.cell) ∈ names ∧ C + 1 ≤ c) ∨ (clo cells names []).lookup x = some c := by
  unfold allC at h
  rw [cells_app, look_app] at h
  cases q : (cellsFrom (C + 1) names []).lookup x with
  | none =>
    rw [q] at h
    exact .inr h
  | some d =>
    rw [q] at h
    cases h
    have m := PySem.mem_of_lookup q
    exact .inl ⟨m, cells_mem m⟩
theorem allC_free {C : Addr} {cells : List (Str × Addr)} {names : List (Str × NameKind)} {x : Str} (hn : (names.map (·.1)).Nodup) (h : names.lookup x = some .free) : (allC C cells names).lookup x = (clo cells names []).lookup x := by
  unfold allC
  rw [cells_app, look_app]
  cases q : (cellsFrom (C + 1) names []).lookup x with
  | none => rfl
  | some d =>
    have m := (cells_mem (PySem.mem_of_lookup q)).1
    cases nd_kind hn h m
theorem newEnv_comp {M : Model} {A : Around} {E : Value → Shared → Prop} {s : Shared} {scope : Scope} {cl : List (Str × Addr)} {env : Env} {Q : Env → Shared → Prop}
    (hQ : ∀ h', h'.Ns s.heap.objs.size (fun _ => none) → (∀ b o, s.heap.get? b = some o → h'.get? b = some o) → CellsOk h' (s.heap.objs.size + 1) (cellsFrom (s.heap.objs.size + 1) scope.names []) →
      Q { scope := scope, locals := s.heap.objs.size, globals := env.globals, cells := cellsFrom (s.heap.objs.size + 1) scope.names cl, qual := env.qual, func := none, code := env.code, frame := env.frame, builtins := env.builtins } { s with heap := h' }) :
    wpAny M A (newFunctionEnv scope env.globals cl [] env.qual none .none (some env)) Q E s := by
  simp only [newFunctionEnv, Option.isSome_some, if_true]
  refine wpAny_bind (wpAny_alloc ?_)
  refine wpAny_bind (wpAny_layCells _ (fun name kind cells => by cases hkc : kind == NameKind.cell <;> simp [hkc]) _ _ _ _ ?_)
  have ok := cellsFrom_ok scope.names (s.heap.push { cls := .type "dict", data := .dict #[] }) (s.heap.objs.size + 1) [] ⟨fun _ _ hm => (nomatch hm), List.Pairwise.nil⟩ (by rw [Heap.size_push]; exact Nat.le_refl _)
  rw [Heap.size_push] at ok
  rw [show ({ s with heap := s.heap.push { cls := .type "dict", data := .dict #[] } } : Shared).heap.objs.size = s.heap.objs.size + 1 from Heap.size_push ..]
  refine wpAny_bind ?_
  rw [List.forIn_nil]
  exact wpAny_pure (wpAny_pure (hQ _ ((Heap.Ns.new s.heap (.type "dict")).keeps (pushCells_keeps _ _)) (fun b o e => pushCells_keeps _ _ b o (Heap.get?_push_of_some _ e)) ok))
def cxComp (X : Cx) (scope : Scope) (cl : List (Str × Addr)) (N : List Str) (C : Addr) (s₃ : Shared) (H₃ : Hp) (fp : List Addr) : Cx where
  prog := X.prog
  w := X.w
  K := X.K
  mg := X.mg
  base := X.base
  A := X.A
  N := N
  s₀ := s₃
  H₀ := H₃
  env := compEnvC scope cl C X.env
  outer := X.stack
  stack := X.stack
  ex := fp
  calm := X.calm
  fn := fun x => scope.names.lookup x == some .cell
  pn := []
  xe := fun _ _ => False
structure CompScope (X : Cx) (scope : Scope) (own : List Str) (fr : List Nat) (N : List Str) : Prop where
  kind : scope.kind = .function
  nodup : (scope.names.map (·.1)).Nodup
  names : ∀ y ∈ scope.names, y.2 = .local → scope.names.lookup y.1 = some .local
  free : ∀ y ∈ scope.names, y.2 = .free → X.env.kindOf y.1 = some .cell ∨ X.env.kindOf y.1 = some .free
  len : N.length = own.length + fr.length
  isfr : ∀ (j i : Nat), fr[j]? = some i → ∃ x, N[own.length + j]? = some x ∧ X.N[i]? = some x ∧ scope.names.lookup x = some .free
  frs : ∀ (j : Nat) (x : Str), N[j]? = some x → j < own.length → own[j]? = some x
def frv (σ : St) (fr : List Nat) : St := fr.map fun i => (σ[i]?).join
def PTs (X : Cx) (ifs : List Expr) (t : TT) : Prop :=
  ∀ (pins : List (Addr × Obj)) (s : Shared) (σ : St) (H : Hp) (Q : Bool → Hp → Prop), Inv X pins σ H s → t σ H Q →
    wpAny (model X.prog X.w) X.A (forIn ifs true fun c r => if r = true then do let ok ← isTrue c X.env (eval c X.env); pure (ForInStep.yield ok) else pure (ForInStep.yield r)) (TP X pins σ Q) X.xe s
def tYes : TT := fun _ H Q => Q true H
theorem pts_nil {X : Cx} : PTs X [] tYes := fun _ _ _ H _ I h => wpAny_tests_nil ⟨H, I, h⟩
theorem pts_one {X : Cx} {c : Expr} {t : TT} (h : PT X c t) : PTs X [c] t := fun pins s σ H Q I hq => wpAny_tests_one (h pins s σ H Q I hq)
theorem compLoop_any {prog : Program} {w : World} {A : Around} {R : Result → Shared → Prop} {s : Shared} {elt target iter : Expr} {ifs : List Expr} {scope : Scope} {pos : Pos} {it acc : Value} {env : Env} (I : Nat → Shared → Prop)
    (turn : ∀ n s, I n s → wpAny (model prog w) A (pyNext it) (fun r s₁ => match r with
      | none => R (.ok .next) s₁
      | some v => wpAny (model prog w) A (letOwnedTupleGo target it v) (fun _ s₁' => wpAny (model prog w) A (assign target env v) (fun _ s₂ =>
          wpAny (model prog w) A (forIn ifs true fun c r => if r = true then do let ok ← isTrue c env (eval c env); pure (ForInStep.yield ok) else pure (ForInStep.yield r)) (fun ok s₃ =>
            if ok = true then wpAny (model prog w) A (eval elt env) (fun x s₄ =>
              wpAny (model prog w) A (call (.builtin "list.append") [acc, x]) (fun _ s₅ => ∃ m, m < n ∧ I m s₅) (fun _ _ => False) s₄) (fun _ _ => False) s₃
            else ∃ m, m < n ∧ I m s₃) (fun _ _ => False) s₂) (fun _ _ => False) s₁') (fun _ _ => False) s₁) (fun _ _ => False) s)
    (n : Nat) (h : I n s) :
    codeAny (model prog w) A (.compLoop (.ListComp elt [⟨target, iter, ifs, 0⟩] scope pos) 0 it acc env) R s := by
  refine codeAny_loop rfl I (fun n s hI => ?_) n h
  show wpAny _ A ((compTurn (.ListComp elt [⟨target, iter, ifs, 0⟩] scope pos) 0 it acc env).onRaise (fun x => do noteFrame x env; theTreesLotGoes x)) _ _ s
  refine wpAny_noted ?_
  rw [compTurn_list]
  refine wpAny_bind (wpAny_standAt (wpAny_bind (wpAny_mono (turn n s hI) (fun r s₁ h₁ => ?_) fun _ _ h' => h'.elim)))
  cases r with
  | none => exact wpAny_pure h₁
  | some v =>
    refine wpAny_bind (wpAny_mono h₁ (fun _ s₁' h₁' => ?_) fun _ _ h' => h'.elim)
    refine wpAny_bind (wpAny_mono h₁' (fun _ s₂ h₂ => wpAny_bind (wpAny_mono h₂ (fun ok s₃ h₃ => ?_) fun _ _ h' => h'.elim)) fun _ _ h' => h'.elim)
    cases ok with
    | false => exact wpAny_pure ⟨rfl, h₃⟩
    | true =>
      exact wpAny_bind (wpAny_bind (wpAny_mono h₃ (fun x s₄ h₄ => wpAny_bind (wpAny_mono h₄ (fun _ s₅ h₅ => wpAny_pure (wpAny_pure ⟨rfl, h₅⟩)) fun _ _ h' => h'.elim)) fun _ _ h' => h'.elim))
section
variable {X : Cx} {scope : Scope} {own N : List Str} {fr : List Nat} {pins : List (Addr × Obj)} {σ : St} {H2 H3 : Hp} {s2 s3 : Shared}
theorem CompScope.clo (S : CompScope X scope own fr N) (ok : X.Ok) : ∀ y ∈ scope.names, y.2 = .free → ∃ c, X.env.cells.lookup y.1 = some c := fun y hy e => ok.has y.1 (S.free y hy e)
theorem CompScope.sub (S : CompScope X scope own fr N) (ok : X.Ok) {x : Str} {c : Addr} (h : (L2.clo X.env.cells scope.names []).lookup x = some c) : X.env.cells.lookup x = some c := by
  rcases clo_of (S.clo ok) h with q | q
  · exact q
  · simp at q
theorem CompScope.look (S : CompScope X scope own fr N) (ok : X.Ok) {x : Str} (h : scope.names.lookup x = some .free) {cl : List (Str × Addr)} {C : Addr} :
    (compEnvC scope cl C X.env).kindOf x = some .cell ∨ (compEnvC scope cl C X.env).kindOf x = some .free := by
  show ((relabel scope X.env).names.lookup x) = _ ∨ ((relabel scope X.env).names.lookup x) = _
  unfold relabel
  show List.lookup x (List.map _ _) = _ ∨ List.lookup x (List.map _ _) = _
  rw [relabel_lookup (scope := scope), h]
  simp only [Option.map_some]
  split
  · exact .inl rfl
  · exact .inr rfl
theorem comp_ok (S : CompScope X scope own fr N) (I : Inv X pins σ H3 s3) {fp : List Addr} (hf : ∀ b ∈ fp, FpOk X pins H3 b) (hlt : ∀ b ∈ fp, b < s3.heap.objs.size) :
    (cxComp X scope (allC s3.heap.objs.size X.env.cells scope.names) N s3.heap.objs.size s3 H3 fp).Ok where
  mod := I.ok.mod
  kind := S.kind
  glob := I.ok.glob
  blt := I.ok.blt
  above := Nat.le_refl _
  inj := fun x y c h1 h2 => by
    have old : ∀ {z : Str}, (L2.clo X.env.cells scope.names []).lookup z = some c → c < s3.heap.objs.size := fun {z} h => by
      obtain ⟨v, q⟩ := I.cell z c (S.sub I.ok h)
      exact q.lt
    have ap := (cellsFrom_ok scope.names (s3.heap.push { cls := .type "dict", data := .dict #[] }) (s3.heap.objs.size + 1) [] ⟨fun _ _ hm => (nomatch hm), List.Pairwise.nil⟩ (by rw [Heap.size_push]; exact Nat.le_refl _)).apart
    rw [Heap.size_push] at ap
    rcases allC_cases h1 with ⟨m1, _, l1⟩ | q1
    · rcases allC_cases h2 with ⟨m2, _, _⟩ | q2
      · exact name_of_addr ap m1 m2
      · exact absurd (Nat.lt_trans l1 (old q2)) (Nat.lt_irrefl _)
    · rcases allC_cases h2 with ⟨m2, _, l2⟩ | q2
      · exact absurd (Nat.lt_trans l2 (old q1)) (Nat.lt_irrefl _)
      · exact I.ok.inj x y c (S.sub I.ok q1) (S.sub I.ok q2)
  has := fun x hx => by
    have hx : (relabel scope X.env).names.lookup x = some .cell ∨ (relabel scope X.env).names.lookup x = some .free := hx
    unfold relabel at hx
    have hx : List.lookup x (scope.names.map _) = some NameKind.cell ∨ List.lookup x (scope.names.map _) = some NameKind.free := hx
    rw [relabel_lookup (scope := scope)] at hx
    cases e : scope.names.lookup x with
    | none => rw [e] at hx; simp at hx
    | some k =>
      have hm := PySem.mem_of_lookup e
      rw [e] at hx
      simp only [Option.map_some] at hx
      have hk : k = .free ∨ k = .cell := by
        by_cases hk : k = .free
        · exact .inl hk
        · have hb : (k == NameKind.free) = false := by simpa using hk
          simp only [hb, Bool.false_and, Bool.false_eq_true, if_false] at hx
          rcases hx with z | z
          · exact .inr (Option.some.inj z)
          · exact .inl (Option.some.inj z)
      rcases hk with hk | hk
      · subst hk
        obtain ⟨c, q⟩ := clo_has (cells := X.env.cells) (acc := []) hm
        exact ⟨c, (allC_free S.nodup e).trans q⟩
      · subst hk
        exact Option.isSome_iff_exists.mp (PySem.W.cellsFrom_some scope.names _ _ (.inl e))
  cab := fun x c h q => by
    have e : scope.names.lookup x = some .cell := beq_iff_eq.mp h
    show s3.heap.objs.size ≤ c
    have q' : (allC s3.heap.objs.size X.env.cells scope.names).lookup x = some c := q
    unfold allC at q'
    rw [cells_app, look_app] at q'
    obtain ⟨d, z⟩ := Option.isSome_iff_exists.mp (PySem.W.cellsFrom_some scope.names (s3.heap.objs.size + 1) [] (.inl e))
    rw [z] at q'
    cases q'
    have := (cells_mem (PySem.mem_of_lookup z)).2
    omega
  hd := I.ok.hd
  frames := I.ok.frames
  stk := .inl rfl
  exf := fun b hb => ⟨Nat.ne_of_lt (hlt b hb), fun x c e => by
    rcases allC_cases e with ⟨_, _, l⟩ | q
    · exact Nat.ne_of_gt (Nat.lt_trans (hlt b hb) l)
    · exact (hf b hb).2.2.2.2.1 x c (S.sub I.ok q)⟩
  bs := I.bs
  bsz := Nat.le_trans I.ok.bsz I.sz
  noex := fun b o e hb => by
    rcases (hf b hb).2.2.2.1 with z | z
    · exact I.ok.noex b o e z
    · exact absurd (Nat.lt_of_lt_of_le (Nat.lt_of_lt_of_le (Heap.lt_size e) I.ok.bsz) z) (Nat.lt_irrefl _)
  exfs := fun b hb hm => by
    rcases List.mem_cons.mp (I.stkSub b hm) with z | z
    · exact (hf b hb).2.1 z
    · exact (hf b hb).2.2.1 z
  funs := I.stack
  frf := I.stkFree
theorem comp_inv (S : CompScope X scope own fr N) (I : Inv X pins σ H3 s3) {fp : List Addr} (hf : ∀ b ∈ fp, FpOk X pins H3 b) (hlt : ∀ b ∈ fp, b < s3.heap.objs.size) {h1 : Heap} {t : Nat} {m : Str → Option Value}
    (hn : h1.Ns s3.heap.objs.size m) (hk : ∀ b o, s3.heap.get? b = some o → h1.get? b = some o) (hco : CellsOk h1 (s3.heap.objs.size + 1) (cellsFrom (s3.heap.objs.size + 1) scope.names [])) :
    Inv (cxComp X scope (allC s3.heap.objs.size X.env.cells scope.names) N s3.heap.objs.size s3 H3 fp) [] (List.replicate own.length none ++ frv σ fr) H3 { s3 with heap := h1, toks := t } where
  ok := comp_ok S I hf hlt
  os := rfl
  bare := I.bare
  base := Un.kept hk
  loc := by
    refine ⟨m, hn, fun j x v e1 e2 e3 => ?_⟩
    have e1 : N[j]? = some x := e1
    by_cases hj : j < own.length
    · rw [List.getElem?_append_left (by simpa using hj), List.getElem?_replicate] at e2
      split at e2 <;> cases e2
    · rw [List.getElem?_append_right (by simpa using hj), List.length_replicate] at e2
      unfold frv at e2
      rw [List.getElem?_map] at e2
      cases ef : fr[j - own.length]? with
      | none => rw [ef] at e2; cases e2
      | some i =>
        rw [ef] at e2
        obtain ⟨x', n1, n2, n3⟩ := S.isfr _ _ ef
        rw [show own.length + (j - own.length) = j by omega, e1] at n1
        cases n1
        have e4 : (σ[i]?).join = some v := by simpa using e2
        have e5 : σ[i]? = some (some v) := by
          cases q : σ[i]? with
          | none => rw [q] at e4; cases e4
          | some z => rw [q] at e4; have e4 : z = some v := e4; rw [e4]
        have hfree := S.free _ (PySem.mem_of_lookup n3) rfl
        obtain ⟨mX, hnX, hl⟩ := I.loc
        have hv : Vis X.env.scope x := by
          rcases hfree with z | z
          · exact .inr (.inl z)
          · exact .inr (.inr z)
        obtain ⟨u, r, l⟩ := hl i x v n2 e5 hv
        refine ⟨u, r, .inr ⟨S.look I.ok n3, ?_⟩⟩
        rcases l with ⟨z, _⟩ | ⟨_, c, ec, hc⟩
        · rcases hfree with y | y
          · rw [z] at y; cases y
          · rw [z] at y; cases y
        · obtain ⟨c', e'⟩ := clo_has (cells := X.env.cells) (acc := []) (PySem.mem_of_lookup n3)
          have := S.sub I.ok e'
          rw [ec] at this
          cases this
          exact ⟨c, (allC_free S.nodup n3).trans e', hc.keeps hk⟩
  cell := fun x c e => by
    rcases allC_cases e with ⟨mm, _, _⟩ | q
    · exact ⟨none, (hco.empty x c mm).1⟩
    · obtain ⟨v, z⟩ := I.cell x c (S.sub I.ok q)
      exact ⟨v, z.keeps hk⟩
  free := I.hok.fresh (Nat.le_refl _)
  freeC := fun x c e => by
    rcases allC_cases e with ⟨_, _, l⟩ | q
    · exact I.hok.fresh (Nat.le_of_lt l)
    · exact I.freeC x c (S.sub I.ok q)
  pin := fun p hp => by
    have hp : p ∈ ([] : List (Addr × Obj)) := hp
    simp at hp
  hok := I.hok.kept hk
  len := by
    show _ = N.length
    rw [S.len, List.length_append, List.length_replicate]
    unfold frv
    rw [List.length_map]
end
def CompB (own : Nat) (fr : List Nat) (g : TG) (tc : TT) (te : TE) (σ : St) (Q : VK) (J : It) (D : Addr) (H0 : Hp) : Prop := ∃ W : Nat → Nat → List V → Hp → Prop, (∃ m, W 0 m [] H0) ∧
  ∀ i m ys H, W i m ys H → (J.stop i H ∧ Q (.ref D) H) ∨ (J.go i H ∧ ∀ x H', J.yld i H x H' → ∀ σo : St, σo.length = own → g x (σo ++ frv σ fr) H' fun σ2 H2 => (∃ σo' : St, σo'.length = own ∧ σ2 = σo' ++ frv σ fr) ∧
    tc σ2 H2 fun b H3 => if b = true then te σ2 H3 fun y H4 => ys.length < sizeLine ∧ H4 D = some (.lst ys) ∧ ∃ m', m' < m ∧ W (i + 1) m' (ys ++ [y]) (upd H4 D (.lst (ys ++ [y]))) else ∃ m', m' < m ∧ W (i + 1) m' ys H3)
def tComp (own : Nat) (fr : List Nat) (wi : TI) (g : TG) (tc : TT) (te : TE) : TE := fun σ H Q => wi σ H fun J H1 => ∀ D, H1 D = none → CompB own fr g tc te σ Q J D (upd H1 D (.lst []))
structure CompParts (X : Cx) (scope : Scope) (N : List Str) (tg elt : Expr) (ifs : List Expr) (g : TG) (tc : TT) (te : TE) : Prop where
  tg : ∀ (cl : List (Str × Addr)) (C : Addr) (s₃ : Shared) (H₃ : Hp) (fp : List Addr), PG (cxComp X scope cl N C s₃ H₃ fp) tg g
  ifs : ∀ (cl : List (Str × Addr)) (C : Addr) (s₃ : Shared) (H₃ : Hp) (fp : List Addr), PTs (cxComp X scope cl N C s₃ H₃ fp) ifs tc
  elt : ∀ (cl : List (Str × Addr)) (C : Addr) (s₃ : Shared) (H₃ : Hp) (fp : List Addr), PE (cxComp X scope cl N C s₃ H₃ fp) elt te
section
variable {X : Cx} {scope : Scope} {own N : List Str} {fr : List Nat} {tg elt iter : Expr} {ifs : List Expr} {g : TG} {tc : TT} {te : TE} {wi : TI} {pos : Pos}
theorem comp_run (hc : X.calm = true) (S : CompScope X scope own fr N) (CP : CompParts X scope N tg elt ifs g tc te) {pins : List (Addr × Obj)} {σ : St} {H2 : Hp} {s2 : Shared} (I2 : Inv X pins σ H2 s2) {it : Addr} {fp : List Addr} {tn : Nat → Heap → Prop} {J : It}
    (T : Turn X.prog X.w X.K tg J fp it tn) (st2 : tn 0 s2.heap) (f2 : ∀ b ∈ fp, FpOk X pins H2 b) {Q : VK} {E : Value → Shared → Prop} {RR : Value → Addr → Result → Shared → Prop}
    (hw : ∀ D, H2 D = none → CompB own.length fr g tc te σ Q J D (upd H2 D (.lst [])))
    (hR : ∀ D C s' H' m, Inv X pins σ H' s' → FpOk X pins H' C → s'.heap.Ns C m → Q (.ref D) H' → RR (.ref D) C (.ok .next) s') :
    wpAny (model X.prog X.w) X.A (newList []) (fun acc s₃ => wpAny (model X.prog X.w) X.A (newFunctionEnv scope X.env.globals (clo X.env.cells scope.names []) [] X.env.qual none .none (some X.env)) (fun cenv s₄ =>
      codeAny (model X.prog X.w) X.A (.compStart (.ListComp elt [⟨tg, iter, ifs, 0⟩] scope pos) 0 (.ref it) acc { cenv with scope := relabel scope X.env }) (RR acc cenv.locals) s₄) E s₃) E s2 := by
  have hD : H2 s2.heap.objs.size = none := I2.hok.fresh (Nat.le_refl _)
  have I3 : Inv X pins σ (upd H2 s2.heap.objs.size (.lst [])) { s2 with heap := s2.heap.push { cls := .type "list", data := .seq ([] : List Value).toArray } } :=
    I2.lnew (t' := s2.toks) (ys := []) (its := []) .nil (Nat.zero_le _)
  have hltf : ∀ b ∈ fp, b < s2.heap.objs.size := fun b hb => by
    obtain ⟨o, e, _⟩ := T.obj _ _ st2 b hb
    exact Heap.lt_size e
  have f3 : ∀ b ∈ fp, FpOk X pins (upd H2 s2.heap.objs.size (.lst [])) b := fun b hb => ⟨by rw [upd_ne (Nat.ne_of_lt (hltf b hb))]; exact (f2 b hb).1, (f2 b hb).2⟩
  obtain ⟨W, ⟨m0, w0⟩, turn⟩ := hw _ hD
  refine wpAny_newObj_type (newEnv_comp fun h₁ hns₁ old₁ hco₁ => ?_)
  suffices main : ∀ s3 : Shared, s3 = { s2 with heap := s2.heap.push { cls := .type "list", data := .seq ([] : List Value).toArray } } → Inv X pins σ (upd H2 s2.heap.objs.size (.lst [])) s3 → ∀ m : Str → Option Value, h₁.Ns s3.heap.objs.size m →
      (∀ b o, s3.heap.get? b = some o → h₁.get? b = some o) → CellsOk h₁ (s3.heap.objs.size + 1) (cellsFrom (s3.heap.objs.size + 1) scope.names []) → codeAny (model X.prog X.w) X.A (.compStart (.ListComp elt [⟨tg, iter, ifs, 0⟩] scope pos) 0 (.ref it) (.ref s2.heap.objs.size) (compEnvC scope (allC s3.heap.objs.size X.env.cells scope.names) s3.heap.objs.size X.env))
        (RR (.ref s2.heap.objs.size) s3.heap.objs.size) { s3 with heap := h₁, toks := s3.toks } from
    main _ rfl I3 _ hns₁ old₁ hco₁
  clear hns₁ old₁ hco₁
  intro s3 hH3 I3 m3 hns₁ old hco
  have e3 : s3.heap = s2.heap.push { cls := .type "list", data := .seq ([] : List Value).toArray } := by rw [hH3]
  have hs3 : s2.heap.objs.size < s3.heap.objs.size := by rw [e3, Heap.size_push]; exact Nat.lt_succ_self _
  have hlt3 : ∀ b ∈ fp, b < s3.heap.objs.size := fun b hb => Nat.lt_trans (hltf b hb) hs3
  have I4 := comp_inv S I3 f3 hlt3 (t := s3.toks) hns₁ old hco
  have ok' := comp_ok S I3 f3 hlt3
  have st4 : tn 0 h₁ := T.keep 0 s2.heap h₁ st2 fun b hb o e => old b o (by rw [e3]; exact Heap.get?_push_of_some _ e)
  have stat : ∀ {H' : Hp}, (∀ b ∈ fp, H' b = none) → ∀ b ∈ fp, FpOk (cxComp X scope (allC s3.heap.objs.size X.env.cells scope.names) N s3.heap.objs.size s3 (upd H2 s2.heap.objs.size (.lst [])) fp) [] H' b := fun {H'} hn b hb =>
    ⟨hn b hb, Nat.ne_of_lt (hlt3 b hb), ok'.exfs b hb, .inl hb, (ok'.exf b hb).2, fun p hp => by
      have hp : p ∈ ([] : List (Addr × Obj)) := hp
      simp at hp⟩
  have loop : ∀ s₄ : Shared, s₄ = { s3 with heap := h₁, toks := s3.toks } →
      codeAny (model X.prog X.w) X.A (.compLoop (.ListComp elt [⟨tg, iter, ifs, 0⟩] scope pos) 0 (.ref it) (.ref s2.heap.objs.size) (compEnvC scope (allC s3.heap.objs.size X.env.cells scope.names) s3.heap.objs.size X.env))
        (RR (.ref s2.heap.objs.size) s3.heap.objs.size) s₄ := by
    rintro s₄ rfl
    refine compLoop_any (fun n s' => ∃ i ys σo H', σo.length = own.length ∧ Inv (cxComp X scope (allC s3.heap.objs.size X.env.cells scope.names) N s3.heap.objs.size s3 (upd H2 s2.heap.objs.size (.lst [])) fp) [] (σo ++ frv σ fr) H' s' ∧
      tn i s'.heap ∧ (∀ b ∈ fp, H' b = none) ∧ W i n ys H') ?_ m0 ⟨0, [], List.replicate own.length none, _, List.length_replicate, I4, st4, fun b hb => (f3 b hb).1, w0⟩
    rintro n s5 ⟨i, ys, σo, H5, hσ, I5, st5, fr5, w5⟩
    rcases turn i n ys H5 w5 with ⟨stop, qn⟩ | ⟨go, step⟩
    · refine thn (T.done (cxComp X scope (allC s3.heap.objs.size X.env.cells scope.names) N s3.heap.objs.size s3 (upd H2 s2.heap.objs.size (.lst [])) fp) rfl rfl rfl hc i [] s5 (σo ++ frv σ fr) H5 _ I5 (stat fr5) st5 stop) fun r s6 ⟨hr, I6⟩ => ?_
      subst hr
      obtain ⟨m, hn6, _⟩ := I6.loc
      refine hR _ _ s6 H5 m (I3.call' (ch := fp) I6.os I6.base I6.hok I6.bare fun b hb => ⟨(f3 b hb).2.2.2.1, (f3 b hb).2.1, (f3 b hb).2.2.2.2.1, (f3 b hb).2.2.2.2.2⟩) (I3.fpOk (Nat.le_refl _) I6.free) hn6 qn
    · refine thn (T.item (cxComp X scope (allC s3.heap.objs.size X.env.cells scope.names) N s3.heap.objs.size s3 (upd H2 s2.heap.objs.size (.lst [])) fp) rfl rfl rfl hc i [] s5 (σo ++ frv σ fr) H5 _ I5 (stat fr5) st5 go) fun r s6 ⟨u, hr, h6⟩ => ?_
      subst hr
      refine thn h6 fun _ s7 ⟨x, H7, I7, r7, y7, st7, fr7⟩ => ?_
      have I7' := I7.pinned (stat fr7) (T.obj _ _ st7)
      have again : ∀ {σ8 : St} {H8 : Hp} {s8 : Shared} {zs : List V}, Inv (cxComp X scope (allC s3.heap.objs.size X.env.cells scope.names) N s3.heap.objs.size s3 (upd H2 s2.heap.objs.size (.lst [])) fp) ([] ++ pinsAt fp s7.heap) (σ8 ++ frv σ fr) H8 s8 → σ8.length = own.length →
          (∃ m', m' < n ∧ W (i + 1) m' zs H8) → ∃ m, m < n ∧ ∃ i ys σo H', σo.length = own.length ∧ Inv (cxComp X scope (allC s3.heap.objs.size X.env.cells scope.names) N s3.heap.objs.size s3 (upd H2 s2.heap.objs.size (.lst [])) fp) [] (σo ++ frv σ fr) H' s8 ∧
            tn i s8.heap ∧ (∀ b ∈ fp, H' b = none) ∧ W i m ys H' := fun {σ8 H8 s8 zs} I8 h8 ⟨m', hm, w8⟩ => by
        refine ⟨m', hm, i + 1, zs, σ8, H8, h8, I8.unpinned, T.keep _ _ _ st7 fun b hb o e => (I8.pin (b, o) (List.mem_append_right _ (List.mem_append_right _ (mem_pinsAt hb e)))).1, fun b hb => ?_, w8⟩
        obtain ⟨o, e, d⟩ := T.obj _ _ st7 b hb
        exact (I8.pin (b, o) (List.mem_append_right _ (List.mem_append_right _ (mem_pinsAt hb e)))).2.1
      refine thn (CP.tg _ _ _ _ _ _ s7 _ H7 x u _ I7' r7 (step x H7 y7 σo hσ)) fun _ s8 ⟨σ8, H8, I8, ⟨σo', hσ', eσ⟩, q8⟩ => ?_
      subst eσ
      refine thn (CP.ifs _ _ _ _ _ _ s8 _ H8 _ I8 q8) fun b s9 ⟨H9, I9, q9⟩ => ?_
      cases b with
      | false =>
        rw [if_neg Bool.false_ne_true] at q9 ⊢
        exact again I9 hσ' q9
      | true =>
        rw [if_pos rfl] at q9 ⊢
        refine thn (CP.elt _ _ _ _ _ _ s9 _ H9 _ I9 q9) fun z s10 ⟨y, H10, I10, r10, hz, hD10, q10⟩ => ?_
        exact thn (mt_append _ s10 _ H10 (.ref s2.heap.objs.size) [y] (.ref s2.heap.objs.size) [z] (fun _ H => ∃ m', m' < n ∧ W (i + 1) m' (ys ++ [y]) H) I10 rfl (.cons r10 .nil) ⟨_, ys, y, rfl, rfl, hD10, hz, q10⟩)
          fun _ s11 ⟨_, H11, I11, _, q11⟩ => again I11 hσ' q11
  exact codeAny_compStart_list (loop _ rfl) (T.self _ 0 _ _ _ st4 (loop _ rfl))
theorem pe_comp (hc : X.calm = true) (S : CompScope X scope own fr N) (CP : CompParts X scope N tg elt ifs g tc te) (hi : PI X tg iter wi) (hs : ∀ x, foldedSetIterable iter X.env x = pure x := by intro _; rfl) :
    PE X (.ListComp elt [⟨tg, iter, ifs, 0⟩] scope pos) (tComp own.length fr wi g tc te) := by
  intro pins s σ H Q I h
  rw [eval_ListComp]
  refine wpAny_comprehension_free (use := none) (g := ⟨tg, iter, ifs, 0⟩) (gs := []) rfl hs (closure_go (S.clo I.ok)) S.kind S.names (thn (hi pins s σ H _ I h) fun v s1 h1 => thn h1 fun itv s2 h2 => ?_)
  obtain ⟨it, fp, tn, J, H2, e, I2, T, st2, f2, hw⟩ := h2
  subst e
  exact comp_run (RR := fun acc C => compPost (model X.prog X.w) X.A X.xe none (EP X pins σ Q) acc C) hc S CP I2 T st2 f2 hw fun D C s' H' m I' fC hn q =>
    ⟨m, hn, fun h' hb => ⟨.ref D, H', I'.turned (t' := s'.toks) (fun b o hne e => hb.extBut b o hne e) fC.1 fC.2.1 fC.2.2.2.1 fC.2.2.2.2.1 fC.2.2.2.2.2, rfl, q⟩⟩
theorem ps_setc {i : Nat} {x : Str} {posc pos' : Pos} (hc : X.calm = true) (hN : X.N.Nodup) (hi' : X.N[i]? = some x) (hx : Loc X.env.scope x) (S : CompScope X scope own fr N) (CP : CompParts X scope N tg elt ifs g tc te) (hi : PI X tg iter wi)
    (hsw : swapsWith (.ListComp elt [⟨tg, iter, ifs, 0⟩] scope posc) (some (.Name x pos')) pos.line X.env = pure true := by rfl)
    (hf : X.fn x = true ∨ X.env.scope.names.lookup x = some .local := by first | exact .inl rfl | exact .inr rfl | assumption) (hs : ∀ x, foldedSetIterable iter X.env x = pure x := by intro _; rfl) :
    PS X (.Assign [.Name x pos'] (.ListComp elt [⟨tg, iter, ifs, 0⟩] scope posc) pos) (tAsg (tComp own.length fr wi g tc te) (gName i)) := by
  intro pins s σ H D I h
  rw [exec_Assign_Name_used _ _ _ _ hsw]
  refine wpAny_bind (wpAny_standAt (wpAny_bind ?_))
  show wpAny _ X.A (do let _ ← comprehension (.ListComp elt [⟨tg, iter, ifs, 0⟩] scope posc) scope X.env _ (newList []) false (eval iter X.env) (some (assign (.Name x pos') X.env))) _ _ s
  refine wpAny_bind (wpAny_mono (wpAny_comprehension_free (use := some (assign (.Name x pos') X.env)) (g := ⟨tg, iter, ifs, 0⟩) (gs := []) (Q := fun _ s' => SP X pins D .next s') rfl hs (closure_go (S.clo I.ok)) S.kind S.names
    (thn (hi pins s σ H _ I h) fun v s1 h1 => thn h1 fun itv s2 h2 => ?_)) (fun _ _ q => wpAny_pure (wpAny_pure q)) fun _ _ e => e)
  obtain ⟨it, fp, tn, J, H2, e, I2, T, st2, f2, hw⟩ := h2
  subst e
  refine comp_run (Q := fun x H1 => gName i x σ H1 D.nx) (RR := fun acc C => compPost (model X.prog X.w) X.A X.xe (some (assign (.Name x pos') X.env)) (fun _ s' => SP X pins D .next s') acc C) hc S CP I2 T st2 f2 hw fun Dd C s' H' m I' fC hn q => ?_
  refine wpAny_assign_Name (store_ok2 I' hN hi' hx (show RelV (.ref Dd) (.ref Dd) from rfl) (fun s'' I'' ⟨a, hsb, ha⟩ => ?_) hf)
  have hCa : C ≠ a := by
    rcases ha with z | z
    · rw [z]; exact fC.2.1
    · exact fun e => fC.2.2.2.2.1 x a z e.symm
  refine ⟨m, hn.sameBut hsb hCa, fun h' hb => ?_⟩
  exact ⟨_, H', I''.turned (t' := s''.toks) (fun b o hne e => hb.extBut b o hne e) fC.1 fC.2.1 fC.2.2.2.1 fC.2.2.2.2.1 fC.2.2.2.2.2, q⟩
end
end L2
end
section
set_option autoImplicit false
namespace L2
open PySem PySem.Spec PyProof.Rows
inductive T where
  | non | int (i : Int) | str (x : Str) | tup (ts : List T)
mutual
def Dp (H : Hp) : T → V → Prop
  | .non, v => v = V.non
  | .int i, v => v = V.int i
  | .str x, v => v = V.str x
  | .tup ts, v => ∃ a xs, v = V.ref a ∧ H a = some (.tup xs) ∧ DpL H ts xs
def DpL (H : Hp) : List T → List V → Prop
  | [], xs => xs = []
  | t :: ts, xs => ∃ x r, xs = x :: r ∧ Dp H t x ∧ DpL H ts r
end
def Tups (H H' : Hp) : Prop := ∀ a xs, H a = some (.tup xs) → H' a = some (.tup xs)
theorem Tups.trans {H H1 H2 : Hp} (a : Tups H H1) (b : Tups H1 H2) : Tups H H2 := fun c o h => b c o (a c o h)
theorem Same.tups {H H' : Hp} (h : Same H H') : Tups H H' := fun a xs e => h a _ e
mutual
theorem Dp.mono {H H' : Hp} (h : Tups H H') : ∀ {t : T} {v : V}, Dp H t v → Dp H' t v
  | .non, _, e => by rw [Dp] at e ⊢; exact e
  | .int _, _, e => by rw [Dp] at e ⊢; exact e
  | .str _, _, e => by rw [Dp] at e ⊢; exact e
  | .tup ts, v, e => by
    rw [Dp] at e ⊢
    obtain ⟨a, xs, e, ha, hl⟩ := e
    exact ⟨a, xs, e, h a xs ha, DpL.mono h hl⟩
theorem DpL.mono {H H' : Hp} (h : Tups H H') : ∀ {ts : List T} {xs : List V}, DpL H ts xs → DpL H' ts xs
  | [], _, e => by rw [DpL] at e ⊢; exact e
  | t :: ts, xs, e => by
    rw [DpL] at e ⊢
    obtain ⟨x, r, e, h1, h2⟩ := e
    exact ⟨x, r, e, Dp.mono h h1, DpL.mono h h2⟩
end
theorem DpL.nil {H : Hp} : DpL H [] [] := by rw [DpL]
theorem DpL.cons {H : Hp} {t : T} {ts : List T} {x : V} {xs : List V} (h : Dp H t x) (r : DpL H ts xs) : DpL H (t :: ts) (x :: xs) := by
  rw [DpL]
  exact ⟨x, xs, rfl, h, r⟩
theorem DpL.cases {H : Hp} {t : T} {ts : List T} {xs : List V} (h : DpL H (t :: ts) xs) : ∃ x r, xs = x :: r ∧ Dp H t x ∧ DpL H ts r := by
  rw [DpL] at h
  exact h
theorem DpL.of_nil {H : Hp} {xs : List V} (h : DpL H [] xs) : xs = [] := by
  rw [DpL] at h
  exact h
theorem Dp.str {H : Hp} (x : Str) : Dp H (.str x) (.str x) := by rw [Dp]
theorem Dp.of_str {H : Hp} {x : Str} {v : V} (h : Dp H (.str x) v) : v = .str x := by
  rw [Dp] at h
  exact h
theorem Dp.of_tup {H : Hp} {ts : List T} {v : V} (h : Dp H (.tup ts) v) : ∃ a xs, v = V.ref a ∧ H a = some (.tup xs) ∧ DpL H ts xs := by
  rw [Dp] at h
  exact h
theorem Dp.tup {H : Hp} {ts : List T} {a : Addr} {xs : List V} (h : H a = some (.tup xs)) (r : DpL H ts xs) : Dp H (.tup ts) (.ref a) := by
  rw [Dp]
  exact ⟨a, xs, rfl, h, r⟩
theorem DpL.length {H : Hp} : ∀ {ts : List T} {xs : List V}, DpL H ts xs → xs.length = ts.length
  | [], xs, h => by rw [h.of_nil]; rfl
  | t :: ts, xs, h => by
    obtain ⟨x, r, rfl, _, h2⟩ := h.cases
    rw [List.length_cons, List.length_cons, h2.length]
theorem DpL.get {H : Hp} : ∀ {ts : List T} {xs : List V} {i : Nat} {t : T}, DpL H ts xs → ts[i]? = some t → ∃ x, xs[i]? = some x ∧ Dp H t x
  | [], _, _, _, _, e => by simp at e
  | t :: ts, xs, 0, t', h, e => by
    obtain ⟨x, r, rfl, h1, _⟩ := h.cases
    simp at e
    subst e
    exact ⟨x, rfl, h1⟩
  | t :: ts, xs, i + 1, t', h, e => by
    obtain ⟨x, r, rfl, _, h2⟩ := h.cases
    obtain ⟨y, e1, e2⟩ := h2.get (i := i) (t := t') (by simpa using e)
    exact ⟨y, by simpa using e1, e2⟩
theorem DpL.append {H : Hp} : ∀ {ts us : List T} {xs ys : List V}, DpL H ts xs → DpL H us ys → DpL H (ts ++ us) (xs ++ ys)
  | [], _, xs, _, h, g => by rw [h.of_nil]; exact g
  | t :: ts, us, xs, ys, h, g => by
    obtain ⟨x, r, rfl, h1, h2⟩ := h.cases
    exact .cons h1 (h2.append g)
theorem DpL.strs {H : Hp} : ∀ (ns : List Str), DpL H (ns.map T.str) (ns.map V.str)
  | [] => .nil
  | n :: ns => .cons (Dp.str n) (DpL.strs ns)
theorem DpL.of_strs {H : Hp} : ∀ {ns : List Str} {xs : List V}, DpL H (ns.map T.str) xs → xs = ns.map V.str
  | [], _, h => h.of_nil
  | n :: ns, xs, h => by
    obtain ⟨x, r, rfl, h1, h2⟩ := DpL.cases (t := T.str n) (ts := ns.map T.str) h
    rw [h1.of_str, DpL.of_strs h2]
    rfl
mutual
theorem Dp.fn {H : Hp} : ∀ {t t' : T} {v : V}, Dp H t v → Dp H t' v → t = t'
  | .non, t', v, h, g => by
    rw [Dp] at h
    subst h
    cases t' <;> rw [Dp] at g
    all_goals first | rfl | (cases g; done) | (obtain ⟨_, _, e, _⟩ := g; cases e)
  | .int i, t', v, h, g => by
    rw [Dp] at h
    subst h
    cases t' <;> rw [Dp] at g
    all_goals first | (cases g; rfl) | (cases g; done) | (obtain ⟨_, _, e, _⟩ := g; cases e)
  | .str i, t', v, h, g => by
    rw [Dp] at h
    subst h
    cases t' <;> rw [Dp] at g
    all_goals first | (cases g; rfl) | (cases g; done) | (obtain ⟨_, _, e, _⟩ := g; cases e)
  | .tup ts, t', v, h, g => by
    obtain ⟨a, xs, rfl, ha, hl⟩ := h.of_tup
    cases t' with
    | tup us =>
      obtain ⟨b, ys, e, hb, gl⟩ := g.of_tup
      cases e
      rw [ha] at hb
      cases hb
      rw [DpL.fn hl gl]
    | _ => rw [Dp] at g; cases g
theorem DpL.fn {H : Hp} : ∀ {ts us : List T} {xs : List V}, DpL H ts xs → DpL H us xs → ts = us
  | [], us, xs, h, g => by
    have e := h.of_nil
    subst e
    cases us with
    | nil => rfl
    | cons u us =>
      obtain ⟨_, _, e, _⟩ := g.cases
      cases e
  | t :: ts, us, xs, h, g => by
    obtain ⟨x, r, rfl, h1, h2⟩ := h.cases
    cases us with
    | nil =>
      have e := g.of_nil
      cases e
    | cons u us =>
      obtain ⟨_, _, e, g1, g2⟩ := g.cases
      cases e
      rw [Dp.fn h1 g1, DpL.fn h2 g2]
end
def Lv : Nat → T → Prop
  | _, .non => True
  | _, .int _ => True
  | _, .str _ => True
  | 0, .tup _ => False
  | n + 1, .tup ts => ∀ t ∈ ts, Lv n t
noncomputable def dcd (p : Prop) : Bool := @decide p (Classical.propDecidable p)
theorem dcd_t {p : Prop} (h : p) : dcd p = true := @decide_eq_true p (Classical.propDecidable p) h
theorem dcd_f {p : Prop} (h : ¬ p) : dcd p = false := @decide_eq_false p (Classical.propDecidable p) h
theorem dcd_iff {p : Prop} : dcd p = true ↔ p := ⟨fun h => @of_decide_eq_true p (Classical.propDecidable p) h, dcd_t⟩
theorem dcd_eq {p q : Prop} (h : p ↔ q) : dcd p = dcd q := by rw [propext h]
theorem dcd_of {p : Prop} {b : Bool} (h : b = true ↔ p) : b = dcd p := by
  by_cases hp : p
  · rw [dcd_t hp]
    exact h.mpr hp
  · rw [dcd_f hp]
    cases b with
    | false => rfl
    | true => exact absurd (h.mp rfl) hp
section
variable {X : Cx} {pins : List (Addr × Obj)} {σ : St} {H : Hp} {s : Shared}
theorem tup_at (I : Inv X pins σ H s) {a : Addr} {xs : List V} (h : H a = some (.tup xs)) : ∃ its : List Value, Vals xs its ∧ s.heap.IsTuple a its.toArray := by
  obtain ⟨its, r, p, _⟩ := I.tuple (SqT.of h)
  exact ⟨its, r, p⟩
theorem eqAt_T (I : Inv X pins σ H s) : ∀ (n : Nat) (A : Around) (t1 t2 : T) (v1 v2 : V) (u1 u2 : Value), Lv n t1 → A.units + n < cLine → Dp H t1 v1 → Dp H t2 v2 → RelV v1 u1 → RelV v2 u2 → SeqAt.EqAt A s u1 u2 (dcd (t1 = t2)) := by
  have flat : ∀ (A : Around) (t1 t2 : T) (v1 v2 : V) (u1 u2 : Value), flatV v1 = true → flatV v2 = true → Dp H t1 v1 → Dp H t2 v2 → RelV v1 u1 → RelV v2 u2 → eqV v1 v2 = dcd (t1 = t2) → SeqAt.EqAt A s u1 u2 (dcd (t1 = t2)) :=
    fun A t1 t2 v1 v2 u1 u2 f1 f2 _ _ r1 r2 e => by
      rw [← e]
      exact eqAt_V r1 r2 f1 f2
  intro n
  induction n with
  | zero =>
    intro A t1 t2 v1 v2 u1 u2 hn hu d1 d2 r1 r2
    have hu0 : A.units < cLine := by omega
    cases t1 with
    | tup ts => exact (show False from hn).elim
    | non =>
      rw [Dp] at d1
      subst d1
      cases t2 with
      | tup us =>
        obtain ⟨b, ys, rfl, hb, _⟩ := d2.of_tup
        obtain ⟨its, r, p⟩ := tup_at I hb
        cases r1
        cases r2
        rw [dcd_f (by intro h; cases h)]
        exact SeqAt.EqAt.none_tuple p hu0
      | non => rw [Dp] at d2; subst d2; exact flat A _ _ _ _ _ _ rfl rfl (by rw [Dp]) (by rw [Dp]) r1 r2 (dcd_t rfl).symm
      | int j => rw [Dp] at d2; subst d2; exact flat A _ _ _ _ _ _ rfl rfl (by rw [Dp]) (by rw [Dp]) r1 r2 (dcd_f (by intro h; cases h)).symm
      | str j => rw [Dp] at d2; subst d2; exact flat A _ _ _ _ _ _ rfl rfl (by rw [Dp]) (by rw [Dp]) r1 r2 (dcd_f (by intro h; cases h)).symm
    | int i =>
      rw [Dp] at d1
      subst d1
      cases t2 with
      | tup us =>
        obtain ⟨b, ys, rfl, hb, _⟩ := d2.of_tup
        obtain ⟨its, r, p⟩ := tup_at I hb
        obtain ⟨t, rfl⟩ := r1
        cases r2
        rw [dcd_f (by intro h; cases h)]
        exact SeqAt.EqAt.int_tuple i t p hu0
      | non => rw [Dp] at d2; subst d2; exact flat A _ _ _ _ _ _ rfl rfl (by rw [Dp]) (by rw [Dp]) r1 r2 (dcd_f (by intro h; cases h)).symm
      | int j =>
        rw [Dp] at d2
        subst d2
        exact flat A _ _ _ _ _ _ rfl rfl (by rw [Dp]) (by rw [Dp]) r1 r2 (dcd_of (by show (i == j) = true ↔ _; rw [beq_iff_eq]; exact ⟨fun h => by rw [h], fun h => by cases h; rfl⟩))
      | str j => rw [Dp] at d2; subst d2; exact flat A _ _ _ _ _ _ rfl rfl (by rw [Dp]) (by rw [Dp]) r1 r2 (dcd_f (by intro h; cases h)).symm
    | str i =>
      rw [Dp] at d1
      subst d1
      cases t2 with
      | tup us =>
        obtain ⟨b, ys, rfl, hb, _⟩ := d2.of_tup
        obtain ⟨its, r, p⟩ := tup_at I hb
        obtain ⟨t, rfl⟩ := r1
        cases r2
        rw [dcd_f (by intro h; cases h)]
        exact SeqAt.EqAt.str_tuple i t p hu0
      | non => rw [Dp] at d2; subst d2; exact flat A _ _ _ _ _ _ rfl rfl (by rw [Dp]) (by rw [Dp]) r1 r2 (dcd_f (by intro h; cases h)).symm
      | int j => rw [Dp] at d2; subst d2; exact flat A _ _ _ _ _ _ rfl rfl (by rw [Dp]) (by rw [Dp]) r1 r2 (dcd_f (by intro h; cases h)).symm
      | str j =>
        rw [Dp] at d2
        subst d2
        exact flat A _ _ _ _ _ _ rfl rfl (by rw [Dp]) (by rw [Dp]) r1 r2 (dcd_of (by show (i == j) = true ↔ _; rw [beq_iff_eq]; exact ⟨fun h => by rw [h], fun h => by cases h; rfl⟩))
  | succ n ih =>
    intro A t1 t2 v1 v2 u1 u2 hn hu d1 d2 r1 r2
    cases t1 with
    | non => exact (ih A .non t2 v1 v2 u1 u2 (by cases n <;> trivial) (by omega) d1 d2 r1 r2)
    | int i => exact (ih A (.int i) t2 v1 v2 u1 u2 (by cases n <;> trivial) (by omega) d1 d2 r1 r2)
    | str i => exact (ih A (.str i) t2 v1 v2 u1 u2 (by cases n <;> trivial) (by omega) d1 d2 r1 r2)
    | tup ts =>
      have hn : ∀ t ∈ ts, Lv n t := hn
      have hu0 : A.units < cLine := by omega
      obtain ⟨a, xs, rfl, ha, hl⟩ := d1.of_tup
      obtain ⟨its, r, p⟩ := tup_at I ha
      cases r1
      cases t2 with
      | non =>
        rw [Dp] at d2
        subst d2
        cases r2
        rw [dcd_f (by intro h; cases h)]
        exact SeqAt.EqAt.tuple_none p hu0
      | int j =>
        rw [Dp] at d2
        subst d2
        obtain ⟨t, rfl⟩ := r2
        rw [dcd_f (by intro h; cases h)]
        exact SeqAt.EqAt.tuple_int j t p hu0
      | str j =>
        rw [Dp] at d2
        subst d2
        obtain ⟨t, rfl⟩ := r2
        rw [dcd_f (by intro h; cases h)]
        exact SeqAt.EqAt.tuple_str j t p hu0
      | tup us =>
        obtain ⟨b, ys, rfl, hb, gl⟩ := d2.of_tup
        obtain ⟨its2, q, p2⟩ := tup_at I hb
        cases r2
        by_cases hab : a = b
        · subst hab
          rw [ha] at hb
          cases hb
          rw [dcd_t (by rw [DpL.fn hl gl])]
          exact SeqAt.EqAt.same _
        · have l1 : its.toArray.size = ts.length := by rw [List.size_toArray, ← r.length, hl.length]
          have l2 : its2.toArray.size = us.length := by rw [List.size_toArray, ← q.length, gl.length]
          have key := SeqAt.RcAt.tuples (A := A) (s := s) (e := fun j => dcd (ts[j]? = us[j]?)) p p2 hu0 (fun j h1 h2 => by
            have j1 : j < ts.length := by omega
            have j2 : j < us.length := by omega
            have e1 : ts[j]? = some ts[j] := List.getElem?_eq_getElem j1
            have e2 : us[j]? = some us[j] := List.getElem?_eq_getElem j2
            obtain ⟨x1, f1, g1⟩ := hl.get e1
            obtain ⟨x2, f2, g2⟩ := gl.get e2
            obtain ⟨w1, k1, m1⟩ := r.get f1
            obtain ⟨w2, k2, m2⟩ := q.get f2
            have n1 : its.toArray[j] = w1 := by
              have : its.toArray[j]? = some w1 := by simpa using k1
              rw [Array.getElem?_eq_getElem h1] at this
              exact Option.some.inj this
            have n2 : its2.toArray[j] = w2 := by
              have : its2.toArray[j]? = some w2 := by simpa using k2
              rw [Array.getElem?_eq_getElem h2] at this
              exact Option.some.inj this
            rw [n1, n2]
            have := ih A.in1 ts[j] us[j] x1 x2 w1 w2 (hn _ (List.getElem_mem j1)) (by show A.units + 1 + n < cLine; omega) g1 g2 m1 m2
            rw [show dcd (ts[j]? = us[j]?) = dcd (ts[j] = us[j]) from dcd_eq (by rw [e1, e2]; exact ⟨fun h => Option.some.inj h, fun h => by rw [h]⟩)]
            exact this)
          have fin := SeqAt.EqAt.of_refs hab key
          have ee : ((List.range (min its.toArray.size its2.toArray.size)).all (fun j => dcd (ts[j]? = us[j]?)) && its.toArray.size == its2.toArray.size) = dcd (T.tup ts = T.tup us) := by
            refine dcd_of ?_
            rw [l1, l2, Bool.and_eq_true, List.all_eq_true, beq_iff_eq]
            constructor
            · rintro ⟨h1, h2⟩
              have : ts = us := by
                apply List.ext_getElem?
                intro j
                by_cases hj : j < ts.length
                · exact dcd_iff.mp (h1 j (List.mem_range.mpr (by omega)))
                · rw [List.getElem?_eq_none (by omega), List.getElem?_eq_none (by omega)]
              rw [this]
            · intro h
              cases h
              exact ⟨fun j _ => dcd_t rfl, rfl⟩
          rw [ee] at fin
          exact fin
end
section
variable {X : Cx}
end
end L2
end
section
set_option autoImplicit false
namespace L2
open PySem PySem.Spec PyProof.Rows
section
variable {X : Cx}
def rSlS : V → Option Int → Option Int → Hp → VK → Prop := fun x lo hi H Q => ∃ z, x = .str z ∧ z.length ≤ sizeLine ∧ Q (.str (Txt.slice z lo hi)) H
theorem sl_str : SlR X rSlS := by
  intro pins s σ H x v vl vu lo hi sl Q I rx hs pl pu h
  obtain ⟨z, rfl, hz, q⟩ := h
  obtain ⟨t, rfl⟩ := rx
  obtain ⟨o, ho, hc, hd⟩ := hs
  have fin : ∀ (t' : Tok) (k : Nat), EP X pins σ Q (.str (Txt.slice z lo hi) t') { s with toks := k } := fun t' k => ⟨.str _, H, I.tok k, ⟨_, rfl⟩, q⟩
  refine ⟨"str", _, F.slot_str_getitem.lookup, typeIs_str _ _ _, ?_⟩
  cases pl with
  | none =>
    cases pu with
    | none => exact wpAny_getItem_str_slice (l := none) (u := none) (st := none) ⟨o, ho, hc, hd⟩ rfl (post_val_or_str ⟨Nat.le_trans (Txt.slice_le z _ _) hz, fin⟩)
    | int j uj => exact wpAny_getItem_str_slice (l := none) (u := some (j, uj)) (st := none) ⟨o, ho, hc, hd⟩ rfl (post_val_or_str ⟨Nat.le_trans (Txt.slice_le z _ _) hz, fin⟩)
  | int i ui =>
    cases pu with
    | none => exact wpAny_getItem_str_slice (l := some (i, ui)) (u := none) (st := none) ⟨o, ho, hc, hd⟩ rfl (post_val_or_str ⟨Nat.le_trans (Txt.slice_le z _ _) hz, fin⟩)
    | int j uj => exact wpAny_getItem_str_slice (l := some (i, ui)) (u := some (j, uj)) (st := none) ⟨o, ho, hc, hd⟩ rfl (post_val_or_str ⟨Nat.le_trans (Txt.slice_le z _ _) hz, fin⟩)
def tSlK (K : PySem.W.Frag) (te tk : TE) : TE := fun σ H Q => te σ H fun x H1 => tk σ H1 fun y H2 => ∃ a xs i, x = .ref a ∧ y = .int i ∧ SqL K H2 a xs ∧
  ((i = 1 ∧ ∀ p, H2 p = none → Q (.ref p) (upd H2 p (.lst xs))) ∨ (i = -1 ∧ ∀ p, H2 p = none → Q (.ref p) (upd H2 p (.lst xs.reverse))))
theorem pick_one (its : List Value) : slicePick its.toArray none none (some 1) = its.toArray := by
  have e : slicePick its.toArray none none (some 1) = slicePick its.toArray none none none := rfl
  rw [e, slicePick_cut]
  simp [HT.sIx]
theorem pe_slK {e k : Expr} {te tk : TE} {pos p2 : Pos} (he : PE X e te) (hk : PE X k tk) : PE X (.Subscript e (.Slice none none (some k) p2) pos) (tSlK X.K te tk) := by
  intro pins s σ H Q I h
  refine Subscript_ (thn (he pins s σ H _ I h) fun v s1 ⟨x, H1, I1, r1, q1⟩ => ?_)
  refine wpAny_Slice ?_
  rw [evalPart_none]
  refine wpAny_pure ?_
  refine wpAny_pure ?_
  rw [evalPart_some]
  refine thn (hk pins s1 σ H1 _ I1 q1) fun vk s3 ⟨y, H3, I3, r3, q3⟩ => ?_
  obtain ⟨a, xs, i, rfl, rfl, hq, q⟩ := q3
  cases r1
  obtain ⟨t, rfl⟩ := r3
  have I4 : Inv X pins σ H3 { s3 with heap := s3.heap.push { cls := .type "slice", data := .fields #[.none, .none, .int i t] } } := I3.kept (t' := s3.toks) fun b ob q => Heap.get?_push_of_some _ q
  obtain ⟨its, r, ht, hz⟩ := I4.list hq
  have hlen : its.toArray.size = xs.length := by rw [List.size_toArray]; exact r.length.symm
  show wpAny (model X.prog X.w) X.A (subscriptTail e (.Slice none none (some k) p2) (.ref a) (.ref s3.heap.objs.size)) (EP X pins σ Q) X.xe { s3 with heap := s3.heap.push { cls := .type "slice", data := .fields #[.none, .none, .int i t] } }
  have fin : ∀ ys : List V, ys.length ≤ sizeLine → ∀ jts : List Value, Vals ys jts → (∀ p, H3 p = none → Q (.ref p) (upd H3 p (.lst ys))) →
      EP X pins σ Q (.ref (s3.heap.push { cls := .type "slice", data := .fields #[.none, .none, .int i t] }).objs.size)
        { s3 with heap := (s3.heap.push { cls := .type "slice", data := .fields #[.none, .none, .int i t] }).push { cls := .type "list", data := .seq jts.toArray } } := fun ys hy jts rj hQ =>
    ⟨.ref _, _, I4.lnew (t' := s3.toks) rj hy, rfl, hQ _ I4.fresh⟩
  rcases q with ⟨rfl, q⟩ | ⟨rfl, q⟩
  · refine tail_any (ops := [.ref a, .ref s3.heap.objs.size]) ht.isList.typeIs slot_list_getitem.lookup (wpAny_getItem_list_slice ht.isList (Heap.IsSliceOf.new ..) .none .none (.int 1 t) (by decide) ?_ (by rw [hlen]; exact hz)) (by with_unfolding_all rfl)
    rw [pick_one]
    exact fin xs hz its r q
  · refine tail_any (ops := [.ref a, .ref s3.heap.objs.size]) ht.isList.typeIs slot_list_getitem.lookup (wpAny_getItem_list_slice ht.isList (Heap.IsSliceOf.new ..) .none .none (.int (-1) t) (by decide) ?_ (by rw [hlen]; exact hz)) (by with_unfolding_all rfl)
    rw [PySem.W.krv_pick, List.toList_toArray]
    exact fin xs.reverse (by rw [List.length_reverse]; exact hz) its.reverse r.reverse q
end
end L2
end
section
set_option autoImplicit false
namespace L2
open PySem PySem.Spec PyProof.Rows
open AutoSeq1 (wpAny_loadPart') in
open MeetsSeq MeetsSeq2 MeetsSeq3 SeqRoads2 SeqAt in
section
variable {prog : Program} {w : World} {A : Around} {E : Value → Shared → Prop} {s : Shared}
theorem nextT_item {it t : Addr} {i : Nat} {items : Array Value} {x : Value} {Q : Value → Shared → Prop} (hit : s.heap.IsTupleIter it t i) (ht : s.heap.IsTuple t items) (hx : items[i]? = some x)
    (hQ : ∀ h', h'.IsTupleIter it t (i + 1) → Heap.SameBut it s.heap h' → Q x { s with heap := h' }) : wpAny (model prog w) A (Builtin.SmallTypes.nextOf (.ref it)) Q E s := by
  obtain ⟨ob, e1, e2, e3⟩ := id hit
  obtain ⟨ot, g1, _, nn, g2⟩ := ht
  unfold Builtin.SmallTypes.nextOf
  refine wpAny_bind (wpAny_callSpecial?_slot (name := Str.ofString "__next__") hit.typeIs F.slot_tuple_iterator_next (wpAny_call_entry F.slot_tuple_iterator_next hit.typeIs F.entry_tuple_iterator_next ?_ (F.args_tuple_iterator_next_1 _)))
  show wpAny _ _ (field (.ref it) 0 >>= _) _ _ s; refine wpAny_bind (wpAny_field e1 e3 (x := .ref t) rfl ?_)
  show wpAny _ _ (if (Value.ref t == Value.none) = true then _ else _) _ _ s; rw [if_neg (show ¬ ((Value.ref t == Value.none) = true) from Bool.false_ne_true)]
  show wpAny _ _ (field (.ref it) 1 >>= _) _ _ s; refine wpAny_bind (wpAny_field e1 e3 (x := .int i 0) rfl ?_)
  show wpAny _ _ (seqItems? (.ref t) >>= _) _ _ s; refine wpAny_bind (wpAny_seqItems g1 g2 ?_)
  simp only [Int.toNat_natCast, hx]
  refine wpAny_bind (wpAny_setField e1 e3 (by simp) (wpAny_pure ⟨x, rfl, wpAny_pure (hQ _ ⟨_, Heap.get?_update_self _ e1 (Obj.isFreed_of_fields (Obj.data_mapFields e3 _)), (Obj.cls_mapFields ..).trans e2, ?_⟩ (Heap.SameBut.update ..))⟩))
  rw [Obj.data_mapFields e3]; simp [rawInt]
theorem nextT_end {it t : Addr} {i : Nat} {items : Array Value} {Q : Value → Shared → Prop} (hh : A.handled = none) (hit : s.heap.IsTupleIter it t i) (ht : s.heap.IsTuple t items) (hx : items[i]? = none)
    (hE : ∀ h' e, Heap.ExtBut it s.heap h' → (∃ o, h'.get? e = some o ∧ o.cls = .type "StopIteration") → E (.ref e) { s with heap := h' }) : wpAny (model prog w) A (Builtin.SmallTypes.nextOf (.ref it)) Q E s := by
  obtain ⟨ob, e1, e2, e3⟩ := id hit
  obtain ⟨ot, g1, _, nn, g2⟩ := ht
  unfold Builtin.SmallTypes.nextOf
  refine wpAny_bind (wpAny_callSpecial?_slot (name := Str.ofString "__next__") hit.typeIs F.slot_tuple_iterator_next (wpAny_call_entry F.slot_tuple_iterator_next hit.typeIs F.entry_tuple_iterator_next ?_ (F.args_tuple_iterator_next_1 _)))
  show wpAny _ _ (field (.ref it) 0 >>= _) _ _ s; refine wpAny_bind (wpAny_field e1 e3 (x := .ref t) rfl ?_)
  show wpAny _ _ (if (Value.ref t == Value.none) = true then _ else _) _ _ s; rw [if_neg (show ¬ ((Value.ref t == Value.none) = true) from Bool.false_ne_true)]
  show wpAny _ _ (field (.ref it) 1 >>= _) _ _ s; refine wpAny_bind (wpAny_field e1 e3 (x := .int i 0) rfl ?_)
  show wpAny _ _ (seqItems? (.ref t) >>= _) _ _ s; refine wpAny_bind (wpAny_seqItems g1 g2 ?_)
  simp only [Int.toNat_natCast, hx]
  refine wpAny_bind (wpAny_rule (wpAny_bind (wpAny_setField e1 e3 (by simp) ?_)))
  show wpAny _ _ (newExc (.type "StopIteration") [] >>= _) _ _ _; refine wpAny_bind ?_
  simp only [newExc, newTuple]; refine wpAny_bind (wpAny_newObj_type ?_ (by size_fits))
  refine wpAny_bind (m := firstArgMember _ _) (wpAny_of_eq (a := Value.none) (by first | rfl | (simp only [firstArgMember]; rfl)) ?_)
  refine wpAny_newObj_type ?_ (by size_fits); simp only [raiseNew]; refine wpAny_bind (wpAny_handled ?_)
  first | rw [show A.in1.handled = none from hh] | rw [hh]
  refine wpAny_bind (wpAny_pure (wpAny_throw (hE _ _ (((Heap.SameBut.update ..).extBut.push _).push _) ⟨_, Heap.get?_push_size _ rfl, rfl⟩)))
structure ZA (z TI TO i1 i2 t1 t2 : Addr) : Prop where
  a1 : TI ≠ z
  a2 : TO ≠ z
  a3 : i1 ≠ z
  a4 : i2 ≠ z
  a5 : TI ≠ TO
  a6 : TI ≠ i1
  a7 : TI ≠ i2
  a8 : TO ≠ i1
  a9 : TO ≠ i2
  b1 : i1 ≠ i2
  b2 : t1 ≠ z
  b3 : t1 ≠ TO
  b4 : t1 ≠ i1
  b5 : t1 ≠ i2
  b6 : t2 ≠ z
  b7 : t2 ≠ TO
  b8 : t2 ≠ i1
  b9 : t2 ≠ i2
end
theorem Inv.turnLaid {X : Cx} {pins : List (Addr × Obj)} {σ : St} {H : Hp} {s : Shared} {h' : Heap} {fp : List Addr} {a : Addr} {o : HO} {t' : Nat} (I : Inv X pins σ H s) (hf : ∀ b ∈ fp, FpOk X pins H b)
    (k : ∀ b u, b ∉ fp → s.heap.get? b = some u → h'.get? b = some u) (hp : s.heap.objs.size ≤ a) (new : ObjOk X.prog X.w (upd H a o) h' a o) : Inv X pins σ (upd H a o) { s with heap := h', toks := t' } := by
  have hn : H a = none := I.hok.fresh hp
  have nf : ∀ b u, H b = some u → b ∉ fp := fun b u e hb => by rw [(hf b hb).1] at e; cases e
  refine I.step (g' := s.gens) (d' := s.drawn) (ch := fp) (fun b hb => ⟨(hf b hb).2.2.2.1, (hf b hb).2.1, (hf b hb).2.2.2.2.1, (hf b hb).2.2.2.2.2⟩) (fun b u _ _ hc e _ => k b u hc e) (fun b u _ _ hc e _ => ⟨u.slots, k b u hc e⟩)
    (fun b u _ e n => by rw [upd_ne (Nat.ne_of_lt (Nat.lt_of_lt_of_le (Heap.lt_size e) hp))]; exact n) (fun b u hc e => ⟨u, k b u hc e⟩) (fun b xs e => by rw [upd_ne (ne_of_none e hn)]; exact e)
    (fun b u v e => by rw [upd_ne (ne_of_none e hn)]; exact e) (fun b ps e => ⟨#[], by rw [upd_ne (ne_of_none e hn), e]; simp⟩) (fun m hm => ?_) (fun b u e => ?_) I.bare
  · obtain ⟨ob, es, ep, ho, r⟩ := hm
    exact ⟨ob, es, ep, k _ ob (fun z => (hf _ z).2.1 rfl) ho, r⟩
  · by_cases hb : b = a
    · subst hb
      rw [upd_same] at e
      cases e
      exact new
    · rw [upd_ne hb] at e
      refine (I.hok b u e).stay (fun c v hc q => k c v ?_ q) (fun c q => by rw [upd_ne (ne_of_none q hn)]; exact q) fun c xs q => by rw [upd_ne (ne_of_none q hn)]; exact q
      rcases hc with z | z
      · rw [z]; exact nf b u e
      · exact nf c _ z
theorem Inv.turnedL {X : Cx} {pins : List (Addr × Obj)} {σ : St} {H : Hp} {s : Shared} {h' : Heap} {fp : List Addr} {t' : Nat} (I : Inv X pins σ H s) (hf : ∀ b ∈ fp, FpOk X pins H b)
    (k : ∀ b u, b ∉ fp → s.heap.get? b = some u → h'.get? b = some u) : Inv X pins σ H { s with heap := h', toks := t' } := by
  have nf : ∀ b u, H b = some u → b ∉ fp := fun b u e hb => by rw [(hf b hb).1] at e; cases e
  refine I.step (g' := s.gens) (d' := s.drawn) (ch := fp) (fun b hb => ⟨(hf b hb).2.2.2.1, (hf b hb).2.1, (hf b hb).2.2.2.2.1, (hf b hb).2.2.2.2.2⟩) (fun b u _ _ hc e _ => k b u hc e) (fun b u _ _ hc e _ => ⟨u.slots, k b u hc e⟩)
    (fun b u _ e n => n) (fun b u hc e => ⟨u, k b u hc e⟩) (fun b xs e => e) (fun b u v e => e) (fun b ps e => ⟨#[], by rw [e]; simp⟩) (fun m hm => ?_) (fun b u e => ?_) I.bare
  · obtain ⟨ob, es, ep, ho, r⟩ := hm
    exact ⟨ob, es, ep, k _ ob (fun z => (hf _ z).2.1 rfl) ho, r⟩
  · refine (I.hok b u e).stay (fun c v hc q => k c v ?_ q) (fun c q => q) fun c xs q => q
    rcases hc with z | z
    · rw [z]; exact nf b u e
    · exact nf c _ z
section
variable {X : Cx}
theorem call_all (hc : X.calm = true) : CallR X (.builtin "all") (fun xs H Q => ∃ (p : Addr) (bs : List Bool), xs = [.ref p] ∧ SqL X.K H p (bs.map V.bl) ∧ Q (.bl (bs.all id)) H) := by
  intro pins s σ H xs us Q I r h
  obtain ⟨p, bs, rfl, hq, q⟩ := h
  obtain ⟨u, rfl, ru⟩ := vals1 r
  cases ru
  obtain ⟨its, rv, pl, hz⟩ := I.list hq
  have hl := rv.length
  rw [List.length_map] at hl
  refine call_all_walk (wpAny_pyIter_list pl.isList ?_)
  have plt : p < s.heap.objs.size := by obtain ⟨o, e, _⟩ := pl.isList; exact Heap.lt_size e
  refine ⟨s.heap.objs.size, _, _, _, _, _, fun i => bs.getD i true, rfl, Walks.list (A := X.A.in1) (I.ok.hd hc) s.heap.objs.size p (Nat.ne_of_lt plt) its.toArray, ⟨⟨_, Heap.get?_push_size _ rfl, rfl, rfl⟩, pl.isList.push _⟩, fun i v s' Q' E' hv hQ => ?_, fun h' tk kk => ?_⟩
  · have hi : i < bs.length := by
      have := (Array.getElem?_eq_some_iff.mp hv).1
      rw [List.size_toArray] at this
      omega
    obtain ⟨u, hu, ru⟩ := rv.get (i := i) (x := V.bl bs[i]) (by simp [hi])
    have hv' : its[i]? = some v := by simpa using hv
    rw [hv'] at hu
    cases hu
    cases ru
    refine wpAny_truthy_bool ?_
    simpa [hi] using hQ
  · have ee : ((List.range its.toArray.size).all fun i => bs.getD i true) = bs.all id := by
      rw [List.size_toArray, ← hl]
      apply Bool.eq_iff_iff.mpr
      rw [List.all_eq_true, List.all_eq_true]
      constructor
      · intro h b hb
        obtain ⟨i, hi, rfl⟩ := List.getElem_of_mem hb
        have := h i (List.mem_range.mpr hi)
        simpa [hi] using this
      · intro h i hi
        have hi' := List.mem_range.mp hi
        have := h bs[i] (List.getElem_mem hi')
        simpa [hi'] using this
    rw [ee]
    have I1 : Inv X pins σ H { s with heap := s.heap.push { cls := .type "list_iterator", data := .fields #[.ref p, .int 0 0] } } := I.kept (t' := s.toks) fun b o e => Heap.get?_push_of_some _ e
    refine ⟨.bl _, H, I1.turned (t' := tk) (it := s.heap.objs.size) (fun b o hb e => kk b o (by simpa using hb) e) (I.hok.fresh (Nat.le_refl _)) (Nat.ne_of_gt I.lt) (.inr I.sz) ?_ ?_, rfl, q⟩
    · exact (I.fpOk (Nat.le_refl _) (I.hok.fresh (Nat.le_refl _))).2.2.2.2.1
    · exact (I.fpOk (Nat.le_refl _) (I.hok.fresh (Nat.le_refl _))).2.2.2.2.2
def Its (x : Str) : It := ⟨fun i _ => i < x.cps.size, fun i H v H' => H' = H ∧ ∃ c, x.cps[i]? = some c ∧ v = .str ⟨#[c]⟩, fun i _ => x.cps.size ≤ i⟩
theorem turn_str {P : Program} {w : World} {K : PySem.W.Frag} {tg : Expr} (x : Str) (t : Tok) (it : Addr) : Turn P w K tg (Its x) [it] it (fun i h => h.IsStrIter it "str_ascii_iterator" x t i) where
  mem := by simp
  obj := fun i h st b hb => by
    have e : b = it := by simpa using hb
    subst e
    obtain ⟨o, e, c, d⟩ := st
    exact ⟨o, e, fun v z => by rw [d] at z; cases z⟩
  keep := fun i h h' st k => by
    obtain ⟨o, e, r⟩ := st
    exact ⟨o, k it (by simp) o e, r⟩
  item := by
    intro X hP hw hK hc i pins s σ H E I hf st hg
    subst hP hw hK
    have hg : i < x.cps.size := hg
    obtain ⟨f0, f1, f2, f3, f4, f5⟩ := hf it (by simp)
    refine wpAny_pyNext_ascii_item st (c := x.cps[i]) (by simp [hg]) fun h' st' sb => ?_
    have I1 : Inv X pins σ H { s with heap := h', toks := s.toks + 1 } := I.turned (fun b o hb e => (sb.2 b hb).trans e) f0 f1 f3 f4 f5
    obtain ⟨o, e, c, d⟩ := id st'
    exact ⟨_, rfl, go_of (s := { s with heap := h', toks := s.toks + 1 }) e c d (by decide) ⟨.str ⟨#[x.cps[i]]⟩, H, I1, ⟨_, rfl⟩, ⟨rfl, _, by simp [hg], rfl⟩, st', fun b hb => (hf b hb).1⟩⟩
  done := by
    intro X hP hw hK hc i pins s σ H E I hf st hg
    subst hP hw hK
    have hg : x.cps.size ≤ i := hg
    obtain ⟨f0, f1, f2, f3, f4, f5⟩ := hf it (by simp)
    exact wpAny_pyNext_ascii_end (I.ok.hd hc) st (by simp [hg]) fun h' eb => ⟨rfl, I.turned (t' := s.toks) (fun b o hb e => eb b o hb e) f0 f1 f3 f4 f5⟩
  self := fun _ _ _ _ _ st h => wpAny_pyIter_striter_ascii st h
def iStr (te : TE) : TI := fun σ H R => te σ H fun v H1 => ∃ x, v = .str x ∧ x.cps.all (· < 128) = true ∧ R (Its x) H1
theorem pi_str {tg e : Expr} {te : TE} (he : PE X e te) : PI X tg e (iStr te) := by
  intro pins s σ H R I h
  refine thn (he pins s σ H _ I h) fun v s1 ⟨y, H1, I1, r1, x, e, hx, q⟩ => ?_
  subst e
  obtain ⟨t, rfl⟩ := r1
  refine wpAny_pyIter_ascii hx ?_
  refine ⟨s1.heap.objs.size, [s1.heap.objs.size], _, _, H1, rfl, I1.kept (t' := s1.toks) fun b o e => Heap.get?_push_of_some _ e, turn_str x t _, ⟨_, Heap.get?_push_size _ rfl, rfl, rfl⟩, fun b hb => ?_, q⟩
  have e : b = s1.heap.objs.size := by simpa using hb
  subst e
  exact I1.fpOk (Nat.le_refl _) (I1.hok.fresh (Nat.le_refl _))
theorem call_isinst : CallR X (.builtin "isinstance") (fun xs H Q => ∃ x n t b, xs = [x, .ty n] ∧ TyOf X.K H x t ∧ PySem.W.kitOne X.K t (.type n) = some b ∧ Q (.bl b) H) := by
  intro pins s σ H xs us Q I r h
  obtain ⟨x, n, t, b, rfl, ty, e, q⟩ := h
  obtain ⟨u, w', rfl, ru, rw'⟩ := vals2 r
  cases rw'
  exact isinst_ok I ru ty e fun tk => ⟨.bl b, H, I.tok _, rfl, q⟩
theorem kit_same (K : PySem.W.Frag) (n : String) : PySem.W.kitOne K (.type n) (.type n) = some true := by
  unfold PySem.W.kitOne
  rw [if_pos (by simp)]
end
end L2
end
section
set_option autoImplicit false
namespace L2
open PySem PySem.Spec PyProof.Rows
theorem ObjOk.ex {P : Program} {w : World} {H : Hp} {h : Heap} {a : Addr} {o : HO} (x : ObjOk P w H h a o) : ∃ ob, h.get? a = some ob := by
  cases o with
  | lst xs => obtain ⟨_, _, _, _, e⟩ := x; exact ⟨_, e⟩
  | tup xs => obtain ⟨_, _, _, ob, e, _⟩ := x; exact ⟨_, e⟩
  | dK kvs => obtain ⟨_, _, _, _, o, _, _, e, _⟩ := x; exact ⟨_, e⟩
  | dT kvs => obtain ⟨_, _, _, _, o, _, _, e, _⟩ := x; exact ⟨_, e⟩
  | set S n => obtain ⟨o, _, _, _, e, _⟩ := x; exact ⟨_, e⟩
  | ins C dx fs => obtain ⟨_, _, _, e, _⟩ := x; exact ⟨_, e⟩
  | own y => exact x
  | xd fs => obtain ⟨_, ⟨_, _, _, e, _⟩, _⟩ := x; exact ⟨_, e⟩
  | rng lo hi => obtain ⟨_, _, _, e⟩ := x; exact ⟨_, e⟩
  | frz ob u => exact ⟨_, x.1⟩
  | tbl ps => exact ⟨_, x⟩
  | met f y => exact ⟨_, x⟩
  | ext φ => exact x.2.1
theorem un_up {P : Program} {w : World} {outer : List Env} {H H' : Hp} {h h' h2 B : Heap} (u : Un (frs outer) [] H H' h h') (hok : HOk P w H' h') (covH : ∀ b, H' b ≠ none → ∃ o, B.get? b = some o)
    (covS : ∀ b o, h.get? b = some o → b ∉ frs outer → ∃ o, B.get? b = some o) (fr : ∀ b ∈ frs outer, ∃ o, h'.get? b = some o ∧ ∀ vs, o.data ≠ .fields vs) (st0 : B.StaysIn h') (st : B.StaysIn h2) (up : h'.UpToSlots h2) :
    Un (frs outer) [] H H' h h2 ∧ HOk P w H' h2 := by
  have same : ∀ b o, (∃ o', B.get? b = some o') → h'.get? b = some o → h2.get? b = some o := fun b o ⟨o', e⟩ q => by
    have z := st0 b o' e
    rw [q] at z
    cases z
    exact st b _ e
  refine ⟨⟨fun b o q n nf nx => same b o (covS b o q nf) (u.keep b o q n nf nx), fun b o q n hf nx => ?_, u.free, fun b o q nx => ?_, u.tups, u.frzs, u.tbls⟩, fun a o e => (hok a o e).stay (fun b v hb q => same b v (covH b ?_) q) (fun _ q => q) fun _ _ q => q⟩
  · obtain ⟨sl, e⟩ := u.slot b o q n hf nx
    obtain ⟨o', e', hd⟩ := fr b hf
    rw [e] at e'
    cases e'
    obtain ⟨sl2, e2⟩ := up b _ e hd
    exact ⟨sl2, e2⟩
  · by_cases hf : b ∈ frs outer
    · obtain ⟨o', e', hd⟩ := fr b hf
      obtain ⟨sl2, e2⟩ := up b _ e' hd
      exact ⟨_, e2⟩
    · obtain ⟨o', e'⟩ := covS b o q hf
      exact ⟨o', st b _ e'⟩
  · rcases hb with rfl | hb
    · rw [e]; simp
    · rw [hb]; simp
structure Flies (P : Program) (w : World) (outer : List Env) (H : Hp) (s : Shared) (e : Addr) (cls : Value) (H' : Hp) (B : Heap) (a0 : Value) (s' : Shared) : Prop where
  os : s'.os = s.os
  bare : AllBare s'.gens
  un : Un (frs outer) [] H H' s.heap s'.heap
  hok : HOk P w H' s'.heap
  fl : Heap.FlyingW B outer e cls a0 s'.heap
  covH : ∀ b, H' b ≠ none → ∃ o, B.get? b = some o
  covS : ∀ b o, s.heap.get? b = some o → b ∉ frs outer → ∃ o, B.get? b = some o
def CXe (P : Program) (w : World) : CXT := fun outer H s E e s' => ∃ ea C H' B a0, e = .ref ea ∧ Flies P w outer H s ea (.ref C) H' B a0 s' ∧ E (.ref C) none H'
section
variable {P : Program} {w : World} {outer : List Env} {H H' : Hp} {s s' : Shared} {e : Addr} {cls a0 : Value} {B h2 : Heap}
theorem Flies.frames (f : Flies P w outer H s e cls H' B a0 s') : ∀ b ∈ frs outer, ∃ o, s'.heap.get? b = some o ∧ ∀ vs, o.data ≠ .fields vs := fun b hb => (f.fl.2.2.1.mem hb).2
theorem Flies.move (f : Flies P w outer H s e cls H' B a0 s') (fl : Heap.FlyingW B outer e cls a0 h2) (up : s'.heap.UpToSlots h2) : Flies P w outer H s e cls H' B a0 { s' with heap := h2 } := by
  obtain ⟨u2, ok2⟩ := un_up f.un f.hok f.covH f.covS f.frames f.fl.1 fl.1 up
  exact ⟨f.os, f.bare, u2, ok2, fl, f.covH, f.covS⟩
end
section
variable {X : Cx} {pins : List (Addr × Obj)} {σ : St} {H H' : Hp} {s s' : Shared} {e : Addr} {cls a0 : Value} {B h2 : Heap}
theorem Flies.inv (I : Inv X pins σ H s) (f : Flies X.prog X.w X.stack H s e cls H' B a0 s') : Inv X pins σ H' s' := I.call' (ch := []) f.os f.un f.hok f.bare (fun _ z => nomatch z)
theorem Flies.leave (I : Inv X pins σ H s) (hx : X.ex = []) (hs : X.stack = X.env :: X.outer) (hf : X.env.frame = some X.env.locals) (f : Flies X.prog X.w X.stack H s e cls H' B a0 s') (fl : Heap.FlyingW B X.outer e cls a0 h2) (up : s'.heap.UpToSlots h2) :
    Flies X.prog X.w X.outer X.H₀ X.s₀ e cls H' B a0 { s' with heap := h2 } := by
  obtain ⟨u2, ok2⟩ := un_up f.un f.hok f.covH f.covS f.frames f.fl.1 fl.1 up
  have J : Inv X pins σ H' { s' with heap := h2 } := I.call' (ch := []) f.os u2 ok2 f.bare (fun _ z => nomatch z)
  have hb := J.base
  rw [hx] at hb
  refine ⟨J.os, J.bare, hb, ok2, fl, f.covH, fun b o q nf => ?_⟩
  obtain ⟨o', q'⟩ := I.base.there b o q (by rw [hx]; simp)
  refine f.covS b o' q' ?_
  rw [hs]
  intro z
  have z' : b ∈ X.env.locals :: frs X.outer := by
    have : frs (X.env :: X.outer) = X.env.locals :: frs X.outer := by
      unfold frs
      rw [List.filterMap_cons, hf]
    rw [this] at z
    exact z
  rcases List.mem_cons.mp z' with z | z
  · subst z
    exact absurd (Nat.lt_of_lt_of_le (Heap.lt_size q) I.ok.above) (Nat.lt_irrefl _)
  · exact nf z
end
def RaiseTo (X : Cx) (E : XK) : Prop := ∀ (pins : List (Addr × Obj)) (σ : St) (H : Hp) (s : Shared) (h' : Heap) (e C : Addr) (vs : List Value), Inv X pins σ H s → Heap.MadeExcOf s.heap h' e (.ref C) vs → E (.ref C) none H → X.xe (.ref e) { s with heap := h' }
section
variable {P : Program} {w : World} {K : PySem.W.Frag} {mg : Str → Option Value} {base : Heap} {N : List Str} {qual : Str} {scope : Scope} {f : Addr} {cd : Value} {A : Around} {outer : List Env} {s : Shared} {H : Hp} {E : XK}
theorem passes_def : Passes (CXe P w) (cxOf (CXe P w) P w K mg base N qual scope f cd A outer s H E) E := by
  intro pins σ H1 s1 e s' I ⟨ea, C, H', B, a0, he, fl, hE⟩
  subst he
  exact wpAny_leaves_onW I.ok.frames rfl fl.fl fun h' f' up => ⟨ea, C, H', B, a0, rfl, fl.leave I rfl rfl rfl f' up, hE⟩
theorem raise_def : RaiseTo (cxOf (CXe P w) P w K mg base N qual scope f cd A outer s H E) E := by
  intro pins σ H1 s1 h' e C vs I hx hE
  obtain ⟨B, hst, cov, hfr⟩ : ∃ B : Heap, (∀ b o, B.get? b = some o → s1.heap.get? b = some o) ∧ (∀ b o, s1.heap.get? b = some o → b ∉ frs (cxOf (CXe P w) P w K mg base N qual scope f cd A outer s H E).stack → ∃ o, B.get? b = some o) ∧
      s1.heap.FunFrames B (cxOf (CXe P w) P w K mg base N qual scope f cd A outer s H E).stack :=
    ⟨_, fun b o q => PySem.W.of_hideAll (frs (cxOf (CXe P w) P w K mg base N qual scope f cd A outer s H E).stack) q, fun b o q nf => ⟨o, PySem.W.hideAll_get _ q nf⟩, PySem.W.funFrames_hide I.stack fun env he a ha => List.mem_filterMap.mpr ⟨env, he, ha⟩⟩
  have covH : ∀ b, H1 b ≠ none → ∃ o, B.get? b = some o := fun b hb => by
    cases q : H1 b with
    | none => exact absurd q hb
    | some o =>
      obtain ⟨ob, e1⟩ := (I.hok b o q).ex
      exact cov b ob e1 fun z => by rw [I.stkFree b z] at q; cases q
  refine wpAny_leaves_madeW (base := B) I.ok.frames rfl hst hfr hx fun h2 t fl tup nt up => ⟨e, C, H1, B, .ref t, rfl, ?_, hE⟩
  have up2 : s1.heap.UpToSlots h2 := (Heap.UpToSlots.of_keeps hx.keeps).trans up
  obtain ⟨u2, ok2⟩ := un_up (outer := (cxOf (CXe P w) P w K mg base N qual scope f cd A outer s H E).stack) (h := s1.heap) (Un.refl (H := H1) (h := s1.heap)) I.hok covH cov (fun b hb => (hfr.mem hb).2) hst fl.1 up2
  have J : Inv (cxOf (CXe P w) P w K mg base N qual scope f cd A outer s H E) pins σ H1 { s1 with heap := h2 } := I.call' (ch := []) rfl u2 ok2 I.bare (fun _ z => nomatch z)
  refine ⟨J.os, J.bare, J.base, ok2, fl, covH, fun b o q nf => ?_⟩
  obtain ⟨o', q'⟩ := I.base.there b o q (fun z => nomatch z)
  refine cov b o' q' fun z => ?_
  rcases List.mem_cons.mp (I.stkSub b z) with z | z
  · subst z
    exact absurd (Nat.lt_of_lt_of_le (Heap.lt_size q) I.ok.above) (Nat.lt_irrefl _)
  · exact nf z
end
end L2
end
section
set_option autoImplicit false
namespace L2
open PySem PySem.Spec PyProof.Rows
def ExAt (ea C : Addr) (h : Heap) : Prop := ∃ ob, h.get? ea = some ob ∧ ob.cls = .ref C
theorem ExAt.ty {ea C : Addr} {M : Model} {h : Heap} (x : ExAt ea C h) : PySem.W.Looks M h (typeOf (.ref ea)) (.ref C) := by
  obtain ⟨ob, q, z⟩ := x
  rw [← z]
  exact (PySem.W.Looks.ld q).andThen .now
structure XIn (K : PySem.W.Frag) (C : Addr) : Prop where
  ga : PySem.W.findIn K (.ref C) "__getattribute__" = some (some (.builtin "BaseException.__getattribute__"))
  hk : PySem.W.findIn K (.ref C) "__getattr__" = some none
  ca : PySem.W.findIn K (.ref C) "__class__" = some (some (.builtin "object.__class__"))
  gt : PySem.W.specialIn K (.builtin "object.__class__") "__get__" = some (some (.builtin "getset_descriptor.__get__"))
  tk : PySem.W.takesIn K (.builtin "object.__class__") = some true
  ob : PySem.W.mroIn K C (.type "object") = some true
  be : PySem.W.mroIn K C (.type "BaseException") = some true
  cl : (PySem.W.clsIn K C).isSome = true
section
open Builtin Builtin.ObjectAttr Builtin.Getset_descriptor PySem.W
variable {prog : Program} {w : World} {K : PySem.W.Frag} {ea C : Addr}
theorem exc_class_get {A : Around} {R : Result → Shared → Prop} {tp : Value} {s : Shared} (X : K.In s.heap) (c : XIn K C) (x : ExAt ea C s.heap) (h : R (.ok (.ret (.ref C))) s) :
    codeAny (model prog w) A (.call (.builtin "getset_descriptor.__get__") ⟨[.builtin "object.__class__", .ref ea, tp], []⟩) R s := by
  obtain ⟨h1, g1, d1, t1, o1⟩ := s
  have La := x.ty (M := model prog w)
  have Lb := looks_mroIn (M := model prog w) X c.ob
  refine codeAny_call_builtin KF.slot_gs.plain KF.entry_gs ?_
  refine KF.slot_gs.check _ _ _ _ _ _ _ _ KF.type_class (KF.args_gs _ _ _) ?_
  unfold Builtin.«getset_descriptor.__get__»
  unfold descrGet
  rw [dga_obj]
  refine wpAny_bind ?_
  refine wpAny_pure ?_
  unfold descrGetter descrCheckInstance
  unfold descrNameAndClass isInstance
  simp only [KF.owner_class]
  repeat lk
  refine ⟨Code.quiet_builtin _ (by decide +kernel), ?_⟩
  refine codeAny_builtin KF.entry_class ?_
  unfold Builtin.«object.__class__»
  unfold shownTypeOf
  repeat lk
  exact h
theorem exc_find {M : Model} {h : Heap} (X : K.In h) (c : XIn K C) : Looks M h (find (.ref ea) (.ref C) "__class__") (.bind (.builtin "getset_descriptor.__get__") (.builtin "object.__class__")) := by
  have l1 := looks_findIn (M := M) X c.ca
  have l2 : Looks M h (getOf (some (.builtin "object.__class__"))) _ := looks_specialIn (M := M) X c.gt
  have l3 := looks_takesIn (M := M) X c.tk
  have l4 : Looks M h (dataDescriptor? (some (.builtin "object.__class__")) (some (.builtin "getset_descriptor.__get__"))) (some (.builtin "getset_descriptor.__get__", .builtin "object.__class__")) := l3.andThen .now
  exact l1.andThen (l2.andThen (l4.andThen (Looks.tag .now)))
theorem exc_ga_entry {A : Around} {E : Value → Shared → Prop} {Q : Fin → Shared → Prop} {tk : Tok} {s : Shared} (X : K.In s.heap) (c : XIn K C) (x : ExAt ea C s.heap) (h : Q (.done (.ret (.ref C))) s) :
    wpAny (model prog w) A (Builtin.«object.__getattribute__» ⟨[.ref ea, .str "__class__" tk], []⟩) Q E s := by
  obtain ⟨h1, g1, d1, t1, o1⟩ := s
  have La := x.ty (M := model prog w)
  have Lb := exc_find (M := model prog w) (ea := ea) X c
  repeat (first | (with_reducible refine wpAny_call ?_) | lk)
  refine exc_class_get X c x ?_
  repeat lk
  exact h
theorem exc_ga_check {M : Model} {A : Around} {E : Value → Shared → Prop} {Q : Unit → Shared → Prop} {nv : Value} {s : Shared} (X : K.In s.heap) (c : XIn K C) (x : ExAt ea C s.heap) (h : Q () s) :
    wpAny M A (checkBuiltinCall "BaseException.__getattribute__" ⟨[.ref ea, nv], []⟩) Q E s := by
  obtain ⟨h1, g1, d1, t1, o1⟩ := s
  have La := x.ty (M := M)
  have Lb := looks_mroIn (M := M) X c.be
  have k1 : builtinKind "BaseException.__getattribute__" = some .slot := by decide +kernel
  have k2 : splitId "BaseException.__getattribute__" = some ("BaseException", "__getattribute__") := by decide +kernel
  have k3 := F.args_bexc_ga (.ref ea) nv
  simp only [checkBuiltinCall, k1, k2]
  refine wpAny_bind ?_
  unfold isInstance
  repeat (first | lk | wp_step)
  exact h
theorem exc_ga {A : Around} {E : Value → Shared → Prop} {Q : Option Value → Shared → Prop} {s : Shared} (X : K.In s.heap) (c : XIn K C) (x : ExAt ea C s.heap) (h : Q (some (.ref C)) { s with toks := s.toks + 1 }) :
    wpAny (model prog w) A (getAttr? (.ref ea) "__class__") Q E s := by
  obtain ⟨h1, g1, d1, t1, o1⟩ := s
  have La := x.ty (M := model prog w)
  have Lb := looks_findIn (M := model prog w) X c.ga
  have Lc := looks_findIn (M := model prog w) X c.hk
  have n1 : (onTheHeap (Value.ref C) && Value.builtin "BaseException.__getattribute__" == Value.builtin "object.__getattribute__") = false := by
    have : (Value.builtin "BaseException.__getattribute__" == Value.builtin "object.__getattribute__") = false := by decide +kernel
    rw [this]
    rfl
  have n3 := F.attr_ValueError.ga.bind (.ref ea)
  unfold getAttr? getAttrBy?
  refine wpAny_bind (wpAny_mkText (wpAny_bind (wpAny_attempt ?_)))
  unfold getAttrBy
  refine wpAny_holding ?_
  refine wpAny_bind (La.at ?_)
  refine wpAny_bind (Lb.at ?_)
  dsimp only
  rw [n1]
  rw [if_neg Bool.false_ne_true]
  unfold getAttrByItsOwn hookBefore
  rw [if_pos (show onTheHeap (Value.ref C) = true from rfl)]
  refine wpAny_bind (Lc.at ?_)
  unfold callGetattribute
  rw [if_neg (by decide)]
  unfold boundAndCalled
  rw [n3]
  refine wpAny_bind (wpAny_attempt (wpAny_holding (wpAny_bind (wpAny_pure ?_))))
  refine wpAny_call ?_
  refine codeAny_call_builtin F.attr_ValueError.ga.plain F.entry_bexc_ga (exc_ga_check X c x (exc_ga_entry X c x ?_))
  repeat lk
  exact h
theorem kitx_exc (c : XIn K C) : KitX K (.ref ea) (.ref C) (ExAt ea C) where
  ty := fun _ _ _ p => p.ty
  it := fun M h X p => by
    have cl := c.cl
    unfold clsIn at cl
    split at cl
    · rename_i a1 a2 a3 a4 ho
      intro A1 Q1 E1 s1 k q
      unfold isType loadHead
      refine wpAny_bind ?_
      exact wpAny_loadPart (k _ _ (X _ _ ho)) (wpAny_pure q)
    · cases cl
  ne := fun h tp dd its n sl X htp => by
    have cl := c.cl
    refine Bool.eq_false_iff.mpr fun q => ?_
    cases (Value.ref.inj (beq_iff_eq.mp q) : C = tp)
    unfold clsIn at cl
    split at cl
    · rename_i a1 a2 a3 a4 ho
      cases (X _ _ ho).symm.trans htp
    · cases cl
  ca := fun X p k => exc_ga X c p k
end
end L2
end
section
set_option autoImplicit false
namespace L2
open PySem PySem.Spec PyProof.Rows
def ExcO (ea C : Addr) : HO := .ext (ExAt ea C)
section
variable {X : Cx}
theorem exAt_of {pins : List (Addr × Obj)} {σ : St} {H : Hp} {s : Shared} {ea C : Addr} (I : Inv X pins σ H s) (h : H ea = some (ExcO ea C)) : ExAt ea C s.heap := (show ObjOk X.prog X.w H s.heap ea (.ext (ExAt ea C)) from I.hok ea _ h).1
theorem call_isX : CallR X (.builtin "isinstance") (fun xs H Q => ∃ ea C C1 b, xs = [.ref ea, .ref C1] ∧ H ea = some (ExcO ea C) ∧ XIn X.K C ∧ PySem.W.kitOne X.K (.ref C) (.ref C1) = some b ∧ Q (.bl b) H) := by
  intro pins s σ H Q xs us I r h
  obtain ⟨ea, C, C1, b, rfl, he, c, e, q⟩ := h
  obtain ⟨u, v, rfl, ru, rv⟩ := vals2 r
  cases (show u = Value.ref ea from ru)
  cases (show v = Value.ref C1 from rv)
  exact PySem.W.kia_one (kitx_exc c) I.kIn (exAt_of I he) e (fun z => nomatch z) fun tk => ⟨.bl b, H, I.tok _, rfl, q⟩
theorem call_isXty : CallR X (.builtin "isinstance") (fun xs H Q => ∃ ea C n b, xs = [.ref ea, .ty n] ∧ H ea = some (ExcO ea C) ∧ XIn X.K C ∧ PySem.W.kitOne X.K (.ref C) (.type n) = some b ∧ Q (.bl b) H) := by
  intro pins s σ H Q xs us I r h
  obtain ⟨ea, C, n, b, rfl, he, c, e, q⟩ := h
  obtain ⟨u, v, rfl, ru, rv⟩ := vals2 r
  cases (show u = Value.ref ea from ru)
  cases (show v = Value.type n from rv)
  exact PySem.W.kia_one (kitx_exc c) I.kIn (exAt_of I he) e (fun z => nomatch z) fun tk => ⟨.bl b, H, I.tok _, rfl, q⟩
end
theorem exc_obj {K : PySem.W.Frag} {h : Heap} {C : Addr} {bmB : List Value} {newId : String} (X : K.In h) (q : PySem.W.excIn K C bmB newId = true) :
    ∃ m1 N1 a1 a2 a3 a4 a5 a6 a7 a8 a9 b0 b1 b2 b3 b5 mN, h.get? C = some (excClassObj a1 a2 C N1 a3 m1 a4 a5 a6 a7 a8 a9 b0 b1 b2 b3 b5 newId) ∧ h.Ns N1 mN ∧ mN "__init__" = none ∧ OwnTail h bmB m1 := by
  unfold PySem.W.excIn at q
  split at q
  · rename_i dd cd sl ho
    split at q
    · rename_i C1 m1 b0 b1 b2 b3 nn b5 hm hs
      rw [Bool.and_eq_true, Bool.and_eq_true, Bool.and_eq_true, Bool.and_eq_true, Bool.and_eq_true] at q
      obtain ⟨⟨⟨⟨⟨q1, q2⟩, q3⟩, q4⟩, q5⟩, q6⟩ := q
      cases beq_iff_eq.mp q1
      cases beq_iff_eq.mp q2
      obtain ⟨c1, c2, c3, c4, c5, c6, c7, c8, c9, c10, c11⟩ := cd
      dsimp only at hm q3 q5 q6
      subst hm
      have z3 : c11 = false := by cases c11; rfl; cases q3
      subst z3
      obtain ⟨l⟩ := sl
      have z : l = [b0, b1, b2, b3, some (.builtin newId), b5] := hs
      subst z
      have q6' := beq_iff_eq.mp q6
      exact ⟨m1, c4, c1, c5, c2, c6, c7, c8, c9, c10, dd, b0, b1, b2, b3, b5, _, X _ _ ho, .of_isNs (PySem.W.isNs_of_in X q5), PySem.W.nsMap_none_of_in X q5 q6', PySem.W.tail_of_in X q4⟩
    · cases q
  · cases q
structure XCls (K : PySem.W.Frag) (mg : Str → Option Value) (x : Str) (C : Addr) : Prop where
  m : mg x = some (.ref C)
  ex : PySem.W.excIn K C [.type "ValueError", .type "Exception", .type "BaseException", .type "object"] "ValueError.__new__" = true
  i : XIn K C
def tRaise (E : XK) (C : Addr) (t : TA) : TS := fun _ σ H => t σ H fun vs H1 => vs.length ≤ sizeLine ∧ E (.ref C) none H1
theorem ps_raise {X : Cx} {E : XK} {x : Str} {C : Addr} {e : Expr} {es : List Expr} {t : TA} {np cpos pos : Pos} (hE : RaiseTo X E) (hc : X.calm = true) (c : XCls X.K X.mg x C) (hg : Gl X x) (ha : PA X (e :: es) t)
    (hdb : (x == ("__debug__" : Str)) = false := by decide) (he : starEach (e :: es) X.env = (false, eval e X.env) :: starEach es X.env := by rfl) (hpl : (backTo cpos (starEach es X.env)).any (·.1) = false := by rfl) :
    PS X (.Raise (some (.Call (.Name x np) (e :: es) [] cpos)) none pos) (tRaise E C t) := by
  intro pins s σ H D I h
  obtain ⟨m1, N1, a1, a2, a3, a4, a5, a6, a7, a8, a9, b0, b1, b2, b3, b5, mN, hC, hN, hni, T⟩ := exc_obj I.ok.mod.kin c.ex
  refine wpAny_Raise_call_subT (C := C) (nm := a1) (q := a2) (N := N1) (bs := a3) (bm := m1) (hdct := a4) (sn := a5) (sub := a6) (ab := a7) (col := a8) (dd := a9) (k0 := b0) (k1 := b1) (k2 := b2) (k3 := b3) (k5 := b5) F.excBase_ValueError (mN := mN)
    (T.hasType F.excBase_ValueError.hasBase) (I.ok.hd hc) (by rw [he]; show (false || (backTo cpos (starEach es X.env)).any (·.1)) = false; rw [hpl]; rfl) hni (ld_glob I hg c.m ⟨rfl, ?_⟩ hdb)
  have hw := ha cpos pins s σ H _ I h
  rw [he] at hw ⊢
  refine Calls.evalArgs_plain (wpAny_mono hw (fun us s1 ⟨vs, H1, I1, r, hl, q⟩ => ?_) fun _ _ y => y)
  refine ⟨rfl, ?_, I1.bk _ _ hC, hN.keeps I1.bk, T.keeps I1.bk, fun h' ea hm => hE pins σ H1 s1 h' ea C us I1 hm q⟩
  show us.length ≤ sizeLine
  rw [← r.length]
  exact hl
end L2
end
section
set_option autoImplicit false
namespace L2
open PySem PySem.Spec PyProof.Rows
structure Fnd (K : PySem.W.Frag) (mg : Str → Option Value) (x : Str) (st : Stmt) (ps : List Str) (f : Addr) (fd : FuncData) : Prop where
  fn : Fun K x x st f fd
  b : Binds K fd ps []
  m : mg x = some (.ref f)
theorem pe_callF {X : Cx} {x : Str} {st : Stmt} {ps : List Str} {f : Addr} {fd : FuncData} {k : Nat} {sp : Sp} {e : Expr} {es : List Expr} {t : TA} {p pos : Pos} (D : Fnd X.K X.mg x st ps f fd) (G : FnOk X.prog X.w X.K X.mg X.base CX0 k f fd ps sp) (hr : Room k X.A) (hg : Gl X x) (ha : PA X (e :: es) t)
    (hdb : (x == ("__debug__" : Str)) = false := by decide) (he : starEach (e :: es) X.env = (false, eval e X.env) :: starEach es X.env := by rfl) (hpl : (backTo pos (starEach es X.env)).any (·.1) = false := by rfl) : PE X (.Call (.Name x p) (e :: es) [] pos) (tCall sp [] E0 t) :=
  pe_call G hr hg D.m D.fn.kp D.b .nil pass0 ha hdb he hpl
theorem bt_len : bootBuiltins "len" = some (.builtin "len") := by decide +kernel
theorem bt_isinstance : bootBuiltins "isinstance" = some (.builtin "isinstance") := by decide +kernel
theorem bt_str : bootBuiltins "str" = some (.type "str") := by decide +kernel
theorem bt_tuple : bootBuiltins "tuple" = some (.type "tuple") := by decide +kernel
theorem bt_list : bootBuiltins "list" = some (.type "list") := by decide +kernel
theorem bt_abs : bootBuiltins "abs" = some (.builtin "abs") := by decide +kernel
theorem bt_all : bootBuiltins "all" = some (.builtin "all") := by decide +kernel
theorem bt_any : bootBuiltins "any" = some (.builtin "any") := by decide +kernel
theorem bt_max : bootBuiltins "max" = some (.builtin "max") := by decide +kernel
theorem bt_min : bootBuiltins "min" = some (.builtin "min") := by decide +kernel
def tJoin (t u : TS) : TS := fun D σ H => ∃ M : St → Hp → Prop, t { D with nx := M } σ H ∧ ∀ σ' H', M σ' H' → u D σ' H'
theorem pss_join {X : Cx} {st : Stmt} {rest : List Stmt} {t u : TS} (h1 : PS X st t) (h2 : PSs X rest u) : PSs X (st :: rest) (tJoin t u) := by
  intro pins s σ H D I h
  obtain ⟨M, h, hM⟩ := h
  refine wpAny_execs_cons (thn (h1 pins s σ H _ I h) fun f s1 q => ?_)
  cases f with
  | next =>
    obtain ⟨σ1, H1, I1, m1⟩ := q
    exact h2 pins s1 σ1 H1 D I1 (hM σ1 H1 m1)
  | brk => exact q
  | cont => exact q
  | ret u => exact q
def Off (p : Addr) (H H' : Hp) : Prop := ∀ b o, b ≠ p → H b = some o → H' b = some o
theorem Off.refl (p : Addr) (H : Hp) : Off p H H := fun _ _ _ e => e
theorem Off.trans {p : Addr} {H H1 H2 : Hp} (a : Off p H H1) (b : Off p H1 H2) : Off p H H2 := fun c o n e => b c o n (a c o n e)
theorem Off.upd {p : Addr} {H : Hp} {o : HO} : Off p H (upd H p o) := fun c u n e => by rw [upd_ne n]; exact e
theorem Off.new {p q : Addr} {H : Hp} {o : HO} (h : H q = none) : Off p H (L2.upd H q o) := fun c u _ e => by rw [upd_ne (ne_of_none e h)]; exact e
theorem Same.off {p : Addr} {H H' : Hp} (h : Same H H') : Off p H H' := fun c u _ e => h c u e
theorem Same.new {q : Addr} {H : Hp} {o : HO} (h : H q = none) : Same H (upd H q o) := fun c u e => by rw [upd_ne (ne_of_none e h)]; exact e
theorem atI_in {α : Type} {xs : List α} {i : Int} (h0 : 0 ≤ i) (h1 : i < xs.length) : ∃ v, atI xs i = some v ∧ v ∈ xs ∧ xs[i.toNat]? = some v := by
  have h : i.toNat < xs.length := by omega
  refine ⟨xs[i.toNat], ?_, List.getElem_mem h, List.getElem?_eq_getElem h⟩
  have := atI_nat (xs := xs) (j := i.toNat) (v := xs[i.toNat]) (List.getElem?_eq_getElem h)
  rw [Int.toNat_of_nonneg h0] at this
  exact this
theorem atI_strs {ns : List Str} {i : Int} (h0 : 0 ≤ i) (h1 : i < ns.length) : ∃ x, atI (ns.map V.str) i = some (.str x) ∧ x ∈ ns ∧ ns[i.toNat]? = some x := by
  obtain ⟨v, e, m, g⟩ := atI_in (xs := ns.map V.str) h0 (by rw [List.length_map]; exact h1)
  rw [List.getElem?_map] at g
  cases q : ns[i.toNat]? with
  | none => rw [q] at g; cases g
  | some x =>
    rw [q] at g
    cases g
    exact ⟨x, e, List.mem_of_getElem? q, rfl⟩
theorem strs_ne {as : List Str} {a b c : Int} : ¬ HO.lst [.int a, .int b, .int c] = HO.lst (as.map V.str) := by
  intro h
  cases as with
  | nil => cases h
  | cons x r =>
    injection h with h
    injection h with h
    cases h
theorem inV_strs {x : Str} {ns : List Str} : inV (.str x) (ns.map V.str) = decide (x ∈ ns) := by
  unfold inV
  rw [List.any_map]
  apply Bool.eq_iff_iff.mpr
  rw [List.any_eq_true, decide_eq_true_iff]
  constructor
  · rintro ⟨y, hy, e⟩
    have : (y == x) = true := e
    rw [beq_iff_eq] at this
    rw [← this]
    exact hy
  · intro h
    exact ⟨x, h, by show (x == x) = true; simp⟩
theorem flat_strs (ns : List Str) : (ns.map V.str).all flatV = true := by
  rw [List.all_map, List.all_eq_true]
  exact fun _ _ => rfl
theorem op_in_K {X : Cx} {K : PySem.W.Frag} (h : X.K = K) : OpR X (compareOp .In) (rIn K false) := by subst h; exact op_in_seq
theorem op_notIn_K {X : Cx} {K : PySem.W.Frag} (h : X.K = K) : OpR X (compareOp .NotIn) (rIn K true) := by subst h; exact op_notIn_seq
theorem ix_list_K {X : Cx} {K : PySem.W.Frag} (h : X.K = K) : IxR X (rIxL K) := by subst h; exact ix_list
theorem ix_tup_K {X : Cx} {K : PySem.W.Frag} (h : X.K = K) : IxR X (rIxT K) := by subst h; exact ix_tup
theorem pg_tup_K {X : Cx} {K : PySem.W.Frag} {es : List Expr} {k : Nat} {t : TGs} {n : Nat} {pos : Pos} (hk : X.K = K) (hc : X.calm = true) (h : PGs X es t) (hn : (assignEach es X.env).length = n := by rfl) (hst : (assignEach es X.env).findIdx? (·.1) = none := by rfl) :
    PG X (.Tuple es k pos) (gTup K n t) := by subst hk; exact pg_tup hc h hn hst
def okF (scope : Scope) (N0 N own : List Str) (fr : List Nat) (j : Nat) : Bool := match fr[j]? with
  | none => false
  | some i => match N[own.length + j]?, N0[i]? with
    | some x, some y => (x == y) && (scope.names.lookup x == some .free)
    | _, _ => false
def CSc (scX : Scope) (N0 : List Str) (scope : Scope) (own : List Str) (fr : List Nat) (N : List Str) : Prop :=
  scope.kind = .function ∧ (scope.names.map (·.1)).Nodup ∧ (∀ y ∈ scope.names, y.2 = .local → scope.names.lookup y.1 = some .local) ∧ (∀ y ∈ scope.names, y.2 = .free → scX.names.lookup y.1 = some .cell ∨ scX.names.lookup y.1 = some .free) ∧
    N.length = own.length + fr.length ∧ (∀ j ∈ List.range fr.length, okF scope N0 N own fr j = true) ∧ N.take own.length = own
instance (scX : Scope) (N0 : List Str) (scope : Scope) (own : List Str) (fr : List Nat) (N : List Str) : Decidable (CSc scX N0 scope own fr N) := by
  unfold CSc
  infer_instance
theorem CompScope.of {X : Cx} {scope : Scope} (own : List Str) (fr : List Nat) (N : List Str) (scX : Scope) (N0 : List Str) (hsc : X.env.scope = scX) (hN : X.N = N0) (h : CSc scX N0 scope own fr N) : CompScope X scope own fr N where
  kind := h.1
  nodup := h.2.1
  names := h.2.2.1
  free := fun y hy e => by
    show X.env.scope.names.lookup y.1 = _ ∨ X.env.scope.names.lookup y.1 = _
    rw [hsc]
    exact h.2.2.2.1 y hy e
  len := h.2.2.2.2.1
  isfr := fun j i e => by
    have hj : j < fr.length := (List.getElem?_eq_some_iff.mp e).1
    have q := h.2.2.2.2.2.1 j (List.mem_range.mpr hj)
    unfold okF at q
    rw [e] at q
    simp only at q
    cases e1 : N[own.length + j]? with
    | none => rw [e1] at q; simp at q
    | some x =>
      cases e2 : N0[i]? with
      | none => rw [e1, e2] at q; simp at q
      | some y =>
        rw [e1, e2] at q
        simp only [Bool.and_eq_true, beq_iff_eq] at q
        exact ⟨x, rfl, by rw [hN, e2, q.1], q.2⟩
  frs := fun j x e hj => by
    rw [← h.2.2.2.2.2.2, List.getElem?_take_of_lt hj]
    exact e
theorem lookup_relabel_cell {env : Env} {scope : Scope} {x : Str} (h : scope.names.lookup x = some .cell) : (relabel scope env).names.lookup x = some .cell := by
  unfold relabel
  show List.lookup x (List.map _ _) = _
  rw [relabel_lookup (scope := scope), h]
  rfl
theorem CompScope.of2 {X : Cx} {scope sc0 : Scope} {e0 : Env} (own : List Str) (fr : List Nat) (N : List Str) (N0 : List Str) (hsc : X.env.scope = relabel sc0 e0) (hN : X.N = N0) (h : CSc sc0 N0 scope own fr N) : CompScope X scope own fr N where
  kind := h.1
  nodup := h.2.1
  names := h.2.2.1
  free := fun y hy e => by
    show X.env.scope.names.lookup y.1 = _ ∨ X.env.scope.names.lookup y.1 = _
    rw [hsc]
    rcases h.2.2.2.1 y hy e with z | z
    · exact .inl (lookup_relabel_cell z)
    · unfold relabel
      show List.lookup y.1 (List.map _ _) = _ ∨ List.lookup y.1 (List.map _ _) = _
      rw [relabel_lookup (scope := sc0), z]
      simp only [Option.map_some]
      split
      · exact .inl rfl
      · exact .inr rfl
  len := h.2.2.2.2.1
  isfr := fun j i e => by
    have hj : j < fr.length := (List.getElem?_eq_some_iff.mp e).1
    have q := h.2.2.2.2.2.1 j (List.mem_range.mpr hj)
    unfold okF at q
    rw [e] at q
    simp only at q
    cases e1 : N[own.length + j]? with
    | none => rw [e1] at q; simp at q
    | some x =>
      cases e2 : N0[i]? with
      | none => rw [e1, e2] at q; simp at q
      | some y =>
        rw [e1, e2] at q
        simp only [Bool.and_eq_true, beq_iff_eq] at q
        exact ⟨x, rfl, by rw [hN, e2, q.1], q.2⟩
  frs := fun j x e hj => by
    rw [← h.2.2.2.2.2.2, List.getElem?_take_of_lt hj]
    exact e
end L2
end
section
set_option autoImplicit false
namespace L2
open PySem PySem.Spec PyProof.Rows
section
variable {X : Cx} {pins : List (Addr × Obj)} {σ : St} {H : Hp} {s : Shared}
abbrev Cx.suite (X : Cx) (ea : Addr) : Cx := { X with A := X.A.mark (some (.ref ea)), calm := false, xe := fun _ _ => False }
theorem Inv.suite (I : Inv X pins σ H s) (ea : Addr) : Inv (X.suite ea) pins σ H s :=
  ⟨⟨I.ok.mod, I.ok.kind, I.ok.glob, I.ok.blt, I.ok.above, I.ok.inj, I.ok.has, I.ok.cab, (fun z => nomatch z), I.ok.frames, I.ok.stk, I.ok.exf, I.ok.bs, I.ok.bsz, I.ok.noex, I.ok.exfs, I.ok.funs, I.ok.frf⟩, I.os, I.bare, I.base, I.loc, I.cell, I.free, I.freeC, I.pin, I.hok, I.len⟩
theorem Inv.unsuite {s' : Shared} {σ' : St} {H' : Hp} {ea : Addr} (O : X.Ok) (I : Inv (X.suite ea) pins σ' H' s') : Inv X pins σ' H' s' := ⟨O, I.os, I.bare, I.base, I.loc, I.cell, I.free, I.freeC, I.pin, I.hok, I.len⟩
theorem name_goes {M : Model} {A : Around} {E : Value → Shared → Prop} {i : Nat} {x : Str} {pos : Pos} {Q : Unit → Shared → Prop} (I : Inv X pins σ H s) (hN : X.N.Nodup) (hi : X.N[i]? = some x) (hk : X.env.scope.names.lookup x = some .local)
    (h : ∀ s', Inv X pins (σ.set i none) H s' → Q () s') : wpAny M A (do bindName X.env x .none; unbindBehindTheSuite X.env x pos) Q E s := by
  obtain ⟨m, hn, hl⟩ := id I.loc
  have hcls : (X.env.scope.kind == .class || (X.env.scope.kind == .module && X.env.locals != X.env.globals)) = false := by rw [I.ok.kind]; rfl
  have hiσ : i < σ.length := by rw [I.len]; exact (List.getElem?_eq_some_iff.mp hi).1
  have cne := I.cne
  refine wpAny_nameGoes_keeps hk hn hcls fun h' v hn' hs => ?_
  obtain ⟨oL, _, _, hoL, _⟩ := id hn
  refine h _ ⟨I.ok, I.os, I.bare, ⟨fun b o e n hb hx => ?_, fun b o e n hb hx => ?_, I.base.free, fun b o e hx => ?_, I.base.tups, I.base.frzs, I.base.tbls⟩, ⟨_, hn', fun j y v' e1 e2 e3 => ?_⟩, fun y c e => ?_, I.free, I.freeC, fun p hp => ?_, fun b ob e => ?_, by simpa using I.len⟩
  · exact (hs.2 b (Nat.ne_of_lt (Nat.lt_of_lt_of_le (Heap.lt_size e) I.ok.above))).trans (I.base.keep b o e n hb hx)
  · obtain ⟨sl, e1⟩ := I.base.slot b o e n hb hx
    exact ⟨sl, (hs.2 b (Nat.ne_of_lt (Nat.lt_of_lt_of_le (Heap.lt_size e) I.ok.above))).trans e1⟩
  · obtain ⟨o', e1⟩ := I.base.there b o e hx
    exact ⟨o', (hs.2 b (Nat.ne_of_lt (Nat.lt_of_lt_of_le (Heap.lt_size e) I.ok.above))).trans e1⟩
  · by_cases hj : j = i
    · subst hj
      rw [List.getElem?_set_self hiσ] at e2
      cases e2
    · rw [List.getElem?_set_ne (Ne.symm hj)] at e2
      obtain ⟨u', r', q⟩ := hl j y v' e1 e2 e3
      refine ⟨u', r', ?_⟩
      rcases q with ⟨k, e⟩ | ⟨k, c, e, z⟩
      · refine .inl ⟨k, ?_⟩
        have : y ≠ x := fun e => hj (nodup_ix hN e1 (e ▸ hi))
        simp [this, e]
      · exact .inr ⟨k, c, e, z.sameBut hs (cne y c e)⟩
  · obtain ⟨w', z⟩ := I.cell y c e
    exact ⟨w', z.sameBut hs (cne y c e)⟩
  · obtain ⟨e, n, ne, nf, d⟩ := I.pin p hp
    exact ⟨(hs.2 p.1 ne).trans e, n, ne, nf, d⟩
  · refine (I.hok b ob e).stay (fun c w' hc q => (hs.2 c ?_).trans q) (fun _ q => q) fun _ _ q => q
    rintro rfl
    rcases hc with rfl | hc
    · rw [I.free] at e; cases e
    · rw [I.free] at hc; cases hc
theorem Flies.caught {s' : Shared} {H' : Hp} {ea C : Addr} {B : Heap} {a0 : Value} (I : Inv X pins σ H s) (f : Flies X.prog X.w X.stack H s ea (.ref C) H' B a0 s') : H' ea = none ∧ Inv X pins σ (upd H' ea (ExcO ea C)) s' := by
  obtain ⟨b1, b2, b3, oe, vs, T, oT, ts, he, ⟨hc, h0⟩, hd, _⟩ := id f.fl
  have nS : s.heap.get? ea = none := by
    cases q : s.heap.get? ea with
    | none => rfl
    | some o =>
      by_cases hf : ea ∈ frs X.stack
      · obtain ⟨o', e', hd'⟩ := f.frames ea hf
        rw [he] at e'
        cases e'
        exact absurd hd (hd' vs)
      · obtain ⟨o', e'⟩ := f.covS ea o q hf
        rw [b2] at e'
        cases e'
  have nH : H' ea = none := by
    cases q : H' ea with
    | none => rfl
    | some o =>
      obtain ⟨o', e'⟩ := f.covH ea (by rw [q]; simp)
      rw [b2] at e'
      cases e'
  refine ⟨nH, ?_⟩
  have ne : ∀ b u, H' b = some u → b ≠ ea := fun b u e z => by rw [z, nH] at e; cases e
  refine I.call' (ch := []) f.os ⟨f.un.keep, f.un.slot, fun b o q n nx => ?_, f.un.there, fun b xs q => ?_, fun b o u q => ?_, fun b ps q => ?_⟩ (fun b o q => ?_) f.bare (fun _ z => nomatch z)
  · rw [upd_ne (fun z => by rw [z, nS] at q; cases q)]
    exact f.un.free b o q n nx
  · have e := f.un.tups b xs q
    rw [upd_ne (ne _ _ e)]
    exact e
  · have e := f.un.frzs b o u q
    rw [upd_ne (ne _ _ e)]
    exact e
  · obtain ⟨more, e⟩ := f.un.tbls b ps q
    exact ⟨more, by rw [upd_ne (ne _ _ e)]; exact e⟩
  · by_cases hb : b = ea
    · subst hb
      rw [upd_same] at q
      cases q
      exact ⟨⟨oe, he, hc⟩, ⟨oe, he⟩, fun h1 h2 ⟨ob, q, z⟩ k => ⟨ob, k _ q, z⟩⟩
    · rw [upd_ne hb] at q
      refine (f.hok b o q).stay (fun _ _ _ z => z) (fun c z => ?_) fun c xs z => ?_
      · rw [upd_ne (ne _ _ z)]
        exact z
      · rw [upd_ne (ne _ _ z)]
        exact z
end
def XP (X : Cx) (pins : List (Addr × Obj)) (σ : St) (E : XK) (e : Value) (s' : Shared) : Prop := ∃ ea C H s H' B a0, e = .ref ea ∧ Inv X pins σ H s ∧ Flies X.prog X.w X.stack H s ea (.ref C) H' B a0 s' ∧ E (.ref C) none H'
theorem px_call {X : Cx} {x : Str} {st : Stmt} {ps : List Str} {f : Addr} {fd : FuncData} {k : Nat} {sp : Sp} {e : Expr} {es : List Expr} {t : TA} {p pos : Pos} (D : Fnd X.K X.mg x st ps f fd) (G : FnOk X.prog X.w X.K X.mg X.base (CXe X.prog X.w) k f fd ps sp) (hr : Room k X.A) (hg : Gl X x) (ha : PA X.nox (e :: es) t)
    {pins : List (Addr × Obj)} {s : Shared} {σ : St} {H : Hp} {Q : VK} {E : XK} (I : Inv X pins σ H s) (h : tCall sp [] E t σ H Q)
    (hdb : (x == ("__debug__" : Str)) = false := by decide) (he : starEach (e :: es) X.env = (false, eval e X.env) :: starEach es X.env := by rfl) (hpl : (backTo pos (starEach es X.env)).any (·.1) = false := by rfl) :
    wpAny (model X.prog X.w) X.A (eval (.Call (.Name x p) (e :: es) [] pos) X.env) (EP X pins σ Q) (XP X pins σ E) s := by
  refine wpAny_Call_Name_kw (ld_glob I hg D.m ?_ hdb)
  refine PySem.W.callWith_K (h₀ := X.base) I.ok.mod.kin D.fn.kp (wpAny_mono (ha pos pins s σ H _ (I.wish _) h) (fun us s1 ⟨vs, H1, I1, r, q⟩ => ⟨I1.unwish.kIn, ?_⟩) fun _ _ z => False.elim z) he hpl
  have J := I1.unwish
  have q' : sp vs H1 Q E := by
    have q2 : sp (vs ++ []) H1 Q E := q
    rw [List.append_nil] at q2
    exact q2
  have hl : us.length = ps.length := by rw [← r.length]; exact G.len _ _ _ _ q'
  have hb := D.b s1 us J.kIn (by rw [List.append_nil]; exact hl)
  rw [List.append_nil] at hb
  refine wpAny_call (codeAny_mono (G.run X.A X.stack s1 H1 ⟨us, []⟩ us vs Q E hr J.env0 hb r q') fun rr s' hq => ?_)
  cases rr with
  | error e =>
    obtain ⟨ea, C, H', B, a0, he, fl, hE⟩ := hq
    exact ⟨ea, C, H1, s1, H', B, a0, he, J, fl, hE⟩
  | ok fl =>
    cases fl with
    | ret u => exact J.after hq
    | next => exact False.elim hq
    | brk => exact False.elim hq
    | cont => exact False.elim hq
def PH (X : Cx) (hs : List ExceptHandler) (t : Addr → TS) : Prop := ∀ (pins : List (Addr × Obj)) (s : Shared) (σ : St) (H : Hp) (s' : Shared) (ea C : Addr) (H' : Hp) (B : Heap) (a0 : Value) (D : Ends), Inv X pins σ H s → Flies X.prog X.w X.stack H s ea (.ref C) H' B a0 s' → t C D σ H' →
  wpAny (model X.prog X.w) X.A (handleBy (.ref ea) X.env hs) (SP X pins D) X.xe s'
def hNone : Addr → TS := fun _ _ _ _ => False
theorem ph_nil {X : Cx} : PH X [] hNone := fun _ _ _ _ _ _ _ _ _ _ _ _ _ h => h.elim
def goEnds (i : Nat) (D : Ends) : Ends := { nx := fun σ H => D.nx (σ.set i none) H, rt := D.rt, bk := fun σ H => D.bk (σ.set i none) H, ct := fun σ H => D.ct (σ.set i none) H }
def hCons (K : PySem.W.Frag) (C1 : Addr) (i : Nat) (ts : TS) (tr : Addr → TS) : Addr → TS := fun C D σ H => ∃ b, PySem.W.exmOne K (.ref C) (.ref C1) = some b ∧
  if b = true then ∀ ea, H ea = none → ts (goEnds i D) (σ.set i (some (.ref ea))) (upd H ea (ExcO ea C)) else tr C D σ H
theorem ph_cons {X : Cx} {x n : Str} {C1 : Addr} {np pos : Pos} {b0 : Stmt} {suite : List Stmt} {rest : List ExceptHandler} {i : Nat} {ts : TS} {tr : Addr → TS} (hg : Gl X x) (hm : X.mg x = some (.ref C1)) (hN : X.N.Nodup) (hi : X.N[i]? = some n) (hk : X.env.scope.names.lookup n = some .local)
    (hsuite : ∀ ea, PSs (X.suite ea) (b0 :: suite) ts) (hrest : PH X rest tr) (hdb : (x == ("__debug__" : Str)) = false := by decide) :
    PH X (.ExceptHandler (some (.Name x np)) (some n) (b0 :: suite) pos :: rest) (hCons X.K C1 i ts tr) := by
  intro pins s σ H s' ea C H' B a0 D I f h
  obtain ⟨b, he, h⟩ := h
  have J := f.inv I
  have LT : PySem.W.Looks (model X.prog X.w) s'.heap (typeOf (.ref ea)) (.ref C) := by
    obtain ⟨ob, q, z⟩ := f.fl.there
    exact ExAt.ty ⟨ob, q, z⟩
  refine wpAny_handleBy_cons (codeAny_handlers_test ?_) (by intro q; cases q)
  refine ld_glob (X := X.suite ea) (J.suite ea) hg hm ?_ hdb
  refine (PySem.W.exm_one J.kIn LT he).here ?_
  cases b with
  | false =>
    rw [if_neg Bool.false_ne_true] at h
    exact hrest pins s σ H s' ea C H' B a0 D I f h
  | true =>
    rw [if_pos rfl] at h
    show codeAny (model X.prog X.w) (X.A.mark (some (.ref ea))) (.handlers (.ref ea) [.ExceptHandler none (some n) (b0 :: suite) pos] X.env) _ s'
    refine codeAny_handlers_suite_as ?_
    refine lands_againW f.fl fun h6 fl6 up6 => ?_
    obtain ⟨nH, J6⟩ := (f.move fl6 up6).caught I
    refine store_ok (X := X.suite ea) (v := .ref ea) (J6.suite ea) hN hi (.inl hk) rfl (fun s7 J7 => ?_) (.inr hk)
    refine wpAny_mono (hsuite ea pins s7 _ _ (goEnds i D) J7 (h ea nH)) (fun fl s8 q => ?_) (fun _ _ z => False.elim z)
    cases fl with
    | next =>
      obtain ⟨σ', H2, I2, q⟩ := q
      exact name_goes (I2.unsuite I.ok) hN hi hk fun s9 I9 => ⟨_, _, I9, q⟩
    | brk =>
      obtain ⟨σ', H2, I2, q⟩ := q
      exact name_goes (I2.unsuite I.ok) hN hi hk fun s9 I9 => ⟨_, _, I9, q⟩
    | cont =>
      obtain ⟨σ', H2, I2, q⟩ := q
      exact name_goes (I2.unsuite I.ok) hN hi hk fun s9 I9 => ⟨_, _, I9, q⟩
    | ret u =>
      obtain ⟨v, σ', H2, I2, r, q⟩ := q
      exact name_goes (I2.unsuite I.ok) hN hi hk fun s9 I9 => ⟨v, _, _, I9, r, q⟩
theorem Fun.okX {P : Program} {w : World} {K : PySem.W.Frag} {mg : Str → Option Value} {base : Heap} {x qual : Str} {st : Stmt} {f : Addr} {fd : FuncData} {N ps : List Str} {k : Nat} {sp : Sp} (F : Fun K x qual st f fd) (S : FnScope N ps (defScope st)) (len : ∀ vs H Q E, sp vs H Q E → vs.length = ps.length)
    (hbody : ∀ (cdv : Value) (A : Around) (outer : List Env) (s : Shared) (H : Hp) (vs : List V) (Q : VK) (E : XK), Room k (A.deeper (envOfC qual (defScope st) s.heap.objs.size f cdv)) → sp vs H Q E →
      ∃ t, PSs (cxOf (CXe P w) P w K mg base N qual (defScope st) f cdv A outer s H E) (defBody st) t ∧ t { nx := fun _ H' => Q .non H', rt := Q } (start N vs) H) : FnOk P w K mg base (CXe P w) (k + 1) f fd ps sp := by
  obtain ⟨oc, od, kV, doc, pm, an, cdv, ct, osl, rfl, lk, hcd⟩ := F.ex
  exact fn_of lk hcd S len fun A outer s H vs Q E hr hsp => hbody cdv A outer s H vs Q E hr hsp
theorem pe_callX {X : Cx} {x : Str} {st : Stmt} {ps : List Str} {f : Addr} {fd : FuncData} {k : Nat} {sp : Sp} {E : XK} {e : Expr} {es : List Expr} {t : TA} {p pos : Pos} (D : Fnd X.K X.mg x st ps f fd) (G : FnOk X.prog X.w X.K X.mg X.base (CXe X.prog X.w) k f fd ps sp) (hr : Room k X.A) (hg : Gl X x) (hx : Passes (CXe X.prog X.w) X E) (ha : PA X (e :: es) t)
    (hdb : (x == ("__debug__" : Str)) = false := by decide) (he : starEach (e :: es) X.env = (false, eval e X.env) :: starEach es X.env := by rfl) (hpl : (backTo pos (starEach es X.env)).any (·.1) = false := by rfl) : PE X (.Call (.Name x p) (e :: es) [] pos) (tCall sp [] E t) :=
  pe_call G hr hg D.m D.fn.kp D.b .nil hx ha hdb he hpl
theorem passE0 {P : Program} {w : World} {X : Cx} : Passes (CXe P w) X E0 := fun _ _ _ _ _ _ _ ⟨_, _, _, _, _, _, _, h⟩ => h.elim
end L2
end
section
set_option autoImplicit false
namespace L2
open PySem PySem.Spec PyProof.Rows
theorem bt_ValueError : bootBuiltins "ValueError" = some (.type "ValueError") := by decide +kernel
theorem call_isX_K {X : Cx} {K : PySem.W.Frag} (hK : X.K = K) : CallR X (.builtin "isinstance") (fun xs H Q => ∃ ea C C1 b, xs = [.ref ea, .ref C1] ∧ H ea = some (ExcO ea C) ∧ XIn K C ∧ PySem.W.kitOne K (.ref C) (.ref C1) = some b ∧ Q (.bl b) H) := by subst hK; exact call_isX
theorem call_isXty_K {X : Cx} {K : PySem.W.Frag} (hK : X.K = K) : CallR X (.builtin "isinstance") (fun xs H Q => ∃ ea C n b, xs = [.ref ea, .ty n] ∧ H ea = some (ExcO ea C) ∧ XIn K C ∧ PySem.W.kitOne K (.ref C) (.type n) = some b ∧ Q (.bl b) H) := by subst hK; exact call_isXty
structure RoomS (k : Nat) (A : Around) : Prop where
  dp : A.depth + 3 * k + 5 < recursionLimit
  un : A.units + 16 * k + 200 < cLine
structure FnOkS (P : Program) (w : World) (K : PySem.W.Frag) (mg : Str → Option Value) (base : Heap) (k : Nat) (f : Addr) (fd : FuncData) (ps : List Str) (sp : Sp) : Prop where
  len : ∀ vs H Q E, sp vs H Q E → vs.length = ps.length
  run : ∀ (A : Around) (outer : List Env) (s : Shared) (H : Hp) (args : Args) (us : List Value) (vs : List V) (Q : VK), RoomS k A → Env0 P w K mg base A outer s H → BindsTo s fd args (ps.zip us) → Vals vs us → sp vs H Q E0 →
    codeAny (model P w) A (.call (.ref f) args) (CR CX0 outer P w H s Q E0) s
end L2
end
section
set_option autoImplicit false
namespace L2
open PySem PySem.Spec PyProof.Rows
def CDivL (_ j : Int) : Prop := 0 < j ∧ j < 1606938044258990275541962092341162602522202993782792835301376
theorem op_fdivL {X : Cx} : OpR X (binaryOp .FloorDiv) (rI CDivL fun i j => .int (i / j)) := opI fun i j _ _ _ _ _ hc q => by
  have h1 : (0 : Int) < j := hc.1
  have h2 : j < 1606938044258990275541962092341162602522202993782792835301376 := hc.2
  refine floordiv_int (by omega) (by rw [Int.fdiv_eq_ediv_of_nonneg i (by omega)]; exact q) (.inl (PyProof.noPylong_of_log2 ?_))
  have h3 : j.natAbs ≠ 0 := by omega
  have h4 : j.natAbs < 2 ^ 200 := by
    have e : (2 : Nat) ^ 200 = 1606938044258990275541962092341162602522202993782792835301376 := by decide +kernel
    rw [e]
    omega
  exact Nat.lt_trans ((Nat.log2_lt h3).mpr h4) (by decide)
theorem eqV_self : ∀ {x : V}, flatV x = true → eqV x x = true := by
  intro x h
  cases x with
  | byt b => cases h
  | flt b => cases h
  | ref a => cases h
  | ty n => cases h
  | non => rfl
  | bl b => simp [eqV]
  | int i => simp [eqV]
  | str z => simp [eqV]
def rCatT0 : R2 := fun x y H Q => ∃ (a b : Addr) (ys : List V), x = .ref a ∧ y = .ref b ∧ H a = some (.tup []) ∧ H b = some (.tup ys) ∧ Q (.ref b) H
theorem op_catT0 {X : Cx} : OpR X (binaryOp .Add) rCatT0 := by
  intro pins s σ H x y v u Q I rx ry h
  obtain ⟨a, b, ys, rfl, rfl, ha, hb, q⟩ := h
  cases rx
  cases ry
  obtain ⟨its, r, p⟩ := tup_at I ha
  obtain ⟨its2, r2, p2⟩ := tup_at I hb
  have e0 : its = [] := r.nil_iff.mpr rfl
  subst e0
  obtain ⟨⟨cls, dd, data, sl⟩, ho, hc, n, hd⟩ := id p
  obtain ⟨⟨cls2, dd2, data2, sl2⟩, ho2, hc2, n2, hd2⟩ := id p2
  simp only at hc hd hc2 hd2
  subst hc hd hc2 hd2
  exact concat_meets ⟨_, ho, rfl⟩ ⟨_, ho2, rfl⟩ noFill_tuple_add seq_tuple_add PySem.F.slot_tuple_add PySem.F.entry_tuple_add (PySem.F.args_tuple_add_2 _ _) (tuple_addW0 a b [].toArray its2.toArray n n2 dd dd2 sl sl2 rfl) ⟨ho, ho2, ⟨.ref b, H, I, rfl, q⟩⟩
theorem op_catTA {X : Cx} : OpR X (binaryOp .Add) (fun x y H Q => rCatT X.K x y H Q ∨ rCatT0 x y H Q) := op_catT.or op_catT0
end L2
end
section
set_option autoImplicit false
namespace L2
open PySem PySem.Spec PyProof.Rows
section
variable {X : Cx} {pins : List (Addr × Obj)} {σ : St} {H : Hp} {s : Shared} {d : Addr} {u u' : HO}
theorem Inv.swap (I : Inv X pins σ H s) (e : H d = some u) (h1 : ∀ xs, u ≠ .tup xs) (h2 : ∀ o v, X.H₀ d ≠ some (.frz o v)) (h3 : ∀ ps, u ≠ .tbl ps) (h4 : ∀ y, u ≠ .own y) (new : ObjOk X.prog X.w (upd H d u') s.heap d u') : Inv X pins σ (upd H d u') s := by
  have nd : ∀ b, H b = none → b ≠ d := fun b h z => by rw [z, e] at h; cases h
  refine ⟨I.ok, I.os, I.bare, ⟨I.base.keep, I.base.slot, fun b o q n nx => ?_, I.base.there, fun b xs q => ?_, fun b o v q => ?_, fun b ps q => ?_⟩, I.loc, I.cell, ?_, fun x c q => ?_, fun p hp => ?_, fun b o q => ?_, I.len⟩
  · have := I.base.free b o q n nx
    rw [upd_ne (nd b this)]
    exact this
  · have := I.base.tups b xs q
    rw [upd_ne (fun z => by rw [z, e] at this; exact h1 xs (Option.some.inj this))]
    exact this
  · have := I.base.frzs b o v q
    rw [upd_ne (fun z => by rw [z] at q; exact h2 o v q)]
    exact this
  · obtain ⟨more, this⟩ := I.base.tbls b ps q
    exact ⟨more, by rw [upd_ne (fun z => by rw [z, e] at this; exact h3 _ (Option.some.inj this))]; exact this⟩
  · rw [upd_ne (nd _ I.free)]
    exact I.free
  · rw [upd_ne (nd _ (I.freeC x c q))]
    exact I.freeC x c q
  · obtain ⟨q1, q2, q3, q4, q5⟩ := I.pin p hp
    exact ⟨q1, by rw [upd_ne (nd _ q2)]; exact q2, q3, q4, q5⟩
  · by_cases hb : b = d
    · subst hb
      rw [upd_same] at q
      cases q
      exact new
    · rw [upd_ne hb] at q
      refine (I.hok b o q).stay (fun _ _ _ z => z) (fun c z => ?_) fun c xs z => ?_
      · rw [upd_ne (fun w => by rw [w, e] at z; exact h4 _ (Option.some.inj z))]
        exact z
      · rw [upd_ne (fun w => by rw [w, e] at z; exact h1 _ (Option.some.inj z))]
        exact z
theorem notFrz {kvs : List (Key × V)} (I : Inv X pins σ H s) (e : H d = some (.dK kvs)) : ∀ o v, X.H₀ d ≠ some (.frz o v) := fun o v q => by
  have := I.base.frzs d o v q
  rw [e] at this
  cases this
theorem Inv.freeze {kvs : List (Key × V)} (I : Inv X pins σ H s) (e : H d = some (.dK kvs)) : ∃ o, s.heap.get? d = some o ∧ Inv X pins σ (upd H d (.frz o (.dK kvs))) s := by
  obtain ⟨o, ho⟩ := (I.hok d _ e).ex
  exact ⟨o, ho, I.swap e (fun _ z => nomatch z) (notFrz I e) (fun _ z => nomatch z) (fun _ z => nomatch z) ⟨ho, I.hok d _ e⟩⟩
theorem Inv.thaw {kvs : List (Key × V)} {o : Obj} (I : Inv X pins σ H s) (e : H d = some (.frz o (.dK kvs))) (h : ∀ o v, X.H₀ d ≠ some (.frz o v)) : Inv X pins σ (upd H d (.dK kvs)) s := by
  refine I.swap e (fun _ z => nomatch z) h (fun _ z => nomatch z) (fun _ z => nomatch z) ?_
  have q : ObjOk X.prog X.w H s.heap d (.frz o (.dK kvs)) := I.hok d _ e
  exact q.2
end
def Itd (o : Obj) (d : Addr) (kvs : List (Key × V)) : It :=
  ⟨fun i H => H d = some (.frz o (.dK kvs)) ∧ i < kvs.length, fun i H x H' => H' = H ∧ ∃ kv, kvs[i]? = some kv ∧ x = kV kv.1, fun i H => H d = some (.frz o (.dK kvs)) ∧ kvs.length ≤ i⟩
theorem relV_key {P : Program} {w : World} {k : Key} {v : Value} (h : (mixKind P w).is k v = true) : RelV (kV k) v := by
  rw [mixKind_is] at h
  rcases keyIs_shape h with ⟨i, t, rfl, rfl⟩ | ⟨x, t, rfl, rfl⟩
  · exact ⟨t, rfl⟩
  · exact ⟨t, rfl⟩
theorem paired_get {α β : Type} {F : α → β → Prop} : ∀ {l₁ : List α} {l₂ : List β}, Paired F l₁ l₂ → ∀ (i : Nat) (h1 : i < l₁.length) (h2 : i < l₂.length), F l₁[i] l₂[i]
  | _, _, .nil, i, h1, _ => by simp at h1
  | _, _, .cons r t, 0, _, _ => r
  | _, _, .cons r t, i + 1, h1, h2 => paired_get t i (by simpa using h1) (by simpa using h2)
theorem turn_dict {P : Program} {w : World} {K : PySem.W.Frag} {tg : Expr} {o : Obj} {es : Array DictEntry} {ep : Nat} (hd : o.data = .dict es ep) (d it : Addr) (kvs : List (Key × V)) : Turn P w K tg (Itd o d kvs) [it] it (fun i h => h.IsKeyIter it d i kvs.length ep) where
  mem := by simp
  obj := fun i h st b hb => by
    have e : b = it := by simpa using hb
    subst e
    obtain ⟨o, e, c, d⟩ := st
    exact ⟨o, e, fun v z => by rw [d] at z; cases z⟩
  keep := fun i h h' st k => st.at fun o e => k it (by simp) o e
  item := by
    intro X hP hw hK hc i pins s σ H E I hf st hg
    subst hP hw hK
    obtain ⟨hq, hi⟩ := hg
    obtain ⟨ho, hz, hs, vs, rv, od, es', ep', ho', r1, r2, r3⟩ := (show ObjOk X.prog X.w H s.heap d (.frz o (.dK kvs)) from I.hok d _ hq)
    rw [ho] at ho'
    cases ho'
    rw [hd] at r2
    cases r2
    have hl : vs.length = kvs.length := (Paired.length rv).symm
    have hm : s.heap.DictAt (mixKind X.prog X.w) d vs ep := ⟨_, _, ho, r1, hd, r3⟩
    obtain ⟨f0, f1, f2, f3, f4, f5⟩ := hf it (by simp)
    have hv : vs[i]? = some ((vs[i]'(by omega)).1, (vs[i]'(by omega)).2) := List.getElem?_eq_getElem (by omega)
    have hk : (kvs[i]).1 = (vs[i]'(by omega)).1 := (paired_get rv i hi (by omega)).1
    rw [← hl] at st
    refine wpAny_pyNext_dict_item st hm hv fun key h' hkey st' sb => ?_
    have I1 : Inv X pins σ H { s with heap := h' } := I.turned (t' := s.toks) (fun b o hb e => (sb.2 b hb).trans e) f0 f1 f3 f4 f5
    obtain ⟨oi, ei, ci, di⟩ := id st'
    refine ⟨key, rfl, go_of ei ci di (by decide) ⟨kV (kvs[i]).1, H, I1, by rw [hk]; exact relV_key hkey, ⟨rfl, kvs[i], List.getElem?_eq_getElem hi, rfl⟩, by rw [← hl]; exact st', fun b hb => by
      have e : b = it := by simpa using hb
      rw [e]; exact f0⟩⟩
  done := by
    intro X hP hw hK hc i pins s σ H E I hf st hg
    subst hP hw hK
    obtain ⟨hq, hi⟩ := hg
    obtain ⟨ho, hz, hs, vs, rv, od, es', ep', ho', r1, r2, r3⟩ := (show ObjOk X.prog X.w H s.heap d (.frz o (.dK kvs)) from I.hok d _ hq)
    rw [ho] at ho'
    cases ho'
    rw [hd] at r2
    cases r2
    have hl : vs.length = kvs.length := (Paired.length rv).symm
    have hm : s.heap.DictAt (mixKind X.prog X.w) d vs ep := ⟨_, _, ho, r1, hd, r3⟩
    obtain ⟨f0, f1, f2, f3, f4, f5⟩ := hf it (by simp)
    rw [← hl] at st
    exact wpAny_pyNext_dict_end (I.ok.hd hc) st hm (List.getElem?_eq_none (by omega)) fun h' eb => ⟨rfl, I.turned (t' := s.toks) (fun b o hb e => eb b o hb e) f0 f1 f3 f4 f5⟩
  self := fun _ _ _ _ _ st h => wpAny_pyIter_keyiter st h
section
variable {X : Cx}
theorem iter_dict {pins : List (Addr × Obj)} {σ : St} {H : Hp} {s : Shared} {d : Addr} {kvs : List (Key × V)} {tg : Expr} {R : It → Hp → Prop} {E : Value → Shared → Prop} (I : Inv X pins σ H s) (hd : H d = some (.dK kvs)) (h : ∀ o, R (Itd o d kvs) (upd H d (.frz o (.dK kvs)))) :
    wpAny (model X.prog X.w) X.A (pyIter (.ref d)) (PIE X pins σ tg R) E s := by
  obtain ⟨o, ho, I1⟩ := I.freeze hd
  obtain ⟨hz, hs, vs, rv, od, es, ep, ho', r1, r2, r3⟩ := (show ObjOk X.prog X.w H s.heap d (.dK kvs) from I.hok d _ hd)
  rw [ho] at ho'
  cases ho'
  have hl : vs.length = kvs.length := (Paired.length rv).symm
  refine wpAny_pyIter_dict (knd := mixKind X.prog X.w) (kvs := vs) (ep := ep) hs ⟨_, _, ho, r1, r2, r3⟩ ?_
  have I2 := I1.kept (t' := s.toks) (h' := s.heap.push { cls := .type "dict_keyiterator", data := .fields #[.ref d, .int 0 0, .int vs.length 0, .int ep 0] }) fun b o e => Heap.get?_push_of_some _ e
  refine ⟨s.heap.objs.size, [s.heap.objs.size], _, _, _, rfl, I2, turn_dict r2 d s.heap.objs.size kvs, ?_, fun b hb => ?_, h o⟩
  · exact ⟨_, Heap.get?_push_size _ rfl, rfl, by rw [hl]; rfl⟩
  · have e : b = s.heap.objs.size := by simpa using hb
    subst e
    exact I1.fpOk (Nat.le_refl _) (I1.hok.fresh (Nat.le_refl _))
def tCompD (own : Nat) (fr : List Nat) (tl : TE) (g : TG) (tc : TT) (te : TE) : TE := fun σ H Q => tl σ H fun x H1 => ∃ (d : Addr) (kvs : List (Key × V)), x = .ref d ∧ H1 d = some (.dK kvs) ∧
  ∀ o D, (upd H1 d (.frz o (.dK kvs))) D = none → CompB own fr g tc te σ (fun v H2 => H2 d = some (.frz o (.dK kvs)) ∧ Q v (upd H2 d (.dK kvs))) (Itd o d kvs) D (upd (upd H1 d (.frz o (.dK kvs))) D (.lst []))
theorem pe_compD {scope : Scope} {own N : List Str} {fr : List Nat} {tg elt iter : Expr} {ifs : List Expr} {g : TG} {tc : TT} {te tl : TE} {pos : Pos} (hc : X.calm = true) (S : CompScope X scope own fr N) (CP : CompParts X scope N tg elt ifs g tc te) (hi : PE X iter tl) (hs : ∀ x, foldedSetIterable iter X.env x = pure x := by intro _; rfl) :
    PE X (.ListComp elt [⟨tg, iter, ifs, 0⟩] scope pos) (tCompD own.length fr tl g tc te) := by
  intro pins s σ H Q I h
  rw [eval_ListComp]
  refine wpAny_comprehension_free (use := none) (g := ⟨tg, iter, ifs, 0⟩) (gs := []) rfl hs (closure_go (S.clo I.ok)) S.kind S.names (thn (hi pins s σ H _ I h) fun v s1 ⟨x, H1, I1, r, d, kvs, e, hd, q⟩ => ?_)
  subst e
  cases r
  have nf := notFrz I1 hd
  refine thn (iter_dict (tg := tg) (R := fun J H2 => ∀ D, H2 D = none → CompB own.length fr g tc te σ (fun v H3 => ∃ o, H3 d = some (.frz o (.dK kvs)) ∧ Q v (upd H3 d (.dK kvs))) J D (upd H2 D (.lst []))) I1 hd fun o D hD => ?_) fun itv s2 h2 => ?_
  · obtain ⟨W, h1, h2⟩ := q o D hD
    refine ⟨W, h1, fun i m ys H3 w => ?_⟩
    rcases h2 i m ys H3 w with ⟨a, b⟩ | z
    · exact .inl ⟨a, o, b⟩
    · exact .inr z
  · obtain ⟨it, fp, tn, J, H2, e, I2, T, st2, f2, hw⟩ := h2
    subst e
    exact comp_run (RR := fun acc C => compPost (model X.prog X.w) X.A X.xe none (EP X pins σ Q) acc C) hc S CP I2 T st2 f2 hw fun D C s' H' m I' fC hn ⟨o, q1, q2⟩ =>
      ⟨m, hn, fun h' hb => ⟨.ref D, _, (I'.turned (t' := s'.toks) (fun b o hne e => hb.extBut b o hne e) fC.1 fC.2.1 fC.2.2.2.1 fC.2.2.2.2.1 fC.2.2.2.2.2).thaw q1 nf, rfl, q2⟩⟩
theorem call_any (hc : X.calm = true) : CallR X (.builtin "any") (fun xs H Q => ∃ (p : Addr) (bs : List Bool), xs = [.ref p] ∧ SqL X.K H p (bs.map V.bl) ∧ Q (.bl (bs.any id)) H) := by
  intro pins s σ H xs us Q I r h
  obtain ⟨p, bs, rfl, hq, q⟩ := h
  obtain ⟨u, rfl, ru⟩ := vals1 r
  cases ru
  obtain ⟨its, rv, pl, hz⟩ := I.list hq
  have hl := rv.length
  rw [List.length_map] at hl
  refine call_any_walk (wpAny_pyIter_list pl.isList ?_)
  have plt : p < s.heap.objs.size := by obtain ⟨o, e, _⟩ := pl.isList; exact Heap.lt_size e
  refine ⟨s.heap.objs.size, _, _, _, _, _, fun i => bs.getD i false, rfl, Walks.list (A := X.A.in1) (I.ok.hd hc) s.heap.objs.size p (Nat.ne_of_lt plt) its.toArray, ⟨⟨_, Heap.get?_push_size _ rfl, rfl, rfl⟩, pl.isList.push _⟩, fun i v s' Q' E' hv hQ => ?_, fun h' tk kk => ?_⟩
  · have hi : i < bs.length := by
      have := (Array.getElem?_eq_some_iff.mp hv).1
      rw [List.size_toArray] at this
      omega
    obtain ⟨u, hu, ru⟩ := rv.get (i := i) (x := V.bl bs[i]) (by simp [hi])
    have hv' : its[i]? = some v := by simpa using hv
    rw [hv'] at hu
    cases hu
    cases ru
    refine wpAny_truthy_bool ?_
    simpa [hi] using hQ
  · have ee : ((List.range its.toArray.size).any fun i => bs.getD i false) = bs.any id := by
      rw [List.size_toArray, ← hl]
      apply Bool.eq_iff_iff.mpr
      rw [List.any_eq_true, List.any_eq_true]
      constructor
      · rintro ⟨i, hi, h⟩
        have hi' := List.mem_range.mp hi
        exact ⟨bs[i], List.getElem_mem hi', by simpa [hi'] using h⟩
      · rintro ⟨b, hb, h⟩
        obtain ⟨i, hi, rfl⟩ := List.getElem_of_mem hb
        exact ⟨i, List.mem_range.mpr hi, by simpa [hi] using h⟩
    rw [ee]
    have I1 : Inv X pins σ H { s with heap := s.heap.push { cls := .type "list_iterator", data := .fields #[.ref p, .int 0 0] } } := I.kept (t' := s.toks) fun b o e => Heap.get?_push_of_some _ e
    refine ⟨.bl _, H, I1.turned (t' := tk) (it := s.heap.objs.size) (fun b o hb e => kk b o (by simpa using hb) e) (I.hok.fresh (Nat.le_refl _)) (Nat.ne_of_gt I.lt) (.inr I.sz) ?_ ?_, rfl, q⟩
    · exact (I.fpOk (Nat.le_refl _) (I.hok.fresh (Nat.le_refl _))).2.2.2.2.1
    · exact (I.fpOk (Nat.le_refl _) (I.hok.fresh (Nat.le_refl _))).2.2.2.2.2
end
end L2
end
section
set_option autoImplicit false
namespace L2
open PySem PySem.Spec PyProof.Rows
def Ite (K : PySem.W.Frag) (a : Addr) : It :=
  ⟨fun i H => ∃ xs x, SqL K H a xs ∧ xs[i]? = some x, fun i H v H' => ∃ p, H p = none ∧ v = .ref p ∧ ∀ xs x, SqL K H a xs → xs[i]? = some x → H' = upd H p (.tup [.int i, x]), fun i H => ∃ xs, SqL K H a xs ∧ xs.length ≤ i⟩
theorem turn_enum {P : Program} {w : World} {K : PySem.W.Frag} {elts : List Expr} {x1 : Nat} {tpos : Pos} {e it l : Addr} (hne : e ≠ it) : Turn P w K (.Tuple elts x1 tpos) (Ite K l) [e, it] e
    (fun i h => (∃ old, IsEnum h e it i old) ∧ h.IsListIter it l i) where
  mem := by simp
  obj := fun i h st b hb => by
    obtain ⟨⟨old, he⟩, o, ei, c, d⟩ := st
    simp only [List.mem_cons, List.not_mem_nil, or_false] at hb
    rcases hb with rfl | rfl
    · exact ⟨_, he, fun v q => nomatch q⟩
    · exact ⟨o, ei, fun v z => by rw [d] at z; cases z⟩
  keep := fun i h h' st k => by
    obtain ⟨⟨old, he⟩, o, ei, r⟩ := st
    exact ⟨⟨old, k e (by simp) _ he⟩, o, k it (by simp) _ ei, r⟩
  item := by
    intro X hP hw hK hc i pins s σ H E I hf st hg
    subst hP hw hK
    obtain ⟨xs, x, hq, hx⟩ := hg
    obtain ⟨its, rv, p, hz⟩ := I.list hq
    obtain ⟨u, hu, ru⟩ := rv.get hx
    obtain ⟨⟨old, he⟩, hit⟩ := st
    refine wpAny_pyNext_enum_item he hit p.isList (x := u) (by simpa using hu) hne fun h' a1 a2 a3 a4 a5 => ?_
    refine ⟨_, rfl, wpAny_letOwnedTupleGo_enum a1 fun h2' a1' q' => ?_⟩
    have hn : H s.heap.objs.size = none := I.hok.fresh (Nat.le_refl _)
    have elt : e < s.heap.objs.size := Heap.lt_size he
    have ilt : it < s.heap.objs.size := by obtain ⟨_, e, _⟩ := hit; exact Heap.lt_size e
    have kk : ∀ b ob, b ∉ [e, it] → s.heap.get? b = some ob → h2'.get? b = some ob := fun b ob hb ee => by
      simp only [List.mem_cons, List.not_mem_nil, or_false, not_or] at hb
      exact q'.extBut _ _ hb.1 (a5 b ob hb.1 hb.2 ee)
    have I1 : Inv X pins σ (upd H s.heap.objs.size (.tup [.int i, x])) { s with heap := h2', toks := s.toks + 1 } := I.turnLaid (t' := s.toks + 1) hf kk (Nat.le_refl _)
      ⟨⟨by show 2 ≤ sizeLine; decide, fun o ee => by rw [q'.extBut _ _ (Nat.ne_of_gt elt) a3] at ee; cases ee; rfl⟩, [.int i s.toks, u], .cons ⟨_, rfl⟩ (.cons ru .nil), ⟨_, q'.extBut _ _ (Nat.ne_of_gt elt) a3, rfl, _, rfl⟩⟩
    refine ⟨.ref s.heap.objs.size, _, I1, rfl, ⟨_, hn, rfl, fun xs' x' k1 k3 => ?_⟩, ⟨⟨_, by simpa using a1'⟩, a2.extBut q'.extBut hne.symm⟩, fun b hb => ?_⟩
    · rw [I.list_inj k1 hq, hx] at k3
      cases k3
      rfl
    · have hb' := hb
      simp only [List.mem_cons, List.not_mem_nil, or_false] at hb'
      have hlt : b < s.heap.objs.size := by
        rcases hb' with rfl | rfl
        · exact elt
        · exact ilt
      rw [upd_ne (Nat.ne_of_lt hlt)]
      exact (hf b hb).1
  done := by
    intro X hP hw hK hc i pins s σ H E I hf st hg
    subst hP hw hK
    obtain ⟨xs, hq, hx⟩ := hg
    obtain ⟨its, rv, p, hz⟩ := I.list hq
    obtain ⟨⟨old, he⟩, hit⟩ := st
    have hl := rv.length
    refine wpAny_pyNext_enum_end (I.ok.hd hc) he hit p.isList (by simp; omega) fun h' eb => ⟨rfl, I.turnedL (t' := s.toks) hf fun b u hb q => ?_⟩
    simp only [List.mem_cons, List.not_mem_nil, or_false, not_or] at hb
    exact eb b u hb.2 q
  self := fun _ _ _ _ _ st h => by
    obtain ⟨⟨old, he⟩, _⟩ := st
    exact wpAny_pyIter_enum he h
section
variable {X : Cx}
def iEnum (K : PySem.W.Frag) (ta : TA) : TI := fun σ H R => ta σ H fun vs H1 => ∃ a xs, vs = [.ref a] ∧ SqL K H1 a xs ∧ R (Ite K a) H1
theorem pi_enumerate {elts : List Expr} {x1 : Nat} {tpos : Pos} {a : Expr} {ta : TA} {p pos : Pos} (hg : Gl X "enumerate") (hm : X.mg "enumerate" = none) (ha : PA X [a] ta)
    (he : starEach [a] X.env = (false, eval a X.env) :: starEach [] X.env := by rfl) (hpl : (backTo pos (starEach [] X.env)).any (·.1) = false := by rfl) : PI X (.Tuple elts x1 tpos) (.Call (.Name "enumerate" p) [a] [] pos) (iEnum X.K ta) := by
  intro pins s σ H R I h
  have boot_enum : bootBuiltins "enumerate" = some (.type "enumerate") := by decide +kernel
  refine wpAny_Call_Name_kw (ld_blt I hg hm boot_enum ?_)
  refine PyProof.Rows.callWith_type1 (thn (ha pos pins s σ H _ I h) fun us s1 ⟨vs, H1, I1, r1, t1, xs, e, q1, q⟩ => ?_) he hpl
  subst e
  obtain ⟨u, rfl, ru⟩ := vals1 r1
  cases ru
  obtain ⟨its, rv, p1, hz1⟩ := I1.list q1
  refine call_enumerate_list p1.isList fun h' hE hI hsz hk => ?_
  refine wpAny_pyIter_enum hE ?_
  have I2 : Inv X pins σ H1 { s1 with heap := h' } := I1.kept (t' := s1.toks) hk
  have hne : s1.heap.objs.size + 1 ≠ s1.heap.objs.size := by change @Ne Nat _ _; omega
  refine ⟨s1.heap.objs.size + 1, [s1.heap.objs.size + 1, s1.heap.objs.size], _, Ite X.K t1, H1, rfl, I2, turn_enum hne, ⟨⟨_, hE⟩, hI⟩, fun b hb => ?_, q⟩
  have hle : s1.heap.objs.size ≤ b := by
    simp only [List.mem_cons, List.not_mem_nil, or_false] at hb
    rcases hb with h | h <;> rw [h] <;> first | exact Nat.le_refl _ | exact Nat.le_add_right _ _
  exact I1.fpOk hle (I1.hok.fresh hle)
end
end L2
end
section
set_option autoImplicit false
namespace L2
open PySem PySem.Spec PyProof.Rows
theorem entry_dul : entryFor table "dict.update.loop" = some Builtin.«dict.update.loop» := entryFor_of_fast (by kernel_rfl)
theorem plain_dul : plainId "dict.update.loop" = true := by decide +kernel
theorem tup_no_keys : typeLookup (.type "tuple") "keys" = pure none := by rw [typeLookup_type, builtinLookup_eq_fast]; kernel_rfl
section
variable {prog : Program} {w : World} {A : Around} {E : Value → Shared → Prop} {s : Shared}
theorem keys_miss {a : Addr} {o : Obj} {xs : Array Value} {k : Nat} {Q : Option Value → Shared → Prop} (hx : s.heap.get? a = some o) (hc : o.cls = .type "tuple") (hdat : o.data = .seq xs k) (hd : o.dict = none) (hA : A.handled = none)
    (h : ∀ h' tk, (∀ b o, s.heap.get? b = some o → h'.get? b = some o) → Q none { s with heap := h', toks := tk }) : wpAny (model prog w) A (getAttr? (.ref a) "keys") Q E s := by
  obtain ⟨c, dct, dat, sl⟩ := o
  simp only at hc hdat hd
  subst hc hdat hd
  obtain ⟨hp, g, d, tk, os⟩ := s
  have hT : ∀ tk', (⟨hp, g, d, tk', os⟩ : Shared).TypeIs (.ref a) "tuple" := fun _ => ⟨_, hx, rfl⟩
  have f1 := sub_AttributeError
  have f3 := F.slot_tuple_getattribute.lookup
  have f4 := F.slot_tuple_getattribute.bind (.ref a)
  have f5 := am_tuple_getattr_none
  have hm := tup_no_keys
  unfold getAttr? getAttrBy? getAttrBy
  repeat (any_goals (first | assumption | exact hT _ | ((with_reducible show wpAny _ _ (call (Value.builtin "tuple.__getattribute__") _ _) _ _ _); refine call_meets F.slot_tuple_getattribute (hT _) am_entry_tuple_getattribute (F.args_tuple_getattribute_2 _ _) (meets_getattribute_miss_tuple a xs k sl "keys" _ hm (by decide +kernel)) ⟨hx, hA, fun h' tk' e hx' => ?_⟩) | wp_step))
  have kk := hx'.keeps
  obtain ⟨t', u', he⟩ := hx'.there
  show wpAny _ _ (getattributeRaised _ _ _ _ _ _ _) _ _ _
  unfold getattributeRaised
  repeat (any_goals (first | assumption | wp_step))
  all_goals exact h _ _ kk
end
end L2
end
section
set_option autoImplicit false
namespace L2
open PySem PySem.Spec PyProof.Rows
section
variable {X : Cx} {pins : List (Addr × Obj)} {σ : St} {A : Around}
def PairsAt (H : Hp) (xs : List V) (kvs : List (Key × V)) : Prop := xs.length = kvs.length ∧ ∀ (i : Nat) (kv : Key × V), kvs[i]? = some kv → ∃ p, xs[i]? = some (.ref p) ∧ H p = some (.tup [kV kv.1, kv.2])
theorem d_set {H : Hp} {s : Shared} {d : Addr} {kvs : List (Key × V)} {k : Key} {v : V} {u r : Value} {E : Value → Shared → Prop} {Q : Unit → Shared → Prop} (I : Inv X pins σ H s) (e : H d = some (.dK kvs)) (l : kvs.length < sizeLine) (ry : RelV (kV k) u) (rv : RelV v r)
    (h : ∀ h', Heap.SameBut d s.heap h' → Inv X pins σ (upd H d (.dK (putK kvs k v))) { s with heap := h', toks := s.toks + 1 } → Q () { s with heap := h', toks := s.toks + 1 }) : wpAny (model X.prog X.w) A (dictSet d u r) Q E s := by
  obtain ⟨z, hd, vs, rel, dd⟩ := dk_of I.hok e
  have hz : vs.length ≤ sizeLine := by rw [← rel.length]; exact z
  have hl : (putK kvs k v).length ≤ sizeLine := by have := length_putK kvs k v; omega
  refine wpAny_dictSet_pairs (hsz := hz) (kV_is ry) dd fun h' dd' hs => h _ hs ?_
  have he : ∃ q, h'.get? d = some q := let ⟨q, _, _, hq, _⟩ := dd'; ⟨q, hq⟩
  exact d_write (t' := s.toks + 1) I (by rw [e]; exact True.intro) hs he (dk_new hl hd (rel.put k rv) dd')
theorem mergeK_snoc (kvs : List (Key × V)) (kv : Key × V) : mergeK [] (kvs ++ [kv]) = putK (mergeK [] kvs) kv.1 kv.2 := by
  unfold mergeK
  rw [List.foldl_append]
  rfl
theorem dul_run {H : Hp} {a d it : Addr} {xs : List V} {kvs : List (Key × V)} {R : Result → Shared → Prop} (hh : A.handled = none) (ha : H a = some (.tup xs)) (hp : PairsAt H xs kvs) (hn : kvs.length ≤ 1000) (hd : H d = none) (hid : it ≠ d) (hia : it ≠ a)
    (hR : ∀ s', Inv X pins σ (upd H d (.dK (mergeK [] kvs))) s' → R (.ok (.ret .none)) s') :
    ∀ (k i : Nat) (s : Shared), kvs.length - i = k → i ≤ kvs.length → Inv X pins σ (upd H d (.dK (mergeK [] (kvs.take i)))) s → s.heap.IsTupleIter it a i → (∀ H' : Hp, H' it = none → FpOk X pins H' it) → H it = none →
      codeAny (model X.prog X.w) A (.builtin "dict.update.loop" ⟨[.ref d, .ref it, rawInt i, .none], []⟩) R s := by
  intro k
  have had : a ≠ d := ne_of_none ha hd
  have hz : sizeLine = 16777216 := sizeLine_eq
  induction k with
  | zero =>
    intro i s hk hi I hit hf hi0
    have hin : i = kvs.length := by omega
    have ha' : (upd H d (.dK (mergeK [] (kvs.take i)))) a = some (.tup xs) := by rw [upd_ne had]; exact ha
    obtain ⟨its, rv, p, _⟩ := I.tuple (SqT.of ha')
    have hit0 : (upd H d (.dK (mergeK [] (kvs.take i)))) it = none := by rw [upd_ne hid]; exact hi0
    obtain ⟨f0, f1, f2, f3, f4, f5⟩ := hf _ hit0
    refine codeAny_builtin entry_dul ?_
    rw [Around.under_plainId plain_dul _]
    show wpAny _ A.in1 (pyNext (.ref it) >>= _) _ _ s
    refine wpAny_bind (wpAny_pyNext_tuple_end hh hit (show s.heap.IsTuple a its.toArray from p) (by have := rv.length; have := hp.1; simp; omega) fun h' eb => ?_)
    refine wpAny_bind (wpAny_pure (wpAny_pure ?_))
    have I1 := I.turned (t' := s.toks) (fun b o hb e => eb b o hb e) f0 f1 f3 f4 f5
    rw [hin, List.take_of_length_le (Nat.le_refl _)] at I1
    exact hR _ I1
  | succ k ih =>
    intro i s hk hi I hit hf hi0
    have hlt : i < kvs.length := by omega
    have ha' : (upd H d (.dK (mergeK [] (kvs.take i)))) a = some (.tup xs) := by rw [upd_ne had]; exact ha
    obtain ⟨its, rv, p, _⟩ := I.tuple (SqT.of ha')
    have hit0 : (upd H d (.dK (mergeK [] (kvs.take i)))) it = none := by rw [upd_ne hid]; exact hi0
    obtain ⟨f0, f1, f2, f3, f4, f5⟩ := hf _ hit0
    obtain ⟨pr, ex, hpr⟩ := hp.2 i kvs[i] (List.getElem?_eq_getElem hlt)
    obtain ⟨u, hu, ru⟩ := rv.get ex
    cases ru
    refine codeAny_builtin entry_dul ?_
    rw [Around.under_plainId plain_dul _]
    show wpAny _ A.in1 (pyNext (.ref it) >>= _) _ _ s
    refine wpAny_bind (wpAny_pyNext_tuple_item hit (show s.heap.IsTuple a its.toArray from p) (x := .ref pr) (by simpa using hu) fun h' hit' sb => ?_)
    have I1 := I.turned (t' := s.toks) (fun b o hb e => sb.extBut b o hb e) f0 f1 f3 f4 f5
    have hpd : pr ≠ d := ne_of_none hpr hd
    obtain ⟨jts, rj, ⟨oj, gj, cj, nj, dj⟩, _⟩ := I1.tuple (SqT.of (show (upd H d (.dK (mergeK [] (kvs.take i)))) pr = some (.tup [kV kvs[i].1, kvs[i].2]) by rw [upd_ne hpd]; exact hpr))
    obtain ⟨v1, v2, rfl, r1, r2⟩ := rj.two
    have hT : ({ s with heap := h' } : Shared).TypeIs (.ref pr) "tuple" := ⟨oj, gj, cj⟩
    refine wpAny_bind (wpAny_holding ?_)
    refine wpAny_bind (wpAny_tryCatch ?_)
    unfold Builtin.Dict.pairItems
    refine wpAny_bind (wpAny_typeOf hT ?_)
    rw [if_pos (by decide)]
    refine wpAny_bind (wpAny_seqItems gj dj (wpAny_pure ?_))
    show wpAny _ _ (holding [v1, v2] (dictSet d v1 v2)) _ _ _
    refine wpAny_holding (d_set I1 upd_same ?_ r1 r2 fun h2 sb2 I2 => ?_)
    · have := length_mergeK (kvs.take i) []
      rw [List.length_take, List.length_nil] at this
      omega
    rw [upd_upd] at I2
    have et : kvs.take (i + 1) = kvs.take i ++ [kvs[i]] := by
      rw [List.take_succ, List.getElem?_eq_getElem hlt]
      rfl
    rw [← mergeK_snoc, ← et] at I2
    refine wpAny_pure ⟨plainId_quiet plain_dul _, ?_⟩
    exact ih (i + 1) _ (by omega) hlt I2 (hit'.extBut sb2.extBut hid) hf hi0
end
end L2
end
section
set_option autoImplicit false
namespace L2
open PySem PySem.Spec PyProof.Rows
section
variable {X : Cx}
theorem call_dictP (hc : X.calm = true) : CallR X (.type "dict") (fun xs H Q => ∃ a ps kvs, xs = [.ref a] ∧ H a = some (.tup ps) ∧ PairsAt H ps kvs ∧ kvs.length ≤ 1000 ∧ ∀ d, H d = none → Q (.ref d) (upd H d (.dK (mergeK [] kvs)))) := by
  intro pins s σ H xs us Q I r h
  obtain ⟨a, ps, kvs, rfl, ha, hp, hn, q⟩ := h
  obtain ⟨u, rfl, ru⟩ := vals1 r
  cases ru
  have hh : X.A.handled = none := I.ok.hd hc
  refine callType_codes (Q₁ := fun obj s₁ => obj = .ref s.heap.objs.size ∧ s₁ = { s with heap := s.heap.push { cls := .type "dict", data := .dict #[] } }) F.kt_called_dict (F.kt_typeCall_dict_1 _) F.entry_dict_init (kt_code_dict_new _ ⟨rfl, rfl⟩) ?_
  rintro obj s₁ ⟨rfl, rfl⟩
  have hd : H s.heap.objs.size = none := I.hok.fresh (Nat.le_refl _)
  have I1 : Inv X pins σ (upd H s.heap.objs.size (.dK [])) { s with heap := s.heap.push { cls := .type "dict", data := .dict #[] } } :=
    I.laid (t' := s.toks) (fun b o e => Heap.get?_push_of_some _ e) (Nat.le_refl _) (dk_empty s.heap (Nat.lt_of_lt_of_le I.big (Nat.le_refl _)))
  have had : a ≠ s.heap.objs.size := ne_of_none ha hd
  have ha1 : (upd H s.heap.objs.size (.dK [])) a = some (.tup ps) := by rw [upd_ne had]; exact ha
  obtain ⟨⟨_, nd⟩, its, rv, o, go, co, n, dto⟩ := I1.hok a _ ha1
  have hnew : (s.heap.push { cls := .type "dict", data := .dict #[] }).DictOf (mixKind X.prog X.w) s.heap.objs.size [] := Heap.DictOf.new s.heap
  refine ⟨hnew.typeIs, F.args_dict_init_2 _ _, ?_⟩
  unfold Builtin.«dict.__init__»
  refine wpAny_bind ?_
  unfold Builtin.Dict.selfAndRest
  refine wpAny_bind (wpAny_notOrdered_dict hnew.typeIs ?_)
  show wpAny _ _ (pure (s.heap.objs.size, [Value.ref a])) _ _ _
  refine wpAny_pure ?_
  show wpAny _ _ (Builtin.Dict.updateFrom "dict.__init__" s.heap.objs.size (.ref a) [] .none) _ _ _
  unfold Builtin.Dict.updateFrom
  have hT : ({ s with heap := s.heap.push { cls := .type "dict", data := .dict #[] } } : Shared).TypeIs (.ref a) "tuple" := ⟨o, go, co⟩
  refine wpAny_bind (wpAny_typeOf hT ?_)
  rw [if_pos (by decide)]
  refine wpAny_bind (keys_miss go co dto (nd o go) hh fun h2 tk2 k2 => ?_)
  rw [if_pos (by rfl)]
  have I2 := I1.kept (t' := tk2) k2
  refine wpAny_bind (wpAny_rule ?_)
  refine wpAny_bind (wpAny_pyIter_tuple (show Heap.IsTuple h2 a its.toArray from ⟨o, k2 a o go, co, n, dto⟩) ?_)
  have I3 := I2.kept (t' := tk2) (h' := h2.push { cls := .type "tuple_iterator", data := .fields #[.ref a, .int 0 0] }) fun b o e => Heap.get?_push_of_some _ e
  have hle : s.heap.objs.size < h2.objs.size := by
    obtain ⟨o', e'⟩ : ∃ o', (s.heap.push { cls := .type "dict", data := .dict #[] }).get? s.heap.objs.size = some o' := ⟨_, Heap.get?_push_size _ rfl⟩
    exact Heap.lt_size (k2 _ _ e')
  have hif : (upd H s.heap.objs.size (.dK [])) h2.objs.size = none := I2.hok.fresh (Nat.le_refl _)
  refine wpAny_pure ⟨plainId_quiet plain_dul _, ?_⟩
  have al : a < h2.objs.size := Heap.lt_size (k2 a o go)
  have hi0 : H h2.objs.size = none := by rw [upd_ne (Nat.ne_of_gt hle)] at hif; exact hif
  refine dul_run (A := X.A.in1) (H := H) (a := a) (d := s.heap.objs.size) (it := h2.objs.size) (xs := ps) (kvs := kvs) hh ha hp hn hd (Nat.ne_of_gt hle) (Nat.ne_of_gt al) (fun s' I' => ?_) kvs.length 0 _ (by simp) (Nat.zero_le _) I3 ⟨_, Heap.get?_push_size _ rfl, rfl, rfl⟩ (fun H' hH' => ?_) hi0
  · exact ⟨rfl, ⟨.ref s.heap.objs.size, _, I', rfl, q _ hd⟩⟩
  · obtain ⟨g1, g2⟩ := I2.fpOk (Nat.le_refl _) hif
    exact ⟨hH', g2⟩
end
end L2
end
section
set_option autoImplicit false
namespace L2
open PySem PySem.Spec PyProof.Rows
section
variable {X : Cx}
theorem call_listD (hc : X.calm = true) : CallR X (.type "list") (fun xs H Q => ∃ d kvs, xs = [.ref d] ∧ Rd H d (.dK kvs) ∧ ∀ l, H l = none → Q (.ref l) (upd H l (.lst (kvs.map fun kv => kV kv.1)))) := by
  intro pins s σ H xs us Q I r h
  obtain ⟨d, kvs, rfl, hd, q⟩ := h
  obtain ⟨u, rfl, ru⟩ := vals1 r
  cases ru
  have hh : X.A.handled = none := I.ok.hd hc
  obtain ⟨hz, hs, vs, rv, od, es, ep, ho, r1, r2, r3⟩ := (show ObjOk X.prog X.w H s.heap d (.dK kvs) from hd.ok I.hok)
  have hl : vs.length = kvs.length := (Paired.length rv).symm
  refine PySem.W.kdl_call (PySem.W.kdl_dict (knd := mixKind X.prog X.w) (kvs := vs) (ep := ep) hs) hh ⟨_, _, ho, r1, r2, r3⟩ (by omega) fun h' tk acc c kp e it => ?_
  obtain ⟨i1, i2⟩ := it
  refine ⟨.ref s.heap.objs.size, _, I.laid (o := .lst (kvs.map fun kv => kV kv.1)) kp (Nat.le_refl _) ⟨by rw [List.length_map]; exact hz, acc.toList, c, ?_, by simpa using e⟩, rfl, q _ (I.hok.fresh (Nat.le_refl _))⟩
  have key : ∀ (ks : List (Key × V)) (ws : List (Key × Value)) (us : List Value), KV ks ws → us.length = ws.length → (∀ (j : Nat) (v : Value), us[j]? = some v → ∃ k x, ws[j]? = some (k, x) ∧ (mixKind X.prog X.w).is k v = true) → Vals (ks.map fun kv => kV kv.1) us := by
    intro ks ws us rr
    induction rr generalizing us with
    | nil =>
      intro hl _
      cases us with
      | nil => exact .nil
      | cons _ _ => cases hl
    | @cons p w' ks ws r t ih =>
      intro hl hi
      cases us with
      | nil => cases hl
      | cons u us =>
        obtain ⟨k, x, e1, e2⟩ := hi 0 u rfl
        cases e1
        refine .cons (by show RelV (kV p.1) u; rw [r.1]; exact relV_key e2) (ih us (by simpa using hl) fun j v e => ?_)
        exact hi (j + 1) v e
  exact key kvs vs acc.toList rv (by rw [Array.length_toList]; exact i1) fun j v e => i2 j v (by simpa using e)
theorem extendT (l : Addr) (items : Array Value) (n : Nat) (b : Addr) (items2 : Array Value) (n2 : Nat) (dd : Option Addr) (sl : Array (Option Value)) (hs0 : ¬(!items.isEmpty && Builtin.List.listTooLong (items.size + items2.size)) = true) (hs1 : items.size ≤ sizeLine) (hs2 : items.size + items2.size ≤ sizeLine + 1) :
    Meets (Builtin.«list.extend» ⟨[.ref l, .ref b], []⟩) (fun _ R s => s.heap.get? l = some { cls := .type "list", dict := none, data := .seq items n, slots := #[] } ∧ s.heap.get? b = some { cls := .type "tuple", dict := dd, data := .seq items2 n2, slots := sl } ∧ R (.ok (.ret Value.none)) { s with heap := s.heap.update l (Obj.mapSeq fun x => x ++ items2), toks := s.toks }) :=
  .of_wp fun prog w A R s h => by
    obtain ⟨hp, g, d, tk, os⟩ := s
    obtain ⟨hl, hb, h⟩ := h
    have f1 := AutoSeq1.idx_int
    have f2 := AutoSeq1.sub_tuple_tuple
    have f3 := AutoSeq1.sub_list_list
    have f4 := AutoSeq1.sub_tuple_list
    have f5 := AutoSeq1.sub_list_tuple
    have hz' : (items ++ items2).size ≤ sizeLine + 1 := by rw [Array.size_append]; exact hs2
    wp_walk using (wpAny_updateSeq hl rfl (hz := hs1) (_hz' := hz')), AutoSeq1.wpAny_loadPart' hl, AutoSeq1.wpAny_loadPart' hb
    exact ⟨_, rfl, h⟩
def rExtendT : V → List V → Hp → VK → Prop := fun x vs H Q => ∃ l b xs zs, x = .ref l ∧ vs = [.ref b] ∧ H l = some (.lst xs) ∧ H b = some (.tup zs) ∧ xs.length + zs.length ≤ sizeLine ∧ Q .non (upd H l (.lst (xs ++ zs)))
theorem mt_extendT : MtM X "list.extend" rExtendT := by
  intro pins s σ H x vs v us Q I rx rv h
  obtain ⟨l, b, xs, zs, rfl, rfl, hH, hB, hz, q⟩ := h
  cases rx
  obtain ⟨u, rfl, ru⟩ := rv.one
  cases ru
  obtain ⟨z, its, n, r, hl, e⟩ := I.lstM hH
  obtain ⟨its2, r2, ⟨⟨c2, d2, dt2, sl2⟩, e2, c2', n2, d2'⟩, hz2⟩ := I.tuple (SqT.of hB)
  simp only at c2' d2'
  subst c2' d2'
  have hl2 := r2.length
  have hsz : its.toArray.size + its2.toArray.size ≤ sizeLine := by rw [List.size_toArray, List.size_toArray]; omega
  have hlong : ¬ (!its.toArray.isEmpty && Builtin.List.listTooLong (its.toArray.size + its2.toArray.size)) = true := by
    rw [notLongL hsz, Bool.and_false]
    exact Bool.false_ne_true
  refine call_meets F.slot_list_extend ⟨_, e, rfl⟩ F.entry_list_extend (F.args_list_extend_2 _ _)
    (extendT l its.toArray n b its2.toArray n2 d2 sl2 hlong (by rw [List.size_toArray]; omega) (by omega)) ⟨e, e2, ?_⟩
  refine ⟨.non, _, I.lset (its' := its ++ its2) hH e (by simp) (r.append r2) ?_, rfl, q⟩
  rw [List.length_append]
  omega
abbrev tooLongS := @Builtin.Str.tooLong
theorem size_rep (xs : Array Nat) : ∀ (k : Nat) (acc : Array Nat), (List.foldl (fun x1 x2 => x1 ++ x2) acc (List.replicate k xs)).size = acc.size + k * xs.size
  | 0, acc => by simp
  | k + 1, acc => by
    rw [List.replicate_succ, List.foldl_cons, size_rep xs k, Array.size_append, Nat.succ_mul]
    omega
def strRep (x : Str) (n : Int) : Str := if n < 1 then Str.empty else if (n == 1 || x.length == 0) = true then x else ⟨(List.replicate n.toNat x.cps).foldl (· ++ ·) #[]⟩
theorem op_mulS : OpR X (binaryOp .Mult) (fun a b H Q => ∃ x n, a = .str x ∧ b = .int n ∧ 0 ≤ n ∧ n ≤ 1000 ∧ x.length ≤ 1000 ∧ Q (.str (strRep x n)) H) := by
  intro pins s σ H a b u v Q I ra rb h
  obtain ⟨x, n, rfl, rfl, h0, h1, hx, q⟩ := h
  obtain ⟨t, rfl⟩ := ra
  obtain ⟨t', rfl⟩ := rb
  have hz : sizeLine = 16777216 := sizeLine_eq
  have hm : x.length * n.toNat ≤ 1000000 := by
    have : x.length * n.toNat ≤ 1000 * 1000 := Nat.mul_le_mul hx (by omega)
    omega
  have h3 : tooLongS (x.length * n.toNat) = false := by
    unfold tooLongS
    exact decide_eq_false (by omega)
  refine P.mul_str ?_ ?_ (fun _ _ => h3) ?_
  · rw [decide_eq_false (by omega), decide_eq_false (by omega)]
    rfl
  · intro hn _ hgt
    have h4 : (x.length : Int) * n ≤ 2 ^ 63 - 1 := by
      have : (x.length : Int) * n ≤ 1000 * 1000 := Int.mul_le_mul (by omega) h1 h0 (by decide)
      omega
    have := (Int.le_ediv_iff_mul_le (by omega : 0 < n)).mpr h4
    omega
  · unfold strRep at q
    by_cases c1 : n < 1
    · rw [if_pos c1] at q ⊢
      exact ⟨by decide, .str _, H, I.tok _, ⟨_, rfl⟩, q⟩
    · rw [if_neg c1] at q ⊢
      by_cases c2 : (n == 1 || x.length == 0) = true
      · rw [if_pos c2] at q ⊢
        exact ⟨.str _, H, I, ⟨_, rfl⟩, q⟩
      · rw [if_neg c2] at q ⊢
        refine ⟨?_, .str _, H, I.tok _, ⟨_, rfl⟩, q⟩
        show (List.foldl (fun x1 x2 => x1 ++ x2) #[] (List.replicate n.toNat x.cps)).size ≤ sizeLine
        rw [size_rep]
        have : x.cps.size = x.length := rfl
        have : n.toNat * x.cps.size = x.length * n.toNat := by rw [this, Nat.mul_comm]
        rw [Array.size_empty]
        omega
end
end L2
end
section
set_option autoImplicit false
namespace L2
open PySem PySem.Spec PyProof.Rows PySem.W
def KOk {α : Type} (n : Nat) (P : α → Prop) : KasT α → Prop
  | .ret a => P a
  | .ask i j k => i < n ∧ j < n ∧ ∀ b, KOk n P (k b)
theorem KOk.bind {α β : Type} {n : Nat} {P : α → Prop} {Q : β → Prop} {f : α → KasT β} (hf : ∀ a, P a → KOk n Q (f a)) : ∀ {t : KasT α}, KOk n P t → KOk n Q (t.bind f)
  | .ret a, h => hf a h
  | .ask i j k, h => ⟨h.1, h.2.1, fun b => KOk.bind hf (h.2.2 b)⟩
theorem KOk.wp {α : Type} {n : Nat} {P : α → Prop} {Q : α → Shared → Prop} {s : Shared} {cmp : Nat → Nat → (Bool → Shared → Prop) → Shared → Prop} (hc : ∀ i j C, i < n → j < n → (∀ b, C b s) → cmp i j C s) (hq : ∀ a, P a → Q a s) : ∀ {t : KasT α}, KOk n P t → t.kasWp cmp Q s
  | .ret a, h => hq a h
  | .ask i j k, h => hc i j _ h.1 h.2.1 fun b => KOk.wp hc hq (h.2.2 b)
def Pm (n : Nat) (p : Array Nat) : Prop := p.Perm (List.range n).toArray
theorem Pm.lt {n : Nat} {p : Array Nat} (h : Pm n p) (h0 : 0 < n) (i : Nat) : p.getD i 0 < n := by
  by_cases hi : i < p.size
  · have e : p.getD i 0 = p[i] := by simp [Array.getD, hi]
    rw [e]
    have m : p[i] ∈ (List.range n).toArray := h.mem_iff.mp (Array.getElem_mem hi)
    simpa using m
  · have e : p.getD i 0 = 0 := by simp [Array.getD, hi]
    rw [e]
    exact h0
theorem Pm.rev {n : Nat} {p : Array Nat} (h : Pm n p) (i j : Nat) : Pm n (kas_rev p i j) := Array.Perm.trans (mirror_perm p i j _) h
theorem Pm.bub {n : Nat} {p : Array Nat} (h : Pm n p) (k d : Nat) : Pm n (bubble p k d) := Array.Perm.trans (bubble_perm p k d) h
section
variable {n : Nat} (h0 : 0 < n)
include h0
theorem ok_asc {p : Array Nat} (h : Pm n p) : ∀ (f m : Nat), KOk n (fun _ => True) (kas_asc p f m)
  | 0, m => trivial
  | f + 1, m => ⟨h.lt h0 _, h.lt h0 _, fun b => by
      cases b with
      | true => exact trivial
      | false => exact ok_asc h f (m + 1)⟩
theorem ok_desc : ∀ (f : Nat) {p : Array Nat} (m q : Nat), Pm n p → KOk n (fun r => Pm n r.1) (kas_desc f p m q)
  | 0, p, m, q, h => h
  | f + 1, p, m, q, h => ⟨h.lt h0 _, h.lt h0 _, fun b => by
      cases b with
      | true =>
        show KOk n _ (if true = true then _ else _)
        rw [if_pos rfl]
        split
        · exact ok_desc f _ _ (h.rev _ _)
        · exact ok_desc f _ _ h
      | false =>
        refine ⟨h.lt h0 _, h.lt h0 _, fun d => ?_⟩
        cases d with
        | true => exact h
        | false => exact ok_desc f _ _ h⟩
theorem ok_tail3 (m nrem : Nat) {p : Array Nat} (h : Pm n p) : KOk n (fun r => Pm n r.2) (kas_tail3 m nrem p) := by
  unfold kas_tail3
  refine KOk.bind (P := fun _ => True) (fun a _ => ?_) (ok_asc h0 (h.rev 0 m) _ _)
  exact h.rev 0 m
theorem ok_descPart (m nrem : Nat) {p : Array Nat} (h : Pm n p) : KOk n (fun r => Pm n r.2) (kas_descPart m nrem p) := by
  refine KOk.bind (fun r hr => ?_) (ok_desc h0 _ _ _ h)
  split
  · exact ok_tail3 h0 _ _ (hr.rev _ _)
  · exact ok_tail3 h0 _ _ hr
theorem ok_count (nrem : Nat) {p : Array Nat} (h : Pm n p) : KOk n (fun r => Pm n r.2) (kas_count nrem p) := by
  refine KOk.bind (fun r _ => ?_) (ok_asc h0 h _ _)
  split
  · exact h
  · split
    · refine ⟨h.lt h0 _, h.lt h0 _, fun b => ?_⟩
      cases b with
      | true => exact h
      | false => exact ok_descPart h0 _ _ (h.rev _ _)
    · exact ok_descPart h0 _ _ h
theorem ok_place {p : Array Nat} (h : Pm n p) (k : Nat) : ∀ (f l r : Nat), KOk n (fun _ => True) (kas_place p k f l r)
  | 0, l, r => trivial
  | f + 1, l, r => by
    unfold kas_place
    split
    · exact trivial
    · refine ⟨h.lt h0 _, h.lt h0 _, fun b => ?_⟩
      cases b with
      | true => exact ok_place h k f _ _
      | false => exact ok_place h k f _ _
theorem ok_bin : ∀ (f : Nat) {p : Array Nat} (k : Nat), Pm n p → KOk n (Pm n) (kas_bin f p k)
  | 0, p, k, h => h
  | f + 1, p, k, h => KOk.bind (fun l _ => ok_bin f (k + 1) (h.bub _ _)) (ok_place h0 h k _ _ _)
theorem ok_sort : KOk n (Pm n) (kas_sort n) := by
  refine KOk.bind (fun r hr => ?_) (ok_count h0 n (Array.Perm.refl _))
  split
  · exact ok_bin h0 _ _ hr
  · exact hr
end
theorem Pm.out {vs : List Value} {p : Array Nat} (h : Pm vs.length p) : (p.toList.map fun i => vs.getD i Value.none).Perm vs := by
  have h1 : p.toList.Perm (List.range vs.length) := by simpa using h.toList
  have h2 := h1.map fun i => vs.getD i Value.none
  have h3 : (List.range vs.length).map (fun i => vs.getD i Value.none) = vs := by
    apply List.ext_getElem (by simp)
    intro i a b
    simp [b]
  rw [h3] at h2
  exact h2
section
variable {prog : Program} {w : World} {A : Around} {E : Value → Shared → Prop} {s : Shared}
structure Cmps (prog : Program) (w : World) (A : Around) (κ : SortKind) (vs : List Value) (h : Heap) : Prop where
  kind : ∀ (s' : Shared) (Q : SortKind → Shared → Prop) (E : Value → Shared → Prop), (∀ b o, h.get? b = some o → s'.heap.get? b = some o) → Q κ s' → wpAny (model prog w) A (keyKind' vs.toArray) Q E s'
  lt : ∀ x ∈ vs, ∀ y ∈ vs, ∀ (s' : Shared) (C : Bool → Shared → Prop), (∀ b o, h.get? b = some o → s'.heap.get? b = some o) → (∀ b, C b s') → wpAny (model prog w) A (keyLt' κ x y) C (fun _ _ => False) s'
theorem list_sort_any {a : Addr} {vs : List Value} {n : Nat} {P : Fin → Shared → Prop} {h₀ : Heap} {κ : SortKind} (ho : s.heap.get? a = some (seqObj "list" vs.toArray n)) (h64 : vs.length < 64) (keep : ∀ b o, h₀.get? b = some o → s.heap.get? b = some o ∧ b ≠ a)
    (hc : 2 ≤ vs.length → Cmps prog w A κ vs h₀)
    (h : ∀ out : Array Value, out.toList.Perm vs → P (.done (.ret .none)) { s with heap := sortedHeap s.heap a vs out }) :
    wpAny (model prog w) A (Builtin.«list.sort» ⟨[.ref a], []⟩) P E s := by
  rw [list_sort_plain]
  have ha : a < s.heap.objs.size := Heap.lt_size ho
  refine wpAny_bind (listItems_at ho rfl ?_)
  refine wpAny_bind (listUpdate_at ho rfl ?_ (by rw [List.size_toArray, sizeLine_eq]; omega) (Nat.zero_le _))
  obtain ⟨e1, ho1⟩ : ∃ e1, (s.heap.update a (Obj.mapSeq fun _ => #[])).get? a = some (seqObj "list" #[] e1) := ⟨_, get?_update_seq ho (fun _ => #[])⟩
  refine wpAny_bind (seqEpoch_at ho1 rfl ?_)
  refine wpAny_bind (wpAny_newTuple ?_ (by show vs.length ≤ _; rw [sizeLine_eq]; omega))
  refine wpAny_bind (wpAny_newList ?_ (Nat.zero_le _))
  refine wpAny_holding ?_
  have ho6 : (((s.heap.update a (Obj.mapSeq fun _ => #[])).push (seqObj "tuple" vs.toArray 0)).push (seqObj "list" #[] 0)).get? a = some (seqObj "list" #[] e1) := by
    rw [Heap.get?_push_ne _ _ _ (by rw [size_push', Heap.size_update]; exact Nat.ne_of_lt (Nat.lt_succ_of_lt ha)), Heap.get?_push_ne _ _ _ (by rw [Heap.size_update]; exact Nat.ne_of_lt ha)]
    exact ho1
  have kp : ∀ b o, h₀.get? b = some o → (((s.heap.update a (Obj.mapSeq fun _ => #[])).push (seqObj "tuple" vs.toArray 0)).push (seqObj "list" #[] 0)).get? b = some o := fun b o e => by
    obtain ⟨e', ne⟩ := keep b o e
    exact Heap.get?_push_of_some _ (Heap.get?_push_of_some _ ((Heap.get?_update_other _ _ (Ne.symm ne)).trans e'))
  show wpAny (model prog w) A _ P E { s with heap := ((s.heap.update a (Obj.mapSeq fun _ => #[])).push (seqObj "tuple" vs.toArray 0)).push (seqObj "list" #[] 0) }
  dsimp only
  have hsz : vs.toArray.size = vs.length := by simp
  have fin : ∀ st' : SortSt, failedOf st' = none → ((arrOf st').map (·.2)).toList.Perm vs → wpAny (model prog w) A (do
      let touched := (← seqEpoch a) != e1
      Builtin.List.listUpdate (.ref a) fun _ => (arrOf st').map (·.2)
      if let some e := failedOf st' then rule "list.sort.comparison-raised"; throw e
      if touched then rule "list.sort.modified"; raiseError "ValueError" "list modified during sort"
      ret .none) P E { s with heap := ((s.heap.update a (Obj.mapSeq fun _ => #[])).push (seqObj "tuple" vs.toArray 0)).push (seqObj "list" #[] 0) } := fun st' hf hp => by
    refine wpAny_bind (seqEpoch_at ho6 rfl ?_)
    refine wpAny_bind (listUpdate_at ho6 rfl ?_ (Nat.zero_le _) (by
      have := hp.length_eq
      rw [Array.length_toList] at this
      show ((arrOf st').map (·.2)).size ≤ _
      rw [this, sizeLine_eq]
      omega))
    rw [hf]
    simp only [bne_self_eq_false, Bool.false_eq_true, if_false]
    exact wpAny_pure (h _ hp)
  by_cases h2 : vs.toArray.size < 2
  · rw [if_pos h2, if_pos h2]
    refine wpAny_bind (wpAny_pure ?_)
    rw [StateT.run_pure]
    refine wpAny_bind (wpAny_pure ?_)
    refine fin (SortSt.mk' general' (vs.toArray.zip vs.toArray) #[] 7 none) rfl ?_
    have e : ((vs.toArray.zip vs.toArray).map (·.2)).toList = vs := by
      simp only [List.zip_toArray, List.map_toArray]
      exact List.map_snd_zip (Nat.le_refl _)
    show ((vs.toArray.zip vs.toArray).map (·.2)).toList.Perm vs
    rw [e]
  · rw [if_neg h2, if_neg h2]
    rw [hsz] at h2
    have C := hc (by omega)
    refine wpAny_bind (C.kind _ _ _ kp ?_)
    refine wpAny_bind (wpAny_mono (kat_run (ks := vs) (Q := fun st' s' => s' = { s with heap := ((s.heap.update a (Obj.mapSeq fun _ => #[])).push (seqObj "tuple" vs.toArray 0)).push (seqObj "list" #[] 0) } ∧ failedOf st' = none ∧ ((arrOf st').map (·.2)).toList.Perm vs)
      (G := fun p s' => s' = { s with heap := ((s.heap.update a (Obj.mapSeq fun _ => #[])).push (seqObj "tuple" vs.toArray 0)).push (seqObj "list" #[] 0) } ∧ Pm vs.length p) rfl (by omega) h64 (fun p st' s' _ e1 e2 ⟨e3, e4⟩ => ⟨e3, e2, ?_⟩) ?_) ?_ fun _ _ e => e)
    · rw [kat_snds rfl e1]
      exact e4.out
    · refine KOk.wp (fun i j Cc hi hj hC => ?_) (fun p hp => ⟨rfl, hp⟩) (ok_sort (by omega))
      have gm : ∀ i, i < vs.length → vs.getD i Value.none ∈ vs := fun i hi => by
        have : vs.getD i Value.none = vs[i] := by simp [hi]
        rw [this]
        exact List.getElem_mem hi
      exact C.lt _ (gm i hi) _ (gm j hj) _ _ kp hC
    · rintro ⟨⟨⟩, st'⟩ s' ⟨rfl, hf, hp⟩
      exact fin st' hf hp
theorem sorted_any {l : Addr} {vs : List Value} {Q : Value → Shared → Prop} {κ : SortKind} (hl : s.heap.IsList l vs.toArray) (h64 : vs.length < 64) (hc : 2 ≤ vs.length → Cmps prog w A.in1.in1 κ vs s.heap)
    (h : ∀ out : Array Value, out.toList.Perm vs → Q (.ref (s.heap.objs.size + 1)) { s with heap := sortedAll s.heap vs out }) :
    wpAny (model prog w) A (call (.builtin "sorted") [.ref l]) Q E s := by
  refine Calls.call_function_entry kind_sorted plain_sorted entry_sorted (args_sorted1 _) ?_
  unfold Builtin.«sorted»
  refine wpAny_bind (m := checkCount "sorted" 1 1 _) (wpAny_pure ?_)
  refine wpAny_bind (collect_list hl ?_ (by rw [sizeLine_eq]; omega))
  refine wpAny_bind (wpAny_newList ?_ (by rw [sizeLine_eq]; omega))
  have hsz : ((s.heap.push (seqObj "list" #[] 0)).update s.heap.objs.size (Obj.mapSeq (· ++ vs.toArray))).objs.size = s.heap.objs.size + 1 := by
    rw [Heap.size_update, size_push']
  have hoL : (((s.heap.push (seqObj "list" #[] 0)).update s.heap.objs.size (Obj.mapSeq (· ++ vs.toArray))).push (seqObj "list" vs.toArray 0)).get? (s.heap.objs.size + 1) = some (seqObj "list" vs.toArray 0) := by
    rw [← hsz]; exact Heap.get?_push_size _ rfl
  have keep : ∀ b o, s.heap.get? b = some o → (((s.heap.push (seqObj "list" #[] 0)).update s.heap.objs.size (Obj.mapSeq (· ++ vs.toArray))).push (seqObj "list" vs.toArray 0)).get? b = some o ∧ b ≠ s.heap.objs.size + 1 := fun b o q => by
    have hlt : b < s.heap.objs.size := Heap.lt_size q
    refine ⟨?_, Nat.ne_of_lt (Nat.lt_succ_of_lt hlt)⟩
    rw [Heap.get?_push_ne _ _ _ (by rw [hsz]; exact Nat.ne_of_lt (Nat.lt_succ_of_lt hlt)), Heap.get?_update_ne _ _ _ _ (Nat.ne_of_lt hlt), Heap.get?_push_ne _ _ _ (Nat.ne_of_lt hlt)]
    exact q
  show wpAny _ _ _ _ _ { s with heap := ((s.heap.push (seqObj "list" #[] 0)).update s.heap.objs.size (Obj.mapSeq (· ++ vs.toArray))).push (seqObj "list" vs.toArray 0) }
  rw [hsz]
  refine wpAny_bind (wpAny_holding (wpAny_call_entry slot_list_sort ⟨_, hoL, rfl⟩ entry_list_sort (list_sort_any hoL h64 keep hc fun out a1 => ⟨_, rfl, ?_⟩) (args_list_sort _)))
  exact wpAny_pure ⟨_, rfl, h out a1⟩
end
theorem Vals.perm : ∀ {us ws : List Value}, us.Perm ws → ∀ {xs : List V}, Vals xs ws → ∃ ys, ys.Perm xs ∧ Vals ys us := by
  intro us ws h
  induction h with
  | nil => exact fun {xs} r => ⟨xs, .refl _, r⟩
  | cons a _ ih =>
    intro xs r
    cases r with
    | cons q t =>
      obtain ⟨ys, p, r'⟩ := ih t
      exact ⟨_ :: ys, p.cons _, .cons q r'⟩
  | swap a b l =>
    intro xs r
    cases r with
    | cons q t =>
      cases t with
      | cons q' t' => exact ⟨_, .swap _ _ _, .cons q' (.cons q t')⟩
  | trans _ _ i1 i2 =>
    intro xs r
    obtain ⟨ys, p, r'⟩ := i2 r
    obtain ⟨zs, p', r''⟩ := i1 r'
    exact ⟨zs, p'.trans p, r''⟩
def SecS (b : Bool) (y : V) : Prop := if b then (∃ x, y = .str x) else ∃ i, y = .int i
section
variable {X : Cx}
theorem call_sorted (b : Bool) : CallR X (.builtin "sorted") (fun xs H Q => ∃ l ps, xs = [.ref l] ∧ SqL X.K H l ps ∧ ps.length < 64 ∧ (∀ x ∈ ps, ∃ p i y, x = .ref p ∧ H p = some (.tup [.int i, y]) ∧ SecS b y) ∧ ∀ d qs, qs.Perm ps → H d = none → Q (.ref d) (upd H d (.lst qs))) := by
  intro pins s σ H xs us Q I r h
  obtain ⟨l, ps, rfl, hl, h64, hp, q⟩ := h
  obtain ⟨u, rfl, ru⟩ := vals1 r
  cases ru
  obtain ⟨its, rv, pl, hz⟩ := I.list hl
  have hlen := rv.length
  have item : ∀ v ∈ its, ∃ (p : Addr) (o : Obj) (i : Int) (t : Tok) (y : Value) (n : Nat), v = .ref p ∧ s.heap.get? p = some o ∧ o.cls = .type "tuple" ∧ o.data = .seq #[.int i t, y] n ∧ (if b then ∃ x t', y = Value.str x t' else ∃ j t', y = Value.int j t') := fun v hv => by
    obtain ⟨i, hi, rfl⟩ := List.getElem_of_mem hv
    have hi' : i < ps.length := by omega
    obtain ⟨w', hw, rw'⟩ := rv.get (i := i) (x := ps[i]) (List.getElem?_eq_getElem hi')
    rw [List.getElem?_eq_getElem hi] at hw
    cases hw
    obtain ⟨p, j, y, e, hH, hy⟩ := hp ps[i] (List.getElem_mem hi')
    rw [e] at rw'
    have rw' : its[i] = .ref p := rw'
    obtain ⟨jts, rj, ⟨o, go, co, n, dn⟩, _⟩ := I.tuple (SqT.of hH)
    obtain ⟨v1, v2, rfl, ⟨t, rfl⟩, r2⟩ := rj.two
    refine ⟨p, o, j, t, v2, n, rw', go, co, dn, ?_⟩
    unfold SecS at hy
    cases b with
    | true =>
      obtain ⟨x, rfl⟩ := (by simpa using hy : ∃ x, y = V.str x)
      obtain ⟨t', rfl⟩ := r2
      simp
    | false =>
      obtain ⟨x, rfl⟩ := (by simpa using hy : ∃ x, y = V.int x)
      obtain ⟨t', rfl⟩ := r2
      simp
  have hcmp : 2 ≤ its.length → Cmps X.prog X.w X.A.in1.in1 (tuples' ((Value.type "int") != Value.type "tuple")) its s.heap := fun h2 => by
    refine ⟨fun s' Q' E' kp hq => ?_, fun x hx y hy s' C kp hC => ?_⟩
    · have tups : ∀ vs : List Value, (∀ v ∈ vs, v ∈ its) → ∃ fs : List Value, KatTups s'.heap vs fs ∧ fs.length = vs.length ∧ ∀ f ∈ fs, ∃ i t, f = Value.int i t := by
        intro vs
        induction vs with
        | nil => exact fun _ => ⟨[], .nil, rfl, fun _ h => nomatch h⟩
        | cons v vs ih =>
          intro hm
          obtain ⟨fs, k, e, hf⟩ := ih fun v hv => hm v (List.mem_cons_of_mem _ hv)
          obtain ⟨p, o, i, t, y, n, rfl, go, co, dn, _⟩ := item v (hm v List.mem_cons_self)
          refine ⟨.int i t :: fs, .cons (kp p o go) co dn rfl k, by rw [List.length_cons, List.length_cons, e], fun f hf' => ?_⟩
          rcases List.mem_cons.mp hf' with rfl | h'
          · exact ⟨i, t, rfl⟩
          · exact hf f h'
      obtain ⟨fs, k, e, hf⟩ := tups its fun _ h => h
      refine kat_kind (T := .type "int") k (by omega) (fun v hv => ?_) rfl hq
      obtain ⟨i, t, rfl⟩ := hf v hv
      exact .now
    · obtain ⟨p, o, i, t, y1, n, rfl, go, co, dn, h1⟩ := item x hx
      obtain ⟨p', o', i', t', y2, n', rfl, go', co', dn', h1'⟩ := item y hy
      refine kat_lt (kp p o go) dn (kp p' o' go') dn' ?_
      show KatLex _ _ _ _ _ _ [(Value.int i t, Value.int i' t'), (y1, y2)] 0 s'
      refine kat_cons (wpAny_eqBool_int (kat_go (fun _ => kat_yes ?_) fun _ => kat_no ?_))
      · cases b with
        | true =>
          obtain ⟨x1, u1, rfl⟩ := (by simpa using h1 : ∃ x t', y1 = Value.str x t')
          obtain ⟨x2, u2, rfl⟩ := (by simpa using h1' : ∃ x t', y2 = Value.str x t')
          refine kat_cons (wpAny_eqBool_str (kat_go (fun _ => kat_yes (kat_nil (hC _))) fun _ => kat_no ?_))
          exact kat_one _ _ (lt_str (hC _))
        | false =>
          obtain ⟨x1, u1, rfl⟩ := (by simpa using h1 : ∃ x t', y1 = Value.int x t')
          obtain ⟨x2, u2, rfl⟩ := (by simpa using h1' : ∃ x t', y2 = Value.int x t')
          refine kat_cons (wpAny_eqBool_int (kat_go (fun _ => kat_yes (kat_nil (hC _))) fun _ => kat_no ?_))
          exact kat_one _ _ (PyProof.Rows.lt_int (hC _))
      · exact oneLt_int (hC _)
  refine sorted_any pl.isList (by omega) hcmp fun out hperm => ?_
  obtain ⟨ys, py, ry⟩ := rv.perm hperm
  obtain ⟨e, he⟩ := sortedAll_at s.heap its out
  have hd : H (s.heap.objs.size + 1) = none := I.hok.fresh (Nat.le_succ _)
  refine ⟨.ref (s.heap.objs.size + 1), _, I.laid (t' := s.toks) (o := .lst ys) (fun b o q => sortedAll_old q) (Nat.le_succ _) ⟨by rw [py.length_eq]; exact hz, out.toList, e, ry, by rw [Array.toArray_toList]; exact he⟩, rfl, q _ ys py hd⟩
end
end L2
end
section
set_option autoImplicit false
namespace L2
open PySem PySem.Spec PyProof.Rows
theorem bt_sorted : bootBuiltins "sorted" = some (.builtin "sorted") := by decide +kernel
theorem bt_dict : bootBuiltins "dict" = some (.type "dict") := by decide +kernel
section
variable {X : Cx} {K : PySem.W.Frag}
theorem pi_list_K {tg l : Expr} {tl : TE} (h : X.K = K) (hl : PE X l tl) : PI X tg l (iList K tl) := by subst h; exact pi_list hl
theorem pi_tup_K {tg l : Expr} {tl : TE} (h : X.K = K) (hl : PE X l tl) : PI X tg l (iTup K tl) := by subst h; exact pi_tup hl
theorem call_any_K (h : X.K = K) (hc : X.calm = true) : CallR X (.builtin "any") (fun xs H Q => ∃ (p : Addr) (bs : List Bool), xs = [.ref p] ∧ SqL K H p (bs.map V.bl) ∧ Q (.bl (bs.any id)) H) := by subst h; exact call_any hc
end
end L2
end
section
set_option autoImplicit false
namespace L2
open PySem PyProof.Rows
theorem comp_by {J : It} {n own : Nat} {fr : List Nat} {g : TG} {tc : TT} {te : TE} {σ : St} {Q : VK} {D : Addr} {H0 : Hp} (Pv : Nat → List V → Hp → Prop) (h0 : Pv 0 [] H0) (stop : ∀ ys H, Pv n ys H → J.stop n H ∧ Q (.ref D) H)
    (go : ∀ i ys H, i < n → Pv i ys H → J.go i H ∧ ∀ x H', J.yld i H x H' → ∀ σo : St, σo.length = own → g x (σo ++ frv σ fr) H' fun σ2 H2 => (∃ σo' : St, σo'.length = own ∧ σ2 = σo' ++ frv σ fr) ∧
      tc σ2 H2 fun b H3 => if b = true then te σ2 H3 fun y H4 => ys.length < sizeLine ∧ H4 D = some (.lst ys) ∧ ∃ m', m' < n - i ∧ (m' = n - (i + 1) ∧ i + 1 ≤ n ∧ Pv (i + 1) (ys ++ [y]) (upd H4 D (.lst (ys ++ [y])))) else ∃ m', m' < n - i ∧ (m' = n - (i + 1) ∧ i + 1 ≤ n ∧ Pv (i + 1) ys H3)) :
    CompB own fr g tc te σ Q J D H0 := by
  refine ⟨fun i m ys H => m = n - i ∧ i ≤ n ∧ Pv i ys H, ⟨n, by simp, Nat.zero_le _, h0⟩, ?_⟩
  rintro i m ys H ⟨rfl, hi, p⟩
  by_cases hlt : i < n
  · exact .inr (go i ys H hlt p)
  · have e : i = n := by omega
    subst e
    exact .inl (stop ys H p)
theorem less_by {n i : Nat} (h : i < n) {P : Prop} (p : P) : ∃ m', m' < n - i ∧ (m' = n - (i + 1) ∧ i + 1 ≤ n ∧ P) := ⟨n - (i + 1), by omega, rfl, h, p⟩
theorem own1 {σo : St} (h : σo.length = 1) : ∃ o, σo = [o] := by
  cases σo with
  | nil => cases h
  | cons o r =>
    cases r with
    | nil => exact ⟨o, rfl⟩
    | cons _ _ => cases h
theorem own2 {σo : St} (h : σo.length = 2) : ∃ o o', σo = [o, o'] := by
  cases σo with
  | nil => cases h
  | cons o r =>
    cases r with
    | nil => cases h
    | cons o' r =>
      cases r with
      | nil => exact ⟨o, o', rfl⟩
      | cons _ _ => cases h
theorem nodup_map {α β : Type} {f : α → β} : ∀ {l : List α}, (∀ a ∈ l, ∀ b ∈ l, f a = f b → a = b) → l.Nodup → (l.map f).Nodup
  | [], _, _ => List.nodup_nil
  | a :: r, hi, hn => by
    obtain ⟨h1, h2⟩ := List.nodup_cons.mp hn
    rw [List.map_cons]
    refine List.nodup_cons.mpr ⟨fun m => ?_, nodup_map (fun x hx y hy => hi x (List.mem_cons_of_mem _ hx) y (List.mem_cons_of_mem _ hy)) h2⟩
    obtain ⟨b, hb, e⟩ := List.mem_map.mp m
    exact h1 (hi b (List.mem_cons_of_mem _ hb) a List.mem_cons_self e ▸ hb)
theorem nodup_le {α : Type} [DecidableEq α] : ∀ {l m : List α}, l.Nodup → (∀ x ∈ l, x ∈ m) → l.length ≤ m.length
  | [], _, _, _ => Nat.zero_le _
  | a :: r, m, hn, hs => by
    obtain ⟨h1, h2⟩ := List.nodup_cons.mp hn
    have hm : a ∈ m := hs a List.mem_cons_self
    have := nodup_le (l := r) (m := m.erase a) h2 fun x hx => by
      have ne : x ≠ a := fun e => h1 (e ▸ hx)
      exact (List.mem_erase_of_ne ne).mpr (hs x (List.mem_cons_of_mem _ hx))
    have e := List.length_erase_of_mem hm
    have p : 0 < m.length := List.length_pos_of_mem hm
    rw [List.length_cons]
    omega
theorem hu10 {A : Around} {k : Nat} (hr : Room k A) : A.units + 10 < cLine := by
  have := hr.units
  omega
def Pu (H : Hp) (p : Addr) : Prop := ∃ a b c : Int, H p = some (.lst [.int a, .int b, .int c])
theorem Pu.ne {H : Hp} {p u : Addr} {us : List Str} (h : Pu H p) (g : H u = some (.lst (us.map V.str))) : u ≠ p := by
  obtain ⟨a, b, c, e⟩ := h
  exact (ne_of e g strs_ne).symm
theorem Pu.upd {H : Hp} {p : Addr} {a b c : Int} : Pu (upd H p (.lst [.int a, .int b, .int c])) p := ⟨a, b, c, upd_same⟩
theorem Pu.same {H H' : Hp} {p : Addr} (h : Pu H p) (s : Same H H') : Pu H' p := by
  obtain ⟨a, b, c, e⟩ := h
  exact ⟨a, b, c, s p _ e⟩
theorem Pu.neN {H : Hp} {p q : Addr} (h : Pu H p) (g : H q = none) : p ≠ q := by
  obtain ⟨a, b, c, e⟩ := h
  exact ne_of_none e g
theorem Pu.upd_ne {H : Hp} {p q : Addr} {o : HO} (h : Pu H p) (g : p ≠ q) : Pu (L2.upd H q o) p := by
  obtain ⟨a, b, c, e⟩ := h
  exact ⟨a, b, c, by rw [L2.upd_ne g]; exact e⟩
theorem itePos {c A B : Prop} [Decidable c] (h : c) (a : A) : if c then A else B := by
  rw [if_pos h]
  exact a
theorem iteNeg {c A B : Prop} [Decidable c] (h : ¬ c) (b : B) : if c then A else B := by
  rw [if_neg h]
  exact b
def abc : Str := "abcdefghijklmnopqrstuvwxyz"
def letters : List Str := abc.cps.toList.map fun c => ⟨#[c]⟩
theorem letters_len : letters.length = 26 := by decide +kernel
theorem abc_len : abc.cps.size = 26 := by decide +kernel
theorem letters_one : ∀ x ∈ letters, x.length = 1 := by
  intro x hx
  obtain ⟨c, _, rfl⟩ := List.mem_map.mp hx
  rfl
theorem letters_nodup : letters.Nodup := by decide +kernel
theorem str_app_inj {a b z : Str} (ha : a.length = 1) (hb : b.length = 1) (h : a ++ z = b ++ z) : a = b := by
  obtain ⟨⟨a⟩⟩ := a
  obtain ⟨⟨b⟩⟩ := b
  have h' : (a ++ z.cps.toList) = (b ++ z.cps.toList) := by
    have e : ∀ y : List Nat, ((⟨⟨y⟩⟩ : Str) ++ z).cps.toList = y ++ z.cps.toList := fun y => by
      show ((⟨y⟩ : Array Nat) ++ z.cps).toList = _
      rw [Array.toList_append]
    rw [← e, ← e, h]
  have := List.append_cancel_right h'
  rw [this]
theorem str_len_app (a b : Str) : (a ++ b).length = a.length + b.length := by
  show (a.cps ++ b.cps).size = _
  rw [Array.size_append]
  rfl
theorem some_letter {us : List Str} (h : us.length ≤ 25) (z : Str) : ∃ c ∈ letters, ¬ (c ++ z) ∈ us := by
  apply Classical.byContradiction
  intro hn
  have all : ∀ c ∈ letters, (c ++ z) ∈ us := fun c hc => Classical.byContradiction fun hx => hn ⟨c, hc, hx⟩
  have nd : (letters.map (· ++ z)).Nodup := by
    exact nodup_map (fun a ha b hb e => str_app_inj (letters_one a ha) (letters_one b hb) e) letters_nodup
  have := nodup_le nd fun x hx => by
    obtain ⟨c, hc, rfl⟩ := List.mem_map.mp hx
    exact all c hc
  rw [List.length_map, letters_len] at this
  omega
theorem slice_len (z : Str) (lo hi : Option Int) : (Txt.slice z lo hi).length ≤ z.length := Txt.slice_le z lo hi
theorem for_enum {K : PySem.W.Frag} {a : Addr} {xs : List V} {g : TG} {tb : TS} {D : Ends} {σ : St} {H : Hp} (Pv : Nat → St → Hp → Prop) (h0 : Pv 0 σ H) (hl : ∀ i σ H, i ≤ xs.length → Pv i σ H → SqL K H a xs)
    (hs : ∀ i x σ H p, xs[i]? = some x → Pv i σ H → H p = none → g (.ref p) σ (upd H p (.tup [.int i, x])) fun σ2 H2 => tb { D with nx := Pv (i + 1), ct := Pv (i + 1), bk := D.nx } σ2 H2) (hd : ∀ σ H, Pv xs.length σ H → D.nx σ H) :
    ∃ W : Nat → Nat → St → Hp → Prop, (∃ m, W 0 m σ H) ∧ ∀ i m σ H, W i m σ H →
      ((Ite K a).stop i H ∧ D.nx σ H) ∨ ((Ite K a).go i H ∧ ∃ N : St → Hp → Prop, (∀ σ' H', N σ' H' → ∃ m', m' < m ∧ W (i + 1) m' σ' H') ∧ ∀ x H', (Ite K a).yld i H x H' → g x σ H' fun σ2 H2 => tb { D with nx := N, ct := N, bk := D.nx } σ2 H2) := by
  refine ⟨fun i m σ H => m = xs.length - i ∧ i ≤ xs.length ∧ Pv i σ H, ⟨xs.length, by simp, Nat.zero_le _, h0⟩, ?_⟩
  rintro i m σ H ⟨rfl, hi, p⟩
  have q := hl i σ H hi p
  by_cases hlt : i < xs.length
  · refine .inr ⟨⟨xs, xs[i], q, by simp [hlt]⟩, Pv (i + 1), fun σ' H' p' => ⟨xs.length - (i + 1), by omega, rfl, hlt, p'⟩, fun x H' y => ?_⟩
    obtain ⟨r, hr, rfl, y⟩ := y
    have e := y xs xs[i] q (by simp [hlt])
    subst e
    exact hs i xs[i] σ _ r (by simp [hlt]) p hr
  · have e : i = xs.length := by omega
    subst e
    exact .inl ⟨⟨xs, q, Nat.le_refl _⟩, hd σ H p⟩
end L2
end
section
set_option autoImplicit false
namespace L2
open PySem PySem.Spec PyProof.Rows
section
variable {X : Cx} {K : PySem.W.Frag}
def iSeq (K : PySem.W.Frag) (tl : TE) : TI := fun σ H R => tl σ H fun x H1 => ∃ a, x = .ref a ∧ ((∃ xs, SqT K H1 a xs ∧ R (Itt K a) H1) ∨ ∃ xs, SqL K H1 a xs ∧ R (Itl K a) H1)
theorem pi_seq {tg l : Expr} {tl : TE} (hl : PE X l tl) (hK : X.K = K) : PI X tg l (iSeq K tl) := by
  subst hK
  intro pins s σ H R I h
  refine thn (hl pins s σ H _ I h) fun v s1 ⟨x, H1, I1, r1, a, e, q1⟩ => ?_
  subst e
  cases r1
  rcases q1 with ⟨xs, hq, q⟩ | ⟨xs, hq, q⟩
  · obtain ⟨its, rv, p, hz⟩ := I1.tuple hq
    refine wpAny_pyIter_tuple (show s1.heap.IsTuple a its.toArray from p) ?_
    refine ⟨s1.heap.objs.size, [s1.heap.objs.size], _, _, H1, rfl, I1.kept (t' := s1.toks) fun b o e => Heap.get?_push_of_some _ e, turn_tuple a _, ⟨_, Heap.get?_push_size _ rfl, rfl, rfl⟩, fun b hb => ?_, q⟩
    have e : b = s1.heap.objs.size := by simpa using hb
    subst e
    exact I1.fpOk (Nat.le_refl _) (I1.hok.fresh (Nat.le_refl _))
  · obtain ⟨its, rv, p, hz⟩ := I1.list hq
    refine wpAny_pyIter_list p.isList ?_
    refine ⟨s1.heap.objs.size, [s1.heap.objs.size], _, _, H1, rfl, I1.kept (t' := s1.toks) fun b o e => Heap.get?_push_of_some _ e, turn_list a _, ⟨_, Heap.get?_push_size _ rfl, rfl, rfl⟩, fun b hb => ?_, q⟩
    have e : b = s1.heap.objs.size := by simpa using hb
    subst e
    exact I1.fpOk (Nat.le_refl _) (I1.hok.fresh (Nat.le_refl _))
end
end L2
end
section
set_option autoImplicit false
namespace L2
open PySem PySem.Spec PyProof.Rows
section
variable {X : Cx} {K : PySem.W.Frag}
def SeqAt' (H : Hp) (v : V) (ys : List V) : Prop := ∃ p, v = .ref p ∧ (H p = some (.lst ys) ∨ H p = some (.tup ys))
theorem any_run {pins : List (Addr × Obj)} {σ : St} {H : Hp} {A : Around} {R : Result → Shared → Prop} {it : Addr} {xs : List V} {bs : List Bool} (tn : Nat → Heap → Prop) (hb : bs.length = xs.length)
    (item : ∀ (i : Nat) (hi : i < xs.length) (s : Shared) (Q : Option Value → Shared → Prop) (E : Value → Shared → Prop), Inv X pins σ H s → tn i s.heap → (∀ u h', RelV xs[i] u → Inv X pins σ H { s with heap := h' } → tn (i + 1) h' → Q (some u) { s with heap := h' }) → wpAny (model X.prog X.w) A.in1 (pyNext (.ref it)) Q E s)
    (done : ∀ (s : Shared) (Q : Option Value → Shared → Prop) (E : Value → Shared → Prop), Inv X pins σ H s → tn xs.length s.heap → (∀ h', Inv X pins σ H { s with heap := h' } → Q none { s with heap := h' }) → wpAny (model X.prog X.w) A.in1 (pyNext (.ref it)) Q E s)
    (tru : ∀ (i : Nat) (hi : i < xs.length) (hj : i < bs.length), ∃ ys, SeqAt' H xs[i] ys ∧ bs[i] = !ys.isEmpty)
    (hR : ∀ s', Inv X pins σ H s' → R (.ok (.ret (.bool (bs.any id)))) s') :
    ∀ (k i : Nat) (s : Shared), xs.length - i = k → i ≤ xs.length → (∀ (j : Nat) (hj : j < bs.length), j < i → bs[j] = false) → Inv X pins σ H s → tn i s.heap → codeAny (model X.prog X.w) A (.builtin "any.loop" ⟨[.ref it], []⟩) R s := by
  intro k
  induction k with
  | zero =>
    intro i s hk hi hf I ht
    have hin : i = xs.length := by omega
    subst hin
    refine codeAny_builtin F.entry_any_loop ?_
    rw [Around.under_plainId F.plain_any_loop _]
    show wpAny _ A.in1 (pyNext (.ref it) >>= _) _ _ s
    refine wpAny_bind (done s _ _ I ht fun h' I' => ?_)
    refine wpAny_bind (wpAny_rule (wpAny_pure ?_))
    have e : bs.any id = false := by
      apply Bool.eq_false_iff.mpr
      intro h
      obtain ⟨b, hb', hb1⟩ := List.any_eq_true.mp h
      obtain ⟨j, hj, rfl⟩ := List.getElem_of_mem hb'
      rw [hf j hj (by omega)] at hb1
      cases hb1
    have := hR _ I'
    rw [e] at this
    exact this
  | succ k ih =>
    intro i s hk hi hf I ht
    have hlt : i < xs.length := by omega
    have hlb : i < bs.length := by omega
    refine codeAny_builtin F.entry_any_loop ?_
    rw [Around.under_plainId F.plain_any_loop _]
    show wpAny _ A.in1 (pyNext (.ref it) >>= _) _ _ s
    refine wpAny_bind (item i hlt s _ _ I ht fun u h' ru I' ht' => ?_)
    obtain ⟨ys, ⟨p, ep, hp⟩, eb⟩ := tru i hlt hlb
    rw [ep] at ru
    cases ru
    have hs : sizeLine = 16777216 := sizeLine_eq
    have hl63 := line63
    have step : ∀ (s2 : Shared), Inv X pins σ H s2 → s2.heap = h' → wpAny (model X.prog X.w) A.in1 (do
        letGo [Value.ref p]
        if bs[i] = true then do rule "any.true-item"; ret (.bool true) else again (.builtin "any.loop" ⟨[.ref it], []⟩)) (fun fin s' => (match fin with | .done f => R (.ok f) s' | .again c => Code.quiet c ∧ codeAny (model X.prog X.w) A c R s')) (fun e s' => R (.error e) s') s2 := fun s2 I2 e2 => by
      refine wpAny_bind (wpAny_letGo ?_)
      cases hbi : bs[i] with
      | true =>
        simp only [if_true]
        refine wpAny_bind (wpAny_rule (wpAny_pure ?_))
        have e : bs.any id = true := List.any_eq_true.mpr ⟨bs[i], List.getElem_mem hlb, hbi⟩
        have := hR _ I2
        rw [e] at this
        exact this
      | false =>
        simp only [Bool.false_eq_true, if_false]
        refine wpAny_pure ⟨plainId_quiet F.plain_any_loop _, ih (i + 1) _ (by omega) hlt (fun j hj hji => ?_) I2 (by rw [e2]; exact ht')⟩
        by_cases hji' : j = i
        · subst hji'
          exact hbi
        · exact hf j hj (by omega)
    rcases hp with hp | hp
    · obtain ⟨its, r, pl, hz⟩ := I'.list (SqL.of hp)
      have hlen := r.length
      refine wpAny_bind (wpAny_holding (wpAny_truthy_list pl.isList (by simp only [List.size_toArray]; omega) ?_))
      rw [isEmpty_of r, ← eb]
      exact step _ (I'.tok _) rfl
    · obtain ⟨its, r, pl, hz⟩ := I'.tuple (SqT.of hp)
      have hlen := r.length
      refine wpAny_bind (wpAny_holding (truthy_tuple pl (by simp only [List.size_toArray]; omega) ?_))
      rw [isEmpty_of r, ← eb]
      exact step _ (I'.tok _) rfl
end
end L2
end
section
set_option autoImplicit false
namespace L2
open PySem PySem.Spec PyProof.Rows
section
variable {X : Cx} {K : PySem.W.Frag}
theorem call_anyS (hc : X.calm = true) : CallR X (.builtin "any") (fun vs H Q => ∃ (p : Addr) (xs : List V) (bs : List Bool), vs = [.ref p] ∧ (H p = some (.lst xs) ∨ H p = some (.tup xs)) ∧ bs.length = xs.length ∧
    (∀ (i : Nat) (hi : i < xs.length) (hj : i < bs.length), ∃ ys, SeqAt' H xs[i] ys ∧ bs[i] = !ys.isEmpty) ∧ Q (.bl (bs.any id)) H) := by
  intro pins s σ H xs us Q I r h
  obtain ⟨p, xs, bs, rfl, hp, hb, tru, q⟩ := h
  obtain ⟨u, rfl, ru⟩ := vals1 r
  cases ru
  have hh : X.A.handled = none := I.ok.hd hc
  refine call_function_tree F.kind_any F.plain_any F.entry_any (F.args_any1 _) ?_
  unfold Builtin.«any»
  refine wpAny_bind (m := oneArg "any" _) (wpAny_pure ?_)
  rcases hp with hp | hp
  · obtain ⟨its, rv, pl, hz⟩ := I.list (SqL.of hp)
    have hl := rv.length
    refine wpAny_bind (wpAny_pyIter_list pl.isList ?_)
    have I1 := I.kept (t' := s.toks) (h' := s.heap.push { cls := .type "list_iterator", data := .fields #[.ref p, .int 0 0] }) fun b o e => Heap.get?_push_of_some _ e
    have fp := I.fpOk (Nat.le_refl _) (I.hok.fresh (Nat.le_refl s.heap.objs.size))
    obtain ⟨f0, f1, f2, f3, f4, f5⟩ := fp
    refine wpAny_pure ⟨plainId_quiet F.plain_any_loop _, any_run (X := X) (pins := pins) (σ := σ) (H := H) (A := X.A) (it := s.heap.objs.size) (xs := xs) (bs := bs) (fun i h => h.IsListIter s.heap.objs.size p i) hb ?_ ?_ tru (fun s' I' => ?_) xs.length 0 _ (by simp) (Nat.zero_le _) (by intro j hj h; omega) I1 ⟨_, Heap.get?_push_size _ rfl, rfl, rfl⟩⟩
    · intro i hi s2 Q2 E2 I2 t2 k
      obtain ⟨its2, rv2, pl2, _⟩ := I2.list (SqL.of hp)
      obtain ⟨u, hu, ru⟩ := rv2.get (i := i) (x := xs[i]) (List.getElem?_eq_getElem hi)
      exact wpAny_pyNext_list_item t2 pl2.isList (x := u) (by simpa using hu) fun h' st' sb => k u h' ru (I2.turned (t' := s2.toks) (fun b o hb e => (sb.2 b hb).trans e) f0 f1 f3 f4 f5) st'
    · intro s2 Q2 E2 I2 t2 k
      obtain ⟨its2, rv2, pl2, _⟩ := I2.list (SqL.of hp)
      have hl2 := rv2.length
      exact wpAny_pyNext_list_end hh t2 pl2.isList (by simp; omega) fun h' eb => k h' (I2.turned (t' := s2.toks) (fun b o hb e => eb b o hb e) f0 f1 f3 f4 f5)
    · exact ⟨.bl _, H, I', rfl, q⟩
  · obtain ⟨its, rv, pl, hz⟩ := I.tuple (SqT.of hp)
    have hl := rv.length
    refine wpAny_bind (wpAny_pyIter_tuple (show s.heap.IsTuple p its.toArray from pl) ?_)
    have I1 := I.kept (t' := s.toks) (h' := s.heap.push { cls := .type "tuple_iterator", data := .fields #[.ref p, .int 0 0] }) fun b o e => Heap.get?_push_of_some _ e
    have fp := I.fpOk (Nat.le_refl _) (I.hok.fresh (Nat.le_refl s.heap.objs.size))
    obtain ⟨f0, f1, f2, f3, f4, f5⟩ := fp
    refine wpAny_pure ⟨plainId_quiet F.plain_any_loop _, any_run (X := X) (pins := pins) (σ := σ) (H := H) (A := X.A) (it := s.heap.objs.size) (xs := xs) (bs := bs) (fun i h => h.IsTupleIter s.heap.objs.size p i) hb ?_ ?_ tru (fun s' I' => ?_) xs.length 0 _ (by simp) (Nat.zero_le _) (by intro j hj h; omega) I1 ⟨_, Heap.get?_push_size _ rfl, rfl, rfl⟩⟩
    · intro i hi s2 Q2 E2 I2 t2 k
      obtain ⟨its2, rv2, pl2, _⟩ := I2.tuple (SqT.of hp)
      obtain ⟨u, hu, ru⟩ := rv2.get (i := i) (x := xs[i]) (List.getElem?_eq_getElem hi)
      exact wpAny_pyNext_tuple_item t2 (show s2.heap.IsTuple p its2.toArray from pl2) (x := u) (by simpa using hu) fun h' st' sb => k u h' ru (I2.turned (t' := s2.toks) (fun b o hb e => sb.extBut b o hb e) f0 f1 f3 f4 f5) st'
    · intro s2 Q2 E2 I2 t2 k
      obtain ⟨its2, rv2, pl2, _⟩ := I2.tuple (SqT.of hp)
      have hl2 := rv2.length
      exact wpAny_pyNext_tuple_end hh t2 (show s2.heap.IsTuple p its2.toArray from pl2) (by simp; omega) fun h' eb => k h' (I2.turned (t' := s2.toks) (fun b o hb e => eb b o hb e) f0 f1 f3 f4 f5)
    · exact ⟨.bl _, H, I', rfl, q⟩
theorem pt_truth_K {a : Expr} {ta : TE} (hK : X.K = K) (ha : PE X a ta) (he : ∀ whole, isTrue a X.env whole = (do let v ← whole; standAt a.pos; holding [v] (truthy v))) :
    PT X a (fun σ H Q => ta σ H fun x H' => ∃ k, TruV K x H' k ∧ Q k H') := by subst hK; exact pt_truth ha he
theorem sl_seqK (hK : X.K = K) : SlR X (fun x lo hi H Q => rSlT K x lo hi H Q ∨ rSlL K x lo hi H Q) := by subst hK; exact sl_tup.or sl_list
theorem ix_seqK (hK : X.K = K) : IxR X (fun x y H Q => rIxT K x y H Q ∨ rIxL K x y H Q) := by subst hK; exact ix_tup.or ix_list
end
end L2
end
section
set_option autoImplicit false
namespace L2
open PySem PySem.Spec PyProof.Rows PySem.W
section
variable {prog : Program} {w : World} {A : Around} {E : Value → Shared → Prop} {s : Shared} {T : String} {r d : Addr} {n : Nat} {P : Nat → Value → Prop} {OK : Heap → Prop}
theorem collect_src {Q : List Value → Shared → Prop} (K : KdlSrc prog w T r d n P OK) (hh : A.handled = none) (hok : OK s.heap) (hn : n ≤ sizeLine)
    (hQ : ∀ (h' : Heap) (tk : Nat) (acc : Array Value), (∀ b o, s.heap.get? b = some o → h'.get? b = some o) → ItemsOf P acc n → Q acc.toList { s with heap := h', toks := tk }) : wpAny (model prog w) A (collect (.ref r)) Q E s := by
  obtain ⟨l1, l2⟩ := K.there _ hok
  unfold collect
  refine wpAny_bind (wpAny_runValue (codeAny_builtin F.entry_proto_collect ?_))
  rw [Around.under_plainId F.plain_proto_collect _]
  show wpAny _ A.in1 (newList [] >>= fun l => again (.builtin "list.__iadd__" ⟨[l, .ref r], []⟩)) _ _ s
  refine wpAny_bind (wpAny_newObj_type ?_)
  refine wpAny_pure ⟨plainId_quiet F.plain_list_iadd _, codeAny_builtin F.entry_list_iadd ?_⟩
  rw [Around.under_plainId F.plain_list_iadd _]
  show wpAny _ A.in1 (Builtin.List.listExtendWith (.ref s.heap.objs.size) (.ref r) (.ref s.heap.objs.size)) _ _ _
  have fin' : ∀ s' : Shared, (∃ (h' : Heap) (tk : Nat) (acc : Array Value) (c : Nat), s' = { s with heap := h', toks := tk } ∧ (∀ b o, s.heap.get? b = some o → h'.get? b = some o) ∧ h'.get? s.heap.objs.size = some { cls := .type "list", dict := none, data := .seq acc c, slots := #[] } ∧ ItemsOf P acc n) →
      wpAny (model prog w) A (do
        let o ← load s.heap.objs.size
        match o.data with
        | .seq xs _ => pure xs.toList
        | _ => unsupported "internal:collect") Q E s' := by
    rintro s' ⟨h', tk, acc, c, rfl, kp, hS, hacc⟩
    exact wpAny_bind (wpAny_load hS (wpAny_pure (hQ h' tk acc kp hacc)))
  refine wpAny_mono (kdl_extend (s := { s with heap := s.heap.push { cls := .type "list", data := .seq ([] : List Value).toArray } }) (A := A)
    (R := fun r' s' => r' = .ok (.ret (.ref s.heap.objs.size)) ∧ ∃ (h' : Heap) (tk : Nat) (acc : Array Value) (c : Nat), s' = { s with heap := h', toks := tk } ∧ (∀ b o, s.heap.get? b = some o → h'.get? b = some o) ∧ h'.get? s.heap.objs.size = some { cls := .type "list", dict := none, data := .seq acc c, slots := #[] } ∧ ItemsOf P acc n)
    K hh (K.keep _ _ hok fun b _ o e => Heap.get?_push_of_some _ e) s.heap.objs.size (Nat.ne_of_gt l1) (Nat.ne_of_gt l2) _ 0 (Heap.get?_push_size _ rfl)
    (fun h' tk acc c kp hS hacc => ⟨rfl, h', tk, acc, c, rfl, fun b o e => kp b o (Nat.ne_of_lt (Heap.lt_size e)) (Heap.get?_push_of_some _ e), hS, hacc⟩) hn) (fun fin s' h => ?_) (fun e s' h => ?_)
  · cases fin with
    | done f =>
      obtain ⟨e, h⟩ := h
      cases e
      exact fin' s' h
    | again c' => exact ⟨h.1, codeAny_mono h.2 fun r s'' hr => by obtain ⟨rfl, hr⟩ := hr; exact fin' s'' hr⟩
  · exact absurd h.1 (by simp)
theorem call_tuple_src {Q : Value → Shared → Prop} (K : KdlSrc prog w "dict" r d n P OK) (hh : A.handled = none) (hok : OK s.heap) (hn : n ≤ sizeLine)
    (hQ : ∀ (h' : Heap) (tk : Nat) (acc : Array Value), (∀ b o, s.heap.get? b = some o → h'.get? b = some o) → ItemsOf P acc n → Q (.ref h'.objs.size) { s with heap := h'.push { cls := .type "tuple", data := .seq acc }, toks := tk }) :
    wpAny (model prog w) A (call (.type "tuple") [.ref r]) Q E s := by
  refine callType_codes (Q₁ := fun obj s₁ => s₁.TypeIs obj "tuple" ∧ Q obj s₁) F.called_tuple (F.typeCall_tuple_1 _) F.entry_object_init (codeAny_call_builtin (by decide +kernel) F.entry_tuple_new (wpAny_of_eq (F.newCall_tuple_1 _) ?_)) fun obj s₁ h₁ => ?_
  · have hT : ∀ tk', ({ s with toks := tk' } : Shared).TypeIs (.ref r) "dict" := fun tk' => K.type _ hok
    obtain ⟨hp, g, dd, tk, os⟩ := s
    have hsub := sub_tuple_self
    have hinit := init_tuple_lookup
    have hmh := madeHere_tuple
    have hT0 : Shared.TypeIs ⟨hp, g, dd, tk, os⟩ (.ref r) "dict" := hT tk
    wp_walk using wpAny_typeOf hT0, collect_src (A := A.in1.in1) K hh hok hn
    intro h' tk' acc kp hacc
    show wpAny _ _ (Builtin.Tuple.tupleExact acc.toList.toArray >>= fun v => ret v) _ _ _
    unfold Builtin.Tuple.tupleExact
    refine wpAny_bind (wpAny_newObj_type ?_ (by show acc.toList.toArray.size ≤ sizeLine; simp; rw [hacc.1]; exact hn))
    have e : acc.toList.toArray = acc := by simp
    rw [e]
    refine wpAny_pure ⟨⟨_, Heap.get?_push_size _ rfl, rfl⟩, hQ h' tk' acc kp hacc⟩
  · exact ⟨h₁.1, F.args_object_init_2 _ _, object_init_meets F.called_tuple.init.lookup F.called_tuple.made (by decide) prog w A.in1 _ s₁ ⟨h₁.1, rfl, h₁.2⟩⟩
end
end L2
end
section
set_option autoImplicit false
namespace L2
open PySem PySem.Spec PyProof.Rows
section
variable {X : Cx}
theorem vals_keys {X : Cx} : ∀ (ks : List (Key × V)) (ws : List (Key × Value)) (us : List Value), KV ks ws → us.length = ws.length → (∀ (j : Nat) (v : Value), us[j]? = some v → ∃ k x, ws[j]? = some (k, x) ∧ (mixKind X.prog X.w).is k v = true) → Vals (ks.map fun kv => kV kv.1) us := by
  intro ks ws us rr
  induction rr generalizing us with
  | nil =>
    intro hl _
    cases us with
    | nil => exact .nil
    | cons _ _ => cases hl
  | @cons p w' ks ws r t ih =>
    intro hl hi
    cases us with
    | nil => cases hl
    | cons u us =>
      obtain ⟨k, x, e1, e2⟩ := hi 0 u rfl
      cases e1
      exact .cons (by show RelV (kV p.1) u; rw [r.1]; exact relV_key e2) (ih us (by simpa using hl) fun j v e => hi (j + 1) v e)
theorem call_tupleD (hc : X.calm = true) : CallR X (.type "tuple") (fun xs H Q => ∃ d kvs, xs = [.ref d] ∧ Rd H d (.dK kvs) ∧ ∀ l, H l = none → Q (.ref l) (upd H l (.tup (kvs.map fun kv => kV kv.1)))) := by
  intro pins s σ H xs us Q I r h
  obtain ⟨d, kvs, rfl, hd, q⟩ := h
  obtain ⟨u, rfl, ru⟩ := vals1 r
  cases ru
  have hh : X.A.handled = none := I.ok.hd hc
  obtain ⟨hz, hs, vs, rv, od, es, ep, ho, r1, r2, r3⟩ := (show ObjOk X.prog X.w H s.heap d (.dK kvs) from hd.ok I.hok)
  have hl : vs.length = kvs.length := (Paired.length rv).symm
  refine call_tuple_src (PySem.W.kdl_dict (knd := mixKind X.prog X.w) (kvs := vs) (ep := ep) hs) hh ⟨_, _, ho, r1, r2, r3⟩ (by omega) fun h' tk acc kp it => ?_
  obtain ⟨i1, i2⟩ := it
  have rk := vals_keys (X := X) kvs vs acc.toList rv (by rw [Array.length_toList]; exact i1) fun j v e => i2 j v (by simpa using e)
  have I1 : Inv X pins σ H { s with heap := h', toks := tk } := I.kept (t' := tk) kp
  have I2 : Inv X pins σ (upd H h'.objs.size (.tup (kvs.map fun kv => kV kv.1))) { s with heap := h'.push { cls := .type "tuple", data := .seq acc }, toks := tk } :=
    I1.laid (t' := tk) (fun b o e => Heap.get?_push_of_some _ e) (Nat.le_refl _) (show ObjOk X.prog X.w _ _ _ (.tup (kvs.map fun kv => kV kv.1)) from ⟨⟨by rw [List.length_map]; exact hz, nod_push _ _⟩, acc.toList, rk, by rw [Array.toArray_toList]; exact IsTup.new _ _⟩)
  exact ⟨.ref h'.objs.size, _, I2, rfl, q _ (I1.hok.fresh (Nat.le_refl _))⟩
end
section
variable {prog : Program} {w : World} {A : Around} {E : Value → Shared → Prop} {s : Shared}
theorem enumT_new (l : Addr) (items : Array Value) (n : Nat) (dct : Option Addr) (sl : Array (Option Value)) :
    Meets (Builtin.«enumerate.__new__» ⟨[.type "enumerate", .ref l], []⟩) (fun _ R s => s.heap.get? l = some { cls := .type "tuple", dict := dct, data := .seq items n, slots := sl } ∧
      R (.ok (.ret (.ref (s.heap.push { cls := .type "tuple_iterator", data := .fields #[.ref l, .int 0 0] }).objs.size)))
        { s with heap := (s.heap.push { cls := .type "tuple_iterator", data := .fields #[.ref l, .int 0 0] }).push { cls := .type "enumerate", data := .fields #[.none, .bool false, .ref s.heap.objs.size, rawInt 0, .none, .none] } }) :=
  .of_wp fun prog w A R s h => by
    obtain ⟨hp, g, d, tk, os⟩ := s
    obtain ⟨hl, h⟩ := h
    have hsub := sub_enumerate
    have hL : Heap.IsTuple (Shared.heap ⟨hp, g, d, tk, os⟩) l items := ⟨_, hl, rfl, n, rfl⟩
    wp_walk using AutoSeq1.wpAny_loadPart' hl
    refine wpAny_stack_any fun st => wpAny_pure ?_
    split
    · rename_i c _ _ _ _ _
      cases (c == Value.type "enumerate")
      · wp_walk using AutoSeq1.wpAny_loadPart' hl, wpAny_pyIter_tuple hL
        exact ⟨_, rfl, h⟩
      · wp_walk using AutoSeq1.wpAny_loadPart' hl, wpAny_pyIter_tuple hL
        exact ⟨_, rfl, h⟩
    · wp_walk using AutoSeq1.wpAny_loadPart' hl, wpAny_pyIter_tuple hL
      exact ⟨_, rfl, h⟩
theorem call_enumT {l : Addr} {items : Array Value} {Q : Value → Shared → Prop} (hL : s.heap.IsTuple l items)
    (h : ∀ h', IsEnum h' (s.heap.objs.size + 1) s.heap.objs.size 0 .none → h'.IsTupleIter s.heap.objs.size l 0 → (∀ b o, s.heap.get? b = some o → h'.get? b = some o) → Q (.ref (s.heap.objs.size + 1)) { s with heap := h' }) :
    wpAny (model prog w) A (call (.type "enumerate") [.ref l]) Q E s := by
  obtain ⟨⟨c, dct, dt, sl⟩, hl, hc, n, hd⟩ := hL
  have hc : c = .type "tuple" := hc
  have hd : dt = .seq items n := hd
  subst hc hd
  refine callType_new F.called_enumerate (by decide) (F.typeCall_enumerate_1 _) (F.newCall_enumerate_1 _) (fun obj => F.args_object_init_2 obj _) F.entry_enumerate_new (enumT_new l items n dct sl) ⟨hl, ?_⟩
  have hz : (s.heap.push { cls := .type "tuple_iterator", data := .fields #[.ref l, .int 0 0] }).objs.size = s.heap.objs.size + 1 := Heap.size_push ..
  show _ ∧ _
  rw [hz]
  have he : IsEnum ((s.heap.push { cls := .type "tuple_iterator", data := .fields #[.ref l, .int 0 0] }).push { cls := .type "enumerate", data := .fields #[.none, .bool false, .ref s.heap.objs.size, rawInt 0, .none, .none] }) (s.heap.objs.size + 1) s.heap.objs.size 0 .none := by
    rw [← hz]
    exact Heap.get?_push_size _ rfl
  exact ⟨⟨_, he, rfl⟩, h _ he ⟨_, Heap.get?_push_of_some _ (Heap.get?_push_size _ rfl), rfl, rfl⟩ fun b o e => Heap.get?_push_of_some _ (Heap.get?_push_of_some _ e)⟩
end
end L2
end
section
set_option autoImplicit false
namespace L2
open PySem PySem.Spec PyProof.Rows
section
variable {prog : Program} {w : World} {A : Around} {E : Value → Shared → Prop} {s : Shared}
theorem enumT_item {e it l : Addr} {i : Nat} {c : Int} {items : Array Value} {x old : Value} {Q : Value → Shared → Prop} (he : IsEnum s.heap e it c old) (hit : s.heap.IsTupleIter it l i) (hl : s.heap.IsTuple l items) (hx : items[i]? = some x) (hne : e ≠ it)
    (hQ : ∀ h', IsEnumOut h' e it (c + 1) x s.heap.objs.size → h'.IsTupleIter it l (i + 1) → h'.get? s.heap.objs.size = some { cls := .type "tuple", data := .seq #[.int c s.toks, x] } →
      (∀ b o, b ≠ e → b ≠ it → s.heap.get? b = some o → h'.get? b = some o) → Q (.ref s.heap.objs.size) { s with heap := h', toks := s.toks + 1 }) :
    wpAny (model prog w) A (Builtin.«enumerate.__next__» ⟨[.ref e], []⟩) (fun fin s' => ∃ v, fin = .done (.ret v) ∧ Q v s') E s := by
  obtain ⟨hp, g, d, tk, os⟩ := s
  have elt : e < hp.objs.size := Heap.lt_size he
  show wpAny _ _ (field (.ref e) 2 >>= _) _ _ _
  refine wpAny_bind (wpAny_field he rfl (x := .ref it) rfl ?_)
  refine wpAny_bind (nextT_item hit hl hx fun h1 t1 b1 => ?_)
  have e1 : IsEnum h1 e it c old := (b1.2 e hne).trans he
  show wpAny _ _ (field (.ref e) 3 >>= _) _ _ ⟨h1, g, d, tk, os⟩
  refine wpAny_bind (wpAny_field e1 rfl (x := rawInt c) rfl ?_)
  show wpAny _ _ (field (.ref e) 4 >>= _) _ _ ⟨h1, g, d, tk, os⟩
  refine wpAny_bind (wpAny_field e1 rfl (x := .none) rfl ?_)
  show wpAny _ _ (mkInt c >>= _) _ _ ⟨h1, g, d, tk, os⟩
  refine wpAny_bind (wpAny_mkInt ?_)
  show wpAny _ _ (setField (.ref e) 3 (rawInt (c + 1)) >>= _) _ _ ⟨h1, g, d, tk + 1, os⟩
  refine wpAny_bind (wpAny_setField_rec e1 (by simp) fun h2 e2 b2 => ?_)
  replace e2 : IsEnum h2 e it (c + 1) old := e2
  show wpAny _ _ (setField (.ref e) 4 .none >>= _) _ _ ⟨h2, g, d, tk + 1, os⟩
  refine wpAny_bind (wpAny_setField_rec e2 (by simp) fun h3 e3 b3 => ?_)
  replace e3 : IsEnum h3 e it (c + 1) old := e3
  show wpAny _ _ (newTuple [.int c tk, x] >>= _) _ _ ⟨h3, g, d, tk + 1, os⟩
  refine wpAny_bind (wpAny_newTuple ?_)
  have hsz : h3.objs.size = hp.objs.size := b3.1.trans (b2.1.trans b1.1)
  have e4 : IsEnum (h3.push { cls := .type "tuple", data := .seq #[.int c tk, x] }) e it (c + 1) old := Heap.get?_push_of_some _ e3
  have g4 : (h3.push { cls := .type "tuple", data := .seq #[.int c tk, x] }).get? hp.objs.size = some { cls := .type "tuple", data := .seq #[.int c tk, x] } := by
    rw [← hsz]
    exact Heap.get?_push_size _ rfl
  have k4 : ∀ b o, b ≠ e → b ≠ it → hp.get? b = some o → (h3.push { cls := .type "tuple", data := .seq #[.int c tk, x] }).get? b = some o := fun b o c1 c2 z =>
    Heap.get?_push_of_some _ (b3.extBut b o c1 (b2.extBut b o c1 (b1.extBut b o c2 z)))
  have t4 : (h3.push { cls := .type "tuple", data := .seq #[.int c tk, x] }).IsTupleIter it l (i + 1) := by
    obtain ⟨o, ho, r⟩ := (t1.extBut b2.extBut (Ne.symm hne)).extBut b3.extBut (Ne.symm hne)
    exact ⟨o, Heap.get?_push_of_some _ ho, r⟩
  have gt : hp.objs.size ≠ e := Nat.ne_of_gt elt
  show wpAny _ _ (Builtin.SmallTypes.ownedTupleIsFree (.ref e) >>= _) _ _ ⟨h3.push { cls := .type "tuple", data := .seq #[.int c tk, x] }, g, d, tk + 1, os⟩
  rw [hsz]
  generalize h3.push { cls := .type "tuple", data := .seq #[.int c tk, x] } = h4 at e4 g4 k4 t4
  refine wpAny_bind ?_
  unfold Builtin.SmallTypes.ownedTupleIsFree
  refine wpAny_bind (wpAny_field e4 rfl (x := .none) rfl (wpAny_pure ?_))
  simp only [if_true]
  refine wpAny_bind (wpAny_rule ?_)
  refine wpAny_bind (wpAny_field e4 rfl (x := old) rfl ?_)
  refine wpAny_bind (wpAny_setField_rec e4 (by simp) fun h5 e5 b5 => ?_)
  replace e5 : IsEnum h5 e it (c + 1) x := e5
  show wpAny _ _ (Builtin.SmallTypes.ownedTupleHandOut (.ref e) (.ref hp.objs.size) >>= _) _ _ ⟨h5, g, d, tk + 1, os⟩
  refine wpAny_bind ?_
  unfold Builtin.SmallTypes.ownedTupleHandOut
  refine wpAny_bind (wpAny_setField_rec e5 (by simp) fun h6 e6 b6 => ?_)
  replace e6 : IsEnumOut h6 e it (c + 1) x hp.objs.size := e6
  refine wpAny_setField_rec e6 (by simp) fun h7 e7 b7 => ?_
  replace e7 : IsEnumOut h7 e it (c + 1) x hp.objs.size := e7
  refine wpAny_bind (wpAny_letGo (wpAny_pure ⟨_, rfl, hQ h7 e7 ?_ ?_ ?_⟩))
  · exact ((t4.extBut b5.extBut (Ne.symm hne)).extBut b6.extBut (Ne.symm hne)).extBut b7.extBut (Ne.symm hne)
  · exact b7.extBut _ _ gt (b6.extBut _ _ gt (b5.extBut _ _ gt g4))
  · exact fun b o c1 c2 z => b7.extBut b o c1 (b6.extBut b o c1 (b5.extBut b o c1 (k4 b o c1 c2 z)))
theorem nextE_item {e it l : Addr} {i : Nat} {c : Int} {items : Array Value} {x old : Value} {Q : Option Value → Shared → Prop} (he : IsEnum s.heap e it c old) (hit : s.heap.IsTupleIter it l i) (hl : s.heap.IsTuple l items) (hx : items[i]? = some x) (hne : e ≠ it)
    (hQ : ∀ h', IsEnumOut h' e it (c + 1) x s.heap.objs.size → h'.IsTupleIter it l (i + 1) → h'.get? s.heap.objs.size = some { cls := .type "tuple", data := .seq #[.int c s.toks, x] } →
      (∀ b o, b ≠ e → b ≠ it → s.heap.get? b = some o → h'.get? b = some o) → Q (some (.ref s.heap.objs.size)) { s with heap := h', toks := s.toks + 1 }) :
    wpAny (model prog w) A (pyNext (.ref e)) Q E s := by
  have hT : s.TypeIs (.ref e) "enumerate" := ⟨_, he, rfl⟩
  unfold pyNext
  exact wpAny_bind (wpAny_attempt (wpAny_callSpecial?_slot (name := Str.ofString "__next__") hT F.slot_enumerate_next (wpAny_call_entry F.slot_enumerate_next hT F.entry_enumerate_next (enumT_item he hit hl hx hne fun h' a b c k => wpAny_pure (hQ h' a b c k)) (F.args_enumerate_next_1 _))))
theorem nextE_end {e it l : Addr} {i : Nat} {c : Int} {items : Array Value} {old : Value} {Q : Option Value → Shared → Prop} (hh : A.handled = none) (he : IsEnum s.heap e it c old) (hit : s.heap.IsTupleIter it l i) (hl : s.heap.IsTuple l items) (hx : items[i]? = none)
    (hQ : ∀ h', Heap.ExtBut it s.heap h' → Q none { s with heap := h' }) : wpAny (model prog w) A (pyNext (.ref e)) Q E s := by
  have hT : s.TypeIs (.ref e) "enumerate" := ⟨_, he, rfl⟩
  unfold pyNext
  refine wpAny_bind (wpAny_attempt (wpAny_callSpecial?_slot (name := Str.ofString "__next__") hT F.slot_enumerate_next (wpAny_call_entry F.slot_enumerate_next hT F.entry_enumerate_next ?_ (F.args_enumerate_next_1 _))))
  show wpAny _ _ (field (.ref e) 2 >>= _) _ _ _
  refine wpAny_bind (wpAny_field he rfl (x := .ref it) rfl ?_)
  refine wpAny_bind (nextT_end hh hit hl hx fun h' x' k' hx' => ?_)
  obtain ⟨o, ho, hc⟩ := hx'
  exact wpAny_bind (wpAny_isInstance (T := "StopIteration") (b := true) ⟨o, ho, hc⟩ isSubtype_stop (wpAny_pure (hQ _ k')))
end
end L2
end
section
set_option autoImplicit false
namespace L2
open PySem PySem.Spec PyProof.Rows
def IteT (K : PySem.W.Frag) (a : Addr) : It :=
  ⟨fun i H => ∃ xs x, SqT K H a xs ∧ xs[i]? = some x, fun i H v H' => ∃ p, H p = none ∧ v = .ref p ∧ ∀ xs x, SqT K H a xs → xs[i]? = some x → H' = upd H p (.tup [.int i, x]), fun i H => ∃ xs, SqT K H a xs ∧ xs.length ≤ i⟩
theorem turn_enumT {P : Program} {w : World} {K : PySem.W.Frag} {elts : List Expr} {x1 : Nat} {tpos : Pos} {e it l : Addr} (hne : e ≠ it) : Turn P w K (.Tuple elts x1 tpos) (IteT K l) [e, it] e
    (fun i h => (∃ old, IsEnum h e it i old) ∧ h.IsTupleIter it l i) where
  mem := by simp
  obj := fun i h st b hb => by
    obtain ⟨⟨old, he⟩, o, ei, c, d⟩ := st
    simp only [List.mem_cons, List.not_mem_nil, or_false] at hb
    rcases hb with rfl | rfl
    · exact ⟨_, he, fun v q => nomatch q⟩
    · exact ⟨o, ei, fun v z => by rw [d] at z; cases z⟩
  keep := fun i h h' st k => by
    obtain ⟨⟨old, he⟩, o, ei, r⟩ := st
    exact ⟨⟨old, k e (by simp) _ he⟩, o, k it (by simp) _ ei, r⟩
  item := by
    intro X hP hw hK hc i pins s σ H E I hf st hg
    subst hP hw hK
    obtain ⟨xs, x, hq, hx⟩ := hg
    obtain ⟨its, rv, p, hz⟩ := I.tuple hq
    obtain ⟨u, hu, ru⟩ := rv.get hx
    obtain ⟨⟨old, he⟩, hit⟩ := st
    refine nextE_item he hit (show s.heap.IsTuple l its.toArray from p) (x := u) (by simpa using hu) hne fun h' a1 a2 a3 a5 => ?_
    refine ⟨_, rfl, wpAny_letOwnedTupleGo_enum a1 fun h2' a1' q' => ?_⟩
    have hn : H s.heap.objs.size = none := I.hok.fresh (Nat.le_refl _)
    have elt : e < s.heap.objs.size := Heap.lt_size he
    have ilt : it < s.heap.objs.size := by obtain ⟨_, e, _⟩ := hit; exact Heap.lt_size e
    have kk : ∀ b ob, b ∉ [e, it] → s.heap.get? b = some ob → h2'.get? b = some ob := fun b ob hb ee => by
      simp only [List.mem_cons, List.not_mem_nil, or_false, not_or] at hb
      exact q'.extBut _ _ hb.1 (a5 b ob hb.1 hb.2 ee)
    have I1 : Inv X pins σ (upd H s.heap.objs.size (.tup [.int i, x])) { s with heap := h2', toks := s.toks + 1 } := I.turnLaid (t' := s.toks + 1) hf kk (Nat.le_refl _)
      ⟨⟨by show 2 ≤ sizeLine; decide, fun o ee => by rw [q'.extBut _ _ (Nat.ne_of_gt elt) a3] at ee; cases ee; rfl⟩, [.int i s.toks, u], .cons ⟨_, rfl⟩ (.cons ru .nil), ⟨_, q'.extBut _ _ (Nat.ne_of_gt elt) a3, rfl, _, rfl⟩⟩
    refine ⟨.ref s.heap.objs.size, _, I1, rfl, ⟨_, hn, rfl, fun xs' x' k1 k3 => ?_⟩, ⟨⟨_, by simpa using a1'⟩, a2.extBut q'.extBut hne.symm⟩, fun b hb => ?_⟩
    · rw [I.tuple_inj k1 hq, hx] at k3
      cases k3
      rfl
    · have hb' := hb
      simp only [List.mem_cons, List.not_mem_nil, or_false] at hb'
      have hlt : b < s.heap.objs.size := by
        rcases hb' with rfl | rfl
        · exact elt
        · exact ilt
      rw [upd_ne (Nat.ne_of_lt hlt)]
      exact (hf b hb).1
  done := by
    intro X hP hw hK hc i pins s σ H E I hf st hg
    subst hP hw hK
    obtain ⟨xs, hq, hx⟩ := hg
    obtain ⟨its, rv, p, hz⟩ := I.tuple hq
    obtain ⟨⟨old, he⟩, hit⟩ := st
    have hl := rv.length
    refine nextE_end (I.ok.hd hc) he hit (show s.heap.IsTuple l its.toArray from p) (by simp; omega) fun h' eb => ⟨rfl, I.turnedL (t' := s.toks) hf fun b u hb q => ?_⟩
    simp only [List.mem_cons, List.not_mem_nil, or_false, not_or] at hb
    exact eb b u hb.2 q
  self := fun _ _ _ _ _ st h => by
    obtain ⟨⟨old, he⟩, _⟩ := st
    exact wpAny_pyIter_enum he h
section
variable {X : Cx} {K : PySem.W.Frag}
def iEnumS (K : PySem.W.Frag) (ta : TA) : TI := fun σ H R => ta σ H fun vs H1 => ∃ a, vs = [.ref a] ∧ ((∃ xs, SqL K H1 a xs ∧ R (Ite K a) H1) ∨ ∃ xs, SqT K H1 a xs ∧ R (IteT K a) H1)
theorem pi_enumS {elts : List Expr} {x1 : Nat} {tpos : Pos} {a : Expr} {ta : TA} {p pos : Pos} (hK : X.K = K) (hg : Gl X "enumerate") (hm : X.mg "enumerate" = none) (ha : PA X [a] ta)
    (he : starEach [a] X.env = (false, eval a X.env) :: starEach [] X.env := by rfl) (hpl : (backTo pos (starEach [] X.env)).any (·.1) = false := by rfl) : PI X (.Tuple elts x1 tpos) (.Call (.Name "enumerate" p) [a] [] pos) (iEnumS K ta) := by
  subst hK
  intro pins s σ H R I h
  have boot_enum : bootBuiltins "enumerate" = some (.type "enumerate") := by decide +kernel
  refine wpAny_Call_Name_kw (ld_blt I hg hm boot_enum ?_)
  refine PyProof.Rows.callWith_type1 (thn (ha pos pins s σ H _ I h) fun us s1 ⟨vs, H1, I1, r1, t1, e, q1⟩ => ?_) he hpl
  subst e
  obtain ⟨u, rfl, ru⟩ := vals1 r1
  cases ru
  have hne : s1.heap.objs.size + 1 ≠ s1.heap.objs.size := by change @Ne Nat _ _; omega
  have fp : ∀ b ∈ [s1.heap.objs.size + 1, s1.heap.objs.size], FpOk X pins H1 b := fun b hb => by
    have hle : s1.heap.objs.size ≤ b := by
      simp only [List.mem_cons, List.not_mem_nil, or_false] at hb
      rcases hb with h | h <;> rw [h] <;> first | exact Nat.le_refl _ | exact Nat.le_add_right _ _
    exact I1.fpOk hle (I1.hok.fresh hle)
  rcases q1 with ⟨xs, q1, q⟩ | ⟨xs, q1, q⟩
  · obtain ⟨its, rv, p1, hz1⟩ := I1.list q1
    refine call_enumerate_list p1.isList fun h' hE hI hsz hk => ?_
    refine wpAny_pyIter_enum hE ?_
    exact ⟨s1.heap.objs.size + 1, [s1.heap.objs.size + 1, s1.heap.objs.size], _, Ite X.K t1, H1, rfl, I1.kept (t' := s1.toks) hk, turn_enum hne, ⟨⟨_, hE⟩, hI⟩, fp, q⟩
  · obtain ⟨its, rv, p1, hz1⟩ := I1.tuple q1
    refine call_enumT (show s1.heap.IsTuple t1 its.toArray from p1) fun h' hE hI hk => ?_
    refine wpAny_pyIter_enum hE ?_
    exact ⟨s1.heap.objs.size + 1, [s1.heap.objs.size + 1, s1.heap.objs.size], _, IteT X.K t1, H1, rfl, I1.kept (t' := s1.toks) hk, turn_enumT hne, ⟨⟨_, hE⟩, hI⟩, fp, q⟩
end
end L2
end
section
set_option autoImplicit false
namespace L2
open PySem PyProof.Rows
abbrev ForB (g : TG) (tb : TS) (D : Ends) (σ : L2.St) (J : It) (H1 : Hp) : Prop := ∃ W : Nat → Nat → L2.St → Hp → Prop, (∃ m, W 0 m σ H1) ∧ ∀ i m σ H, W i m σ H →
  (J.stop i H ∧ D.nx σ H) ∨ (J.go i H ∧ ∃ N : L2.St → Hp → Prop, (∀ σ' H', N σ' H' → ∃ m', m' < m ∧ W (i + 1) m' σ' H') ∧ ∀ x H', J.yld i H x H' → g x σ H' fun σ2 H2 => tb { D with nx := N, ct := N, bk := D.nx } σ2 H2)
theorem SeqAt'.same {H H' : Hp} {v : V} {ys : List V} (h : SeqAt' H v ys) (s : Same H H') : SeqAt' H' v ys := by
  obtain ⟨p, e, h⟩ := h
  exact ⟨p, e, h.elim (fun z => .inl (s p _ z)) fun z => .inr (s p _ z)⟩
theorem for_seq {K : PySem.W.Frag} {a : Addr} {xs : List V} {g : TG} {tb : TS} {D : Ends} {σ : L2.St} {H : Hp} (hq : SeqAt' H (.ref a) xs) (Pv : Nat → L2.St → Hp → Prop) (h0 : Pv 0 σ H)
    (keep : ∀ i σ H', i ≤ xs.length → Pv i σ H' → ∀ o, H a = some o → H' a = some o)
    (hs : ∀ i x σ H, xs[i]? = some x → Pv i σ H → g x σ H fun σ2 H2 => tb { D with nx := Pv (i + 1), ct := Pv (i + 1), bk := D.nx } σ2 H2) (hd : ∀ σ H, Pv xs.length σ H → D.nx σ H) :
    (∃ xs, SqT K H a xs ∧ ForB g tb D σ (Itt K a) H) ∨ ∃ xs, SqL K H a xs ∧ ForB g tb D σ (Itl K a) H := by
  obtain ⟨p, e, h⟩ := hq
  cases e
  rcases h with h | h
  · exact .inr ⟨xs, SqL.of h, for_list (K := K) (a := a) (xs := xs) Pv h0 (fun i σ H' hi p => SqL.of (keep i σ H' hi p _ h)) hs hd⟩
  · exact .inl ⟨xs, SqT.of h, for_tup (K := K) (a := a) (xs := xs) Pv h0 (fun i σ H' hi p => SqT.of (keep i σ H' hi p _ h)) hs hd⟩
theorem comp_seq {K : PySem.W.Frag} {a : Addr} {xs : List V} {own : Nat} {fr : List Nat} {g : TG} {tc : TT} {te : TE} {σ : L2.St} {Q : VK} {H : Hp} (hq : SeqAt' H (.ref a) xs) (Pv : Addr → Nat → List V → Hp → Prop)
    (h0 : ∀ D, H D = none → Pv D 0 [] (upd H D (.lst []))) (keep : ∀ D i ys H', H D = none → Pv D i ys H' → ∀ o, H a = some o → H' a = some o) (stop : ∀ D ys H', H D = none → Pv D xs.length ys H' → Q (.ref D) H')
    (go : ∀ D i x ys H', H D = none → i < xs.length → xs[i]? = some x → Pv D i ys H' → ∀ σo : L2.St, σo.length = own → g x (σo ++ frv σ fr) H' fun σ2 H2 => (∃ σo' : L2.St, σo'.length = own ∧ σ2 = σo' ++ frv σ fr) ∧
      tc σ2 H2 fun b H3 => if b = true then te σ2 H3 fun y H4 => ys.length < sizeLine ∧ H4 D = some (.lst ys) ∧ ∃ m', m' < xs.length - i ∧ (m' = xs.length - (i + 1) ∧ i + 1 ≤ xs.length ∧ Pv D (i + 1) (ys ++ [y]) (upd H4 D (.lst (ys ++ [y])))) else ∃ m', m' < xs.length - i ∧ (m' = xs.length - (i + 1) ∧ i + 1 ≤ xs.length ∧ Pv D (i + 1) ys H3)) :
    (∃ xs, SqT K H a xs ∧ ∀ D, H D = none → CompB own fr g tc te σ Q (Itt K a) D (upd H D (.lst []))) ∨ ∃ xs, SqL K H a xs ∧ ∀ D, H D = none → CompB own fr g tc te σ Q (Itl K a) D (upd H D (.lst [])) := by
  obtain ⟨p, e, h⟩ := hq
  cases e
  rcases h with h | h
  · refine .inr ⟨xs, SqL.of h, fun D hD => comp_by (n := xs.length) (Pv D) (h0 D hD) (fun ys H' p => ⟨⟨xs, SqL.of (keep D _ ys H' hD p _ h), Nat.le_refl _⟩, stop D ys H' hD p⟩) fun i ys H' hi p => ?_⟩
    have ex : xs[i]? = some xs[i] := List.getElem?_eq_getElem hi
    have hl := SqL.of (K := K) (keep D i ys H' hD p _ h)
    refine ⟨⟨xs, xs[i], hl, ex⟩, ?_⟩
    rintro x H2 ⟨rfl, yy⟩ σo ho
    exact go D i x ys H2 hD hi (yy xs hl) p σo ho
  · refine .inl ⟨xs, SqT.of h, fun D hD => comp_by (n := xs.length) (Pv D) (h0 D hD) (fun ys H' p => ⟨⟨xs, SqT.of (keep D _ ys H' hD p _ h), Nat.le_refl _⟩, stop D ys H' hD p⟩) fun i ys H' hi p => ?_⟩
    have ex : xs[i]? = some xs[i] := List.getElem?_eq_getElem hi
    have hl := SqT.of (K := K) (keep D i ys H' hD p _ h)
    refine ⟨⟨xs, xs[i], hl, ex⟩, ?_⟩
    rintro x H2 ⟨rfl, yy⟩ σo ho
    exact go D i x ys H2 hD hi (yy xs hl) p σo ho
theorem comp_enumS {K : PySem.W.Frag} {a : Addr} {xs : List V} {own : Nat} {fr : List Nat} {g : TG} {tc : TT} {te : TE} {σ : L2.St} {Q : VK} {H : Hp} (hq : SeqAt' H (.ref a) xs) (Pv : Addr → Nat → List V → Hp → Prop)
    (h0 : ∀ D, H D = none → Pv D 0 [] (upd H D (.lst []))) (keep : ∀ D i ys H', H D = none → Pv D i ys H' → ∀ o, H a = some o → H' a = some o) (stop : ∀ D ys H', H D = none → Pv D xs.length ys H' → Q (.ref D) H')
    (go : ∀ D i x ys H' p, H D = none → i < xs.length → xs[i]? = some x → Pv D i ys H' → H' p = none → ∀ σo : L2.St, σo.length = own → g (.ref p) (σo ++ frv σ fr) (upd H' p (.tup [.int i, x])) fun σ2 H2 => (∃ σo' : L2.St, σo'.length = own ∧ σ2 = σo' ++ frv σ fr) ∧
      tc σ2 H2 fun b H3 => if b = true then te σ2 H3 fun y H4 => ys.length < sizeLine ∧ H4 D = some (.lst ys) ∧ ∃ m', m' < xs.length - i ∧ (m' = xs.length - (i + 1) ∧ i + 1 ≤ xs.length ∧ Pv D (i + 1) (ys ++ [y]) (upd H4 D (.lst (ys ++ [y])))) else ∃ m', m' < xs.length - i ∧ (m' = xs.length - (i + 1) ∧ i + 1 ≤ xs.length ∧ Pv D (i + 1) ys H3)) :
    (∃ xs, SqL K H a xs ∧ ∀ D, H D = none → CompB own fr g tc te σ Q (Ite K a) D (upd H D (.lst []))) ∨ ∃ xs, SqT K H a xs ∧ ∀ D, H D = none → CompB own fr g tc te σ Q (IteT K a) D (upd H D (.lst [])) := by
  obtain ⟨p, e, h⟩ := hq
  cases e
  rcases h with h | h
  · refine .inl ⟨xs, SqL.of h, fun D hD => comp_by (n := xs.length) (Pv D) (h0 D hD) (fun ys H' p => ⟨⟨xs, SqL.of (keep D _ ys H' hD p _ h), Nat.le_refl _⟩, stop D ys H' hD p⟩) fun i ys H' hi p => ?_⟩
    have ex : xs[i]? = some xs[i] := List.getElem?_eq_getElem hi
    have hl := SqL.of (K := K) (keep D i ys H' hD p _ h)
    refine ⟨⟨xs, xs[i], hl, ex⟩, ?_⟩
    rintro x H2 ⟨q, hq, rfl, yy⟩ σo ho
    have e2 := yy xs xs[i] hl ex
    subst e2
    exact go D i xs[i] ys H' q hD hi ex p hq σo ho
  · refine .inr ⟨xs, SqT.of h, fun D hD => comp_by (n := xs.length) (Pv D) (h0 D hD) (fun ys H' p => ⟨⟨xs, SqT.of (keep D _ ys H' hD p _ h), Nat.le_refl _⟩, stop D ys H' hD p⟩) fun i ys H' hi p => ?_⟩
    have ex : xs[i]? = some xs[i] := List.getElem?_eq_getElem hi
    have hl := SqT.of (K := K) (keep D i ys H' hD p _ h)
    refine ⟨⟨xs, xs[i], hl, ex⟩, ?_⟩
    rintro x H2 ⟨q, hq, rfl, yy⟩ σo ho
    have e2 := yy xs xs[i] hl ex
    subst e2
    exact go D i xs[i] ys H' q hD hi ex p hq σo ho
def RowsS (H : Hp) (vs : List V) (rows : List (List Str)) : Prop := Paired (fun (v : V) (r : List Str) => SeqAt' H v (r.map V.str)) vs rows
end L2
end
section
set_option autoImplicit false
namespace L2
open PySem PySem.Spec PyProof.Rows
section
variable {X : Cx}
def rNeT : R2 := fun x y H Q => ∃ (a b : Addr) (xs ys : List V) (ts us : List T), x = .ref a ∧ y = .ref b ∧ H a = some (.tup xs) ∧ H b = some (.tup ys) ∧ DpL H ts xs ∧ DpL H us ys ∧ (∀ t ∈ ts, Lv 5 t) ∧ Q (.bl (!dcd (ts = us))) H
theorem op_neT (hu : X.A.units + 10 < cLine) : OpR X (compareOp .NotEq) rNeT := by
  intro pins s σ H x y v u Q I rx ry h
  obtain ⟨a, b, xs, ys, ts, us, rfl, rfl, ha, hb, d1, d2, lv, q⟩ := h
  cases rx
  cases ry
  obtain ⟨its, r, p⟩ := tup_at I ha
  obtain ⟨its2, r2, p2⟩ := tup_at I hb
  have l1 := r.length
  have l2 := r2.length
  have n1 := d1.length
  have n2 := d2.length
  have key := SeqAt.RcNeAt.tuples (A := X.A) (s := s) (e := fun j => dcd (ts[j]? = us[j]?)) p p2 (by omega) (fun j h1 h2 => by
    have h1' : j < its.length := by simpa using h1
    have h2' : j < its2.length := by simpa using h2
    have j1 : j < ts.length := by omega
    have j2 : j < us.length := by omega
    obtain ⟨v1, e1, dv1⟩ := d1.get (List.getElem?_eq_getElem j1)
    obtain ⟨v2, e2, dv2⟩ := d2.get (List.getElem?_eq_getElem j2)
    obtain ⟨w1, k1, m1⟩ := r.get e1
    obtain ⟨w2, k2, m2⟩ := r2.get e2
    have e3 : its.toArray[j] = w1 := by
      have : its.toArray[j]? = some w1 := by simpa using k1
      rw [Array.getElem?_eq_getElem h1] at this
      exact Option.some.inj this
    have e4 : its2.toArray[j] = w2 := by
      have : its2.toArray[j]? = some w2 := by simpa using k2
      rw [Array.getElem?_eq_getElem h2] at this
      exact Option.some.inj this
    rw [e3, e4]
    have := eqAt_T I 5 X.A.in1 ts[j] us[j] v1 v2 w1 w2 (lv _ (List.getElem_mem j1)) (by show X.A.units + 1 + 5 < cLine; omega) dv1 dv2 m1 m2
    rw [List.getElem?_eq_getElem j1, List.getElem?_eq_getElem j2]
    have e5 : dcd (some ts[j] = some us[j]) = dcd (ts[j] = us[j]) := dcd_eq ⟨fun h => Option.some.inj h, fun h => by rw [h]⟩
    rw [e5]
    exact this)
  have ee : ((List.range (min its.toArray.size its2.toArray.size)).all (fun j => dcd (ts[j]? = us[j]?)) && its.toArray.size == its2.toArray.size) = dcd (ts = us) := by
    apply dcd_of
    rw [Bool.and_eq_true, List.all_eq_true, beq_iff_eq]
    constructor
    · rintro ⟨h1, h2⟩
      have h2 : its.length = its2.length := by simpa using h2
      apply List.ext_getElem?
      intro j
      by_cases hj : j < ts.length
      · exact dcd_iff.mp (h1 j (List.mem_range.mpr (by simp; omega)))
      · rw [List.getElem?_eq_none (by omega), List.getElem?_eq_none (by omega)]
    · intro h
      refine ⟨fun j _ => dcd_t (by rw [h]), ?_⟩
      have : its.length = its2.length := by rw [← l1, ← l2, n1, n2, h]
      simpa using this
  rw [ee] at key
  exact key X.prog X.w X.xe _ ⟨.bl _, H, I, rfl, q⟩
end
end L2
end
section
set_option autoImplicit false
namespace L2
open PySem PySem.Spec PyProof.Rows
def RowsI (H : Hp) (us : List V) (tbl : List (List Int)) : Prop := Paired (fun (v : V) (js : List Int) => ∃ a, v = .ref a ∧ H a = some (.tup (js.map V.int))) us tbl
end L2
end
section
set_option autoImplicit false
namespace L2
open PySem PySem.Spec PyProof.Rows
section
variable {prog : Program} {w : World} {A : Around} {E : Value → Shared → Prop} {s : Shared}
end
section
variable {X : Cx}
end
end L2
end
section
set_option autoImplicit false
namespace L2
open PySem PySem.Spec PyProof.Rows
section
variable {X : Cx}
end
end L2
end
section
set_option autoImplicit false
namespace L2
open PySem PySem.Spec PyProof.Rows
end L2
end
section
set_option autoImplicit false
namespace HT
open PySem PySem.Spec PyProof.Rows
section
variable {prog : Program} {w : World} {A : Around} {E : Value → Shared → Prop} {s : Shared}
end
end HT
namespace L2
open PySem PySem.Spec PyProof.Rows
section
variable {X : Cx}
end
end L2
end
section
set_option autoImplicit false
namespace L2
open PySem PySem.Spec PyProof.Rows
section
variable {prog : Program} {w : World} {A : Around} {E : Value → Shared → Prop} {s : Shared}
end
section
variable {X : Cx}
end
end L2
end
section
set_option autoImplicit false
namespace L2
open PySem PySem.Spec PyProof.Rows
section
variable {X : Cx}
end
end L2
end
section
set_option autoImplicit false
namespace L2
open PySem PySem.Spec PyProof.Rows
section
variable {X : Cx}
def rEqT : R2 := fun x y H Q => ∃ (a b : Addr) (xs ys : List V) (ts us : List T), x = .ref a ∧ y = .ref b ∧ H a = some (.tup xs) ∧ H b = some (.tup ys) ∧ DpL H ts xs ∧ DpL H us ys ∧ (∀ t ∈ ts, Lv 5 t) ∧ Q (.bl (dcd (ts = us))) H
theorem op_eqT (hu : X.A.units + 10 < cLine) : OpR X (compareOp .Eq) rEqT := by
  intro pins s σ H x y v u Q I rx ry h
  obtain ⟨a, b, xs, ys, ts, us, rfl, rfl, ha, hb, d1, d2, lv, q⟩ := h
  cases rx
  cases ry
  obtain ⟨its, r, p⟩ := tup_at I ha
  obtain ⟨its2, r2, p2⟩ := tup_at I hb
  have l1 := r.length
  have l2 := r2.length
  have n1 := d1.length
  have n2 := d2.length
  have key := SeqAt.RcAt.tuples (A := X.A) (s := s) (e := fun j => dcd (ts[j]? = us[j]?)) p p2 (by omega) (fun j h1 h2 => by
    have h1' : j < its.length := by simpa using h1
    have h2' : j < its2.length := by simpa using h2
    have j1 : j < ts.length := by omega
    have j2 : j < us.length := by omega
    obtain ⟨v1, e1, dv1⟩ := d1.get (List.getElem?_eq_getElem j1)
    obtain ⟨v2, e2, dv2⟩ := d2.get (List.getElem?_eq_getElem j2)
    obtain ⟨w1, k1, m1⟩ := r.get e1
    obtain ⟨w2, k2, m2⟩ := r2.get e2
    have e3 : its.toArray[j] = w1 := by
      have : its.toArray[j]? = some w1 := by simpa using k1
      rw [Array.getElem?_eq_getElem h1] at this
      exact Option.some.inj this
    have e4 : its2.toArray[j] = w2 := by
      have : its2.toArray[j]? = some w2 := by simpa using k2
      rw [Array.getElem?_eq_getElem h2] at this
      exact Option.some.inj this
    rw [e3, e4]
    have := eqAt_T I 5 X.A.in1 ts[j] us[j] v1 v2 w1 w2 (lv _ (List.getElem_mem j1)) (by show X.A.units + 1 + 5 < cLine; omega) dv1 dv2 m1 m2
    rw [List.getElem?_eq_getElem j1, List.getElem?_eq_getElem j2]
    have e5 : dcd (some ts[j] = some us[j]) = dcd (ts[j] = us[j]) := dcd_eq ⟨fun h => Option.some.inj h, fun h => by rw [h]⟩
    rw [e5]
    exact this)
  have ee : ((List.range (min its.toArray.size its2.toArray.size)).all (fun j => dcd (ts[j]? = us[j]?)) && its.toArray.size == its2.toArray.size) = dcd (ts = us) := by
    apply dcd_of
    rw [Bool.and_eq_true, List.all_eq_true, beq_iff_eq]
    constructor
    · rintro ⟨h1, h2⟩
      have h2 : its.length = its2.length := by simpa using h2
      apply List.ext_getElem?
      intro j
      by_cases hj : j < ts.length
      · exact dcd_iff.mp (h1 j (List.mem_range.mpr (by simp; omega)))
      · rw [List.getElem?_eq_none (by omega), List.getElem?_eq_none (by omega)]
    · intro h
      refine ⟨fun j _ => dcd_t (by rw [h]), ?_⟩
      have : its.length = its2.length := by rw [← l1, ← l2, n1, n2, h]
      simpa using this
  rw [ee] at key
  exact key X.prog X.w X.xe _ ⟨.bl _, H, I, rfl, q⟩
end
end L2
end
section
set_option autoImplicit false
namespace L2
open PySem PySem.Spec PyProof.Rows
section
variable {X : Cx} {K : PySem.W.Frag}
end
end L2
end
section
set_option autoImplicit false
namespace L2
open PySem PyProof.Rows
section
variable {prog : Program} {w : World} {A : Around} {R : Result → Shared → Prop} {I : Addr} {fp wr : List Addr} {G : Array GenState → Array GenState → Prop} {n : Nat} {P : Nat → Value → Prop} {St : Nat → Shared → Prop}
end
section
variable {X : Cx}
end
end L2
end
section
set_option autoImplicit false
namespace L2
open PySem PySem.Spec PyProof.Rows
def keyD : Key → PyData
  | .inl i => .int i
  | .inr x => .str x
mutual
def noL : PyData → Bool
  | .none | .bool _ | .int _ | .str _ => true
  | .list _ => false
  | .tuple xs => noLA xs
  | .dict kvs => noLK kvs
def noLA : List PyData → Bool
  | [] => true
  | x :: xs => noL x && noLA xs
def noLK : List (PyData × PyData) → Bool
  | [] => true
  | (_, v) :: r => noL v && noLK r
end
theorem noLK_map : ∀ (ks : List PyData) (ds : List PyData), ks.length = ds.length → noLK (ks.zip ds) = noLA ds
  | [], [], _ => by simp [noLK, noLA]
  | k :: ks, d :: ds, h => by
    have ih := noLK_map ks ds (by simpa using h)
    simp [noLK, noLA, ih]
  | [], _ :: _, h => nomatch h
  | _ :: _, [], h => nomatch h
mutual
inductive RdV (H : Hp) : V → PyData → Prop
  | non : RdV H .non .none
  | bl (b : Bool) : RdV H (.bl b) (.bool b)
  | int (i : Int) : RdV H (.int i) (.int i)
  | str (x : Str) : RdV H (.str x) (.str x)
  | tup {a : Addr} {xs : List V} {ds : List PyData} : H a = some (.tup xs) → RdA H xs ds → RdV H (.ref a) (.tuple ds)
  | lst {a : Addr} {xs : List V} {ds : List PyData} : H a = some (.lst xs) → RdA H xs ds → RdV H (.ref a) (.list ds)
  | dct {a : Addr} {kvs : List (Key × V)} {ds : List PyData} : H a = some (.dK kvs) → RdA H (kvs.map (·.2)) ds → RdV H (.ref a) (.dict ((kvs.map fun p => keyD p.1).zip ds))
inductive RdA (H : Hp) : List V → List PyData → Prop
  | nil : RdA H [] []
  | cons {v : V} {d : PyData} {vs : List V} {ds : List PyData} : RdV H v d → RdA H vs ds → RdA H (v :: vs) (d :: ds)
end
theorem RdA.length {H : Hp} : ∀ {vs : List V} {ds : List PyData}, RdA H vs ds → vs.length = ds.length
  | _, _, .nil => rfl
  | _, _, .cons _ r => by simp [RdA.length r]
theorem readsKeys {P : Program} {w : World} {h : Heap} : ∀ {es : List DictEntry} {vs : List (Key × Value)}, Pairs (mixKind P w) es vs → ReadsAll h (es.map (·.key)) (vs.map fun p => keyD p.1) []
  | _, _, .nil => .nil
  | _, _, .cons (e := e) (kv := kv) hk _ r => by
    have r' := readsKeys (h := h) r
    rcases keyIs_shape (show keyIs kv.1 e.key = true from hk) with ⟨i, t, e1, e2⟩ | ⟨x, t, e1, e2⟩
    · have c : Reads h e.key (keyD kv.1) [] := by rw [e1, e2]; exact .int i t
      exact .cons c r'
    · have c : Reads h e.key (keyD kv.1) [] := by rw [e1, e2]; exact .str x t
      exact .cons c r'
theorem pairs_vals {P : Program} {w : World} : ∀ {es : List DictEntry} {vs : List (Key × Value)}, Pairs (mixKind P w) es vs → es.map (·.val) = vs.map (·.2)
  | _, _, .nil => rfl
  | _, _, .cons _ e r => by rw [List.map_cons, List.map_cons, e, pairs_vals r]
theorem kv_vals : ∀ {kvs : List (Key × V)} {vs : List (Key × Value)}, KV kvs vs → Vals (kvs.map (·.2)) (vs.map (·.2)) ∧ kvs.map (fun p => keyD p.1) = vs.map fun p => keyD p.1
  | _, _, .nil => ⟨.nil, rfl⟩
  | _, _, .cons ⟨e, r⟩ q => ⟨.cons r (kv_vals q).1, by rw [List.map_cons, List.map_cons, e, (kv_vals q).2]⟩
theorem zip_fst {α β : Type} : ∀ {l : List α} {m : List β}, l.length = m.length → (l.zip m).map (·.1) = l ∧ (l.zip m).map (·.2) = m
  | [], [], _ => ⟨rfl, rfl⟩
  | a :: l, b :: m, h => by
    have := zip_fst (l := l) (m := m) (by simpa using h)
    exact ⟨by rw [List.zip_cons_cons, List.map_cons, this.1], by rw [List.zip_cons_cons, List.map_cons, this.2]⟩
  | [], _ :: _, h => nomatch h
  | _ :: _, [], h => nomatch h
section
variable {X : Cx} {pins : List (Addr × Obj)} {σ : St} {H : Hp} {s : Shared}
mutual
theorem RdV.reads (I : Inv X pins σ H s) : ∀ {v : V} {d : PyData}, RdV H v d → ∀ {u : Value}, RelV v u → ∃ as, Reads s.heap u d as ∧ (noL d = true → sysModules ∉ as)
  | _, _, .non, u, r => by
    cases u <;> first | exact ⟨[], .none, fun _ => List.not_mem_nil⟩ | cases r
  | _, _, .bl b, u, r => by
    obtain rfl : u = .bool b := r
    exact ⟨[], .bool b, fun _ => List.not_mem_nil⟩
  | _, _, .int i, u, r => by
    obtain ⟨t, rfl⟩ := r
    exact ⟨[], .int i t, fun _ => List.not_mem_nil⟩
  | _, _, .str x, u, r => by
    obtain ⟨t, rfl⟩ := r
    exact ⟨[], .str x t, fun _ => List.not_mem_nil⟩
  | _, _, .tup (a := a) h q, u, r => by
    obtain rfl : u = .ref a := r
    obtain ⟨its, rv, p, _⟩ := I.tuple (SqT.of h)
    obtain ⟨as, ra, hn⟩ := RdA.reads I q rv
    obtain ⟨o, ho, hc, n, hd⟩ := p
    exact ⟨as, .tuple ho hc hd ra, fun e => hn (by simpa [noL] using e)⟩
  | _, _, .lst (a := a) h q, u, r => by
    obtain rfl : u = .ref a := r
    obtain ⟨its, rv, p, _⟩ := I.list (SqL.of h)
    obtain ⟨as, ra, hn⟩ := RdA.reads I q rv
    obtain ⟨o, ho, hc, n, hd⟩ := p.isList
    exact ⟨_, .list ho hc hd ra, fun e => absurd e (by simp [noL])⟩
  | _, _, .dct (a := a) (kvs := kvs) (ds := ds) h q, u, r => by
    obtain rfl : u = .ref a := r
    obtain ⟨_, hs, vs, kv, o, es, ep, ho, hx, hd, ko, pr, nd⟩ := I.hok _ _ h
    obtain ⟨kv1, kv2⟩ := kv_vals kv
    obtain ⟨bs, rb, hn⟩ := RdA.reads I q kv1
    have hl : (kvs.map fun p => keyD p.1).length = ds.length := by rw [List.length_map, ← q.length, List.length_map]
    refine ⟨_, .dict (as := []) (bs := bs) ho hx.1 hd ?_ ?_, fun e => ?_⟩
    · rw [(zip_fst hl).1, kv2]
      exact readsKeys pr
    · rw [(zip_fst hl).2, pairs_vals pr]
      exact rb
    · have e2 : noLA ds = true := by rw [← noLK_map _ _ hl]; simpa [noL] using e
      intro hm
      rcases List.mem_cons.mp (by simpa using hm) with e3 | e3
      · rw [← e3] at hs
        simp at hs
      · exact hn e2 e3
theorem RdA.reads (I : Inv X pins σ H s) : ∀ {vs : List V} {ds : List PyData}, RdA H vs ds → ∀ {us : List Value}, Vals vs us → ∃ as, ReadsAll s.heap us ds as ∧ (noLA ds = true → sysModules ∉ as)
  | _, _, .nil, _, .nil => ⟨[], .nil, fun _ => List.not_mem_nil⟩
  | _, _, .cons q r, _, .cons a b => by
    obtain ⟨as, h1, n1⟩ := RdV.reads I q a
    obtain ⟨bs, h2, n2⟩ := RdA.reads I r b
    refine ⟨as ++ bs, .cons h1 h2, fun e => ?_⟩
    rw [noLA, Bool.and_eq_true] at e
    intro hm
    rcases List.mem_append.mp hm with hm | hm
    · exact n1 e.1 hm
    · exact n2 e.2 hm
end
def rRepr : List V → Hp → VK → Prop := fun xs H Q => ∃ v d, xs = [v] ∧ RdV H v d ∧ d.showable = true ∧ (d.hasDict = true → noL d = true) ∧ d.depth ≤ 60 ∧ d.shown.length ≤ sizeLine ∧ Q (.str d.shown) H
theorem call_repr {k : Nat} (hr : Room k X.A) : CallR X (.builtin "repr") rRepr := by
  intro pins s σ H xs us Q I r h
  obtain ⟨v, d, rfl, hv, sh, hd, dp, hz, q⟩ := h
  obtain ⟨u, rfl, ru⟩ := vals1 r
  obtain ⟨as, ra, hn⟩ := hv.reads I ru
  have un := hr.units
  cases hv with
  | non =>
    cases u <;> first | exact PySem.P.repr_of_none ⟨.str _, H, I.tok _, ⟨_, rfl⟩, q⟩ | cases ru
  | bl b =>
    obtain rfl : u = .bool b := ru
    exact PySem.P.repr_of_bool ⟨.str _, H, I.tok _, ⟨_, rfl⟩, by cases b <;> exact q⟩
  | int i =>
    obtain ⟨t, rfl⟩ := ru
    exact PySem.P.repr_of_int (by simpa [PyData.showable] using sh) ⟨.str _, H, I.tok _, ⟨_, rfl⟩, q⟩
  | str x =>
    obtain ⟨t, rfl⟩ := ru
    exact PySem.P.repr_of_str ⟨.str _, H, I.tok _, ⟨_, rfl⟩, q⟩ hz
  | @tup a _ _ _ _ =>
    obtain rfl : u = .ref a := ru
    exact repr_of_reads' ra sh (fun e => hn (hd e)) hr.gd (by omega) (fun _ _ e => e) (fun h' u tk hk => ⟨.str _, H, I.kept hk, ⟨_, rfl⟩, q⟩) hz
  | @lst a _ _ _ _ =>
    obtain rfl : u = .ref a := ru
    exact repr_of_reads' ra sh (fun e => hn (hd e)) hr.gd (by omega) (fun _ _ e => e) (fun h' u tk hk => ⟨.str _, H, I.kept hk, ⟨_, rfl⟩, q⟩) hz
  | @dct a _ _ _ _ =>
    obtain rfl : u = .ref a := ru
    exact repr_of_reads' ra sh (fun e => hn (hd e)) hr.gd (by omega) (fun _ _ e => e) (fun h' u tk hk => ⟨.str _, H, I.kept hk, ⟨_, rfl⟩, q⟩) hz
end
end L2
end
section
set_option autoImplicit false
namespace L2
open PySem PySem.Spec PyProof.Rows
def Lw (x : Str) : Prop := ∀ c ∈ x.cps.toList, c ∈ abc.cps.toList
theorem Lw.empty : Lw Str.empty := fun c hc => nomatch hc
theorem Lw.nil : Lw "" := by
  unfold Lw
  decide +kernel
def Wd (x : Str) : Prop := x.length ≤ 100 ∧ Lw x
theorem Lw.app {x y : Str} (h : Lw x) (g : Lw y) : Lw (x ++ y) := fun c hc => by
  have hc : c ∈ (x.cps ++ y.cps).toList := hc
  rw [Array.toList_append] at hc
  rcases List.mem_append.mp hc with q | q
  · exact h c q
  · exact g c q
theorem Lw.one {c : Nat} (h : c ∈ abc.cps.toList) : Lw ⟨#[c]⟩ := fun d hd => by
  rw [List.mem_singleton.mp (show d ∈ [c] from hd)]
  exact h
theorem Lw.letter {x : Str} (h : x ∈ letters) : Lw x := by
  obtain ⟨c, hc, rfl⟩ := List.mem_map.mp h
  exact Lw.one hc
theorem Lw.slice {x : Str} (h : Lw x) (lo hi : Option Int) : Lw (Txt.slice x lo hi) := by
  unfold Txt.slice
  split
  · exact h
  · intro c hc
    obtain ⟨i, _, e⟩ := List.mem_filterMap.mp (show c ∈ (List.filterMap (x.cps[·]?) _) from hc)
    exact h c (Array.mem_toList_iff.mpr (Array.mem_of_getElem? e))
theorem mem_rep {c : Nat} {xs : Array Nat} : ∀ {k : Nat} {acc : Array Nat}, c ∈ (List.foldl (fun x1 x2 => x1 ++ x2) acc (List.replicate k xs)).toList → c ∈ acc.toList ∨ c ∈ xs.toList
  | 0, _, h => .inl h
  | k + 1, acc, h => by
    rcases mem_rep (k := k) (acc := acc ++ xs) h with q | q
    · rw [Array.toList_append] at q
      exact List.mem_append.mp q
    · exact .inr q
theorem Lw.rep {x : Str} (h : Lw x) (n : Int) : Lw (strRep x n) := by
  unfold strRep
  split
  · exact Lw.empty
  · split
    · exact h
    · intro c hc
      rcases mem_rep hc with q | q
      · exact nomatch q
      · exact h c q
theorem abc_lt : ∀ c ∈ abc.cps.toList, 97 ≤ c ∧ c ≤ 122 := by decide +kernel
theorem Lw.lt {x : Str} (h : Lw x) : ∀ c ∈ x.cps.toList, c < 16 ^ 8 := fun c hc => Nat.lt_of_le_of_lt (abc_lt c (h c hc)).2 (by decide)
theorem mem_of_atI {xs : List Nat} {i : Int} {c : Nat} (h : atI xs i = some c) : c ∈ xs := by
  unfold atI at h
  obtain ⟨j, _, e⟩ := Option.bind_eq_some_iff.mp h
  exact List.mem_of_getElem? e
end L2
end
section
set_option autoImplicit false
namespace L2
open PySem PySem.Spec PyProof.Rows
def tTryA (i : Nat) (sp : Sp) (t : TA) (th : Addr → TS) : TS := fun D σ H => t σ H fun vs H1 => sp (vs ++ []) H1 (fun v H2 => D.nx (σ.set i (some v)) H2) (fun cls _ H2 => ∃ C, cls = .ref C ∧ th C D σ H2)
theorem ps_tryA {X : Cx} {i : Nat} {y x : Str} {st : Stmt} {ps : List Str} {f : Addr} {fd : FuncData} {k : Nat} {sp : Sp} {e : Expr} {es : List Expr} {t : TA} {p pos yp epos tpos : Pos} {h0 : ExceptHandler} {hs : List ExceptHandler} {th : Addr → TS} (hN : X.N.Nodup) (hi : X.N[i]? = some y) (hy : Loc X.env.scope y)
    (D : Fnd X.K X.mg x st ps f fd) (G : FnOk X.prog X.w X.K X.mg X.base (CXe X.prog X.w) k f fd ps sp) (hr : Room k X.A) (hg : Gl X x) (ha : PA X.nox (e :: es) t)
    (hstk : X.stack = X.env :: X.outer ∧ X.env.frame = some X.env.locals) (hh : PH X (h0 :: hs) th)
    (hdb : (x == ("__debug__" : Str)) = false := by decide) (he : starEach (e :: es) X.env = (false, eval e X.env) :: starEach es X.env := by rfl) (hpl : (backTo pos (starEach es X.env)).any (·.1) = false := by rfl)
    (hsw : swapsWith (.Call (.Name x p) (e :: es) [] pos) (some (.Name y yp)) epos.line X.env = pure false := by rfl)
    (hf : X.fn y = true ∨ X.env.scope.names.lookup y = some .local := by first | exact .inl rfl | exact .inr rfl | assumption) :
    PS X (.Try [.Assign [.Name y yp] (.Call (.Name x p) (e :: es) [] pos) epos] (h0 :: hs) [] [] tpos) (tTryA i sp t th) := by
  intro pins s σ H Dn I h
  refine wpAny_Try_except ?_
  have hc := px_call (p := p) (pos := pos) D G hr hg ha (E := fun cls _ H2 => ∃ C, cls = .ref C ∧ th C Dn σ H2) (Q := fun v H2 => Dn.nx (σ.set i (some v)) H2) I h hdb he hpl
  refine wpAny_execs_cons (wpAny_mono (wpAny_Assign_Name (Q := fun fl s1 => fl = .next ∧ ∃ v H2, Inv X pins (σ.set i (some v)) H2 s1 ∧ Dn.nx (σ.set i (some v)) H2) (thn hc fun v s1 ⟨x, H1, I1, r1, q1⟩ => store_ok I1 hN hi hy r1 (fun s2 I2 => ⟨rfl, _, H1, I2, q1⟩) hf) hsw) (fun fl s1 q => ?_) fun ev s1 q => ?_)
  · obtain ⟨rfl, v, H2, I2, q⟩ := q
    exact wpAny_execs_nil (wpAny_execs_nil ⟨_, H2, I2, q⟩)
  · obtain ⟨ea, C, H1, s2, H', B, a0, rfl, J, fl, C', hC, q⟩ := q
    cases hC
    have hfr : X.A.frames = some (X.env :: X.outer) := by rw [← hstk.1]; exact I.ok.frames
    have ffl : Heap.FlyingW B (X.env :: X.outer) ea (.ref C) a0 s1.heap := by rw [← hstk.1]; exact fl.fl
    refine wpAny_looks_onW hfr hstk.2 ffl fun h4 held up4 => ?_
    refine wpAny_landsW held fun h5 fl5 up5 => ?_
    exact hh pins s2 σ H1 _ ea C H' B a0 Dn J (fl.move (by rw [hstk.1]; exact fl5) (up4.trans up5)) q
end L2
end
section
set_option autoImplicit false
namespace K03
open PySem L2
def top (i : Nat) : Stmt := PySem.Challenge.pw_warmrows_k03_no_kind_is_refused.main.body.getD i (.Pass ⟨0, 0, 0, 0⟩)
structure Adr where
  is_kind : Addr × FuncData
  check_kind : Addr × FuncData
  elders_first : Addr × FuncData
  reached_from : Addr × FuncData
  above : Addr × FuncData
  beneath : Addr × FuncData
  order_of : Addr × FuncData
  rows_for : Addr × FuncData
  tell_orders : Addr × FuncData
  quarrel_among : Addr × FuncData
  rows_by : Addr × FuncData
  merge_rows : Addr × FuncData
  first_free : Addr × FuncData
  ring_among : Addr × FuncData
  hold_of : Addr × FuncData
  _law_cell : Addr × FuncData
  _law_purse : Addr × FuncData
  _law_take : Addr × FuncData
  _law_word : Addr × FuncData
  _law_names : Addr × FuncData
  _law_some : Addr × FuncData
  _law_all : Addr × FuncData
  _law_family : Addr × FuncData
  _law_closed : Addr × FuncData
  _law_only : Addr × FuncData
  _law_stranger : Addr × FuncData
  _law_ask : Addr × FuncData
  _law_door : Addr × FuncData
  _law_right : Addr × FuncData
  law : Addr × FuncData
  cRowError : Addr
  cNoKind : Addr
  cNoOrder : Addr
  cNoChange : Addr
  cNoShape : Addr
  cNoField : Addr
  cNoText : Addr
  cNoLimit : Addr
  cNoWarming : Addr
structure Defs (K : PySem.W.Frag) (mg : Str → Option Value) (t : Adr) : Prop where
  is_kind : Fnd K mg "is_kind" (top 11) ["thing", "kinds"] t.is_kind.1 t.is_kind.2
  check_kind : Fnd K mg "check_kind" (top 12) ["kind", "kinds"] t.check_kind.1 t.check_kind.2
  elders_first : Fnd K mg "elders_first" (top 13) ["family"] t.elders_first.1 t.elders_first.2
  reached_from : Fnd K mg "reached_from" (top 14) ["elders_of", "kind"] t.reached_from.1 t.reached_from.2
  above : Fnd K mg "above" (top 15) ["family", "kind"] t.above.1 t.above.2
  beneath : Fnd K mg "beneath" (top 16) ["family", "kind"] t.beneath.1 t.beneath.2
  order_of : Fnd K mg "order_of" (top 18) ["family", "kind"] t.order_of.1 t.order_of.2
  rows_for : Fnd K mg "rows_for" (top 19) ["family", "kind"] t.rows_for.1 t.rows_for.2
  tell_orders : Fnd K mg "tell_orders" (top 20) ["family"] t.tell_orders.1 t.tell_orders.2
  quarrel_among : Fnd K mg "quarrel_among" (top 21) ["kinds", "told"] t.quarrel_among.1 t.quarrel_among.2
  rows_by : Fnd K mg "rows_by" (top 22) ["elders", "told"] t.rows_by.1 t.rows_by.2
  merge_rows : Fnd K mg "merge_rows" (top 23) ["kind", "rows"] t.merge_rows.1 t.merge_rows.2
  first_free : Fnd K mg "first_free" (top 24) ["left"] t.first_free.1 t.first_free.2
  ring_among : Fnd K mg "ring_among" (top 25) ["left"] t.ring_among.1 t.ring_among.2
  hold_of : Fnd K mg "hold_of" (top 26) ["name", "left"] t.hold_of.1 t.hold_of.2
  _law_cell : Fnd K mg "_law_cell" (top 28) ["_law_script", "_law_k"] t._law_cell.1 t._law_cell.2
  _law_purse : Fnd K mg "_law_purse" (top 29) ["_law_cell_here"] t._law_purse.1 t._law_purse.2
  _law_take : Fnd K mg "_law_take" (top 30) ["_law_purse_here", "_law_many"] t._law_take.1 t._law_take.2
  _law_word : Fnd K mg "_law_word" (top 31) ["_law_purse_here", "_law_used"] t._law_word.1 t._law_word.2
  _law_names : Fnd K mg "_law_names" (top 32) ["_law_purse_here", "_law_many", "_law_used"] t._law_names.1 t._law_names.2
  _law_some : Fnd K mg "_law_some" (top 33) ["_law_purse_here", "_law_menu", "_law_most"] t._law_some.1 t._law_some.2
  _law_all : Fnd K mg "_law_all" (top 34) ["_law_purse_here", "_law_names_here", "_law_last"] t._law_all.1 t._law_all.2
  _law_family : Fnd K mg "_law_family" (top 35) ["_law_purse_here", "_law_most"] t._law_family.1 t._law_family.2
  _law_closed : Fnd K mg "_law_closed" (top 36) ["_law_family_here"] t._law_closed.1 t._law_closed.2
  _law_only : Fnd K mg "_law_only" (top 37) ["_law_e", "_law_at"] t._law_only.1 t._law_only.2
  _law_stranger : Fnd K mg "_law_stranger" (top 38) ["_law_purse_here", "_law_family_here"] t._law_stranger.1 t._law_stranger.2
  _law_ask : Fnd K mg "_law_ask" (top 39) ["_law_door_here", "_law_family_here", "_law_thing"] t._law_ask.1 t._law_ask.2
  _law_door : Fnd K mg "_law_door" (top 40) ["_law_door_here", "_law_family_here", "_law_thing", "_law_closed_here"] t._law_door.1 t._law_door.2
  _law_right : Fnd K mg "_law_right" (top 41) ["_law_purse_here"] t._law_right.1 t._law_right.2
  law : Fnd K mg "law" (top 42) ["_law_script"] t.law.1 t.law.2
  b_abs : mg "abs" = none
  b_all : mg "all" = none
  b_any : mg "any" = none
  b_dict : mg "dict" = none
  b_enumerate : mg "enumerate" = none
  b_isinstance : mg "isinstance" = none
  b_len : mg "len" = none
  b_list : mg "list" = none
  b_max : mg "max" = none
  b_min : mg "min" = none
  b_range : mg "range" = none
  b_repr : mg "repr" = none
  b_sorted : mg "sorted" = none
  b_str : mg "str" = none
  b_tuple : mg "tuple" = none
  b_ValueError : mg "ValueError" = none
structure Clss (K : PySem.W.Frag) (mg : Str → Option Value) (t : Adr) : Prop where
  nk : XCls K mg "NoKind" t.cNoKind
  no : XCls K mg "NoOrder" t.cNoOrder
  m_RowError : mg "RowError" = some (.ref t.cRowError)
  m_NoChange : mg "NoChange" = some (.ref t.cNoChange)
  m_NoShape : mg "NoShape" = some (.ref t.cNoShape)
  m_NoField : mg "NoField" = some (.ref t.cNoField)
  m_NoText : mg "NoText" = some (.ref t.cNoText)
  m_NoLimit : mg "NoLimit" = some (.ref t.cNoLimit)
  m_NoWarming : mg "NoWarming" = some (.ref t.cNoWarming)
  x_k : PySem.W.exmOne K (.ref t.cNoKind) (.ref t.cRowError) = some true
  v_k : PySem.W.kitOne K (.ref t.cNoKind) (.type "ValueError") = some true
  k_RowError : PySem.W.kitOne K (.ref t.cNoKind) (.ref t.cRowError) = some true
  k_NoKind : PySem.W.kitOne K (.ref t.cNoKind) (.ref t.cNoKind) = some true
  k_NoOrder : PySem.W.kitOne K (.ref t.cNoKind) (.ref t.cNoOrder) = some false
  k_NoChange : PySem.W.kitOne K (.ref t.cNoKind) (.ref t.cNoChange) = some false
  k_NoShape : PySem.W.kitOne K (.ref t.cNoKind) (.ref t.cNoShape) = some false
  k_NoField : PySem.W.kitOne K (.ref t.cNoKind) (.ref t.cNoField) = some false
  k_NoText : PySem.W.kitOne K (.ref t.cNoKind) (.ref t.cNoText) = some false
  k_NoLimit : PySem.W.kitOne K (.ref t.cNoKind) (.ref t.cNoLimit) = some false
  k_NoWarming : PySem.W.kitOne K (.ref t.cNoKind) (.ref t.cNoWarming) = some false
  x_o : PySem.W.exmOne K (.ref t.cNoOrder) (.ref t.cRowError) = some true
  v_o : PySem.W.kitOne K (.ref t.cNoOrder) (.type "ValueError") = some true
  o_RowError : PySem.W.kitOne K (.ref t.cNoOrder) (.ref t.cRowError) = some true
  o_NoKind : PySem.W.kitOne K (.ref t.cNoOrder) (.ref t.cNoKind) = some false
  o_NoOrder : PySem.W.kitOne K (.ref t.cNoOrder) (.ref t.cNoOrder) = some true
  o_NoChange : PySem.W.kitOne K (.ref t.cNoOrder) (.ref t.cNoChange) = some false
  o_NoShape : PySem.W.kitOne K (.ref t.cNoOrder) (.ref t.cNoShape) = some false
  o_NoField : PySem.W.kitOne K (.ref t.cNoOrder) (.ref t.cNoField) = some false
  o_NoText : PySem.W.kitOne K (.ref t.cNoOrder) (.ref t.cNoText) = some false
  o_NoLimit : PySem.W.kitOne K (.ref t.cNoOrder) (.ref t.cNoLimit) = some false
  o_NoWarming : PySem.W.kitOne K (.ref t.cNoOrder) (.ref t.cNoWarming) = some false
theorem sc_is_kind : FnScope ["thing", "kinds"] ["thing", "kinds"] (defScope (top 11)) := ⟨rfl, rfl, rfl, by decide +kernel, rfl, by decide +kernel, by decide +kernel⟩
theorem sc_check_kind : FnScope ["kind", "kinds"] ["kind", "kinds"] (defScope (top 12)) := ⟨rfl, rfl, rfl, by decide +kernel, rfl, by decide +kernel, by decide +kernel⟩
theorem sc_elders_first : FnScope ["family", "placed", "waiting", "ready", "kind"] ["family"] (defScope (top 13)) := ⟨rfl, rfl, rfl, by decide +kernel, rfl, by decide +kernel, by decide +kernel⟩
theorem sc_reached_from : FnScope ["elders_of", "kind", "reached", "waiting", "elder"] ["elders_of", "kind"] (defScope (top 14)) := ⟨rfl, rfl, rfl, by decide +kernel, rfl, by decide +kernel, by decide +kernel⟩
theorem sc_above : FnScope ["family", "kind", "elders_of", "reached"] ["family", "kind"] (defScope (top 15)) := ⟨rfl, rfl, rfl, by decide +kernel, rfl, by decide +kernel, by decide +kernel⟩
theorem sc_beneath : FnScope ["family", "kind", "elders_of"] ["family", "kind"] (defScope (top 16)) := ⟨rfl, rfl, rfl, by decide +kernel, rfl, by decide +kernel, by decide +kernel⟩
theorem sc_order_of : FnScope ["family", "kind"] ["family", "kind"] (defScope (top 18)) := ⟨rfl, rfl, rfl, by decide +kernel, rfl, by decide +kernel, by decide +kernel⟩
theorem sc_rows_for : FnScope ["family", "kind", "elders_of", "told"] ["family", "kind"] (defScope (top 19)) := ⟨rfl, rfl, rfl, by decide +kernel, rfl, by decide +kernel, by decide +kernel⟩
theorem sc_tell_orders : FnScope ["family", "elders_of", "told", "kind", "quarrel"] ["family"] (defScope (top 20)) := ⟨rfl, rfl, rfl, by decide +kernel, rfl, by decide +kernel, by decide +kernel⟩
theorem sc_quarrel_among : FnScope ["kinds", "told", "kind"] ["kinds", "told"] (defScope (top 21)) := ⟨rfl, rfl, rfl, by decide +kernel, rfl, by decide +kernel, by decide +kernel⟩
theorem sc_rows_by : FnScope ["elders", "told"] ["elders", "told"] (defScope (top 22)) := ⟨rfl, rfl, rfl, by decide +kernel, rfl, by decide +kernel, by decide +kernel⟩
theorem sc_merge_rows : FnScope ["kind", "rows", "order", "left", "first"] ["kind", "rows"] (defScope (top 23)) := ⟨rfl, rfl, rfl, by decide +kernel, rfl, by decide +kernel, by decide +kernel⟩
theorem sc_first_free : FnScope ["left", "held", "row", "name"] ["left"] (defScope (top 24)) := ⟨rfl, rfl, rfl, by decide +kernel, rfl, by decide +kernel, by decide +kernel⟩
theorem sc_ring_among : FnScope ["left", "name", "holds", "ring"] ["left"] (defScope (top 25)) := ⟨rfl, rfl, rfl, by decide +kernel, rfl, by decide +kernel, by decide +kernel⟩
theorem sc_hold_of : FnScope ["name", "left", "number"] ["name", "left"] (defScope (top 26)) := ⟨rfl, rfl, rfl, by decide +kernel, rfl, by decide +kernel, by decide +kernel⟩
theorem sc__law_cell : FnScope ["_law_script", "_law_k", "_law_state", "_law_cell_here"] ["_law_script", "_law_k"] (defScope (top 28)) := ⟨rfl, rfl, rfl, by decide +kernel, rfl, by decide +kernel, by decide +kernel⟩
theorem sc__law_purse : FnScope ["_law_cell_here", "_law_digits"] ["_law_cell_here"] (defScope (top 29)) := ⟨rfl, rfl, rfl, by decide +kernel, rfl, by decide +kernel, by decide +kernel⟩
theorem sc__law_take : FnScope ["_law_purse_here", "_law_many", "_law_state", "_law_taken"] ["_law_purse_here", "_law_many"] (defScope (top 30)) := ⟨rfl, rfl, rfl, by decide +kernel, rfl, by decide +kernel, by decide +kernel⟩
theorem sc__law_word : FnScope ["_law_purse_here", "_law_used", "_law_word_here", "_law_k"] ["_law_purse_here", "_law_used"] (defScope (top 31)) := ⟨rfl, rfl, rfl, by decide +kernel, rfl, by decide +kernel, by decide +kernel⟩
theorem sc__law_names : FnScope ["_law_purse_here", "_law_many", "_law_used", "_law_pick", "_law_word_here", "_law_place", "_law_first", "_law_names_here", "_law_k", "_law_sign", "_law_near"] ["_law_purse_here", "_law_many", "_law_used"] (defScope (top 32)) := ⟨rfl, rfl, rfl, by decide +kernel, rfl, by decide +kernel, by decide +kernel⟩
theorem sc__law_some : FnScope ["_law_purse_here", "_law_menu", "_law_most", "_law_some_here", "_law_k", "_law_one"] ["_law_purse_here", "_law_menu", "_law_most"] (defScope (top 33)) := ⟨rfl, rfl, rfl, by decide +kernel, rfl, by decide +kernel, by decide +kernel⟩
theorem sc__law_all : FnScope ["_law_purse_here", "_law_names_here", "_law_last", "_law_turn"] ["_law_purse_here", "_law_names_here", "_law_last"] (defScope (top 34)) := ⟨rfl, rfl, rfl, by decide +kernel, rfl, by decide +kernel, by decide +kernel⟩
theorem sc__law_family : FnScope ["_law_purse_here", "_law_most", "_law_shape", "_law_names_here", "_law_family_here", "_law_k", "_law_kind", "_law_elders", "_law_order"] ["_law_purse_here", "_law_most"] (defScope (top 35)) := ⟨rfl, rfl, rfl, by decide +kernel, rfl, by decide +kernel, by decide +kernel⟩
theorem sc__law_closed : FnScope ["_law_family_here", "_law_closed_here", "_law_kind", "_law_elders", "_law_turn", "_law_ways"] ["_law_family_here"] (defScope (top 36)) := ⟨rfl, rfl, rfl, by decide +kernel, rfl, by decide +kernel, by decide +kernel⟩
theorem sc__law_only : FnScope ["_law_e", "_law_at", "_law_classes"] ["_law_e", "_law_at"] (defScope (top 37)) := ⟨rfl, rfl, rfl, by decide +kernel, rfl, by decide +kernel, by decide +kernel⟩
theorem sc__law_stranger : FnScope ["_law_purse_here", "_law_family_here", "_law_pick", "_law_kinds", "_law_k", "_law_kind", "_law_word_here", "_law_some_here"] ["_law_purse_here", "_law_family_here"] (defScope (top 38)) := ⟨rfl, rfl, rfl, by decide +kernel, rfl, by decide +kernel, by decide +kernel⟩
theorem sc__law_ask : FnScope ["_law_door_here", "_law_family_here", "_law_thing"] ["_law_door_here", "_law_family_here", "_law_thing"] (defScope (top 39)) := ⟨rfl, rfl, rfl, by decide +kernel, rfl, by decide +kernel, by decide +kernel⟩
theorem sc__law_door : FnScope ["_law_door_here", "_law_family_here", "_law_thing", "_law_closed_here", "_law_told", "_law_caught", "_law_text", "_law_e"] ["_law_door_here", "_law_family_here", "_law_thing", "_law_closed_here"] (defScope (top 40)) := ⟨rfl, rfl, rfl, by decide +kernel, rfl, by decide +kernel, by decide +kernel⟩
theorem sc__law_right : FnScope ["_law_purse_here", "_law_family_here", "_law_closed_here", "_law_kind", "_law_turn", "_law_thing"] ["_law_purse_here"] (defScope (top 41)) := ⟨rfl, rfl, rfl, by decide +kernel, rfl, by decide +kernel, by decide +kernel⟩
theorem sc_law : FnScope ["_law_script"] ["_law_script"] (defScope (top 42)) := ⟨rfl, rfl, rfl, by decide +kernel, rfl, by decide +kernel, by decide +kernel⟩
end K03
end
section
set_option autoImplicit false
namespace L2
open PySem PyProof.Rows
def heldIn (rows : List (List Str)) (x : Str) : Bool := rows.any fun o => decide (x ∈ o.drop 1)
def freeOf (rows : List (List Str)) : List Str → List Str
  | [] => []
  | x :: _ => if heldIn rows x = true then [] else [x]
def frees (rows : List (List Str)) : List Str := rows.flatMap (freeOf rows)
def outOf (x : Str) (r : List Str) : List Str := r.filter fun y => decide (y ≠ x)
def full (rows : List (List Str)) : List (List Str) := rows.filter fun r => !r.isEmpty
inductive Mg : List (List Str) → Option (List Str) → Prop where
  | nil : Mg [] (some [])
  | stuck {rows : List (List Str)} : rows ≠ [] → frees rows = [] → Mg rows none
  | step {rows : List (List Str)} {x : Str} {more : List Str} {r : Option (List Str)} : frees rows = x :: more → Mg (full (rows.map (outOf x))) r → Mg rows (r.map (x :: ·))
theorem Mg.det {rows : List (List Str)} {r : Option (List Str)} (h : Mg rows r) : ∀ {r' : Option (List Str)}, Mg rows r' → r = r' := by
  induction h with
  | nil =>
    intro r' h'
    cases h' with
    | nil => rfl
    | stuck h _ => exact absurd rfl h
    | step h _ => cases h
  | stuck h1 h2 =>
    intro r' h'
    cases h' with
    | nil => exact absurd rfl h1
    | stuck _ _ => rfl
    | step h _ => rw [h2] at h; cases h
  | step h1 _ ih =>
    intro r' h'
    cases h' with
    | nil => cases h1
    | stuck _ h => rw [h1] at h; cases h
    | step h hr =>
      rw [h1] at h
      cases h
      rw [ih hr]
def tot (rows : List (List Str)) : Nat := (rows.map List.length).sum
theorem tot_cons (r : List Str) (rows : List (List Str)) : tot (r :: rows) = r.length + tot rows := by
  unfold tot
  rw [List.map_cons, List.sum_cons]
theorem out_le (x : Str) (r : List Str) : (outOf x r).length ≤ r.length := List.length_filter_le _ _
theorem tot_out_le (x : Str) : ∀ (rows : List (List Str)), tot (rows.map (outOf x)) ≤ tot rows
  | [] => Nat.le_refl _
  | r :: rows => by
    rw [List.map_cons, tot_cons, tot_cons]
    have := tot_out_le x rows
    have := out_le x r
    omega
theorem tot_out_lt {x : Str} : ∀ {rows : List (List Str)}, (∃ r ∈ rows, x ∈ r) → tot (rows.map (outOf x)) < tot rows
  | [], ⟨_, h, _⟩ => nomatch h
  | r :: rows, ⟨q, hq, hx⟩ => by
    rw [List.map_cons, tot_cons, tot_cons]
    have h1 := tot_out_le x rows
    have h2 := out_le x r
    rcases List.mem_cons.mp hq with rfl | h
    · have : (outOf x q).length < q.length := by
        unfold outOf
        refine Nat.lt_of_le_of_ne (List.length_filter_le _ _) fun e => ?_
        have := List.length_filter_eq_length_iff.mp e x hx
        simp at this
      omega
    · have := tot_out_lt ⟨q, h, hx⟩
      omega
theorem frees_mem {rows : List (List Str)} {x : Str} (h : x ∈ frees rows) : ∃ r ∈ rows, r.head? = some x := by
  obtain ⟨r, hr, hx⟩ := List.mem_flatMap.mp h
  refine ⟨r, hr, ?_⟩
  cases r with
  | nil => cases hx
  | cons y r =>
    have hx : x ∈ (if heldIn rows y = true then [] else [y]) := hx
    by_cases hh : heldIn rows y = true
    · rw [if_pos hh] at hx
      cases hx
    · rw [if_neg hh] at hx
      rw [List.mem_singleton.mp hx]
      rfl
theorem tot_le_mem {rows : List (List Str)} {r : List Str} (h : r ∈ rows) : r.length ≤ tot rows := by
  induction rows with
  | nil => cases h
  | cons q rows ih =>
    rw [tot_cons]
    rcases List.mem_cons.mp h with rfl | h
    · omega
    · have := ih h
      omega
def RowsT (H : Hp) (vs : List V) (rows : List (List Str)) : Prop := Paired (fun (v : V) (r : List Str) => ∃ a, v = .ref a ∧ H a = some (.tup (r.map V.str))) vs rows
def RowsL (H : Hp) (vs : List V) (rows : List (List Str)) : Prop := Paired (fun (v : V) (r : List Str) => ∃ a, v = .ref a ∧ H a = some (.lst (r.map V.str))) vs rows
theorem RowsT.mono {H H' : Hp} {vs : List V} {rows : List (List Str)} (h : RowsT H vs rows) (s : Tups H H') : RowsT H' vs rows := Paired.mapP h fun v r ⟨a, e, q⟩ => ⟨a, e, s a _ q⟩
def RowsX (H : Hp) (D : Addr) (vs : List V) (rows : List (List Str)) : Prop := Paired (fun (v : V) (r : List Str) => ∃ a, v = .ref a ∧ a ≠ D ∧ H a = some (.lst (r.map V.str))) vs rows
def RowsY (H : Hp) (D E : Addr) (vs : List V) (rows : List (List Str)) : Prop := Paired (fun (v : V) (r : List Str) => ∃ a, v = .ref a ∧ a ≠ D ∧ a ≠ E ∧ H a = some (.lst (r.map V.str))) vs rows
theorem RowsY.x {H : Hp} {D E : Addr} {vs : List V} {rows : List (List Str)} (h : RowsY H D E vs rows) : RowsX H E vs rows := Paired.mapP h fun v r ⟨a, e, _, n, q⟩ => ⟨a, e, n, q⟩
theorem RowsY.grow {H H' : Hp} {D E : Addr} {o : HO} {vs : List V} {rows : List (List Str)} (h : RowsY H D E vs rows) (s : Same H H') : RowsY (upd H' D o) D E vs rows := Paired.mapP h fun v r ⟨a, e, n, n', q⟩ => ⟨a, e, n, n', by rw [upd_ne n]; exact s a _ q⟩
theorem at0 (y : Str) (r : List Str) : atI ((y :: r).map V.str) 0 = some (.str y) := atI_nat (j := 0) rfl
theorem pairedSnoc {α β : Type} {F : α → β → Prop} {as : List α} {bs : List β} {a : α} {b : β} (h : Paired F as bs) (hy : F a b) : Paired F (as ++ [a]) (bs ++ [b]) := by
  induction h with
  | nil => exact .cons hy .nil
  | cons a _ ih => exact .cons a ih
theorem take_snoc {α : Type} {l : List α} {i : Nat} (h : i < l.length) : l.take (i + 1) = l.take i ++ [l[i]] := by
  rw [List.take_succ, List.getElem?_eq_getElem h]
  rfl
theorem yes_by {σ : L2.St} {H : Hp} {A B : Hp → Prop} (h : A H) : tYes σ H (fun b H3 => if b = true then A H3 else B H3) := by
  show (if true = true then A H else B H)
  rw [if_pos rfl]
  exact h
theorem cut1 (r : List Str) : cutV (r.map V.str) (some 1) none = (r.drop 1).map V.str := by
  unfold cutV
  rw [List.length_map]
  have e1 : HT.sIx r.length 0 (some 1) = min 1 r.length := HT.sIx_nat r.length 0 1
  have e2 : HT.sIx r.length r.length none = r.length := rfl
  rw [e1, e2, ← List.map_drop, ← List.map_take]
  congr 1
  cases r with
  | nil => rfl
  | cons y r =>
    have : min 1 (y :: r).length = 1 := by simp
    rw [this]
    exact List.take_of_length_le (by simp)
end L2
end
section
set_option autoImplicit false
namespace K03
open PySem PyProof.Rows L2
section
variable {P : Program} {w : World} {K : PySem.W.Frag} {mg : Str → Option Value} {base : Heap} {t : Adr}
def spTake : Sp := fun vs H Q _ => ∃ (p : Addr) (n : Int), vs = [.ref p, .int n] ∧ Pu H p ∧ 0 < n ∧ n < 1606938044258990275541962092341162602522202993782792835301376 ∧ ∀ (r a b c : Int), 0 ≤ r → r < n → Q (.int r) (upd H p (.lst [.int a, .int b, .int c]))
theorem ok_take (D : Defs K mg t) : FnOk P w K mg base CX0 1 t._law_take.1 t._law_take.2 ["_law_purse_here", "_law_many"] spTake := by
  refine D._law_take.fn.ok sc__law_take (fun vs H Q E h => ?_) (fun cdv A outer s H vs Q E hr h => ?_)
  · obtain ⟨p, n, rfl, _⟩ := h
    rfl
  · obtain ⟨p, n, rfl, ⟨a, b, c, hp⟩, h0, h1, k⟩ := h
    refine ⟨_, (pss_cons (ps_asg (pe_op op_add (pe_ix ix_list (pv 0) pe_int (fun _ _ => rfl)) pe_int) (pg_sub (pv 0) pe_int set_list))
      (pss_cons (ps_set (i := 2) sc__law_take.nd rfl (Or.inl rfl) (pe_ix ix_list (pv 0) pe_int (fun _ _ => rfl)))
      (pss_cons (ps_asg (pe_op op_mod (pe_op op_add (pe_op op_mul (pv 2) (pe_op op_add (pe_op op_mod (pv 2) pe_int) pe_int)) (pe_op op_mul pe_int (pe_ix ix_list (pv 0) pe_int (fun _ _ => rfl)))) pe_int) (pg_sub (pv 0) pe_int set_list))
      (pss_cons (ps_if (pt_cmpR op_gt (pe_ix ix_list (pv 0) pe_int (fun _ _ => rfl)) pe_int (nomark _))
      (pss_cons (ps_set (i := 3) sc__law_take.nd rfl (Or.inl rfl) (pe_op op_mod (pe_ix ix_list (pv 0) pe_int (fun _ _ => rfl)) (pv 1)))
      (pss_cons (ps_asg (pe_op op_fdivL (pe_ix ix_list (pv 0) pe_int (fun _ _ => rfl)) (pv 1)) (pg_sub (pv 0) pe_int set_list))
      (pss_one (ps_ret (pv 3)))))
      pss_nil)
      (pss_one (ps_ret (pe_op op_mod (pe_op op_fdiv (pe_ix ix_list (pv 0) pe_int (fun _ _ => rfl)) pe_int) (pv 1)))))))), ?_⟩
    refine ⟨_, rfl, p, _, _, _, rfl, rfl, SqL.of hp, rfl, _, _, rfl, rfl, _, rfl, p, _, _, 2, rfl, rfl, hp, rfl, ?_⟩
    refine ⟨_, rfl, p, _, _, _, rfl, rfl, SqL.of upd_same, rfl, ?_⟩
    refine ⟨_, rfl, _, rfl, _, _, rfl, rfl, (by show (0 : Int) < 46337; decide), _, _, rfl, rfl, _, _, rfl, rfl, .inr ⟨?_, ?_⟩, _, rfl, p, _, _, _, rfl, rfl, SqL.of upd_same, rfl, _, _, rfl, rfl, .inl ⟨by decide, by decide⟩, _, _, rfl, rfl, _, _, rfl, rfl,
      (by show (0 : Int) < 2147483587; decide), _, rfl, p, _, _, 0, rfl, rfl, upd_same, rfl, ?_⟩
    · have := Int.emod_nonneg a (show (46337 : Int) ≠ 0 by decide)
      omega
    · have := Int.emod_lt_of_pos a (show (0 : Int) < 46337 by decide)
      omega
    rw [upd_upd]
    refine ⟨_, rfl, p, _, _, _, rfl, rfl, SqL.of upd_same, rfl, _, _, rfl, rfl, _, rfl, ite2 (fun hb => ?_) (fun hb => ?_)⟩
    · refine ⟨_, rfl, p, _, _, _, rfl, rfl, SqL.of upd_same, rfl, _, rfl, _, _, rfl, rfl, h0, _, rfl, p, _, _, _, rfl, rfl, SqL.of upd_same, rfl, _, rfl, _, _, rfl, rfl, ⟨h0, h1⟩, _, rfl, p, _, _, 1, rfl, rfl, upd_same, rfl, _, rfl, ?_⟩
      rw [upd_upd]
      exact k _ _ _ _ (Int.emod_nonneg _ (by omega)) (Int.emod_lt_of_pos _ h0)
    · refine ⟨_, rfl, p, _, _, _, rfl, rfl, SqL.of upd_same, rfl, _, _, rfl, rfl, ⟨by decide, by decide⟩, _, rfl, _, _, rfl, rfl, h0, ?_⟩
      exact k _ _ _ _ (Int.emod_nonneg _ (by omega)) (Int.emod_lt_of_pos _ h0)
def spPurse : Sp := fun vs H Q _ => ∃ (n : Int), vs = [.int n] ∧ ∀ (p : Addr) (a b c : Int), H p = none → Q (.ref p) (upd H p (.lst [.int a, .int b, .int c]))
theorem ok_purse (D : Defs K mg t) : FnOk P w K mg base CX0 1 t._law_purse.1 t._law_purse.2 ["_law_cell_here"] spPurse := by
  refine D._law_purse.fn.ok sc__law_purse (fun vs H Q E h => ?_) (fun cdv A outer s H vs Q E hr h => ?_)
  · obtain ⟨n, rfl, _⟩ := h
    rfl
  · obtain ⟨n, rfl, k⟩ := h
    refine ⟨_, (pss_cons (ps_set (i := 1) sc__law_purse.nd rfl (Or.inl rfl) pe_int)
      (pss_join (ps_if (PW.pt (pw_or (pt_cmpR op_lt (pv 0) pe_int (nomark _)) (pw_or1 (pt_cmpR op_ge (pv 0) (pe_op op_pow pe_int pe_int) (nomark _)))))
      (pss_one (ps_set (i := 1) sc__law_purse.nd rfl (Or.inl rfl) (pe_callB call_abs (by rfl) D.b_abs bt_abs (pa_cons (pv 0) pa_nil))))
      pss_nil)
      (pss_one (ps_ret (pe_lst (pa_cons (pe_op op_mod (pv 0) pe_int) (pa_cons (pv 1) (pa_cons pe_int pa_nil)))))))), ?_⟩
    refine ⟨fun σ' H' => ∃ d : Int, σ' = [some (.int n), some (.int d)] ∧ H' = H, ?_, ?_⟩
    · refine ⟨_, rfl, _, _, rfl, rfl, _, rfl, ite2 (fun hb => ?_) (fun hb => ?_)⟩
      · exact iteT ⟨_, rfl, _, rfl, _, rfl, rfl⟩
      · refine ⟨_, rfl, _, _, rfl, rfl, ⟨by decide, by decide, by decide⟩, _, _, rfl, rfl, _, rfl, ite2 (fun hc => ?_) (fun hc => ?_)⟩
        · exact ⟨_, rfl, _, rfl, _, rfl, rfl⟩
        · exact ⟨_, rfl, rfl⟩
    · rintro σ' H' ⟨d, rfl, rfl⟩
      exact ⟨_, rfl, _, _, rfl, rfl, (by show (0 : Int) < 2147483587; decide), _, rfl, (by show 3 ≤ sizeLine; decide), fun p hp => k p _ _ _ hp⟩
def spCell (K : PySem.W.Frag) : Sp := fun vs H Q _ => ∃ (a : Addr) (ns : List Int) (k : Int), vs = [.ref a, .int k] ∧ SqL K H a (ns.map V.int) ∧ ns.length ≤ 63 ∧ 0 ≤ k ∧ k ≤ 1000 ∧ ∀ (n : Int) H', Same H H' → Q (.int n) H'
theorem ok_cell (D : Defs K mg t) : FnOk P w K mg base CX0 1 t._law_cell.1 t._law_cell.2 ["_law_script", "_law_k"] (spCell K) := by
  refine D._law_cell.fn.ok sc__law_cell (fun vs H Q E h => ?_) (fun cdv A outer s H vs Q E hr h => ?_)
  · obtain ⟨a, ns, k, rfl, _⟩ := h
    rfl
  · obtain ⟨a, ns, k, rfl, hS, hl, h0, h1, q⟩ := h
    refine ⟨_, (pss_cons (ps_if (pt_cmpR op_lt (pv 1) (pe_callB call_len_seq (by rfl) D.b_len bt_len (pa_cons (pv 0) pa_nil)) (nomark _))
      (pss_one (ps_ret (pe_ix ix_list (pv 0) (pv 1) (fun _ _ => rfl))))
      pss_nil)
      (pss_cons (ps_set (i := 2) sc__law_cell.nd rfl (Or.inl rfl) (pe_op op_mul (pe_op op_mul pe_int (pe_op op_add (pv 1) pe_int)) (pe_op op_add (pv 1) pe_int)))
      (pss_cons (ps_for PassesOwn.never rfl (pi_list (pe_slice sl_list (pv 0) po_none (po_some pe_int))) (pg_name (i := 3) sc__law_cell.nd rfl (Or.inl rfl))
      (pss_one (ps_set (i := 2) sc__law_cell.nd rfl (Or.inl rfl) (pe_op op_mod (pe_op op_add (pe_op op_mul (pv 2) pe_int) (pv 3)) pe_int))))
      (pss_one (ps_ret (pv 2)))))), ?_⟩
    refine ⟨_, rfl, _, rfl, a, _, rfl, .inl hS, _, _, rfl, rfl, _, rfl, ite2 (fun hb => ?_) (fun hb => ?_)⟩
    · have hk : k < (ns.map V.int).length := of_decide_eq_true hb
      obtain ⟨v, e, m, _⟩ := atI_in h0 hk
      obtain ⟨z, _, rfl⟩ := List.mem_map.mp m
      exact ⟨_, rfl, _, rfl, a, _, _, _, rfl, rfl, hS, e, q z H (Same.refl H)⟩
    · refine ⟨_, rfl, _, _, rfl, rfl, _, _, rfl, rfl, .inl ⟨by decide, by decide⟩, _, rfl, _, _, rfl, rfl, _, _, rfl, rfl, .inr ⟨by omega, by omega⟩, ?_⟩
      refine ⟨_, rfl, _, rfl, a, _, rfl, hS, fun p hp => ⟨p, rfl, ⟨_, SqL.of upd_same⟩, for_list (K := K) (a := p) (xs := cutV (ns.map V.int) none (some 4)) (fun i σ H2 => ∃ (st : Int) (v : Option V), σ = [some (.ref a), some (.int k), some (.int st), v] ∧ H2 = upd H p (.lst (cutV (ns.map V.int) none (some 4))))
        ⟨_, _, rfl, rfl⟩ (fun i σ H2 _ ⟨_, _, _, e⟩ => by rw [e]; exact SqL.of upd_same) ?_ ?_⟩⟩
      · rintro i x σ H2 hi ⟨st, v, rfl, rfl⟩
        have m : x ∈ ns.map V.int := List.mem_of_mem_drop (List.mem_of_mem_take (List.mem_of_getElem? hi))
        obtain ⟨z, _, rfl⟩ := List.mem_map.mp m
        exact ⟨_, rfl, _, _, rfl, rfl, .inr ⟨by decide, by decide⟩, _, rfl, _, _, rfl, rfl, _, _, rfl, rfl, (by show (0 : Int) < 2147483587; decide), _, _, rfl, rfl⟩
      · rintro σ H2 ⟨st, v, rfl, rfl⟩
        exact ⟨_, rfl, q st _ (Same.new hp)⟩
end
end K03
end
section
set_option autoImplicit false
namespace K03
open PySem PyProof.Rows L2
section
variable {P : Program} {w : World} {K : PySem.W.Frag} {mg : Str → Option Value} {base : Heap} {t : Adr}
def spWord : Sp := fun vs H Q _ => ∃ (p u : Addr) (us : List Str), vs = [.ref p, .ref u] ∧ Pu H p ∧ H u = some (.lst (us.map V.str)) ∧ us.length ≤ 25 ∧ ∀ (x : Str) H', 1 ≤ x.length → x.length ≤ 7 → Lw x → ¬ x ∈ us → Off p H H' → Pu H' p → Q (.str x) H'
theorem ok_word (D : Defs K mg t) : FnOk P w K mg base CX0 2 t._law_word.1 t._law_word.2 ["_law_purse_here", "_law_used"] spWord := by
  have G__law_take : FnOk P w K mg base CX0 1 t._law_take.1 t._law_take.2 _ spTake := ok_take D
  have hz : sizeLine = 16777216 := sizeLine_eq
  refine D._law_word.fn.ok sc__law_word (fun vs H Q E h => ?_) (fun cdv A outer s H vs Q E hr h => ?_)
  · obtain ⟨p, u, us, rfl, _⟩ := h
    rfl
  · obtain ⟨p, u, us, rfl, hp, hu, hl, k⟩ := h
    have up : u ≠ p := hp.ne hu
    refine ⟨_, (pss_cons (ps_set (i := 2) sc__law_word.nd rfl (Or.inr rfl) pe_str)
      (pss_cons (ps_for PassesOwn.never rfl (pi_range1 rfl D.b_range (pa_cons (pe_op op_add pe_int (pe_callF D._law_take G__law_take (hr.mono (by omega)) (by rfl) (pa_cons (pv 0) (pa_cons pe_int pa_nil)))) pa_nil)) (pg_name (i := 3) sc__law_word.nd rfl (Or.inl rfl))
      (pss_one (ps_set (i := 2) sc__law_word.nd rfl (Or.inr rfl) (pe_op op_add_str (pv 2) (pe_ix ix_str pe_str (pe_callF D._law_take G__law_take (hr.mono (by omega)) (by rfl) (pa_cons (pv 0) (pa_cons pe_int pa_nil))) (fun _ _ => rfl))))))
      (pss_cons (ps_if (pt_cmpR op_notIn_seq (pv 2) (pv 1) (by with_unfolding_all rfl))
      (pss_one (ps_ret (pv 2)))
      pss_nil)
      (pss_one (ps_ret (pe_ix ix_list (pe_comp rfl (CompScope.of ["_law_a"] [1, 2] ["_law_a", "_law_used", "_law_word_here"] (defScope (top 31)) ["_law_purse_here", "_law_used", "_law_word_here", "_law_k"] rfl rfl (by decide +kernel)) ⟨fun _ _ _ _ _ => (pg_name (i := 0) (show List.Nodup [("_law_a" : Str), ("_law_used" : Str), ("_law_word_here" : Str)] by decide +kernel) rfl (Or.inl (lookup_relabel_local rfl)) (.inr (lookup_relabel_local rfl))), fun _ _ _ _ _ => (pts_one (pt_cmpR (op_notIn_K (K := K) rfl) (pe_op op_add_str (pv 0) (pe_slice sl_str (pv 2) po_none (po_some pe_int))) (pv 1) (by with_unfolding_all rfl))), fun _ _ _ _ _ => (pe_op op_add_str (pv 0) (pe_slice sl_str (pv 2) po_none (po_some pe_int)))⟩ (pi_str pe_str)) pe_int (fun _ _ => rfl))))))), ?_⟩
    refine ⟨_, rfl, p, 6, rfl, hp, by decide, by decide, fun r2 a2 b2 c2 g0 g1 => ⟨_, _, rfl, rfl, _, rfl, by omega, by omega, ?_⟩⟩
    refine for_range (lo := 0) (n := (1 + r2).toNat) (fun i σ H2 => ∃ (x : Str) (v : Option V), σ = [some (.ref p), some (.ref u), some (.str x), v] ∧ x.length = i ∧ Lw x ∧ Off p H H2 ∧ Pu H2 p)
      ⟨_, _, rfl, by decide, Lw.nil, Off.upd, Pu.upd⟩ ?_ ?_
    · rintro i σ H2 hi ⟨x, v, rfl, hx, xl, o2, p2⟩
      refine ⟨_, rfl, _, rfl, p, 26, rfl, p2, by decide, by decide, fun r3 a3 b3 c3 f0 f1 => ?_⟩
      obtain ⟨cc, ec, _, _⟩ := atI_in (xs := abc.cps.toList) f0 (by rw [Array.length_toList, abc_len]; exact f1)
      refine ⟨abc, _, cc, rfl, rfl, by decide +kernel, ec, _, _, rfl, rfl, ?_, _, _, rfl, ?_, xl.app (Lw.one (mem_of_atI ec)), o2.trans Off.upd, Pu.upd⟩
      · show x.length + 1 ≤ sizeLine
        omega
      · rw [str_len_app]
        show x.length + 1 = i + 1
        omega
    · rintro σ' H' ⟨x, v, rfl, hx, xl, oh, ph⟩
      have hx1 : 1 ≤ x.length := by omega
      have hx6 : x.length ≤ 6 := by omega
      have hu' : H' u = some (.lst (us.map V.str)) := oh u _ up hu
      refine ⟨_, rfl, _, rfl, u, _, rfl, .inl (SqL.of hu'), rfl, flat_strs us, _, rfl, ite2 (fun hb => ?_) (fun hb => ?_)⟩
      · refine ⟨_, rfl, k x H' hx1 (by omega) xl ?_ oh ph⟩
        intro hm
        have hb : (!inV (.str x) (us.map V.str)) = true := hb
        rw [inV_strs, decide_eq_true hm] at hb
        cases hb
      · have s5 : (Txt.slice x none (some 5)).length ≤ 6 := Nat.le_trans (slice_len x _ _) hx6
        refine ⟨_, rfl, by decide +kernel, fun Dd hD => ?_⟩
        have uD : u ≠ Dd := ne_of_none hu' hD
        have pD : p ≠ Dd := ph.neN hD
        refine comp_by (n := 26) (fun i ys H2 => ys = ((letters.take i).filter fun c => decide (¬ (c ++ Txt.slice x none (some 5)) ∈ us)).map (fun c => V.str (c ++ Txt.slice x none (some 5))) ∧ H2 = upd H' Dd (.lst ys)) ⟨rfl, rfl⟩ ?_ ?_
        · rintro ys H2 ⟨rfl, rfl⟩
          refine ⟨by show abc.cps.size ≤ 26; rw [abc_len]; exact Nat.le_refl _, ?_⟩
          rw [show letters.take 26 = letters from List.take_of_length_le (by rw [letters_len]; exact Nat.le_refl _)]
          obtain ⟨c, hc, hn⟩ := some_letter hl (Txt.slice x none (some 5))
          have hmem : c ∈ letters.filter fun c => decide (¬ (c ++ Txt.slice x none (some 5)) ∈ us) := List.mem_filter.mpr ⟨hc, decide_eq_true hn⟩
          obtain ⟨d, rest, ed⟩ := List.exists_cons_of_ne_nil (List.ne_nil_of_mem hmem)
          have hd : d ∈ letters.filter fun c => decide (¬ (c ++ Txt.slice x none (some 5)) ∈ us) := by rw [ed]; exact List.mem_cons_self
          obtain ⟨hd1, hd2⟩ := List.mem_filter.mp hd
          refine ⟨Dd, _, _, .str (d ++ Txt.slice x none (some 5)), rfl, rfl, SqL.of upd_same, by rw [ed]; exact atI_nat (j := 0) rfl, ?_⟩
          refine k _ _ ?_ ?_ ((Lw.letter hd1).app (xl.slice _ _)) (of_decide_eq_true hd2) (oh.trans (Off.new hD)) (ph.upd_ne pD)
          · rw [str_len_app, letters_one d hd1]
            omega
          · rw [str_len_app, letters_one d hd1]
            omega
        · rintro i ys H2 hi ⟨rfl, rfl⟩
          refine ⟨by show i < abc.cps.size; rw [abc_len]; exact hi, ?_⟩
          rintro y H3 ⟨rfl, c, ec, rfl⟩ σo ho
          obtain ⟨o, rfl⟩ := own1 ho
          have el : letters[i]? = some ⟨#[c]⟩ := by
            have ec' : abc.cps[i]? = some c := ec
            unfold letters
            rw [List.getElem?_map, Array.getElem?_toList, ec']
            rfl
          have et : letters.take (i + 1) = letters.take i ++ [⟨#[c]⟩] := by
            rw [List.take_succ, el]
            rfl
          have hlen : (((letters.take i).filter fun c => decide (¬ (c ++ Txt.slice x none (some 5)) ∈ us)).map (fun c => V.str (c ++ Txt.slice x none (some 5)))).length ≤ 26 := by
            rw [List.length_map]
            refine Nat.le_trans (List.length_filter_le _ _) ?_
            rw [List.length_take]
            omega
          refine ⟨⟨[_], rfl, rfl⟩, _, rfl, _, rfl, _, rfl, x, rfl, by omega, _, _, rfl, rfl, (by show 1 + _ ≤ sizeLine; omega), _, rfl, u, _, rfl, .inl (SqL.of (by rw [upd_ne uD]; exact hu')), rfl, flat_strs us, _, rfl, ite2 (fun hb => ?_) (fun hb => ?_)⟩
          · have hb : (!inV (.str (⟨#[c]⟩ ++ Txt.slice x none (some 5))) (us.map V.str)) = true := hb
            rw [inV_strs] at hb
            have hn : ¬ ((⟨#[c]⟩ : Str) ++ Txt.slice x none (some 5)) ∈ us := by simpa using hb
            refine ⟨_, rfl, _, rfl, _, rfl, x, rfl, by omega, _, _, rfl, rfl, (by show 1 + _ ≤ sizeLine; omega), by omega, upd_same, less_by hi ⟨?_, by rw [upd_upd]⟩⟩
            rw [et, List.filter_append, List.map_append]
            congr 1
            rw [List.filter_cons, if_pos (decide_eq_true hn)]
            rfl
          · have hb : ¬ (!inV (.str (⟨#[c]⟩ ++ Txt.slice x none (some 5))) (us.map V.str)) = true := hb
            rw [inV_strs] at hb
            have hn : ((⟨#[c]⟩ : Str) ++ Txt.slice x none (some 5)) ∈ us := by simpa using hb
            refine less_by hi ⟨?_, rfl⟩
            rw [et, List.filter_append]
            rw [show List.filter (fun c => decide (¬ (c ++ Txt.slice x none (some 5)) ∈ us)) [(⟨#[c]⟩ : Str)] = [] by rw [List.filter_cons, if_neg (by simpa using hn)]; rfl, List.append_nil]
end
end K03
end
section
set_option autoImplicit false
namespace K03
open PySem PyProof.Rows L2
section
variable {P : Program} {w : World} {K : PySem.W.Frag} {mg : Str → Option Value} {base : Heap} {t : Adr}
theorem strRep_len (x : Str) {n : Int} (h : 1 ≤ n) : (strRep x n).length ≤ x.length * n.toNat := by
  unfold strRep
  rw [if_neg (by omega)]
  split
  · have : 1 ≤ n.toNat := by omega
    exact Nat.le_mul_of_pos_right _ (by omega)
  · show (List.foldl (fun x1 x2 => x1 ++ x2) #[] (List.replicate n.toNat x.cps)).size ≤ _
    rw [size_rep, Array.size_empty, Nat.mul_comm, Nat.zero_add]
    exact Nat.le_refl _
def spNames : Sp := fun vs H Q _ => ∃ (p u : Addr) (us : List Str) (n : Int), vs = [.ref p, .int n, .ref u] ∧ Pu H p ∧ H u = some (.lst (us.map V.str)) ∧ 0 ≤ n ∧ us.length + n.toNat ≤ 25 ∧
  ∀ (l : Addr) (ns : List Str) H', H l = none → ns.length = n.toNat → ns.Nodup → (∀ x ∈ ns, ¬ x ∈ us ∧ Wd x) → H' l = some (.lst (ns.map V.str)) → Off p H H' → Pu H' p → Q (.ref l) H'
theorem nd_snoc {α : Type} {l : List α} {x : α} (h : l.Nodup) (hx : ¬ x ∈ l) : (l ++ [x]).Nodup := by
  rw [List.nodup_append]
  refine ⟨h, by simp, fun a ha b hb e => ?_⟩
  have : b = x := by simpa using hb
  rw [e, this] at ha
  exact hx ha
theorem ok_names (D : Defs K mg t) : FnOk P w K mg base CX0 3 t._law_names.1 t._law_names.2 ["_law_purse_here", "_law_many", "_law_used"] spNames := by
  have G__law_take : FnOk P w K mg base CX0 1 t._law_take.1 t._law_take.2 _ spTake := ok_take D
  have G__law_word : FnOk P w K mg base CX0 2 t._law_word.1 t._law_word.2 _ spWord := ok_word D
  have hz : sizeLine = 16777216 := sizeLine_eq
  refine D._law_names.fn.ok sc__law_names (fun vs H Q E h => ?_) (fun cdv A outer s H vs Q E hr h => ?_)
  · obtain ⟨p, u, us, n, rfl, _⟩ := h
    rfl
  · obtain ⟨p, u, us, n, rfl, hp, hu, h0, h1, k⟩ := h
    have up : u ≠ p := hp.ne hu
    refine ⟨_, (pss_cons (ps_set (i := 3) sc__law_names.nd rfl (Or.inl rfl) (pe_callF D._law_take G__law_take (hr.mono (by omega)) (by rfl) (pa_cons (pv 0) (pa_cons pe_int pa_nil))))
      (pss_cons (ps_set (i := 4) sc__law_names.nd rfl (Or.inl rfl) (pe_callF D._law_word G__law_word (hr.mono (by omega)) (by rfl) (pa_cons (pv 0) (pa_cons (pv 2) pa_nil))))
      (pss_cons (ps_set (i := 5) sc__law_names.nd rfl (Or.inl rfl) (pe_callF D._law_take G__law_take (hr.mono (by omega)) (by rfl) (pa_cons (pv 0) (pa_cons (pe_callB call_len_str (by rfl) D.b_len bt_len (pa_cons (pv 4) pa_nil)) pa_nil))))
      (pss_cons (ps_set (i := 6) sc__law_names.nd rfl (Or.inl rfl) (pe_callF D._law_take G__law_take (hr.mono (by omega)) (by rfl) (pa_cons (pv 0) (pa_cons pe_int pa_nil))))
      (pss_cons (ps_set (i := 7) sc__law_names.nd rfl (Or.inl rfl) (pe_lst pa_nil))
      (pss_cons (ps_for PassesOwn.never rfl (pi_range1 rfl D.b_range (pa_cons (pv 1) pa_nil)) (pg_name (i := 8) sc__law_names.nd rfl (Or.inl rfl))
      (pss_cons (ps_set (i := 9) sc__law_names.nd rfl (Or.inl rfl) (pe_ix ix_str pe_str (pe_op op_mod (pe_op op_add (pv 6) (pe_op op_mul pe_int (pv 8))) pe_int) (fun _ _ => rfl)))
      (pss_cons (ps_set (i := 10) sc__law_names.nd rfl (Or.inl rfl) (pe_op op_add_str (pe_op op_add_str (pe_slice sl_str (pv 4) po_none (po_some (pv 5))) (pv 9)) (pe_slice sl_str (pv 4) (po_some (pe_op op_add (pv 5) pe_int)) po_none)))
      (pss_join (ps_if (pt_cmpR op_eq (pv 3) pe_int (nomark _))
      (pss_one (ps_set (i := 10) sc__law_names.nd rfl (Or.inl rfl) (pe_slice sl_str (pe_op op_mulS (pv 4) pe_int) po_none (po_some (pe_callB (call_min2 rfl) (by rfl) D.b_min bt_min (pa_cons pe_int (pa_cons (pe_op op_add (pv 8) pe_int) pa_nil)))))))
      pss_nil)
      (pss_join (ps_if (PW.pt (pw_or (pt_cmpR op_gt (pv 3) pe_int (nomark _)) (pw_or1 (pt_cmpR op_in_seq (pv 10) (pe_op op_cat (pv 2) (pv 7)) (by with_unfolding_all rfl)))))
      (pss_one (ps_set (i := 10) sc__law_names.nd rfl (Or.inl rfl) (pe_callF D._law_word G__law_word (hr.mono (by omega)) (by rfl) (pa_cons (pv 0) (pa_cons (pe_op op_cat (pv 2) (pv 7)) pa_nil)))))
      pss_nil)
      (pss_one (ps_expr (pe_bm PySem.F.plainAttrs_list PySem.F.slot_list_append PySem.F.type_list_append mt_append (pv 7) (pa_cons (pv 10) pa_nil)))))))))
      (pss_one (ps_ret (pv 7))))))))), ?_⟩
    refine ⟨_, rfl, p, 4, rfl, hp, by decide, by decide, fun pick a1 b1 c1 l1 u1 => ?_⟩
    refine ⟨_, rfl, _, rfl, p, u, us, rfl, Pu.upd, by rw [upd_ne up]; exact hu, by omega, fun x H1 hx1 hx7 xl _ o1 p1 => ?_⟩
    have o1 : Off p H H1 := Off.upd.trans o1
    refine ⟨_, rfl, _, rfl, x, rfl, by omega, p, _, rfl, p1, by omega, by omega, fun place a2 b2 c2 l2 u2 => ?_⟩
    refine ⟨_, rfl, p, 26, rfl, Pu.upd, by decide, by decide, fun first a3 b3 c3 l3 u3 => ?_⟩
    rw [upd_upd]
    have o3 : Off p H (upd H1 p (.lst [.int a3, .int b3, .int c3])) := o1.trans Off.upd
    refine ⟨Nat.zero_le _, fun l hl => ?_⟩
    have hlH : H l = none := by
      by_cases e : l = p
      · rw [e, upd_same] at hl
        cases hl
      · cases q : H l with
        | none => rfl
        | some o =>
          rw [o3 l o e q] at hl
          cases hl
    have pl : p ≠ l := hp.neN hlH
    have ul : u ≠ l := ne_of_none hu hlH
    refine ⟨_, rfl, n, rfl, by omega, by omega, for_range (lo := 0) (n := n.toNat) (fun i σ H2 => ∃ (ns : List Str) (v8 v9 v10 : Option V), σ = [some (.ref p), some (.int n), some (.ref u), some (.int pick), some (.str x), some (.int place), some (.int first), some (.ref l), v8, v9, v10] ∧
      ns.length = i ∧ ns.Nodup ∧ (∀ x ∈ ns, ¬ x ∈ us ∧ Wd x) ∧ H2 l = some (.lst (ns.map V.str)) ∧ Off p H H2 ∧ Pu H2 p)
      ⟨[], _, _, _, rfl, rfl, List.nodup_nil, by simp, upd_same, o3.trans (Off.new hl), Pu.upd.upd_ne pl⟩ ?_ ?_⟩
    · rintro i σ H2 hi ⟨ns, v8, v9, v10, rfl, hns, nd, nu, hl2, o2, p2⟩
      have hu2 : H2 u = some (.lst (us.map V.str)) := o2 u _ up hu
      have m0 := Int.emod_nonneg (first + 7 * (0 + (i : Int))) (show (26 : Int) ≠ 0 by decide)
      have m1 := Int.emod_lt_of_pos (first + 7 * (0 + (i : Int))) (show (0 : Int) < 26 by decide)
      obtain ⟨cc, ec, _, _⟩ := atI_in (xs := abc.cps.toList) m0 (by rw [Array.length_toList, abc_len]; exact m1)
      refine ⟨_, rfl, _, rfl, _, _, rfl, rfl, .inl ⟨by decide, by decide⟩, _, _, rfl, rfl, _, _, rfl, rfl, (by show (0 : Int) < 26; decide), abc, _, cc, rfl, rfl, by decide +kernel, ec, ?_⟩
      have q1 := slice_len x none (some place)
      have q2 := slice_len x (some (place + 1)) none
      refine ⟨_, rfl, _, rfl, _, rfl, x, rfl, by omega, _, rfl, _, _, rfl, rfl, (by show (Txt.slice x none (some place)).length + 1 ≤ sizeLine; omega), _, rfl, _, rfl, _, _, rfl, rfl, _, rfl, x, rfl, by omega, _, _, rfl, rfl, ?_, ?_⟩
      · rw [str_len_app]
        show (Txt.slice x none (some place)).length + 1 + _ ≤ sizeLine
        omega
      refine ⟨fun σ' H' => ∃ (y : Str) (v8 v9 : Option V), σ' = [some (.ref p), some (.int n), some (.ref u), some (.int pick), some (.str x), some (.int place), some (.int first), some (.ref l), some (.int (0 + (i : Int))), v9, some (.str y)] ∧ H' = H2 ∧ Wd y, ?_, ?_⟩
      · refine ⟨_, rfl, rfl, _, rfl, ite2 (fun hb => ?_) (fun hb => ?_)⟩
        · have q3 := strRep_len x (n := 6) (by decide)
          refine ⟨_, rfl, x, 6, rfl, rfl, by decide, by decide, by omega, _, rfl, _, _, rfl, rfl, _, _, rfl, _, rfl, _, rfl, by show (strRep x 6).length ≤ sizeLine; have : (6 : Int).toNat = 6 := rfl; rw [this] at q3; omega, _, none, _, rfl, rfl, ?_, (xl.rep _).slice _ _⟩
          have q4 := slice_len (strRep x 6) none (some (if 0 + (i : Int) + 1 < 6 then 0 + (i : Int) + 1 else 6))
          have : (6 : Int).toNat = 6 := rfl
          rw [this] at q3
          exact Nat.le_trans q4 (by omega)
        · refine ⟨_, none, _, rfl, rfl, ?_, ((xl.slice _ _).app (Lw.one (mem_of_atI ec))).app (xl.slice _ _)⟩
          rw [str_len_app, str_len_app]
          show (Txt.slice x none (some place)).length + 1 + _ ≤ 100
          omega
      · rintro σ' H' ⟨y, v8', v9', rfl, rfl, hyl⟩
        refine ⟨fun σ' H'' => ∃ (y : Str) (v9 : Option V), σ' = [some (.ref p), some (.int n), some (.ref u), some (.int pick), some (.str x), some (.int place), some (.int first), some (.ref l), some (.int (0 + (i : Int))), v9, some (.str y)] ∧ (¬ y ∈ us ∧ Wd y) ∧ ¬ y ∈ ns ∧ Off p H' H'' ∧ Pu H'' p, ?_, ?_⟩
        · have cl : (us.map V.str).length + (ns.map V.str).length ≤ sizeLine := by rw [List.length_map, List.length_map]; omega
          have fresh : ∀ (q : Addr) (H0 : Hp), Off p H' H0 → Pu H0 p → H0 q = none → ∀ (y : Str) (H3 : Hp), ¬ y ∈ us ++ ns → Off p (upd H0 q (.lst (us.map V.str ++ ns.map V.str))) H3 → Pu H3 p → ¬ y ∈ us ∧ ¬ y ∈ ns ∧ Off p H' H3 ∧ Pu H3 p := fun q H0 o0 p0 hq y H3 hy o3 p3 =>
            ⟨fun h => hy (List.mem_append_left _ h), fun h => hy (List.mem_append_right _ h), (o0.trans (Off.new hq)).trans o3, p3⟩
          refine ⟨_, rfl, _, _, rfl, rfl, _, rfl, ite2 (fun hb => ?_) (fun hb => ?_)⟩
          · refine iteT ⟨_, rfl, _, rfl, _, rfl, u, l, _, _, rfl, rfl, hu2, hl2, cl, fun q hq => ⟨p, q, us ++ ns, rfl, p2.upd_ne (p2.neN hq), by rw [upd_same, List.map_append], by rw [List.length_append]; omega, fun y' H3 _ hy7 yl hy o3 p3 => ?_⟩⟩
            obtain ⟨f1, f2, f3, f4⟩ := fresh q H' (Off.refl p H') p2 hq y' H3 hy o3 p3
            exact ⟨y', _, rfl, ⟨f1, by omega, yl⟩, f2, f3, f4⟩
          · refine ⟨_, rfl, _, rfl, _, rfl, u, l, _, _, rfl, rfl, hu2, hl2, cl, fun q hq => ⟨q, _, rfl, .inl (SqL.of upd_same), rfl, ?_, _, rfl, ite2 (fun hc => ?_) (fun hc => ?_)⟩⟩
            · rw [List.all_append, flat_strs, flat_strs]
              rfl
            · have uq : u ≠ q := ne_of_none hu2 hq
              have lq : l ≠ q := ne_of_none hl2 hq
              refine ⟨_, rfl, _, rfl, _, rfl, u, l, _, _, rfl, rfl, by rw [upd_ne uq]; exact hu2, by rw [upd_ne lq]; exact hl2, cl, fun q2 hq2 => ⟨p, q2, us ++ ns, rfl, (p2.upd_ne (p2.neN hq)).upd_ne ((p2.upd_ne (p2.neN hq)).neN hq2), by rw [upd_same, List.map_append], by rw [List.length_append]; omega, fun y' H3 _ hy7 yl hy o3 p3 => ?_⟩⟩
              obtain ⟨f1, f2, f3, f4⟩ := fresh q2 _ (Off.new hq) (p2.upd_ne (p2.neN hq)) hq2 y' H3 hy o3 p3
              exact ⟨y', _, rfl, ⟨f1, by omega, yl⟩, f2, f3, f4⟩
            · have hc : ¬ inV (.str y) (us.map V.str ++ ns.map V.str) = true := hc
              rw [← List.map_append, inV_strs] at hc
              have hc : ¬ y ∈ us ++ ns := fun h => hc (decide_eq_true h)
              exact ⟨y, _, rfl, ⟨fun h => hc (List.mem_append_left _ h), hyl⟩, fun h => hc (List.mem_append_right _ h), Off.new hq, p2.upd_ne (p2.neN hq)⟩
        · rintro σ'' H3 ⟨y', v9'', rfl, y1, y2, o3, p3⟩
          have hl3 : H3 l = some (.lst (ns.map V.str)) := o3 l _ pl.symm hl2
          refine ⟨_, rfl, .inl ⟨rfl, _, SqL.of hl3⟩, _, rfl, l, ns.map V.str, .str y', rfl, rfl, hl3, by rw [List.length_map]; omega, ns ++ [y'], _, _, _, rfl, by rw [List.length_append, hns]; rfl, nd_snoc nd y2, ?_, by rw [upd_same, List.map_append]; rfl, ?_, p3.upd_ne pl⟩
          · intro z hz
            rcases List.mem_append.mp hz with h | h
            · exact nu z h
            · rw [List.mem_singleton.mp h]
              exact y1
          · intro b o hb e
            rw [upd_ne (ne_of_none e hlH)]
            exact o3 b o hb (o2 b o hb e)
    · rintro σ H2 ⟨ns, v8, v9, v10, rfl, hns, nd, nu, hl2, o2, p2⟩
      exact ⟨_, rfl, k l ns H2 hlH hns nd nu hl2 o2 p2⟩
end
end K03
end
section
set_option autoImplicit false
namespace K03
open PySem PyProof.Rows L2
section
variable {P : Program} {w : World} {K : PySem.W.Frag} {mg : Str → Option Value} {base : Heap} {t : Adr}
def spSome : Sp := fun vs H Q _ => ∃ (p m : Addr) (ns : List Str) (n : Nat), vs = [.ref p, .ref m, .int n] ∧ Pu H p ∧ H m = some (.lst (ns.map V.str)) ∧ n ≤ 100 ∧ ns.length ≤ 100 ∧
  ∀ (q : Addr) (es : List Str) H', H' q = some (.tup (es.map V.str)) → (∀ x ∈ es, x ∈ ns) → es.Nodup → es.length ≤ n → Off p H H' → Pu H' p → Q (.ref q) H'
theorem ok_some (D : Defs K mg t) : FnOk P w K mg base CX0 2 t._law_some.1 t._law_some.2 ["_law_purse_here", "_law_menu", "_law_most"] spSome := by
  have G__law_take : FnOk P w K mg base CX0 1 t._law_take.1 t._law_take.2 _ spTake := ok_take D
  have hz : sizeLine = 16777216 := sizeLine_eq
  refine D._law_some.fn.ok sc__law_some (fun vs H Q E h => ?_) (fun cdv A outer s H vs Q E hr h => ?_)
  · obtain ⟨p, m, ns, n, rfl, _⟩ := h
    rfl
  · obtain ⟨p, m, ns, n, rfl, hp, hm, hn, hl, k⟩ := h
    have mp : m ≠ p := hp.ne hm
    refine ⟨_, (pss_cons (ps_set (i := 3) sc__law_some.nd rfl (Or.inl rfl) (pe_lst pa_nil))
      (pss_cons (ps_if (pt_cmpR op_eq (pe_callB call_len_seq (by rfl) D.b_len bt_len (pa_cons (pv 1) pa_nil)) pe_int (nomark _))
      (pss_one (ps_ret (pe_tup pa_nil)))
      pss_nil)
      (pss_cons (ps_for PassesOwn.never rfl (pi_range1 rfl D.b_range (pa_cons (pe_callF D._law_take G__law_take (hr.mono (by omega)) (by rfl) (pa_cons (pv 0) (pa_cons (pe_op op_add (pv 2) pe_int) pa_nil))) pa_nil)) (pg_name (i := 4) sc__law_some.nd rfl (Or.inl rfl))
      (pss_cons (ps_set (i := 5) sc__law_some.nd rfl (Or.inl rfl) (pe_ix ix_list (pv 1) (pe_callF D._law_take G__law_take (hr.mono (by omega)) (by rfl) (pa_cons (pv 0) (pa_cons (pe_callB call_len_seq (by rfl) D.b_len bt_len (pa_cons (pv 1) pa_nil)) pa_nil))) (fun _ _ => rfl)))
      (pss_one (ps_if (pt_cmpR op_notIn_seq (pv 5) (pv 3) (by with_unfolding_all rfl))
      (pss_one (ps_expr (pe_bm PySem.F.plainAttrs_list PySem.F.slot_list_append PySem.F.type_list_append mt_append (pv 3) (pa_cons (pv 5) pa_nil))))
      pss_nil))))
      (pss_one (ps_ret (pe_callTy call_tuple_of (by rfl) D.b_tuple bt_tuple (pa_cons (pv 3) pa_nil))))))), ?_⟩
    refine ⟨Nat.zero_le _, fun l hll => ?_⟩
    have pl : p ≠ l := hp.neN hll
    have ml : m ≠ l := ne_of_none hm hll
    refine ⟨_, rfl, m, _, rfl, .inl (SqL.of (by rw [upd_ne ml]; exact hm)), rfl, _, rfl, ite2 (fun hb => ?_) (fun hb => ?_)⟩
    · exact ⟨Nat.zero_le _, fun q hq => k q [] _ upd_same (by simp) List.nodup_nil (Nat.zero_le _) ((Off.new hll).trans (Off.new hq)) ((hp.upd_ne pl).upd_ne ((hp.upd_ne pl).neN hq))⟩
    · have hpos : 0 < ns.length := by
        have hb : ¬ decide (V.int ((ns.map V.str).length : Int) = V.int 0) = true := hb
        rcases Nat.eq_zero_or_pos ns.length with h | h
        · exfalso
          apply hb
          rw [List.length_map, h]
          exact decide_eq_true rfl
        · exact h
      refine ⟨_, rfl, _, rfl, _, _, rfl, rfl, p, _, rfl, hp.upd_ne pl, by omega, by omega, fun r a1 b1 c1 l1 u1 => ⟨r, rfl, by omega, by omega, ?_⟩⟩
      refine for_range (lo := 0) (n := r.toNat) (fun i σ H2 => ∃ (es : List Str) (v4 v5 : Option V), σ = [some (.ref p), some (.ref m), some (.int n), some (.ref l), v4, v5] ∧ es.length ≤ i ∧ es.Nodup ∧ (∀ x ∈ es, x ∈ ns) ∧ H2 l = some (.lst (es.map V.str)) ∧ Off p H H2 ∧ Pu H2 p)
        ⟨[], _, _, rfl, Nat.le_refl _, List.nodup_nil, by simp, by rw [upd_ne pl.symm, upd_same]; rfl, (Off.new hll).trans Off.upd, Pu.upd⟩ ?_ ?_
      · rintro i σ H2 hi ⟨es, v4, v5, rfl, he, nd, sub, hl2, o2, p2⟩
        have hm2 : H2 m = some (.lst (ns.map V.str)) := o2 m _ mp hm
        refine ⟨_, rfl, _, rfl, _, rfl, m, _, rfl, .inl (SqL.of hm2), p, _, rfl, p2, by rw [List.length_map]; omega, by rw [List.length_map]; omega, fun r2 a2 b2 c2 l2 u2 => ?_⟩
        rw [List.length_map] at u2
        obtain ⟨x, ex, mx, _⟩ := atI_strs (ns := ns) l2 u2
        refine ⟨m, _, _, _, rfl, rfl, SqL.of (by rw [upd_ne mp]; exact hm2), ex, ?_⟩
        have lp : l ≠ p := pl.symm
        refine ⟨_, rfl, _, rfl, l, _, rfl, .inl (SqL.of (by rw [upd_ne lp]; exact hl2)), rfl, flat_strs es, _, rfl, ite2 (fun hc => ?_) (fun hc => ?_)⟩
        · have hc : (!inV (.str x) (es.map V.str)) = true := hc
          rw [inV_strs] at hc
          have hx : ¬ x ∈ es := by simpa using hc
          refine ⟨_, rfl, .inl ⟨rfl, _, SqL.of (by rw [upd_ne lp]; exact hl2)⟩, _, rfl, l, es.map V.str, .str x, rfl, rfl, by rw [upd_ne lp]; exact hl2, by rw [List.length_map]; omega, es ++ [x], _, _, rfl, by rw [List.length_append]; exact Nat.succ_le_succ he, nd_snoc nd hx, ?_, by rw [upd_same, List.map_append]; rfl, ?_, Pu.upd.upd_ne pl⟩
          · intro z hz
            rcases List.mem_append.mp hz with h | h
            · exact sub z h
            · rw [List.mem_singleton.mp h]
              exact mx
          · intro b o hb e
            rw [upd_ne (ne_of_none e hll), upd_ne hb]
            exact o2 b o hb e
        · exact ⟨es, _, _, rfl, Nat.le_succ_of_le he, nd, sub, by rw [upd_ne lp]; exact hl2, o2.trans Off.upd, Pu.upd⟩
      · rintro σ H2 ⟨es, v4, v5, rfl, he, nd, sub, hl2, o2, p2⟩
        refine ⟨_, rfl, l, _, rfl, .inl ⟨SqL.of hl2, fun q hq => ?_⟩⟩
        exact k q es _ upd_same sub nd (by omega) (o2.trans (Off.new hq)) (p2.upd_ne (p2.neN hq))
end
end K03
end
section
set_option autoImplicit false
namespace K03
open PySem PyProof.Rows L2
section
variable {P : Program} {w : World} {K : PySem.W.Frag} {mg : Str → Option Value} {base : Heap} {t : Adr}
def Nums (H : Hp) (ns : List Str) (ys : List V) : Prop := ∀ y ∈ ys, ∃ (q : Addr) (i : Int) (x : Str), y = .ref q ∧ H q = some (.tup [.int i, .str x]) ∧ x ∈ ns
def spAll : Sp := fun vs H Q _ => ∃ (p m : Addr) (ns : List Str) (b : Bool), vs = [.ref p, .ref m, .bl b] ∧ Pu H p ∧ H m = some (.lst (ns.map V.str)) ∧ ns.length < 64 ∧
  ∀ (q : Addr) (es : List Str) H', H' q = some (.tup (es.map V.str)) → (∀ x ∈ es, x ∈ ns) → es.length ≤ ns.length → Off p H H' → Pu H' p → Q (.ref q) H'
theorem ok_all (D : Defs K mg t) : FnOk P w K mg base CX0 2 t._law_all.1 t._law_all.2 ["_law_purse_here", "_law_names_here", "_law_last"] spAll := by
  have G__law_take : FnOk P w K mg base CX0 1 t._law_take.1 t._law_take.2 _ spTake := ok_take D
  have hz : sizeLine = 16777216 := sizeLine_eq
  refine D._law_all.fn.ok sc__law_all (fun vs H Q E h => ?_) (fun cdv A outer s H vs Q E hr h => ?_)
  · obtain ⟨p, m, ns, b, rfl, _⟩ := h
    rfl
  · obtain ⟨p, m, ns, b, rfl, hp, hm, hl, k⟩ := h
    have mp : m ≠ p := hp.ne hm
    refine ⟨_, (pss_cons (ps_set (i := 3) sc__law_all.nd rfl (Or.inl rfl) (pe_callB (call_sorted true) (by rfl) D.b_sorted bt_sorted (pa_cons (pe_comp rfl (CompScope.of ["_law_one"] [0] ["_law_one", "_law_purse_here"] (defScope (top 34)) ["_law_purse_here", "_law_names_here", "_law_last", "_law_turn"] rfl rfl (by decide +kernel)) ⟨fun _ _ _ _ _ => (pg_name (i := 0) (show List.Nodup [("_law_one" : Str), ("_law_purse_here" : Str)] by decide +kernel) rfl (Or.inl (lookup_relabel_local rfl)) (.inr (lookup_relabel_local rfl))), fun _ _ _ _ _ => pts_nil, fun _ _ _ _ _ => (pe_tup (pa_cons (pe_callF D._law_take G__law_take (hr.mono (by omega)) (by rfl) (pa_cons (pv 1) (pa_cons pe_int pa_nil))) (pa_cons (pv 0) pa_nil)))⟩ (pi_list (pv 1))) pa_nil)))
      (pss_cons (ps_if (PW.pt (pw_or (pt_truth (pv 2) (by intro _; rfl)) (pw_or1 (pt_cmpR op_eq (pe_callF D._law_take G__law_take (hr.mono (by omega)) (by rfl) (pa_cons (pv 0) (pa_cons pe_int pa_nil))) pe_int (nomark _)))))
      (pss_one (ps_ret (pe_callTy call_tuple_of (by rfl) D.b_tuple bt_tuple (pa_cons (pe_comp rfl (CompScope.of ["_law_number", "_law_one"] [] ["_law_number", "_law_one"] (defScope (top 34)) ["_law_purse_here", "_law_names_here", "_law_last", "_law_turn"] rfl rfl (by decide +kernel)) ⟨fun _ _ _ _ _ => (pg_tup_K (K := K) (n := 2) rfl rfl (pgs_cons (pg_name (i := 0) (show List.Nodup [("_law_number" : Str), ("_law_one" : Str)] by decide +kernel) rfl (Or.inl (lookup_relabel_local rfl)) (.inr (lookup_relabel_local rfl))) (pgs_cons (pg_name (i := 1) (show List.Nodup [("_law_number" : Str), ("_law_one" : Str)] by decide +kernel) rfl (Or.inl (lookup_relabel_local rfl)) (.inr (lookup_relabel_local rfl))) pgs_nil))), fun _ _ _ _ _ => pts_nil, fun _ _ _ _ _ => (pv 1)⟩ (pi_list (pv 3))) pa_nil))))
      pss_nil)
      (pss_one (ps_ret (pe_tup pa_nil))))), ?_⟩
    refine ⟨_, rfl, m, rfl, ⟨_, SqL.of hm⟩, fun Dd hD => ?_⟩
    have pD : p ≠ Dd := hp.neN hD
    have mD : m ≠ Dd := ne_of_none hm hD
    refine comp_by (n := ns.length) (fun i ys H2 => ys.length = i ∧ H2 Dd = some (.lst ys) ∧ Nums H2 ns ys ∧ Off p H H2 ∧ Pu H2 p) ⟨rfl, upd_same, (by intro y hy; cases hy), Off.new hD, hp.upd_ne pD⟩ ?_ ?_
    · rintro ys H2 ⟨hy, hD2, nu, o2, p2⟩
      have hm2 : H2 m = some (.lst (ns.map V.str)) := o2 m _ mp hm
      refine ⟨⟨_, SqL.of hm2, by rw [List.length_map]; exact Nat.le_refl _⟩, Dd, ys, rfl, SqL.of hD2, by omega, ?_, fun d qs pq hd => ?_⟩
      · intro y hy
        obtain ⟨q, i, x, e, hq, _⟩ := nu y hy
        exact ⟨q, i, .str x, e, hq, by unfold SecS; rw [if_pos rfl]; exact ⟨x, rfl⟩⟩
      have pd : p ≠ d := p2.neN hd
      have nu3 : Nums (upd H2 d (.lst qs)) ns qs := fun y hy => by
        obtain ⟨q, i, x, e, hq, hx⟩ := nu y (pq.mem_iff.mp hy)
        exact ⟨q, i, x, e, by rw [upd_ne (ne_of_none hq hd)]; exact hq, hx⟩
      have o3 : Off p H (upd H2 d (.lst qs)) := o2.trans (Off.new hd)
      have p3 : Pu (upd H2 d (.lst qs)) p := p2.upd_ne pd
      refine ⟨_, rfl, b, rfl, ite2 (fun hb => iteT ?_) (fun hb => ⟨_, rfl, p, 3, rfl, p3, by decide, by decide, fun r a4 b4 c4 l4 u4 => ⟨rfl, _, rfl, ite2 (fun hc => ?_) (fun hc => ?_)⟩⟩)⟩
      · refine ⟨_, rfl, d, rfl, ⟨_, SqL.of upd_same⟩, fun D2 hD2' => ?_⟩
        have dD2 : d ≠ D2 := ne_of_none upd_same hD2'
        have pD2 : p ≠ D2 := p3.neN hD2'
        refine comp_by (n := qs.length) (fun i ys H5 => ∃ es : List Str, ys = es.map V.str ∧ es.length = i ∧ (∀ x ∈ es, x ∈ ns) ∧ H5 = upd (upd H2 d (.lst qs)) D2 (.lst ys)) ⟨[], rfl, rfl, by simp, rfl⟩ ?_ ?_
        · rintro ys' H5 ⟨es, rfl, he, sub, rfl⟩
          refine ⟨⟨_, SqL.of (by rw [upd_ne dD2]; exact upd_same), Nat.le_refl _⟩, D2, _, rfl, .inl ⟨SqL.of upd_same, fun q hq => ?_⟩⟩
          have hql := pq.length_eq
          exact k q es _ upd_same sub (by omega) ((o3).trans ((Off.new hD2').trans (Off.new hq))) (((p3).upd_ne pD2).upd_ne (((p3).upd_ne pD2).neN hq))
        · rintro i ys' H5 hi ⟨es, rfl, he, sub, rfl⟩
          have ei : qs[i]? = some qs[i] := List.getElem?_eq_getElem hi
          refine ⟨⟨_, _, SqL.of (by rw [upd_ne dD2]; exact upd_same), ei⟩, ?_⟩
          rintro y H6 ⟨rfl, yy⟩ σo ho
          obtain ⟨o, o', rfl⟩ := own2 ho
          have ey := yy _ (SqL.of (by rw [upd_ne dD2]; exact upd_same))
          rw [ei] at ey
          have ey := (Option.some.inj ey).symm
          obtain ⟨q', j, x, e, hq', hx⟩ := nu3 qs[i] (List.getElem_mem hi)
          rw [e] at ey
          subst ey
          refine ⟨q', _, rfl, SqT.of (by rw [upd_ne (ne_of_none hq' hD2')]; exact hq'), rfl, _, _, rfl, _, _, rfl, rfl, ⟨[_, _], rfl, rfl⟩, ?_⟩
          refine yes_by ⟨_, rfl, by rw [List.length_map]; have := pq.length_eq; omega, upd_same, less_by hi ⟨es ++ [x], by rw [List.map_append]; rfl, by rw [List.length_append, he]; rfl, ?_, by rw [upd_upd]⟩⟩
          intro z hz
          rcases List.mem_append.mp hz with h | h
          · exact sub z h
          · rw [List.mem_singleton.mp h]
            exact hx
      · have dp : d ≠ p := pd.symm
        have hd4 : (upd (upd H2 d (.lst qs)) p (.lst [.int a4, .int b4, .int c4])) d = some (.lst qs) := by rw [upd_ne dp, upd_same]
        have nu4 : Nums (upd (upd H2 d (.lst qs)) p (.lst [.int a4, .int b4, .int c4])) ns qs := fun y hy => by
          obtain ⟨q, i, x, e, hq, hx⟩ := nu3 y hy
          refine ⟨q, i, x, e, ?_, hx⟩
          obtain ⟨a, b, c, ep⟩ := p3
          rw [upd_ne (ne_of hq ep (fun z => nomatch z))]
          exact hq
        have o4 : Off p H (upd (upd H2 d (.lst qs)) p (.lst [.int a4, .int b4, .int c4])) := o3.trans Off.upd
        have p4 : Pu (upd (upd H2 d (.lst qs)) p (.lst [.int a4, .int b4, .int c4])) p := Pu.upd
        refine ⟨_, rfl, d, rfl, ⟨_, SqL.of hd4⟩, fun D2 hD2' => ?_⟩
        have dD2 : d ≠ D2 := ne_of_none hd4 hD2'
        have pD2 : p ≠ D2 := p4.neN hD2'
        refine comp_by (n := qs.length) (fun i ys H5 => ∃ es : List Str, ys = es.map V.str ∧ es.length = i ∧ (∀ x ∈ es, x ∈ ns) ∧ H5 = upd (upd (upd H2 d (.lst qs)) p (.lst [.int a4, .int b4, .int c4])) D2 (.lst ys)) ⟨[], rfl, rfl, by simp, rfl⟩ ?_ ?_
        · rintro ys' H5 ⟨es, rfl, he, sub, rfl⟩
          refine ⟨⟨_, SqL.of (by rw [upd_ne dD2]; exact hd4), Nat.le_refl _⟩, D2, _, rfl, .inl ⟨SqL.of upd_same, fun q hq => ?_⟩⟩
          have hql := pq.length_eq
          exact k q es _ upd_same sub (by omega) ((o4).trans ((Off.new hD2').trans (Off.new hq))) (((p4).upd_ne pD2).upd_ne (((p4).upd_ne pD2).neN hq))
        · rintro i ys' H5 hi ⟨es, rfl, he, sub, rfl⟩
          have ei : qs[i]? = some qs[i] := List.getElem?_eq_getElem hi
          refine ⟨⟨_, _, SqL.of (by rw [upd_ne dD2]; exact hd4), ei⟩, ?_⟩
          rintro y H6 ⟨rfl, yy⟩ σo ho
          obtain ⟨o, o', rfl⟩ := own2 ho
          have ey := yy _ (SqL.of (by rw [upd_ne dD2]; exact hd4))
          rw [ei] at ey
          have ey := (Option.some.inj ey).symm
          obtain ⟨q', j, x, e, hq', hx⟩ := nu4 qs[i] (List.getElem_mem hi)
          rw [e] at ey
          subst ey
          refine ⟨q', _, rfl, SqT.of (by rw [upd_ne (ne_of_none hq' hD2')]; exact hq'), rfl, _, _, rfl, _, _, rfl, rfl, ⟨[_, _], rfl, rfl⟩, ?_⟩
          refine yes_by ⟨_, rfl, by rw [List.length_map]; have := pq.length_eq; omega, upd_same, less_by hi ⟨es ++ [x], by rw [List.map_append]; rfl, by rw [List.length_append, he]; rfl, ?_, by rw [upd_upd]⟩⟩
          intro z hz
          rcases List.mem_append.mp hz with h | h
          · exact sub z h
          · rw [List.mem_singleton.mp h]
            exact hx
      · exact ⟨Nat.zero_le _, fun q hq => k q [] _ upd_same (by simp) (Nat.zero_le _) (o3.trans (Off.upd.trans (Off.new hq))) (Pu.upd.upd_ne (Pu.upd.neN hq))⟩
    · rintro i ys H2 hi ⟨hy, hD2, nu, o2, p2⟩
      have hm2 : H2 m = some (.lst (ns.map V.str)) := o2 m _ mp hm
      have ei : (ns.map V.str)[i]? = some (.str ns[i]) := by rw [List.getElem?_map, List.getElem?_eq_getElem hi]; rfl
      refine ⟨⟨_, _, SqL.of hm2, ei⟩, ?_⟩
      rintro y H3 ⟨rfl, yy⟩ σo ho
      obtain ⟨o, rfl⟩ := own1 ho
      have ey := yy _ (SqL.of hm2)
      rw [ei] at ey
      cases ey
      refine ⟨⟨[_], rfl, rfl⟩, yes_by ⟨_, rfl, p, 997, rfl, p2, by decide, by decide, fun r a1 b1 c1 l1 u1 => ⟨_, rfl, by show 2 ≤ sizeLine; decide, fun q hq => ?_⟩⟩⟩
      have qD : q ≠ Dd := by
        intro e
        rw [e, upd_ne pD.symm, hD2] at hq
        cases hq
      refine ⟨by omega, by rw [upd_ne qD.symm, upd_ne pD.symm]; exact hD2, less_by hi ⟨by rw [List.length_append, hy]; rfl, upd_same, ?_, ?_, ?_⟩⟩
      · intro y hy'
        rcases List.mem_append.mp hy' with h | h
        · obtain ⟨q', j, x, e, hq', hx⟩ := nu y h
          refine ⟨q', j, x, e, ?_, hx⟩
          have d1 : q' ≠ Dd := ne_of hq' hD2 (fun z => nomatch z)
          have d2 : q' ≠ p := by
            obtain ⟨a, b, c, ep⟩ := p2
            exact ne_of hq' ep (fun z => nomatch z)
          have d3 : q' ≠ q := by
            intro e
            rw [← e, upd_ne d2, hq'] at hq
            cases hq
          rw [upd_ne d1, upd_ne d3, upd_ne d2]
          exact hq'
        · rw [List.mem_singleton.mp h]
          exact ⟨q, r, ns[i], rfl, by rw [upd_ne qD, upd_same], List.getElem_mem hi⟩
      · exact fun b o hb e => by
          rw [upd_ne (ne_of_none e hD)]
          exact (Off.new hq : L2.Off p _ _) b o hb (by rw [upd_ne hb]; exact o2 b o hb e)
      · exact (Pu.upd.upd_ne (Pu.upd.neN hq)).upd_ne pD
end
end K03
end
section
set_option autoImplicit false
namespace K03
open PySem PyProof.Rows L2
abbrev Fam := List (Str × List Str)
def rowT (r : Str × List Str) : T := .tup [.str r.1, .tup (r.2.map T.str)]
def famT (f : Fam) : T := .tup (f.map rowT)
abbrev nms (f : Fam) : List Str := f.map (·.1)
structure GoodF (f : Fam) : Prop where
  nd : (nms f).Nodup
  sub : ∀ r ∈ f, ∀ e ∈ r.2, e ∈ nms f
  len : f.length ≤ 7
  el : ∀ r ∈ f, r.2.length ≤ 7
  topo : ∃ top : List Str, top.Nodup ∧ (∀ x, x ∈ top ↔ x ∈ nms f) ∧ ∀ r ∈ f, ∃ j, top[j]? = some r.1 ∧ ∀ e ∈ r.2, e ∈ top.take j
  lw : ∀ x ∈ nms f, Wd x
  pos : 1 ≤ f.length
theorem GoodF.perm {f g : Fam} (h : GoodF f) (p : g.Perm f) : GoodF g where
  lw := fun x hx => h.lw x ((p.map (·.1)).mem_iff.mp hx)
  pos := by rw [p.length_eq]; exact h.pos
  nd := (p.map (·.1)).nodup_iff.mpr h.nd
  sub := fun r hr e he => (p.map (·.1)).mem_iff.mpr (h.sub r (p.mem_iff.mp hr) e he)
  len := by rw [p.length_eq]; exact h.len
  el := fun r hr => h.el r (p.mem_iff.mp hr)
  topo := by
    obtain ⟨top, h0, h1, h2⟩ := h.topo
    exact ⟨top, h0, fun x => (h1 x).trans (p.map (·.1)).mem_iff.symm, fun r hr => h2 r (p.mem_iff.mp hr)⟩
theorem cut_take (ns : List Str) (lo : Option Int) (i : Nat) : ∃ ms : List Str, cutV (ns.map V.str) lo (some (i : Int)) = ms.map V.str ∧ (∀ x ∈ ms, x ∈ ns.take i) ∧ ms.length ≤ ns.length := by
  unfold cutV
  rw [List.length_map]
  have e : HT.sIx ns.length ns.length (some (i : Int)) = min i ns.length := HT.sIx_nat ns.length ns.length i
  rw [e]
  refine ⟨(ns.drop (HT.sIx ns.length 0 lo)).take (min i ns.length - HT.sIx ns.length 0 lo), ?_, ?_, ?_⟩
  · rw [List.map_take, List.map_drop]
  · intro x hx
    rw [← List.drop_take] at hx
    have h := List.mem_of_mem_drop hx
    have e2 : ns.take (min i ns.length) = ns.take i := by
      rcases Nat.le_total i ns.length with h' | h'
      · rw [Nat.min_eq_left h']
      · rw [Nat.min_eq_right h', List.take_of_length_le (Nat.le_refl _), List.take_of_length_le h']
    rw [e2] at h
    exact h
  · rw [List.length_take, List.length_drop]
    omega
theorem Dp.row {H : Hp} {q e : Addr} {x : Str} {es : List Str} (hq : H q = some (.tup [.str x, .ref e])) (he : H e = some (.tup (es.map V.str))) : Dp H (rowT (x, es)) (.ref q) :=
  L2.Dp.tup hq (.cons (L2.Dp.str x) (.cons (L2.Dp.tup he (DpL.strs es)) .nil))
theorem Dp.of_row {H : Hp} {r : Str × List Str} {v : V} (d : Dp H (rowT r) v) : ∃ q e, v = .ref q ∧ H q = some (.tup [.str r.1, .ref e]) ∧ H e = some (.tup (r.2.map V.str)) := by
  obtain ⟨q, xs, rfl, hq, dl⟩ := L2.Dp.of_tup d
  obtain ⟨x1, r1, rfl, d1, dl⟩ := dl.cases
  obtain ⟨x2, r2, rfl, d2, dl3⟩ := dl.cases
  have e1 := L2.Dp.of_str d1
  have e3 := dl3.of_nil
  obtain ⟨e, ys, rfl, he, dl2⟩ := L2.Dp.of_tup d2
  subst e1 e3
  rw [DpL.of_strs dl2] at he
  exact ⟨q, e, rfl, hq, he⟩
theorem Paired.perm {α β : Type} {F : α → β → Prop} : ∀ {us ws : List α}, us.Perm ws → ∀ {xs : List β}, Paired F ws xs → ∃ ys, ys.Perm xs ∧ Paired F us ys := by
  intro us ws h
  induction h with
  | nil => exact fun {xs} r => ⟨xs, .refl _, r⟩
  | cons a _ ih =>
    intro xs r
    cases r with
    | cons q t =>
      obtain ⟨ys, p, r'⟩ := ih t
      exact ⟨_ :: ys, p.cons _, .cons q r'⟩
  | swap a b l =>
    intro xs r
    cases r with
    | cons q t =>
      cases t with
      | cons q' t' => exact ⟨_, .swap _ _ _, .cons q' (.cons q t')⟩
  | trans _ _ i1 i2 =>
    intro xs r
    obtain ⟨ys, p, r'⟩ := i2 r
    obtain ⟨zs, p', r''⟩ := i1 r'
    exact ⟨zs, p'.trans p, r''⟩
def Eld (sf : V → L2.St) (ns : List Str) (p : Addr) (H2 : Hp) : L2.St → Hp → Prop := fun σ' H' => ∃ (q : Addr) (es : List Str), σ' = sf (.ref q) ∧ H' q = some (.tup (es.map V.str)) ∧ (∀ x ∈ es, x ∈ ns) ∧ es.length ≤ 7 ∧ L2.Off p H2 H' ∧ Pu H' p
end K03
end
section
set_option autoImplicit false
namespace K03
open PySem PyProof.Rows L2
section
variable {P : Program} {w : World} {K : PySem.W.Frag} {mg : Str → Option Value} {base : Heap} {t : Adr}
def AtJ (H : Hp) (y : V) (j : Nat) : Prop := ∃ (q : Addr) (i : Int), y = .ref q ∧ H q = some (.tup [.int i, .int j])
def spFamily : Sp := fun vs H Q _ => ∃ (p : Addr) (n : Nat), vs = [.ref p, .int n] ∧ Pu H p ∧ 1 ≤ n ∧ n ≤ 7 ∧ ∀ (v : V) (f : Fam) H', Dp H' (famT f) v → GoodF f → Off p H H' → Pu H' p → Q v H'
theorem ok_family (D : Defs K mg t) : FnOk P w K mg base CX0 4 t._law_family.1 t._law_family.2 ["_law_purse_here", "_law_most"] spFamily := by
  have G__law_take : FnOk P w K mg base CX0 1 t._law_take.1 t._law_take.2 _ spTake := ok_take D
  have G__law_names : FnOk P w K mg base CX0 3 t._law_names.1 t._law_names.2 _ spNames := ok_names D
  have G__law_some : FnOk P w K mg base CX0 2 t._law_some.1 t._law_some.2 _ spSome := ok_some D
  have G__law_all : FnOk P w K mg base CX0 2 t._law_all.1 t._law_all.2 _ spAll := ok_all D
  have hz : sizeLine = 16777216 := sizeLine_eq
  refine D._law_family.fn.ok sc__law_family (fun vs H Q E h => ?_) (fun cdv A outer s H vs Q E hr h => ?_)
  · obtain ⟨p, n, rfl, _⟩ := h
    rfl
  · obtain ⟨p, n, rfl, hp, hn1, hn7, k⟩ := h
    refine ⟨_, (pss_cons (ps_set (i := 2) sc__law_family.nd rfl (Or.inl rfl) (pe_callF D._law_take G__law_take (hr.mono (by omega)) (by rfl) (pa_cons (pv 0) (pa_cons pe_int pa_nil))))
      (pss_cons (ps_set (i := 3) sc__law_family.nd rfl (Or.inl rfl) (pe_callF D._law_names G__law_names (hr.mono (by omega)) (by rfl) (pa_cons (pv 0) (pa_cons (pe_op op_add pe_int (pe_callF D._law_take G__law_take (hr.mono (by omega)) (by rfl) (pa_cons (pv 0) (pa_cons (pv 1) pa_nil)))) (pa_cons (pe_lst pa_nil) pa_nil)))))
      (pss_cons (ps_set (i := 4) sc__law_family.nd rfl (Or.inr rfl) (pe_lst pa_nil))
      (pss_cons (ps_for PassesOwn.never rfl (pi_enumerate rfl D.b_enumerate (pa_cons (pv 3) pa_nil)) (pg_tup rfl (pgs_cons (pg_name (i := 5) sc__law_family.nd rfl (Or.inl rfl)) (pgs_cons (pg_name (i := 6) sc__law_family.nd rfl (Or.inl rfl)) pgs_nil)))
      (pss_cons (ps_set (i := 7) sc__law_family.nd rfl (Or.inl rfl) (pe_callF D._law_some G__law_some (hr.mono (by omega)) (by rfl) (pa_cons (pv 0) (pa_cons (pe_slice sl_list (pv 3) po_none (po_some (pv 5))) (pa_cons pe_int pa_nil)))))
      (pss_join (ps_if (pt_cmpR op_eq (pv 2) pe_int (nomark _))
      (pss_one (ps_set (i := 7) sc__law_family.nd rfl (Or.inl rfl) (pe_callTy call_tuple_of (by rfl) D.b_tuple bt_tuple (pa_cons (pe_slice sl_list (pv 3) (po_some (pe_callB (call_max2 rfl) (by rfl) D.b_max bt_max (pa_cons pe_int (pa_cons (pe_op op_sub (pv 5) pe_int) pa_nil)))) (po_some (pv 5))) pa_nil))))
      pss_nil)
      (pss_join (ps_if (pt_cmpR op_eq (pv 2) pe_int (nomark _))
      (pss_one (ps_set (i := 7) sc__law_family.nd rfl (Or.inl rfl) (pe_callTy call_tuple_of (by rfl) D.b_tuple bt_tuple (pa_cons (pe_slK (pe_slice sl_list (pv 3) (po_some (pe_callB (call_max2 rfl) (by rfl) D.b_max bt_max (pa_cons pe_int (pa_cons (pe_op op_sub (pv 5) pe_int) pa_nil)))) (po_some (pv 5))) (pe_op op_sub pe_int (pe_op op_mul pe_int (pe_callF D._law_take G__law_take (hr.mono (by omega)) (by rfl) (pa_cons (pv 0) (pa_cons pe_int pa_nil)))))) pa_nil))))
      pss_nil)
      (pss_join (ps_if (pt_cmpR op_eq (pv 2) pe_int (nomark _))
      (pss_one (ps_set (i := 7) sc__law_family.nd rfl (Or.inl rfl) (pe_callF D._law_all G__law_all (hr.mono (by omega)) (by rfl) (pa_cons (pv 0) (pa_cons (pe_slice sl_list (pv 3) po_none (po_some (pv 5))) (pa_cons (pe_cmpR op_eq (pe_op op_add (pv 5) pe_int) (pe_callB call_len_seq (by rfl) D.b_len bt_len (pa_cons (pv 3) pa_nil)) (nomark _)) pa_nil))))))
      pss_nil)
      (pss_one (ps_expr (pe_bm PySem.F.plainAttrs_list PySem.F.slot_list_append PySem.F.type_list_append mt_append (pv 4) (pa_cons (pe_tup (pa_cons (pv 6) (pa_cons (pv 7) pa_nil))) pa_nil)))))))))
      (pss_cons (ps_set (i := 8) sc__law_family.nd rfl (Or.inl rfl) (pe_callB (call_sorted false) (by rfl) D.b_sorted bt_sorted (pa_cons (pe_comp rfl (CompScope.of ["_law_k"] [0] ["_law_k", "_law_purse_here"] (defScope (top 35)) ["_law_purse_here", "_law_most", "_law_shape", "_law_names_here", "_law_family_here", "_law_k", "_law_kind", "_law_elders", "_law_order"] rfl rfl (by decide +kernel)) ⟨fun _ _ _ _ _ => (pg_name (i := 0) (show List.Nodup [("_law_k" : Str), ("_law_purse_here" : Str)] by decide +kernel) rfl (Or.inl (lookup_relabel_local rfl)) (.inr (lookup_relabel_local rfl))), fun _ _ _ _ _ => pts_nil, fun _ _ _ _ _ => (pe_tup (pa_cons (pe_callF D._law_take G__law_take (hr.mono (by omega)) (by rfl) (pa_cons (pv 1) (pa_cons pe_int pa_nil))) (pa_cons (pv 0) pa_nil)))⟩ (pi_range1 rfl D.b_range (pa_cons (pe_callB call_len_seq (by rfl) D.b_len bt_len (pa_cons (pv 4) pa_nil)) pa_nil))) pa_nil)))
      (pss_one (ps_ret (pe_callTy call_tuple_of (by rfl) D.b_tuple bt_tuple (pa_cons (pe_comp rfl (CompScope.of ["_law_number", "_law_k"] [4] ["_law_number", "_law_k", "_law_family_here"] (defScope (top 35)) ["_law_purse_here", "_law_most", "_law_shape", "_law_names_here", "_law_family_here", "_law_k", "_law_kind", "_law_elders", "_law_order"] rfl rfl (by decide +kernel)) ⟨fun _ _ _ _ _ => (pg_tup_K (K := K) (n := 2) rfl rfl (pgs_cons (pg_name (i := 0) (show List.Nodup [("_law_number" : Str), ("_law_k" : Str), ("_law_family_here" : Str)] by decide +kernel) rfl (Or.inl (lookup_relabel_local rfl)) (.inr (lookup_relabel_local rfl))) (pgs_cons (pg_name (i := 1) (show List.Nodup [("_law_number" : Str), ("_law_k" : Str), ("_law_family_here" : Str)] by decide +kernel) rfl (Or.inl (lookup_relabel_local rfl)) (.inr (lookup_relabel_local rfl))) pgs_nil))), fun _ _ _ _ _ => pts_nil, fun _ _ _ _ _ => (pe_ix (ix_list_K (K := K) rfl) (pv 2) (pv 1) (fun _ _ => rfl))⟩ (pi_list (pv 8))) pa_nil))))))))), ?_⟩
    refine ⟨_, rfl, p, 6, rfl, hp, by decide, by decide, fun sh a1 b1 c1 l1 u1 => ?_⟩
    refine ⟨_, rfl, _, rfl, _, rfl, p, n, rfl, Pu.upd, by omega, by omega, fun r a2 b2 c2 l2 u2 => ⟨_, _, rfl, rfl, Nat.zero_le _, fun u hu => ?_⟩⟩
    rw [upd_upd] at hu ⊢
    have pu : p ≠ u := Pu.upd.neN hu
    have hu0 : H u = none := by rw [upd_ne pu.symm] at hu; exact hu
    refine ⟨p, u, [], 1 + r, rfl, Pu.upd.upd_ne pu, upd_same, by omega, by show 0 + _ ≤ 25; omega, fun l ns H1 hl hns nd nwd hl1 o1 p1 => ?_⟩
    have o1 : Off p H H1 := (Off.upd.trans (Off.new hu)).trans o1
    have lp : l ≠ p := p1.ne hl1
    have hlH : H l = none := by
      rw [upd_ne (show l ≠ u from fun e => by rw [e, upd_same] at hl; cases hl), upd_ne lp] at hl
      exact hl
    have hns7 : ns.length ≤ 7 := by omega
    refine ⟨Nat.zero_le _, fun fa hfa => ?_⟩
    have pf : p ≠ fa := p1.neN hfa
    have lf : l ≠ fa := ne_of_none hl1 hfa
    have hfH : H fa = none := by
      cases q : H fa with
      | none => rfl
      | some o =>
        rw [o1 fa o pf.symm q] at hfa
        cases hfa
    refine ⟨_, rfl, l, _, rfl, SqL.of (by rw [upd_ne lf]; exact hl1), for_enum (K := K) (a := l) (xs := ns.map V.str) (fun i σ H2 => ∃ (rows : Fam) (ys : List V) (v5 v6 v7 : Option V), σ = [some (.ref p), some (.int n), some (.int sh), some (.ref l), some (.ref fa), v5, v6, v7, none] ∧
      nms rows = ns.take i ∧ (∀ r ∈ rows, (∃ j, ns[j]? = some r.1 ∧ ∀ e ∈ r.2, e ∈ ns.take j) ∧ r.2.length ≤ 7) ∧ H2 fa = some (.lst ys) ∧ DpL H2 (rows.map rowT) ys ∧ H2 l = some (.lst (ns.map V.str)) ∧ Off p H H2 ∧ Pu H2 p)
      ⟨[], [], _, _, _, rfl, rfl, by simp, upd_same, .nil, by rw [upd_ne lf]; exact hl1, o1.trans (Off.new hfa), p1.upd_ne pf⟩ (fun i σ H2 _ ⟨_, _, _, _, _, _, _, _, _, _, e, _⟩ => SqL.of e) ?_ ?_⟩
    · rintro i x σ H2 q0 hi ⟨rows, ys, v5, v6, v7, rfl, hrn, hrs, hf2, dl, hl2, o2, p2⟩ hq0
      have hil : i < ns.length := by
        have := (List.getElem?_eq_some_iff.mp hi).1
        rwa [List.length_map] at this
      have ex : x = .str ns[i] := by
        rw [List.getElem?_map, List.getElem?_eq_getElem hil] at hi
        exact (Option.some.inj hi).symm
      subst ex
      have fp2 : fa ≠ p := pf.symm
      refine ⟨q0, _, rfl, SqT.of upd_same, rfl, _, _, rfl, _, _, rfl, rfl, ?_⟩
      have s0 : Same H2 (upd H2 q0 (.tup [.int i, .str ns[i]])) := Same.new hq0
      obtain ⟨ms, em, subm, lenm⟩ := cut_take ns none i
      refine ⟨_, rfl, _, rfl, _, rfl, _, rfl, l, _, rfl, SqL.of (s0 l _ hl2), fun m hm => ?_⟩
      have s1 := s0.trans (Same.new (o := .lst (cutV (ns.map V.str) none (some (i : Int)))) hm)
      refine ⟨p, m, ms, 4, rfl, p2.same s1, by rw [upd_same, em], by decide, by omega, fun q es H4 hq sub nde len o4 p4 => ?_⟩
      have o4 : Off p H2 H4 := s1.off.trans o4
      refine ⟨Eld (fun v => [some (.ref p), some (.int n), some (.int sh), some (.ref l), some (.ref fa), some (.int i), some (.str ns[i]), some v, none]) (ns.take i) p H2, ?_, ?_⟩
      · refine ⟨_, rfl, rfl, _, rfl, ite2 (fun hb => ?_) (fun hb => ⟨q, es, rfl, hq, fun x hx => subm x (sub x hx), by omega, o4, p4⟩)⟩
        refine ⟨_, rfl, _, rfl, _, _, rfl, rfl, _, _, rfl, _, rfl, _, rfl, _, rfl, l, _, rfl, SqL.of (o4 l _ lp hl2), fun m2 hm2 => ⟨m2, _, rfl, .inl ⟨SqL.of upd_same, fun q2 hq2 => ?_⟩⟩⟩
        obtain ⟨ms2, em2, sub2, len2⟩ := cut_take ns (some (if (i : Int) - 1 > 0 then (i : Int) - 1 else 0)) i
        have p5 := p4.upd_ne (o := .lst (cutV (ns.map V.str) (some (if (i : Int) - 1 > 0 then (i : Int) - 1 else 0)) (some (i : Int)))) (p4.neN hm2)
        exact ⟨q2, ms2, rfl, by rw [upd_same, em2], sub2, by omega, o4.trans ((Off.new hm2).trans (Off.new hq2)), p5.upd_ne (p5.neN hq2)⟩
      · rintro σ' H5 ⟨q5, es5, rfl, hq5, sub5, len5, o5, p5⟩
        refine ⟨Eld (fun v => [some (.ref p), some (.int n), some (.int sh), some (.ref l), some (.ref fa), some (.int i), some (.str ns[i]), some v, none]) (ns.take i) p H2, ?_, ?_⟩
        · refine ⟨_, rfl, rfl, _, rfl, ite2 (fun hb => ?_) (fun hb => ⟨q5, es5, rfl, hq5, sub5, len5, o5, p5⟩)⟩
          refine ⟨_, rfl, _, rfl, _, _, rfl, rfl, _, _, rfl, _, rfl, _, rfl, _, rfl, l, _, rfl, SqL.of (o5 l _ lp hl2), fun m2 hm2 => ?_⟩
          obtain ⟨ms2, em2, sub2, len2⟩ := cut_take ns (some (if (i : Int) - 3 > 0 then (i : Int) - 3 else 0)) i
          have p6 := p5.upd_ne (o := .lst (cutV (ns.map V.str) (some (if (i : Int) - 3 > 0 then (i : Int) - 3 else 0)) (some (i : Int)))) (p5.neN hm2)
          refine ⟨_, rfl, p, 2, rfl, p6, by decide, by decide, fun r7 a7 b7 c7 l7 u7 => ⟨_, _, rfl, rfl, .inl ⟨by decide, by decide⟩, _, _, rfl, rfl, m2, _, _, rfl, rfl, SqL.of (by rw [upd_ne (p5.neN hm2).symm, upd_same]), ?_⟩⟩
          have o7 : Off p H2 (upd (upd H5 m2 (.lst (cutV (ns.map V.str) (some (if (i : Int) - 3 > 0 then (i : Int) - 3 else 0)) (some (i : Int))))) p (.lst [.int a7, .int b7, .int c7])) := o5.trans ((Off.new hm2).trans Off.upd)
          rcases (by omega : r7 = 0 ∨ r7 = 1) with rfl | rfl
          · refine .inl ⟨by decide, fun q6 hq6 => ⟨q6, _, rfl, .inl ⟨SqL.of upd_same, fun q8 hq8 => ?_⟩⟩⟩
            have p8 := (Pu.upd (H := upd H5 m2 (.lst (cutV (ns.map V.str) (some (if (i : Int) - 3 > 0 then (i : Int) - 3 else 0)) (some (i : Int))))) (p := p) (a := a7) (b := b7) (c := c7)).upd_ne (o := .lst (cutV (ns.map V.str) (some (if (i : Int) - 3 > 0 then (i : Int) - 3 else 0)) (some (i : Int)))) (Pu.upd.neN hq6)
            exact ⟨q8, ms2, rfl, by rw [upd_same, em2], sub2, by omega, o7.trans ((Off.new hq6).trans (Off.new hq8)), p8.upd_ne (p8.neN hq8)⟩
          · refine .inr ⟨by decide, fun q6 hq6 => ⟨q6, _, rfl, .inl ⟨SqL.of upd_same, fun q8 hq8 => ?_⟩⟩⟩
            have p8 := (Pu.upd (H := upd H5 m2 (.lst (cutV (ns.map V.str) (some (if (i : Int) - 3 > 0 then (i : Int) - 3 else 0)) (some (i : Int))))) (p := p) (a := a7) (b := b7) (c := c7)).upd_ne (o := .lst (cutV (ns.map V.str) (some (if (i : Int) - 3 > 0 then (i : Int) - 3 else 0)) (some (i : Int))).reverse) (Pu.upd.neN hq6)
            exact ⟨q8, ms2.reverse, rfl, by rw [upd_same, em2, List.map_reverse], fun x hx => sub2 x (List.mem_reverse.mp hx), by rw [List.length_reverse]; omega, o7.trans ((Off.new hq6).trans (Off.new hq8)), p8.upd_ne (p8.neN hq8)⟩
        · rintro σ' H6 ⟨q6, es6, rfl, hq6, sub6, len6, o6, p6⟩
          refine ⟨Eld (fun v => [some (.ref p), some (.int n), some (.int sh), some (.ref l), some (.ref fa), some (.int i), some (.str ns[i]), some v, none]) (ns.take i) p H2, ?_, ?_⟩
          · refine ⟨_, rfl, rfl, _, rfl, ite2 (fun hb => ?_) (fun hb => ⟨q6, es6, rfl, hq6, sub6, len6, o6, p6⟩)⟩
            refine ⟨_, rfl, _, rfl, _, rfl, _, rfl, l, _, rfl, SqL.of (o6 l _ lp hl2), fun m2 hm2 => ⟨_, rfl, _, _, rfl, rfl, _, rfl, l, _, rfl, .inl (SqL.of (by rw [upd_ne (ne_of_none (o6 l _ lp hl2) hm2)]; exact o6 l _ lp hl2)), rfl, p, m2, ms, _, rfl, p6.upd_ne (p6.neN hm2), by rw [upd_same, em], by omega, fun q7 es7 H7 hq7 sub7 len7 o7 p7 => ?_⟩⟩
            exact ⟨q7, es7, rfl, hq7, fun x hx => subm x (sub7 x hx), by omega, o6.trans ((Off.new hm2).trans o7), p7⟩
          · rintro σ' H7 ⟨q7, es7, rfl, hq7, sub7, len7, o7, p7⟩
            have hf7 : H7 fa = some (.lst ys) := o7 fa _ fp2 hf2
            have hyl : ys.length = i := by
              have e1 := dl.length
              rw [List.length_map] at e1
              have e2 := congrArg List.length hrn
              rw [List.length_map, List.length_take] at e2
              omega
            refine ⟨_, rfl, .inl ⟨rfl, _, SqL.of hf7⟩, _, rfl, _, rfl, by show 2 ≤ sizeLine; decide, fun q8 hq8 => ⟨fa, ys, .ref q8, rfl, rfl, by rw [upd_ne (ne_of_none hf7 hq8)]; exact hf7, by omega, ?_⟩⟩
            have tu : Tups H7 (upd (upd H7 q8 (.tup [.str ns[i], .ref q7])) fa (.lst (ys ++ [.ref q8]))) := fun c zs e => by
              rw [upd_ne (ne_of e hf7 (fun z => nomatch z)), upd_ne (ne_of_none e hq8)]
              exact e
            have tu0 : Tups H2 H7 := fun c zs e => by
              obtain ⟨a, b, cc, ep⟩ := p2
              exact o7 c _ (ne_of e ep (fun z => nomatch z)) e
            have q8f : q8 ≠ fa := fun e => by
              rw [e, hf7] at hq8
              cases hq8
            refine ⟨rows ++ [(ns[i], es7)], ys ++ [.ref q8], _, _, _, rfl, ?_, ?_, upd_same, ?_, ?_, ?_, ?_⟩
            · show List.map (·.1) (rows ++ [(ns[i], es7)]) = _
              rw [List.map_append]
              show nms rows ++ [ns[i]] = _
              rw [hrn, List.take_succ, List.getElem?_eq_getElem hil]
              rfl
            · intro r hr'
              rcases List.mem_append.mp hr' with h | h
              · exact hrs r h
              · rw [List.mem_singleton.mp h]
                exact ⟨⟨i, List.getElem?_eq_getElem hil, sub7⟩, len7⟩
            · rw [List.map_append]
              refine ((dl.mono (tu0.trans tu)).append (.cons (K03.Dp.row (e := q7) ?_ (tu q7 _ hq7)) .nil))
              rw [upd_ne q8f, upd_same]
            · have h7 : H7 l = some (.lst (ns.map V.str)) := o7 l _ lp hl2
              rw [upd_ne lf, upd_ne (ne_of_none h7 hq8)]
              exact h7
            · intro b o hb e
              rw [upd_ne (ne_of_none e hfH)]
              exact (Off.new hq8 : L2.Off p _ _) b o hb (o7 b o hb (o2 b o hb e))
            · exact (p7.upd_ne (p7.neN hq8)).upd_ne pf
    · rintro σ H2 ⟨rows, ys, v5, v6, v7, rfl, hrn, hrs, hf2, dl, hl2, o2, p2⟩
      have hrn : nms rows = ns := by rw [hrn, List.length_map, List.take_of_length_le (Nat.le_refl _)]
      have hrl : rows.length = ns.length := by rw [← hrn]; exact (List.length_map _).symm
      have good : GoodF rows := ⟨by rw [hrn]; exact nd, fun r hr e he => by obtain ⟨⟨j, _, h⟩, _⟩ := hrs r hr; rw [hrn]; exact List.mem_of_mem_take (h e he), by omega, fun r hr => (hrs r hr).2, ⟨ns, nd, fun x => by rw [hrn], fun r hr => (hrs r hr).1⟩, fun x hx => (nwd x (by rw [← hrn]; exact hx)).2, by omega⟩
      have hyl : ys.length = rows.length := by have := dl.length; rwa [List.length_map] at this
      refine ⟨_, rfl, fa, _, rfl, .inl (SqL.of hf2), _, rfl, by omega, by omega, fun Dd hD => ?_⟩
      have pD : p ≠ Dd := p2.neN hD
      have fD : fa ≠ Dd := ne_of_none hf2 hD
      have hDH : H Dd = none := by
        cases q : H Dd with
        | none => rfl
        | some o =>
          rw [o2 Dd o pD.symm q] at hD
          cases hD
      have fp2 : fa ≠ p := pf.symm
      refine comp_by (n := ((ys.length : Nat) : Int).toNat) (fun i zs H3 => Paired (AtJ H3) zs (List.range i) ∧ H3 Dd = some (.lst zs) ∧ H3 fa = some (.lst ys) ∧ DpL H3 (rows.map rowT) ys ∧ Off p H H3 ∧ Pu H3 p)
        ⟨.nil, upd_same, by rw [upd_ne fD]; exact hf2, dl.mono (Same.tups (Same.new hD)), o2.trans (Off.new hD), p2.upd_ne pD⟩ ?_ ?_
      · rintro zs H3 ⟨pz, hD3, hf3, dl3, o3, p3⟩
        have hzl : zs.length = ys.length := by have := Paired.length pz; rw [List.length_range] at this; omega
        refine ⟨Nat.le_refl _, Dd, zs, rfl, SqL.of hD3, by omega, ?_, fun d qs pq hd => ?_⟩
        · intro z hz'
          obtain ⟨i, hi, rfl⟩ := List.getElem_of_mem hz'
          obtain ⟨q, j, e, hq⟩ := paired_get pz i hi (by rw [← Paired.length pz]; exact hi)
          exact ⟨q, j, _, e, hq, by unfold SecS; rw [if_neg Bool.false_ne_true]; exact ⟨_, rfl⟩⟩
        obtain ⟨js, pj, pqj⟩ := K03.Paired.perm pq pz
        have pd : p ≠ d := p3.neN hd
        have fd : fa ≠ d := ne_of_none hf3 hd
        have hql : qs.length = ys.length := by rw [pq.length_eq]; exact hzl
        have hjl : js.length = qs.length := (Paired.length pqj).symm
        have hjm : ∀ j ∈ js, j < rows.length := fun j hj => by
          have := List.mem_range.mp (pj.mem_iff.mp hj)
          omega
        refine ⟨_, rfl, d, rfl, ⟨_, SqL.of upd_same⟩, fun D2 hD2 => ?_⟩
        have dD2 : d ≠ D2 := ne_of_none upd_same hD2
        have s4 : Same H3 (upd H3 d (.lst qs)) := Same.new hd
        have fD2 : fa ≠ D2 := ne_of_none (s4 fa _ hf3) hD2
        have p4 : Pu (upd H3 d (.lst qs)) p := p3.same s4
        have s5 : ∀ o, Same H3 (upd (upd H3 d (.lst qs)) D2 o) := fun o => s4.trans (Same.new hD2)
        refine comp_by (n := qs.length) (fun i ws H5 => ws = (js.take i).map (fun j => ys.getD j .non) ∧ H5 = upd (upd H3 d (.lst qs)) D2 (.lst ws)) ⟨rfl, rfl⟩ ?_ ?_
        · rintro ws H5 ⟨rfl, rfl⟩
          rw [List.take_of_length_le (by omega)]
          refine ⟨⟨_, SqL.of (by rw [upd_ne dD2, upd_same]), Nat.le_refl _⟩, D2, _, rfl, .inl ⟨SqL.of upd_same, fun q hq => ?_⟩⟩
          have s6 := (s5 (.lst (js.map fun j => ys.getD j .non))).trans (Same.new (o := .tup (js.map fun j => ys.getD j .non)) hq)
          refine k (.ref q) (js.map fun j => rows.getD j ("", [])) _ (L2.Dp.tup upd_same ?_) (good.perm ?_) (o3.trans s6.off) (p3.same s6)
          · have key : ∀ js : List Nat, (∀ j ∈ js, j < rows.length) → DpL H3 ((js.map fun j => rows.getD j ("", [])).map rowT) (js.map fun j => ys.getD j .non) := by
              intro js
              induction js with
              | nil => exact fun _ => .nil
              | cons j js ih =>
                intro h
                have hj : j < rows.length := h j List.mem_cons_self
                obtain ⟨y, ey, dy⟩ := dl3.get (i := j) (t := rowT rows[j]) (by rw [List.getElem?_map, List.getElem?_eq_getElem hj]; rfl)
                have e1 : rows.getD j ("", []) = rows[j] := by simp [hj]
                have e2 : ys.getD j .non = y := by rw [List.getD_eq_getElem?_getD, ey]; rfl
                rw [List.map_cons, List.map_cons, List.map_cons, e1, e2]
                exact .cons dy (ih fun j' h' => h j' (List.mem_cons_of_mem _ h'))
            exact (key js hjm).mono (Same.tups s6)
          · have := pj.map fun j => rows.getD j ("", [])
            have e3 : (List.range ((ys.length : Nat) : Int).toNat).map (fun j => rows.getD j ("", [])) = rows := by
              apply List.ext_getElem (by rw [List.length_map, List.length_range]; omega)
              intro i a b
              simp [b]
            rw [e3] at this
            exact this
        · rintro i ws H5 hi ⟨rfl, rfl⟩
          have ei : qs[i]? = some qs[i] := List.getElem?_eq_getElem hi
          have hd5 : (upd (upd H3 d (.lst qs)) D2 (.lst ((js.take i).map fun j => ys.getD j .non))) d = some (.lst qs) := by rw [upd_ne dD2, upd_same]
          refine ⟨⟨_, _, SqL.of hd5, ei⟩, ?_⟩
          rintro y H6 ⟨rfl, yy⟩ σo ho
          obtain ⟨o, o', rfl⟩ := own2 ho
          have ey := yy _ (SqL.of hd5)
          rw [ei] at ey
          have ey := (Option.some.inj ey).symm
          have hij : i < js.length := by omega
          obtain ⟨q', r', e, hq'⟩ := paired_get pqj i hi hij
          rw [e] at ey
          subst ey
          have hj := hjm js[i] (List.getElem_mem hij)
          have ey : ys[js[i]]? = some ys[js[i]] := List.getElem?_eq_getElem (by omega)
          refine ⟨q', _, rfl, SqT.of (s5 _ q' _ hq'), rfl, _, _, rfl, _, _, rfl, rfl, ⟨[_, _], rfl, rfl⟩, yes_by ⟨_, rfl, _, rfl, fa, ys, _, _, rfl, rfl, SqL.of (s5 _ fa _ hf3), atI_nat ey, by rw [List.length_map, List.length_take]; omega, upd_same, less_by hi ⟨?_, by rw [upd_upd]⟩⟩⟩
          rw [List.take_succ, List.getElem?_eq_getElem hij, List.map_append]
          congr 1
          show [ys[js[i]]] = [ys.getD js[i] .non]
          rw [List.getD_eq_getElem?_getD, ey]
          rfl
      · rintro i zs H3 hi ⟨pz, hD3, hf3, dl3, o3, p3⟩
        refine ⟨hi, ?_⟩
        rintro x H4 ⟨rfl, rfl⟩ σo ho
        obtain ⟨o, rfl⟩ := own1 ho
        have hzl : zs.length = i := by have := Paired.length pz; rwa [List.length_range] at this
        refine ⟨⟨[_], rfl, rfl⟩, yes_by ⟨_, rfl, p, 997, rfl, p3, by decide, by decide, fun r a4 b4 c4 l4 u4 => ⟨_, rfl, by show 2 ≤ sizeLine; decide, fun q hq => ?_⟩⟩⟩
        have qD : q ≠ Dd := by
          intro e
          rw [e, upd_ne pD.symm, hD3] at hq
          cases hq
        have qp : q ≠ p := fun e => by
          rw [e, upd_same] at hq
          cases hq
        rw [upd_ne qp] at hq
        have tu : ∀ o, Tups H4 (upd (upd (upd H4 p (.lst [.int a4, .int b4, .int c4])) q (.tup [.int r, .int (0 + (i : Int))])) Dd (.lst o)) := fun o c zs' e => by
          obtain ⟨a, b, cc, ep⟩ := p3
          rw [upd_ne (ne_of e hD3 (fun z => nomatch z)), upd_ne (ne_of_none e hq), upd_ne (ne_of e ep (fun z => nomatch z))]
          exact e
        refine ⟨by omega, by rw [upd_ne qD.symm, upd_ne pD.symm]; exact hD3, less_by hi ⟨?_, upd_same, ?_, dl3.mono (tu _), ?_, ?_⟩⟩
        · rw [List.range_succ]
          have key : ∀ {as : List V} {bs : List Nat} {y : V} {j : Nat} {F : V → Nat → Prop}, Paired F as bs → F y j → Paired F (as ++ [y]) (bs ++ [j]) := by
            intro as bs y j F h hy
            induction h with
            | nil => exact .cons hy .nil
            | cons a _ ih => exact .cons a ih
          refine key (Paired.mapP pz fun y j ⟨q', r', e, hq'⟩ => ⟨q', r', e, tu _ q' _ hq'⟩) ⟨q, r, rfl, ?_⟩
          rw [upd_ne qD, upd_same]
          simp
        · rw [upd_ne fD, upd_ne (ne_of_none hf3 hq), upd_ne fp2]
          exact hf3
        · intro b o hb e
          rw [upd_ne (ne_of_none e hDH), upd_ne (fun z => by rw [← z] at hq; rw [o3 b o hb e] at hq; cases hq), upd_ne hb]
          exact o3 b o hb e
        · exact (Pu.upd.upd_ne qp.symm).upd_ne pD
end
end K03
end
section
set_option autoImplicit false
namespace K03
open PySem L2
noncomputable def mergeR (rows : List (List Str)) : Option (List Str) := open Classical in if h : ∃ r, Mg rows r then Classical.choose h else none
theorem mergeR_eq {rows : List (List Str)} {r : Option (List Str)} (h : Mg rows r) : mergeR rows = r := by
  unfold mergeR
  rw [dif_pos ⟨r, h⟩]
  exact Mg.det (Classical.choose_spec (⟨r, h⟩ : ∃ r, Mg rows r)) h
def elds (f : Fam) (x : Str) : List Str := ((f.find? fun r => decide (r.1 = x)).map (·.2)).getD []
theorem elds_of : ∀ {f : Fam}, (nms f).Nodup → ∀ r ∈ f, elds f r.1 = r.2
  | [], _, _, h => nomatch h
  | r0 :: f, nd, r, hr => by
    have nd' : (r0.1 :: nms f).Nodup := nd
    obtain ⟨n1, n2⟩ := List.nodup_cons.mp nd'
    unfold elds
    rw [List.find?_cons]
    rcases List.mem_cons.mp hr with rfl | h
    · rw [decide_eq_true rfl]
      rfl
    · have ne : ¬ r0.1 = r.1 := fun e => n1 (e ▸ List.mem_map.mpr ⟨r, h, rfl⟩)
      rw [decide_eq_false ne]
      exact elds_of n2 r h
def rowsBy (g : Str → Option (List Str)) (es : List Str) : List (List Str) := es.map (fun e => (g e).getD []) ++ [es]
noncomputable def ordN (f : Fam) : Nat → Str → Option (List Str)
  | 0, _ => none
  | n + 1, x => if (elds f x).all (fun e => (ordN f n e).isSome) = true then (mergeR (full (rowsBy (ordN f n) (elds f x)))).map (x :: ·) else none
variable {f : Fam}
theorem ix_uniq {l : List Str} (h : l.Nodup) {i j : Nat} {x : Str} (a : l[i]? = some x) (b : l[j]? = some x) : i = j := by
  obtain ⟨h1, e1⟩ := List.getElem?_eq_some_iff.mp a
  obtain ⟨h2, e2⟩ := List.getElem?_eq_some_iff.mp b
  exact (List.getElem_inj h).mp (e1.trans e2.symm)
theorem mem_take_ix {l : List Str} {j : Nat} {x : Str} (h : x ∈ l.take j) : ∃ i, i < j ∧ l[i]? = some x := by
  obtain ⟨i, hi, e⟩ := List.getElem_of_mem h
  rw [List.length_take] at hi
  refine ⟨i, by omega, ?_⟩
  rw [← e, List.getElem_take]
  exact List.getElem?_eq_getElem (by omega)
theorem ord_stab (G : GoodF f) {top : List Str} (t0 : top.Nodup) (t1 : ∀ x, x ∈ top ↔ x ∈ nms f) (t2 : ∀ r ∈ f, ∃ j, top[j]? = some r.1 ∧ ∀ e ∈ r.2, e ∈ top.take j) :
    ∀ (j : Nat) (x : Str), top[j]? = some x → ∀ n m, j < n → j < m → ordN f n x = ordN f m x := by
  intro j
  induction j using Nat.strongRecOn with
  | ind j ih =>
    intro x hx n m hn hm
    obtain ⟨n, rfl⟩ : ∃ n', n = n' + 1 := ⟨n - 1, by omega⟩
    obtain ⟨m, rfl⟩ : ∃ m', m = m' + 1 := ⟨m - 1, by omega⟩
    have hxn : x ∈ nms f := (t1 x).mp (List.mem_of_getElem? hx)
    obtain ⟨r, hr, rfl⟩ := List.mem_map.mp hxn
    have ee := elds_of G.nd r hr
    obtain ⟨j', h1, h2⟩ := t2 r hr
    have ej := ix_uniq t0 hx h1
    subst ej
    have same : ∀ e ∈ r.2, ordN f n e = ordN f m e := fun e he => by
      obtain ⟨i, hi, ei⟩ := mem_take_ix (h2 e he)
      exact ih i hi e ei n m (by omega) (by omega)
    unfold ordN
    rw [ee]
    have c1 : r.2.all (fun e => (ordN f n e).isSome) = r.2.all (fun e => (ordN f m e).isSome) := by
      apply Bool.eq_iff_iff.mpr
      rw [List.all_eq_true, List.all_eq_true]
      exact ⟨fun h e he => by rw [← same e he]; exact h e he, fun h e he => by rw [same e he]; exact h e he⟩
    have c2 : rowsBy (ordN f n) r.2 = rowsBy (ordN f m) r.2 := by
      unfold rowsBy
      congr 1
      exact List.map_congr_left fun e he => by rw [same e he]
    rw [c1, c2]
noncomputable def ordF (f : Fam) : Str → Option (List Str) := ordN f 8
theorem ord_eq (G : GoodF f) {r : Str × List Str} (hr : r ∈ f) : ordF f r.1 = if r.2.all (fun e => (ordF f e).isSome) = true then (mergeR (full (rowsBy (ordF f) r.2))).map (r.1 :: ·) else none := by
  obtain ⟨top, t0, t1, t2⟩ := G.topo
  have tl : top.length ≤ 7 := by
    have h1 := nodup_le t0 (m := nms f) fun x hx => (t1 x).mp hx
    have h2 : (nms f).length = f.length := List.length_map _
    have := G.len
    omega
  have same : ∀ e ∈ r.2, ordN f 7 e = ordF f e := fun e he => by
    obtain ⟨j, h1, h2⟩ := t2 r hr
    obtain ⟨i, hi, ei⟩ := mem_take_ix (h2 e he)
    have hil := (List.getElem?_eq_some_iff.mp ei).1
    exact ord_stab G t0 t1 t2 i e ei 7 8 (by omega) (by omega)
  show ordN f 8 r.1 = _
  unfold ordN
  rw [elds_of G.nd r hr]
  have c1 : r.2.all (fun e => (ordN f 7 e).isSome) = r.2.all (fun e => (ordF f e).isSome) := by
    apply Bool.eq_iff_iff.mpr
    rw [List.all_eq_true, List.all_eq_true]
    exact ⟨fun h e he => by rw [← same e he]; exact h e he, fun h e he => by rw [same e he]; exact h e he⟩
  have c2 : rowsBy (ordN f 7) r.2 = rowsBy (ordF f) r.2 := by
    unfold rowsBy
    congr 1
    exact List.map_congr_left fun e he => by rw [same e he]
  rw [c1, c2]
end K03
end
section
set_option autoImplicit false
namespace K03
open PySem L2
def Edge (f : Fam) (a b : Str) : Prop := ∃ r ∈ f, r.1 = a ∧ b ∈ r.2
inductive Reach (f : Fam) : Str → Str → Prop where
  | one {a b : Str} : Edge f a b → Reach f a b
  | step {a b c : Str} : Edge f a b → Reach f b c → Reach f a c
theorem Reach.trans {f : Fam} {a b c : Str} (h : Reach f a b) (g : Reach f b c) : Reach f a c := by
  induction h with
  | one e => exact .step e g
  | step e _ ih => exact .step e (ih g)
def PathLe (f : Fam) : Nat → Str → Str → Prop
  | 0, _, _ => False
  | k + 1, a, b => Edge f a b ∨ ∃ c, Edge f a c ∧ PathLe f k c b
variable {f : Fam}
theorem pl_mono : ∀ {k j : Nat} {a b : Str}, k ≤ j → PathLe f k a b → PathLe f j a b
  | 0, _, _, _, _, h => h.elim
  | k + 1, 0, _, _, h, _ => by omega
  | k + 1, j + 1, a, b, h, p => by
    rcases p with e | ⟨c, e, p⟩
    · exact .inl e
    · exact .inr ⟨c, e, pl_mono (by omega) p⟩
theorem pl_reach : ∀ {k : Nat} {a b : Str}, PathLe f k a b → Reach f a b
  | 0, _, _, h => h.elim
  | k + 1, a, b, p => by
    rcases p with e | ⟨c, e, p⟩
    · exact .one e
    · exact .step e (pl_reach p)
theorem reach_pl {a b : Str} (h : Reach f a b) : ∃ k, PathLe f k a b := by
  induction h with
  | one e => exact ⟨1, .inl e⟩
  | step e _ ih =>
    obtain ⟨k, p⟩ := ih
    exact ⟨k + 1, .inr ⟨_, e, p⟩⟩
theorem pl_split : ∀ {i j : Nat} {a c : Str}, PathLe f (i + 1 + j) a c → PathLe f (i + 1) a c ∨ ∃ b, PathLe f (i + 1) a b ∧ PathLe f j b c
  | 0, j, a, c, p => by
    rw [show 0 + 1 + j = j + 1 by omega] at p
    rcases p with e | ⟨b, e, p⟩
    · exact .inl (.inl e)
    · exact .inr ⟨b, .inl e, p⟩
  | i + 1, j, a, c, p => by
    rw [show i + 1 + 1 + j = (i + 1 + j) + 1 by omega] at p
    rcases p with e | ⟨b, e, p⟩
    · exact .inl (.inl e)
    · rcases pl_split p with q | ⟨d, q1, q2⟩
      · exact .inl (.inr ⟨b, e, q⟩)
      · exact .inr ⟨d, .inr ⟨b, e, q1⟩, q2⟩
theorem edge_src {a b : Str} (h : Edge f a b) : a ∈ nms f := by
  obtain ⟨r, hr, rfl, _⟩ := h
  exact List.mem_map.mpr ⟨r, hr, rfl⟩
theorem pl_src : ∀ {k : Nat} {a b : Str}, PathLe f k a b → a ∈ nms f
  | 0, _, _, h => h.elim
  | k + 1, a, b, p => by
    rcases p with e | ⟨c, e, p⟩
    · exact edge_src e
    · exact edge_src e
theorem reach_tgt (G : GoodF f) {a b : Str} (h : Reach f a b) : b ∈ nms f := by
  induction h with
  | one e =>
    obtain ⟨r, hr, rfl, hb⟩ := e
    exact G.sub r hr _ hb
  | step _ _ ih => exact ih
theorem filter_lt {α : Type} {p q : α → Bool} : ∀ {l : List α}, (∀ x ∈ l, p x = true → q x = true) → (∃ x ∈ l, q x = true ∧ p x = false) → (l.filter p).length < (l.filter q).length
  | [], _, ⟨x, hx, _⟩ => nomatch hx
  | a :: l, h, ⟨x, hx, h1, h2⟩ => by
    have le : ∀ l : List α, (∀ x ∈ l, p x = true → q x = true) → (l.filter p).length ≤ (l.filter q).length := by
      intro l
      induction l with
      | nil => exact fun _ => Nat.le_refl _
      | cons b l ih =>
        intro h
        have := ih fun x hx => h x (List.mem_cons_of_mem _ hx)
        have hb := h b List.mem_cons_self
        rw [List.filter_cons, List.filter_cons]
        cases hp : p b with
        | true =>
          rw [hb hp]
          simp only [if_true, List.length_cons]
          omega
        | false =>
          cases hq : q b <;> simp <;> omega
    have hl := le l fun x hx => h x (List.mem_cons_of_mem _ hx)
    rw [List.filter_cons, List.filter_cons]
    rcases List.mem_cons.mp hx with rfl | hx'
    · rw [h1, h2]
      simp
      omega
    · have := filter_lt (l := l) (fun x hx => h x (List.mem_cons_of_mem _ hx)) ⟨x, hx', h1, h2⟩
      have ha := h a List.mem_cons_self
      cases hp : p a with
      | true =>
        rw [ha hp]
        simp
        omega
      | false =>
        cases hq : q a <;> simp <;> omega
theorem short {a b : Str} (h : Reach f a b) : PathLe f f.length a b := by
  have grow : ∀ k, (∃ j, j < k ∧ ∀ x, PathLe f (j + 1) x b → PathLe f j x b) ∨ k ≤ ((nms f).filter fun x => dcd (PathLe f k x b)).length := by
    intro k
    induction k with
    | zero => exact .inr (Nat.zero_le _)
    | succ k ih =>
      rcases ih with ⟨j, hj, st⟩ | ih
      · exact .inl ⟨j, by omega, st⟩
      · by_cases st : ∀ x, PathLe f (k + 1) x b → PathLe f k x b
        · exact .inl ⟨k, by omega, st⟩
        · have ⟨x, hx⟩ := Classical.not_forall.mp st
          have hx1 : PathLe f (k + 1) x b := Classical.byContradiction fun z => hx fun y => absurd y z
          have hx2 : ¬ PathLe f k x b := fun z => hx fun _ => z
          refine .inr (Nat.lt_of_le_of_lt ih (filter_lt (fun y _ hy => ?_) ⟨x, pl_src hx1, dcd_t hx1, dcd_f hx2⟩))
          exact dcd_t (pl_mono (Nat.le_succ k) (dcd_iff.mp hy))
  rcases grow (f.length + 1) with ⟨j, hj, st⟩ | g
  · have all : ∀ k x, PathLe f k x b → PathLe f j x b := by
      intro k
      induction k with
      | zero => exact fun x h => h.elim
      | succ k ih =>
        intro x p
        apply st
        rcases p with e | ⟨c, e, p⟩
        · exact .inl e
        · exact .inr ⟨c, e, ih c p⟩
    obtain ⟨k, p⟩ := reach_pl h
    exact pl_mono (by omega) (all k a p)
  · have := List.length_filter_le (fun x => dcd (PathLe f (f.length + 1) x b)) (nms f)
    have e : (nms f).length = f.length := List.length_map _
    omega
structure RInv (f : Fam) (m i : Nat) (cs : Str → List Str) : Prop where
  sound : ∀ x ∈ nms f, ∀ y ∈ cs x, Reach f x y
  low : ∀ x ∈ nms f, ∀ y, PathLe f m x y → y ∈ cs x
  high : ∀ x ∈ (nms f).take i, (∀ y, PathLe f (m + m) x y → y ∈ cs x) ∧ ∃ p : Str → Bool, cs x = (nms f).filter p
  len : ∀ x ∈ nms f, (cs x).length ≤ 7
def nextC (f : Fam) (cs : Str → List Str) (x : Str) : List Str := (nms f).filter fun o => ((cs x).map cs ++ [cs x]).any fun way => decide (o ∈ way)
theorem RInv.step (G : GoodF f) {m i : Nat} {cs : Str → List Str} (hm : 1 ≤ m) (R : RInv f m i cs) {x : Str} (hx : (nms f)[i]? = some x) : RInv f m (i + 1) (fun y => if y = x then nextC f cs x else cs y) := by
  have hxm : x ∈ nms f := List.mem_of_getElem? hx
  have mem : ∀ y, y ∈ nextC f cs x ↔ y ∈ nms f ∧ (y ∈ cs x ∨ ∃ e ∈ cs x, y ∈ cs e) := by
    intro y
    unfold nextC
    rw [List.mem_filter, List.any_eq_true]
    constructor
    · rintro ⟨h, way, hw, hy⟩
      refine ⟨h, ?_⟩
      have hy := of_decide_eq_true hy
      rcases List.mem_append.mp hw with h' | h'
      · obtain ⟨e, he, rfl⟩ := List.mem_map.mp h'
        exact .inr ⟨e, he, hy⟩
      · rw [List.mem_singleton.mp h'] at hy
        exact .inl hy
    · rintro ⟨h, hy⟩
      refine ⟨h, ?_⟩
      rcases hy with hy | ⟨e, he, hy⟩
      · exact ⟨cs x, List.mem_append_right _ List.mem_cons_self, decide_eq_true hy⟩
      · exact ⟨cs e, List.mem_append_left _ (List.mem_map.mpr ⟨e, he, rfl⟩), decide_eq_true hy⟩
  have big : ∀ y, PathLe f (m + m) x y → y ∈ nextC f cs x := by
    intro y p
    refine (mem y).mpr ⟨reach_tgt G (pl_reach p), ?_⟩
    obtain ⟨m', rfl⟩ : ∃ m', m = m' + 1 := ⟨m - 1, by omega⟩
    rcases pl_split p with q | ⟨b, q1, q2⟩
    · exact .inl (R.low x hxm y q)
    · exact .inr ⟨b, R.low x hxm b q1, R.low b (pl_src q2) y q2⟩
  refine ⟨fun z hz y hy => ?_, fun z hz y p => ?_, fun z hz => ?_, fun z hz => ?_⟩
  · by_cases e : z = x
    · subst e
      simp only [if_true] at hy
      obtain ⟨_, h⟩ := (mem y).mp hy
      rcases h with h | ⟨e, he, h⟩
      · exact R.sound z hz y h
      · have r1 := R.sound z hz e he
        exact r1.trans (R.sound e (reach_tgt G r1) y h)
    · simp only [if_neg e] at hy
      exact R.sound z hz y hy
  · by_cases e : z = x
    · subst e
      simp only [if_true]
      exact big y (pl_mono (by omega) p)
    · simp only [if_neg e]
      exact R.low z hz y p
  · by_cases e : z = x
    · subst e
      simp only [if_true]
      exact ⟨big, _, rfl⟩
    · simp only [if_neg e]
      refine R.high z ?_
      rw [List.take_succ, hx] at hz
      rcases List.mem_append.mp hz with h | h
      · exact h
      · have : z = x := by simpa using h
        exact absurd this e
  · by_cases e : z = x
    · subst e
      simp only [if_true]
      refine Nat.le_trans (List.length_filter_le _ _) ?_
      have := G.len
      rw [List.length_map]
      exact this
    · simp only [if_neg e]
      exact R.len z hz
theorem RInv.next {m : Nat} {cs : Str → List Str} (R : RInv f m (nms f).length cs) : RInv f (m + m) 0 cs := by
  have e : (nms f).take (nms f).length = nms f := List.take_of_length_le (Nat.le_refl _)
  have h := R.high
  rw [e] at h
  exact ⟨R.sound, fun x hx y p => (h x hx).1 y p, fun x hx => by simp at hx, R.len⟩
noncomputable def above (f : Fam) (x : Str) : List Str := (nms f).filter fun o => dcd (Reach f x o)
noncomputable def below (f : Fam) (x : Str) : List Str := (nms f).filter fun o => dcd (Reach f o x)
theorem RInv.done (G : GoodF f) {cs : Str → List Str} (R : RInv f 4 (nms f).length cs) : ∀ x ∈ nms f, cs x = above f x := by
  intro x hx
  have e : (nms f).take (nms f).length = nms f := List.take_of_length_le (Nat.le_refl _)
  have h := R.high x (by rw [e]; exact hx)
  obtain ⟨h1, p, hp⟩ := h
  rw [hp]
  unfold above
  apply List.filter_congr
  intro o ho
  apply dcd_of
  have mp : p o = true ↔ o ∈ cs x := by
    rw [hp, List.mem_filter]
    exact ⟨fun z => ⟨ho, z⟩, fun z => z.2⟩
  rw [mp]
  have := G.len
  exact ⟨fun z => R.sound x hx o z, fun z => h1 o (pl_mono (by omega) (short z))⟩
theorem RInv.start (G : GoodF f) {cs : Str → List Str} (h : ∀ r ∈ f, cs r.1 = r.2) : RInv f 1 0 cs := by
  refine ⟨fun x hx y hy => ?_, fun x hx y p => ?_, fun x hx => by simp at hx, fun x hx => ?_⟩
  · obtain ⟨r, hr, rfl⟩ := List.mem_map.mp hx
    rw [h r hr] at hy
    exact .one ⟨r, hr, rfl, hy⟩
  · rcases p with ⟨r, hr, rfl, hy⟩ | ⟨c, _, p⟩
    · rw [h r hr]
      exact hy
    · exact p.elim
  · obtain ⟨r, hr, rfl⟩ := List.mem_map.mp hx
    rw [h r hr]
    exact G.el r hr
end K03
end
section
set_option autoImplicit false
namespace K03
open PySem PyProof.Rows L2
theorem valV_key {κ : Type} [DecidableEq κ] : ∀ {kvs : List (κ × V)} {k : κ}, (valV kvs k).isSome = true ↔ k ∈ kvs.map (·.1)
  | [], k => by simp [valV]
  | p :: kvs, k => by
    by_cases e : p.1 = k
    · rw [valV_pos e]
      simp [e]
    · rw [valV_neg e, valV_key]
      have : ¬ k = p.1 := fun z => e z.symm
      simp [this]
def setD (rs : List Str) : List (Key × V) := rs.map fun y => (.inr y, .bl true)
theorem setD_has (rs : List Str) (x : Str) : (valV (setD rs) (.inr x)).isSome = true ↔ x ∈ rs := by
  rw [valV_key]
  unfold setD
  rw [List.map_map, List.mem_map]
  constructor
  · rintro ⟨y, hy, e⟩
    have e : (Sum.inr y : Key) = Sum.inr x := e
    injection e with e
    exact e ▸ hy
  · exact fun h => ⟨x, h, rfl⟩
theorem setD_put {rs : List Str} {x : Str} (h : ¬ x ∈ rs) : putK (setD rs) (.inr x) (.bl true) = setD (rs ++ [x]) := by
  have hn : valV (setD rs) (.inr x) = none := by
    cases q : valV (setD rs) (.inr x) with
    | none => rfl
    | some y => exact absurd ((setD_has rs x).mp (by rw [q]; rfl)) h
  rw [putK_new _ hn]
  unfold setD
  rw [List.map_append]
  rfl
theorem setD_old {rs : List Str} {x : Str} (h : x ∈ rs) : putK (setD rs) (.inr x) (.bl true) = setD rs := by
  unfold putK
  rw [if_pos (by rw [valV_any]; exact (setD_has rs x).mpr h)]
  unfold setD
  rw [List.map_map]
  apply List.map_congr_left
  intro y _
  show (if (Sum.inr y : Key) = Sum.inr x then (Sum.inr y, V.bl true) else (Sum.inr y, V.bl true)) = _
  split <;> rfl
theorem setD_any (rs : List Str) (x : Str) : ∃ rs', putK (setD rs) (.inr x) (.bl true) = setD rs' ∧ (∀ y, y ∈ rs' ↔ y ∈ rs ∨ y = x) ∧ rs'.length ≤ rs.length + 1 := by
  by_cases h : x ∈ rs
  · exact ⟨rs, setD_old h, fun y => ⟨.inl, fun z => z.elim id fun e => e ▸ h⟩, Nat.le_succ _⟩
  · refine ⟨rs ++ [x], setD_put h, fun y => ?_, by rw [List.length_append]; exact Nat.le_refl _⟩
    rw [List.mem_append, List.mem_singleton]
section
variable {P : Program} {w : World} {K : PySem.W.Frag} {mg : Str → Option Value} {base : Heap} {t : Adr}
def RowA (H : Hp) (v : V) (r : List Str) : Prop := ∃ a, v = .ref a ∧ (H a = some (.lst (r.map V.str)) ∨ (H a = some (.tup (r.map V.str)) ∧ r ≠ []))
def RowsN (H : Hp) (vs : List V) (rows : List (List Str)) : Prop := Paired (RowA H) vs rows
theorem RowsN.mono {H H' : Hp} {vs : List V} {rows : List (List Str)} (h : RowsN H vs rows) (s : Same H H') : RowsN H' vs rows := Paired.mapP h fun v r ⟨a, e, q⟩ => ⟨a, e, q.elim (fun z => .inl (s a _ z)) fun z => .inr ⟨s a _ z.1, z.2⟩⟩
theorem RowsN.get {H : Hp} {vs : List V} {rows : List (List Str)} (h : RowsN H vs rows) {i : Nat} {v : V} (e : vs[i]? = some v) : ∃ (hr : i < rows.length), RowA H v rows[i] := by
  have hi := (List.getElem?_eq_some_iff.mp e).1
  have hr : i < rows.length := by rw [← Paired.length h]; exact hi
  have q := paired_get h i hi hr
  rw [List.getElem?_eq_getElem hi] at e
  cases e
  exact ⟨hr, q⟩
theorem RowA.cut {K : PySem.W.Frag} {H : Hp} {v : V} {r : List Str} (h : RowA H v r) {Q : VK} (q : ∀ (p : Addr) H', SeqAt' H' (.ref p) ((r.drop 1).map V.str) → Same H H' → Q (.ref p) H') : rSlT K v (some 1) none H Q ∨ rSlL K v (some 1) none H Q := by
  obtain ⟨a, rfl, h⟩ := h
  rcases h with h | ⟨h, hne⟩
  · refine .inr ⟨a, _, rfl, SqL.of h, fun p hp => q p _ ⟨p, rfl, .inl (by rw [upd_same, cut1])⟩ (Same.new hp)⟩
  · refine .inl ⟨a, _, rfl, SqT.of h, fun z => ?_, fun p hp => q p _ ⟨p, rfl, .inr (by rw [upd_same, cut1])⟩ (Same.new hp)⟩
    have e1 : HT.sIx (r.map V.str).length 0 (some 1) = min 1 (r.map V.str).length := HT.sIx_nat _ 0 1
    rw [e1, List.length_map] at z
    cases r with
    | nil => exact hne rfl
    | cons y r => simp at z
theorem RowA.at0 {K : PySem.W.Frag} {H : Hp} {v : V} {y : Str} {r : List Str} (h : RowA H v (y :: r)) {Q : VK} (q : Q (.str y) H) : rIxT K v (.int 0) H Q ∨ rIxL K v (.int 0) H Q := by
  obtain ⟨a, rfl, h⟩ := h
  rcases h with h | ⟨h, _⟩
  · exact .inr ⟨a, _, 0, _, rfl, rfl, SqL.of h, L2.at0 y r, q⟩
  · exact .inl ⟨a, _, 0, _, rfl, rfl, SqT.of h, L2.at0 y r, q⟩
theorem RowA.tru {K : PySem.W.Frag} {H : Hp} {v : V} {r : List Str} (h : RowA H v r) : TruV K v H (!r.isEmpty) := by
  obtain ⟨a, rfl, h⟩ := h
  have e : (!(r.map V.str).isEmpty) = !r.isEmpty := by cases r <;> rfl
  rcases h with h | ⟨h, _⟩
  · exact .inl ⟨_, SqL.of h, e.symm⟩
  · exact .inr (.inl ⟨_, SqT.of h, e.symm⟩)
theorem tot_take (rows : List (List Str)) (k : Nat) : tot (rows.take k) ≤ tot rows := by
  have e : tot rows = tot (rows.take k) + tot (rows.drop k) := by
    unfold tot
    rw [← List.sum_append, ← List.map_append, List.take_append_drop]
  omega
def headV (l : List Str) : V := match l with
  | [] => .non
  | x :: _ => .str x
def spFirst : Sp := fun vs H Q _ => ∃ (l : Addr) (us : List V) (rows : List (List Str)), vs = [.ref l] ∧ SeqAt' H (.ref l) us ∧ RowsN H us rows ∧ tot rows ≤ 2000 ∧ rows.length ≤ 1000 ∧ ∀ H', Same H H' → Q (headV (frees rows)) H'
theorem ok_first (D : Defs K mg t) : FnOk P w K mg base CX0 1 t.first_free.1 t.first_free.2 ["left"] spFirst := by
  have hz : sizeLine = 16777216 := sizeLine_eq
  refine D.first_free.fn.ok sc_first_free (fun vs H Q E h => ?_) (fun cdv A outer s H vs Q E hr h => ?_)
  · obtain ⟨l, us, rows, rfl, _⟩ := h
    rfl
  · obtain ⟨l, us, rows, rfl, hl, hrows, htot, hlen, k⟩ := h
    have hul : us.length = rows.length := Paired.length hrows
    refine ⟨_, (pss_cons (ps_set (i := 1) sc_first_free.nd rfl (Or.inl rfl) pe_dnewK)
      (pss_cons (ps_for PassesOwn.never rfl (pi_seq (K := K) (pv 0) rfl) (pg_name (i := 2) sc_first_free.nd rfl (Or.inl rfl))
      (pss_one (ps_for PassesOwn.never rfl (pi_seq (K := K) (pe_slice (sl_seqK (K := K) rfl) (pv 2) (po_some pe_int) po_none) rfl) (pg_name (i := 3) sc_first_free.nd rfl (Or.inl rfl))
      (pss_one (ps_dput (hu_of hr) (pv 1) (pv 3) pe_bl rfl)))))
      (pss_cons (ps_for PassesOwn.never rfl (pi_seq (K := K) (pv 0) rfl) (pg_name (i := 2) sc_first_free.nd rfl (Or.inl rfl))
      (pss_one (ps_if (PW.pt (pw_and (pt_truth (pv 2) (by intro _; rfl)) (pw_and1 (pt_cmp (pc_dnotin (hu_of hr) (pe_ix (ix_seqK (K := K) rfl) (pv 2) pe_int (fun _ _ => rfl)) (pv 1))))))
      (pss_one (ps_ret (pe_ix (ix_seqK (K := K) rfl) (pv 2) pe_int (fun _ _ => rfl))))
      pss_nil)))
      (pss_one (ps_ret pe_non))))), ?_⟩
    intro hd hhd
    have s0 : ∀ o, Same H (upd H hd o) := fun o => Same.new hhd
    have kl : ∀ {H2 : Hp}, Same H H2 → ∀ o, (upd H hd (.dK [])) l = some o → H2 l = some o := fun {H2} s o e => by
      obtain ⟨p, ep, h⟩ := hl
      cases ep
      have hlh : l ≠ hd := by
        rcases h with h | h
        · exact ne_of_none h hhd
        · exact ne_of_none h hhd
      rw [upd_ne hlh] at e
      exact s l o e
    refine ⟨_, rfl, l, rfl, for_seq (K := K) (hl.same (s0 _)) (fun i σ H2 => ∃ (rs : List Str) (v2 v3 : Option V), σ = [some (.ref l), some (.ref hd), v2, v3] ∧ H2 hd = some (.dK (setD rs)) ∧ (∀ y, y ∈ rs ↔ ∃ o ∈ rows.take i, y ∈ o.drop 1) ∧ rs.length ≤ tot (rows.take i) ∧ Same H H2)
      ⟨[], _, _, rfl, upd_same, by simp, Nat.zero_le _, s0 _⟩ (fun i σ H2 _ ⟨_, _, _, _, _, _, _, s⟩ => kl s) ?_ ?_⟩
    · rintro i x σ H2 hi ⟨rs, v2, v3, rfl, hh2, mem, rl, sm⟩
      obtain ⟨hir, ha⟩ := (hrows.mono sm).get hi
      have hri : (rows[i]).length + tot (rows.take i) = tot (rows.take (i + 1)) := by
        rw [take_snoc hir]
        unfold tot
        rw [List.map_append, List.sum_append]
        simp
        omega
      have htl : tot (rows.take (i + 1)) ≤ tot rows := by
        exact tot_take rows (i + 1)
      refine ⟨_, rfl, _, rfl, ha.cut fun p H3 hp s3 => ⟨p, rfl, ?_⟩⟩
      have sm3 : Same H H3 := sm.trans s3
      refine for_seq (K := K) hp (fun j σ H4 => ∃ (rs' : List Str) (v3 : Option V), σ = [some (.ref l), some (.ref hd), some x, v3] ∧ H4 hd = some (.dK (setD rs')) ∧ (∀ y, y ∈ rs' ↔ y ∈ rs ∨ y ∈ ((rows[i]).drop 1).take j) ∧ rs'.length ≤ rs.length + j ∧ ∀ b u, b ≠ hd → H3 b = some u → H4 b = some u)
        ⟨rs, _, rfl, s3 hd _ hh2, by simp, Nat.le_refl _, fun b u _ e => e⟩ ?_ ?_ ?_
      · rintro j σ H4 _ ⟨rs', v3, rfl, hh4, _, _, kp⟩ o e
        refine kp p o (fun z => ?_) e
        rw [z] at hp
        obtain ⟨q, eq, h⟩ := hp
        cases eq
        rw [s3 hd _ hh2] at h
        rcases h with h | h <;> cases h
      · rintro j y σ H4 hj ⟨rs', v3, rfl, hh4, mem', rl', kp⟩
        have hjl : j < ((rows[i]).drop 1).length := by
          have := (List.getElem?_eq_some_iff.mp hj).1
          rwa [List.length_map] at this
        have ey : y = .str ((rows[i]).drop 1)[j] := by
          rw [List.getElem?_map, List.getElem?_eq_getElem hjl] at hj
          exact (Option.some.inj hj).symm
        subst ey
        obtain ⟨rs2, e2, m2, l2⟩ := setD_any rs' ((rows[i]).drop 1)[j]
        have hjl' := hjl
        rw [List.length_drop] at hjl'
        refine ⟨_, rfl, _, rfl, hd, _, rfl, DPut.k (k := .inr ((rows[i]).drop 1)[j]) hh4 (by unfold setD; rw [List.length_map]; omega), rs2, _, rfl, by rw [upd_same, e2], fun z => ?_, by omega, fun b u hb e => by rw [upd_ne hb]; exact kp b u hb e⟩
        rw [m2, mem', take_snoc hjl, List.mem_append, List.mem_singleton]
        constructor
        · rintro ((h | h) | h)
          · exact .inl h
          · exact .inr (.inl h)
          · exact .inr (.inr h)
        · rintro (h | h | h)
          · exact .inl (.inl h)
          · exact .inl (.inr h)
          · exact .inr h
      · rintro σ H4 ⟨rs', v3, rfl, hh4, mem', rl', kp⟩
        rw [List.length_map, List.length_drop] at rl'
        refine ⟨rs', _, _, rfl, hh4, fun y => ?_, by omega, fun b u e => kp b u (ne_of_none e hhd) (sm3 b u e)⟩
        have et : ((rows[i]).drop 1).take (((rows[i]).drop 1).map V.str).length = (rows[i]).drop 1 := List.take_of_length_le (by rw [List.length_map]; exact Nat.le_refl _)
        rw [mem', et, mem, take_snoc hir]
        constructor
        · rintro (⟨o, h1, h2⟩ | h)
          · exact ⟨o, List.mem_append_left _ h1, h2⟩
          · exact ⟨rows[i], List.mem_append_right _ List.mem_cons_self, h⟩
        · rintro ⟨o, h1, h2⟩
          rcases List.mem_append.mp h1 with h | h
          · exact .inl ⟨o, h, h2⟩
          · rw [List.mem_singleton.mp h] at h2
            exact .inr h2
    · rintro σ H2 ⟨rs, v2, v3, rfl, hh2, mem, rl, sm⟩
      rw [List.take_of_length_le (by omega)] at mem
      have held : ∀ y, (valV (setD rs) (.inr y)).isSome = heldIn rows y := fun y => by
        apply Bool.eq_iff_iff.mpr
        rw [setD_has, mem]
        unfold heldIn
        rw [List.any_eq_true]
        exact ⟨fun ⟨o, h1, h2⟩ => ⟨o, h1, decide_eq_true h2⟩, fun ⟨o, h1, h2⟩ => ⟨o, h1, of_decide_eq_true h2⟩⟩
      refine ⟨_, rfl, l, rfl, for_seq (K := K) (hl.same sm) (fun i σ H3 => ∃ (v2 v3 : Option V), σ = [some (.ref l), some (.ref hd), v2, v3] ∧ (rows.take i).flatMap (freeOf rows) = [] ∧ H3 = H2)
        ⟨_, _, rfl, rfl, rfl⟩ (fun i σ H3 _ ⟨_, _, _, _, e⟩ o h => by rw [e]; exact h) ?_ ?_⟩
      · rintro i x σ H3 hi ⟨v2', v3', rfl, hnone, rfl⟩
        obtain ⟨hir, ha⟩ := (hrows.mono sm).get hi
        have hfl : frees rows = (rows.take i).flatMap (freeOf rows) ++ (freeOf rows rows[i] ++ (rows.drop (i + 1)).flatMap (freeOf rows)) := by
          unfold frees
          have e : rows = rows.take i ++ (rows[i] :: rows.drop (i + 1)) := by
            rw [List.getElem_cons_drop, List.take_append_drop]
          conv => lhs; rw [e]
          rw [List.flatMap_append, List.flatMap_cons]
          rw [← e]
        refine ⟨_, rfl, _, ha.tru, ?_⟩
        cases hre : rows[i] with
        | nil =>
          refine iteF (iteF ⟨_, _, rfl, ?_, rfl⟩)
          rw [take_snoc hir, List.flatMap_append, hnone, hre]
          rfl
        | cons y r =>
          rw [hre] at ha hfl
          refine iteT ⟨_, rfl, ha.at0 ⟨_, rfl, hd, _, rfl, DGet.k (k := .inr y) hh2, _, rfl, ?_⟩⟩
          rw [held y]
          have ef : freeOf rows (y :: r) = if heldIn rows y = true then [] else [y] := rfl
          cases hh : heldIn rows y with
          | true =>
            refine iteF ⟨_, _, rfl, ?_, rfl⟩
            rw [take_snoc hir, List.flatMap_append, hnone, hre, List.flatMap_singleton, ef, hh, if_pos rfl]
            rfl
          | false =>
            refine iteT ⟨_, rfl, ha.at0 ?_⟩
            have := k H3 sm
            rw [hfl, hnone, ef, hh, if_neg Bool.false_ne_true] at this
            exact this
      · rintro σ H3 ⟨v2', v3', rfl, hnone, rfl⟩
        rw [List.take_of_length_le (by omega)] at hnone
        have hnone : frees rows = [] := hnone
        have := k H3 sm
        rw [hnone] at this
        exact this
end
end K03
end
section
set_option autoImplicit false
namespace K03
open PySem PyProof.Rows L2
def behindAt (rows : List (List Str)) (y : Str) : List Nat := (List.range rows.length).filter fun i => decide (y ∈ (rows.getD i []).drop 1)
section
variable {P : Program} {w : World} {K : PySem.W.Frag} {mg : Str → Option Value} {base : Heap} {t : Adr}
def spHold : Sp := fun vs H Q _ => ∃ (y : Str) (l : Addr) (us : List V) (rows : List (List Str)), vs = [.str y, .ref l] ∧ SeqAt' H (.ref l) us ∧ RowsN H us rows ∧ rows.length ≤ 1000 ∧ heldIn rows y = true ∧
  ∀ (q : Addr) (x : Str) (n : Nat) (r : List Str) H', rows[n]? = some (x :: r) → y ∈ r → (∀ m o, m < n → rows[m]? = some o → ¬ y ∈ o.drop 1) → H' q = some (.tup [.str x, .str y, .int n]) → Same H H' → Q (.ref q) H'
theorem ok_hold (D : Defs K mg t) : FnOk P w K mg base CX0 1 t.hold_of.1 t.hold_of.2 ["name", "left"] spHold := by
  have hz : sizeLine = 16777216 := sizeLine_eq
  refine D.hold_of.fn.ok sc_hold_of (fun vs H Q E h => ?_) (fun cdv A outer s H vs Q E hr h => ?_)
  · obtain ⟨y, l, us, rows, rfl, _⟩ := h
    rfl
  · obtain ⟨y, l, us, rows, rfl, hl, hrows, hlen, held, k⟩ := h
    have hul : us.length = rows.length := Paired.length hrows
    refine ⟨_, (pss_cons (ps_set (i := 2) sc_hold_of.nd rfl (Or.inl rfl) (pe_ix ix_list (pe_comp rfl (CompScope.of ["at", "row"] [0] ["at", "row", "name"] (defScope (top 26)) ["name", "left", "number"] rfl rfl (by decide +kernel)) ⟨fun _ _ _ _ _ => (pg_tup_K (K := K) (n := 2) rfl rfl (pgs_cons (pg_name (i := 0) (show List.Nodup [("at" : Str), ("row" : Str), ("name" : Str)] by decide +kernel) rfl (Or.inl (lookup_relabel_local rfl)) (.inr (lookup_relabel_local rfl))) (pgs_cons (pg_name (i := 1) (show List.Nodup [("at" : Str), ("row" : Str), ("name" : Str)] by decide +kernel) rfl (Or.inl (lookup_relabel_local rfl)) (.inr (lookup_relabel_local rfl))) pgs_nil))), fun _ _ _ _ _ => (pts_one (pt_cmpR (op_in_K (K := K) rfl) (pv 2) (pe_slice (sl_seqK (K := K) rfl) (pv 1) (po_some pe_int) po_none) (by with_unfolding_all rfl))), fun _ _ _ _ _ => (pv 0)⟩ (pi_enumS (K := K) rfl rfl D.b_enumerate (pa_cons (pv 1) pa_nil))) pe_int (fun _ _ => rfl)))
      (pss_one (ps_ret (pe_tup (pa_cons (pe_ix (ix_seqK (K := K) rfl) (pe_ix (ix_seqK (K := K) rfl) (pv 1) (pv 2) (fun _ _ => rfl)) pe_int (fun _ _ => rfl)) (pa_cons (pv 0) (pa_cons (pv 2) pa_nil))))))), ?_⟩
    refine ⟨_, rfl, l, rfl, comp_enumS (K := K) hl (fun D i ys H2 => ys = ((List.range i).filter fun j => decide (y ∈ (rows.getD j []).drop 1)).map (fun j => V.int (j : Nat)) ∧ H2 D = some (.lst ys) ∧ Same H H2)
      (fun D hD => ⟨rfl, upd_same, Same.new hD⟩) (fun D i ys H2 hD ⟨_, _, sm⟩ o e => sm l o e) ?_ ?_⟩
    · rintro D' ys H2 hD ⟨rfl, hD2, sm⟩
      rw [hul] at hD2
      have hne : behindAt rows y ≠ [] := by
        obtain ⟨o, ho, hy⟩ := List.any_eq_true.mp held
        obtain ⟨i, hi, rfl⟩ := List.getElem_of_mem ho
        refine List.ne_nil_of_mem (a := i) (List.mem_filter.mpr ⟨List.mem_range.mpr hi, ?_⟩)
        simp [hi]
        simpa using hy
      obtain ⟨n, more, en⟩ := List.exists_cons_of_ne_nil hne
      have hn : n ∈ behindAt rows y := by rw [en]; exact List.mem_cons_self
      obtain ⟨hn1, hn2⟩ := List.mem_filter.mp hn
      have hnl := List.mem_range.mp hn1
      have hn2 := of_decide_eq_true hn2
      have egd : rows.getD n [] = rows[n] := by simp [hnl]
      rw [egd] at hn2
      have hD2 : H2 D' = some (.lst ((behindAt rows y).map fun j => V.int (j : Nat))) := hD2
      rw [en] at hD2
      refine ⟨D', _, _, .int n, rfl, rfl, SqL.of hD2, atI_nat (j := 0) rfl, ?_⟩
      have eun : us[n]? = some us[n] := List.getElem?_eq_getElem (by omega)
      obtain ⟨hnr, ha⟩ := (hrows.mono sm).get eun
      cases hrn : rows[n] with
      | nil => rw [hrn] at hn2; cases hn2
      | cons x r =>
        rw [hrn] at ha hn2
        have min : ∀ m o, m < n → rows[m]? = some o → ¬ y ∈ o.drop 1 := fun m o hm em hy => by
          have hml := (List.getElem?_eq_some_iff.mp em).1
          have hmem : m ∈ behindAt rows y := List.mem_filter.mpr ⟨List.mem_range.mpr hml, decide_eq_true (by rw [List.getD_eq_getElem?_getD, em]; exact hy)⟩
          have srt : (behindAt rows y).Pairwise (· < ·) := List.Pairwise.sublist (List.filter_sublist) List.pairwise_lt_range
          rw [en] at srt hmem
          rcases List.mem_cons.mp hmem with h | h
          · omega
          · have := (List.pairwise_cons.mp srt).1 m h
            omega
        have last : ∀ (q : Addr), H2 q = none → Q (.ref q) (upd H2 q (.tup [.str x, .str y, .int n])) := fun q hq => k q x n r _ (by rw [List.getElem?_eq_getElem hnl, hrn]) hn2 min upd_same (sm.trans (Same.new hq))
        refine ⟨_, rfl, _, rfl, ?_⟩
        obtain ⟨p', e', h'⟩ := hl.same sm
        cases e'
        rcases h' with h' | h'
        · exact .inr ⟨l, us, _, _, rfl, rfl, SqL.of h', atI_nat eun, ha.at0 ⟨_, rfl, _, rfl, by show 3 ≤ sizeLine; decide, last⟩⟩
        · exact .inl ⟨l, us, _, _, rfl, rfl, SqT.of h', atI_nat eun, ha.at0 ⟨_, rfl, _, rfl, by show 3 ≤ sizeLine; decide, last⟩⟩
    · rintro D' i x ys H2 p hD hi ex ⟨rfl, hD2, sm⟩ hp σo ho
      obtain ⟨oo, oo', rfl⟩ := own2 ho
      have s3 : Same H2 (upd H2 p (.tup [.int i, x])) := Same.new hp
      obtain ⟨hir, ha⟩ := (hrows.mono (sm.trans s3)).get ex
      have egd : rows.getD i [] = rows[i] := by simp [hir]
      have ers : (List.range (i + 1)).filter (fun j => decide (y ∈ (rows.getD j []).drop 1)) = (List.range i).filter (fun j => decide (y ∈ (rows.getD j []).drop 1)) ++ (if decide (y ∈ (rows[i]).drop 1) = true then [i] else []) := by
        rw [List.range_succ, List.filter_append, List.filter_cons, egd]
        rfl
      have hyl : (((List.range i).filter fun j => decide (y ∈ (rows.getD j []).drop 1)).map (fun j => V.int (j : Nat))).length ≤ 1000 := by
        rw [List.length_map]
        refine Nat.le_trans (List.length_filter_le _ _) ?_
        rw [List.length_range]
        omega
      refine ⟨p, _, rfl, SqT.of upd_same, rfl, _, _, rfl, _, _, rfl, rfl, ⟨[_, _], rfl, rfl⟩, _, rfl, _, rfl, _, rfl, ha.cut fun q H4 hq s4 => ?_⟩
      have hq' : SqL K H4 q (((rows[i]).drop 1).map V.str) ∨ SqT K H4 q (((rows[i]).drop 1).map V.str) := by
        obtain ⟨q', e, h⟩ := hq
        cases e
        exact h.elim (fun z => .inl (SqL.of z)) fun z => .inr (SqT.of z)
      refine ⟨q, _, rfl, hq', rfl, flat_strs _, _, rfl, ite2 (fun hb => ?_) (fun hb => ?_)⟩
      · have hb : inV (.str y) (((rows[i]).drop 1).map V.str) = true := hb
        rw [inV_strs] at hb
        refine ⟨_, rfl, by omega, s4 D' _ (s3 D' _ hD2), less_by hi ⟨?_, upd_same, fun b u e => ?_⟩⟩
        · rw [ers, if_pos hb, List.map_append]
          rfl
        · rw [upd_ne (ne_of_none e hD)]
          exact s4 b _ (s3 b _ (sm b _ e))
      · have hb : ¬ inV (.str y) (((rows[i]).drop 1).map V.str) = true := hb
        rw [inV_strs] at hb
        refine less_by hi ⟨?_, s4 D' _ (s3 D' _ hD2), (sm.trans s3).trans s4⟩
        rw [ers, if_neg hb, List.append_nil]
end
end K03
end
section
set_option autoImplicit false
namespace K03
open PySem PyProof.Rows L2
def cloK (ns : List Str) (ad : Str → Addr) : List (Key × V) := ns.map fun x => (.inr x, .ref (ad x))
theorem cloK_keys (ns : List Str) (ad : Str → Addr) : (cloK ns ad).map (fun kv => kV kv.1) = ns.map V.str := by
  unfold cloK
  rw [List.map_map]
  rfl
theorem cloK_val {ns : List Str} {ad : Str → Addr} {x : Str} (h : x ∈ ns) : valV (cloK ns ad) (.inr x) = some (.ref (ad x)) := by
  induction ns with
  | nil => cases h
  | cons y ns ih =>
    by_cases e : y = x
    · subst e
      exact valV_pos (p := ((.inr y : Key), V.ref (ad y))) rfl
    · show valV ((.inr y, V.ref (ad y)) :: cloK ns ad) (.inr x) = _
      rw [valV_neg (p := ((.inr y : Key), V.ref (ad y))) (by intro z; injection z with z; exact e z)]
      rcases List.mem_cons.mp h with z | z
      · exact absurd z.symm e
      · exact ih z
def setF {α : Type} (g : Str → α) (x : Str) (v : α) : Str → α := fun y => if y = x then v else g y
theorem setF_same {α : Type} {g : Str → α} {x : Str} {v : α} : setF g x v x = v := if_pos rfl
theorem setF_ne {α : Type} {g : Str → α} {x y : Str} {v : α} (h : y ≠ x) : setF g x v y = g y := if_neg h
theorem cloK_put {ns : List Str} {ad : Str → Addr} {x : Str} {l : Addr} (h : x ∈ ns) : putK (cloK ns ad) (.inr x) (.ref l) = cloK ns (setF ad x l) := by
  unfold putK
  rw [if_pos]
  · unfold cloK
    rw [List.map_map]
    apply List.map_congr_left
    intro y _
    show (if (Sum.inr y : Key) = Sum.inr x then _ else _) = _
    by_cases e : y = x
    · subst e
      rw [if_pos rfl]
      show (Sum.inr y, V.ref l) = (Sum.inr y, V.ref (setF ad y l y))
      rw [setF_same]
    · rw [if_neg (by intro z; injection z with z; exact e z)]
      show (Sum.inr y, V.ref (ad y)) = (Sum.inr y, V.ref (setF ad x l y))
      rw [setF_ne e]
  · rw [valV_any, cloK_val h]
    rfl
theorem cloK_snoc {ns : List Str} {ad : Str → Addr} {x : Str} {l : Addr} (h : ¬ x ∈ ns) : putK (cloK ns ad) (.inr x) (.ref l) = cloK (ns ++ [x]) (setF ad x l) := by
  have hn : valV (cloK ns ad) (.inr x) = none := by
    cases q : valV (cloK ns ad) (.inr x) with
    | none => rfl
    | some y =>
      exfalso
      have h1 : (valV (cloK ns ad) (.inr x)).isSome = true := by rw [q]; rfl
      rw [valV_key] at h1
      unfold cloK at h1
      rw [List.map_map, List.mem_map] at h1
      obtain ⟨z, hz, e⟩ := h1
      have e : (Sum.inr z : Key) = Sum.inr x := e
      injection e with e
      exact h (e ▸ hz)
  rw [putK_new _ hn]
  unfold cloK
  rw [List.map_append]
  congr 1
  · apply List.map_congr_left
    intro y hy
    have ne : y ≠ x := fun e => by rw [e] at hy; exact h hy
    rw [setF_ne ne]
  · show _ = [(Sum.inr x, V.ref (setF ad x l x))]
    rw [setF_same]
theorem cloK_has (ns : List Str) (ad : Str → Addr) (x : Str) : (valV (cloK ns ad) (.inr x)).isSome = true ↔ x ∈ ns := by
  rw [valV_key]
  unfold cloK
  rw [List.map_map, List.mem_map]
  constructor
  · rintro ⟨y, hy, e⟩
    have e : (Sum.inr y : Key) = Sum.inr x := e
    injection e with e
    exact e ▸ hy
  · exact fun h => ⟨x, h, rfl⟩
def fronts (rows : List (List Str)) : List Str := rows.filterMap List.head?
theorem fronts_mem {rows : List (List Str)} {x : Str} {r : List Str} (h : (x :: r) ∈ rows) : x ∈ fronts rows := List.mem_filterMap.mpr ⟨_, h, rfl⟩
theorem fronts_of {rows : List (List Str)} {x : Str} (h : x ∈ fronts rows) : ∃ r, (x :: r) ∈ rows := by
  obtain ⟨o, ho, e⟩ := List.mem_filterMap.mp h
  cases o with
  | nil => cases e
  | cons y r =>
    cases e
    exact ⟨r, ho⟩
theorem fronts_held {rows : List (List Str)} (h : frees rows = []) {x : Str} (hx : x ∈ fronts rows) : heldIn rows x = true := by
  obtain ⟨r, hr⟩ := fronts_of hx
  cases q : heldIn rows x with
  | true => rfl
  | false =>
    have : x ∈ frees rows := List.mem_flatMap.mpr ⟨_, hr, by show x ∈ (if heldIn rows x = true then [] else [x]); rw [q, if_neg Bool.false_ne_true]; exact List.mem_cons_self⟩
    rw [h] at this
    cases this
structure Chain (H : Hp) (rows : List (List Str)) (c : List Str) (nx : Str → Str) (ad : Str → Addr) (name : Str) : Prop where
  nd : c.Nodup
  fr : ∀ z ∈ c, z ∈ fronts rows
  nf : name ∈ fronts rows
  st : ∀ (i : Nat) z, c[i]? = some z → c[i + 1]? = some (nx z) ∨ (i + 1 = c.length ∧ nx z = name)
  at' : ∀ z ∈ c, ∃ n : Nat, H (ad z) = some (.tup [.str (nx z), .str z, .int n])
section
variable {P : Program} {w : World} {K : PySem.W.Frag} {mg : Str → Option Value} {base : Heap} {t : Adr}
def spRing : Sp := fun vs H Q _ => ∃ (l : Addr) (us : List V) (rows : List (List Str)), vs = [.ref l] ∧ SeqAt' H (.ref l) us ∧ RowsN H us rows ∧ rows.length ≤ 1000 ∧ frees rows = [] ∧ fronts rows ≠ [] ∧
  ∀ (q : Addr) (ts : List V) H', H' q = some (.tup ts) → Same H H' → Q (.ref q) H'
theorem ok_ring (D : Defs K mg t) : FnOk P w K mg base CX0 2 t.ring_among.1 t.ring_among.2 ["left"] spRing := by
  have G_hold_of : FnOk P w K mg base CX0 1 t.hold_of.1 t.hold_of.2 _ spHold := ok_hold D
  have hz : sizeLine = 16777216 := sizeLine_eq
  refine D.ring_among.fn.ok sc_ring_among (fun vs H Q E h => ?_) (fun cdv A outer s H vs Q E hr h => ?_)
  · obtain ⟨l, us, rows, rfl, _⟩ := h
    rfl
  · obtain ⟨l, us, rows, rfl, hl, hrows, hlen, hfree, hfr, k⟩ := h
    have hul : us.length = rows.length := Paired.length hrows
    refine ⟨_, (pss_cons (ps_set (i := 1) sc_ring_among.nd rfl (Or.inl rfl) (pe_ix ix_list (pe_comp rfl (CompScope.of ["row"] [] ["row"] (defScope (top 25)) ["left", "name", "holds", "ring"] rfl rfl (by decide +kernel)) ⟨fun _ _ _ _ _ => (pg_name (i := 0) (show List.Nodup [("row" : Str)] by decide +kernel) rfl (Or.inl (lookup_relabel_local rfl)) (.inr (lookup_relabel_local rfl))), fun _ _ _ _ _ => (pts_one (pt_truth_K (K := K) rfl (pv 0) (by intro _; rfl))), fun _ _ _ _ _ => (pe_ix (ix_seqK (K := K) rfl) (pv 0) pe_int (fun _ _ => rfl))⟩ (pi_seq (K := K) (pv 0) rfl)) pe_int (fun _ _ => rfl)))
      (pss_cons (ps_set (i := 2) sc_ring_among.nd rfl (Or.inl rfl) pe_dnewK)
      (pss_cons (ps_while PassesOwn.never (pt_cmp (pc_dnotin (hu_of hr) (pv 1) (pv 2)))
      (pss_cons (ps_dput (hu_of hr) (pv 2) (pv 1) (pe_callF D.hold_of G_hold_of (hr.mono (by omega)) (by rfl) (pa_cons (pv 1) (pa_cons (pv 0) pa_nil))) rfl)
      (pss_one (ps_set (i := 1) sc_ring_among.nd rfl (Or.inl rfl) (pe_ix ix_tup (pe_dget (hu_of hr) (pv 2) (pv 1) (fun _ _ => rfl)) pe_int (fun _ _ => rfl))))))
      (pss_cons (ps_set (i := 3) sc_ring_among.nd rfl (Or.inl rfl) (pe_lst (pa_cons (pe_dget (hu_of hr) (pv 2) (pv 1) (fun _ _ => rfl)) pa_nil)))
      (pss_cons (ps_while PassesOwn.never (pt_cmpR op_ne (pe_ix ix_tup (pe_ix ix_list (pv 3) (pe_un un_neg pe_int) (fun _ _ => rfl)) pe_int (fun _ _ => rfl)) (pv 1) (nomark _))
      (pss_one (ps_expr (pe_bm PySem.F.plainAttrs_list PySem.F.slot_list_append PySem.F.type_list_append mt_append (pv 3) (pa_cons (pe_dget (hu_of hr) (pv 2) (pe_ix ix_tup (pe_ix ix_list (pv 3) (pe_un un_neg pe_int) (fun _ _ => rfl)) pe_int (fun _ _ => rfl)) (fun _ _ => rfl)) pa_nil)))))
      (pss_one (ps_ret (pe_callTy call_tuple_of (by rfl) D.b_tuple bt_tuple (pa_cons (pe_slK (pv 3) (pe_un un_neg pe_int)) pa_nil))))))))), ?_⟩
    refine ⟨_, rfl, l, rfl, comp_seq (K := K) hl (fun D i ys H2 => ys = (fronts (rows.take i)).map V.str ∧ H2 = upd H D (.lst ys))
      (fun D hD => ⟨rfl, rfl⟩) (fun D i ys H2 hD ⟨_, e2⟩ o e => by rw [e2, upd_ne (ne_of_none e hD)]; exact e) ?_ ?_⟩
    · rintro D1 ys H2 hD1 ⟨rfl, rfl⟩
      rw [List.take_of_length_le (by omega)]
      obtain ⟨x0, more, ef⟩ := List.exists_cons_of_ne_nil hfr
      refine ⟨D1, _, _, .str x0, rfl, rfl, SqL.of upd_same, by rw [ef]; exact L2.at0 x0 more, ?_⟩
      intro hd hhd
      have s1 : ∀ o, Same H (upd H D1 o) := fun o => Same.new hD1
      have s2 := (s1 (.lst ((fronts rows).map V.str))).trans (Same.new (o := .dK []) hhd)
      have hhdH : H hd = none := by
        cases q : H hd with
        | none => rfl
        | some o =>
          rw [s1 _ hd o q] at hhd
          cases hhd
      have hh3 : (upd (upd H D1 (.lst ((fronts rows).map V.str))) hd (.dK [])) hd = some (.dK []) := upd_same
      generalize upd (upd H D1 (.lst ((fronts rows).map V.str))) hd (.dK []) = H3 at s2 hh3
      have hx0 : x0 ∈ fronts rows := by rw [ef]; exact List.mem_cons_self
      have fl1 : (fronts rows).length ≤ 1000 := Nat.le_trans (List.length_filterMap_le _ _) hlen
      refine ⟨fun m σ H4 => ∃ (c : List Str) (nx : Str → Str) (ad : Str → Addr) (name : Str) (v3 : Option V), σ = [some (.ref l), some (.str name), some (.ref hd), v3] ∧ Chain H4 rows c nx ad name ∧ H4 hd = some (.dK (cloK c ad)) ∧ m + c.length = (fronts rows).length ∧ Same H H4, ?_, ?_⟩
      · refine ⟨(fronts rows).length, [], fun z => z, fun _ => 0, x0, _, rfl, ⟨List.nodup_nil, by simp, hx0, by intro i z h; simp at h, by simp⟩, hh3, rfl, s2⟩
      · rintro m σ H4 ⟨c, nx, ad, name, v3, rfl, ch, hh4, hm, sm4⟩
        refine ⟨_, rfl, _, rfl, hd, _, rfl, DGet.k (k := .inr name) hh4, _, rfl, ?_⟩
        cases hin : (valV (cloK c ad) (.inr name)).isSome with
        | false =>
          have hnc : ¬ name ∈ c := fun h => by rw [(cloK_has c ad name).mpr h] at hin; cases hin
          have hcl : c.length < (fronts rows).length := by
            have := nodup_le (nd_snoc ch.nd hnc) (m := fronts rows) fun z hz' => by
              rcases List.mem_append.mp hz' with h | h
              · exact ch.fr z h
              · rw [List.mem_singleton.mp h]
                exact ch.nf
            rw [List.length_append, List.length_singleton] at this
            omega
          refine iteT ⟨fun σ' H' => ∃ m', m' < m ∧ ∃ (c : List Str) (nx : Str → Str) (ad : Str → Addr) (name : Str) (v3 : Option V), σ' = [some (.ref l), some (.str name), some (.ref hd), v3] ∧ Chain H' rows c nx ad name ∧ H' hd = some (.dK (cloK c ad)) ∧ m' + c.length = (fronts rows).length ∧ Same H H', fun σ' H' h => h, ?_⟩
          refine ⟨_, rfl, _, rfl, name, l, us, rows, rfl, hl.same sm4, hrows.mono sm4, hlen, fronts_held hfree ch.nf, fun q x n r H5 er hy _ hq s5 => ?_⟩
          have hh5 := s5 hd _ hh4
          refine ⟨_, rfl, _, rfl, hd, _, rfl, DPut.k (k := .inr name) hh5 (by unfold cloK; rw [List.length_map]; omega), ?_⟩
          rw [cloK_snoc hnc]
          have qh : q ≠ hd := ne_of hq hh5 (fun z => nomatch z)
          have kp6 : ∀ b u, b ≠ hd → H5 b = some u → (upd H5 hd (.dK (cloK (c ++ [name]) (setF ad name q)))) b = some u := fun b u hb e => by rw [upd_ne hb]; exact e
          have hmem : name ∈ c ++ [name] := List.mem_append_right _ List.mem_cons_self
          refine ⟨_, rfl, _, rfl, hd, .ref q, rfl, .inl ⟨_, .inr name, .inl upd_same, rfl, by rw [cloK_val hmem, setF_same]⟩, q, _, _, _, rfl, rfl, SqT.of (kp6 q _ qh hq), rfl, ?_⟩
          refine ⟨m - 1, by omega, c ++ [name], setF nx name x, setF ad name q, x, _, rfl, ⟨nd_snoc ch.nd hnc, ?_, fronts_mem (List.mem_of_getElem? er), ?_, ?_⟩, upd_same, by rw [List.length_append, List.length_singleton]; omega, fun b u e => kp6 b u (ne_of_none e hhdH) (s5 b u (sm4 b u e))⟩
          · intro z hz'
            rcases List.mem_append.mp hz' with h | h
            · exact ch.fr z h
            · rw [List.mem_singleton.mp h]
              exact ch.nf
          · intro i z ez
            by_cases hic : i < c.length
            · rw [List.getElem?_append_left hic] at ez
              have zn : z ≠ name := fun e => hnc (e ▸ List.mem_of_getElem? ez)
              rw [setF_ne zn]
              left
              rcases ch.st i z ez with h | ⟨h1, h2⟩
              · have := (List.getElem?_eq_some_iff.mp h).1
                rw [List.getElem?_append_left this]
                exact h
              · rw [h2, h1, List.getElem?_append_right (Nat.le_refl _), Nat.sub_self]
                rfl
            · have hi2 := (List.getElem?_eq_some_iff.mp ez).1
              rw [List.length_append, List.length_singleton] at hi2
              have ei : i = c.length := by omega
              subst ei
              rw [List.getElem?_append_right (Nat.le_refl _), Nat.sub_self] at ez
              have ez : z = name := by simpa using ez.symm
              subst ez
              right
              exact ⟨by rw [List.length_append]; rfl, setF_same⟩
          · intro z hz'
            by_cases zn : z = name
            · subst zn
              exact ⟨n, by rw [setF_same, setF_same]; exact kp6 q _ qh hq⟩
            · rw [setF_ne zn, setF_ne zn]
              rcases List.mem_append.mp hz' with h | h
              · obtain ⟨n', hn'⟩ := ch.at' z h
                have h5 := s5 _ _ hn'
                exact ⟨n', kp6 _ _ (ne_of h5 hh5 (fun z => nomatch z)) h5⟩
              · exact absurd (List.mem_singleton.mp h) zn
        | true =>
          have hnc : name ∈ c := (cloK_has c ad name).mp hin
          refine iteF ?_
          have getd : ∀ {H5 : Hp} {z : Str}, z ∈ c → H5 hd = some (.dK (cloK c ad)) → DGet H5 hd (.str z) (some (.ref (ad z))) := fun {H5 z} hz' h => .inl ⟨_, .inr z, .inl h, rfl, (cloK_val hz').symm⟩
          refine ⟨_, rfl, _, rfl, hd, .ref (ad name), rfl, getd hnc hh4, by show 1 ≤ sizeLine; decide, fun rg hrg => ?_⟩
          have s5 : ∀ o, Same H4 (upd H4 rg o) := fun o => Same.new hrg
          obtain ⟨j0, hj0, ej0⟩ := List.getElem_of_mem hnc
          have cl1 : c.length ≤ 1000 := by omega
          refine ⟨fun m σ H5 => ∃ (zs : List Str) (i : Nat) (z : Str), σ = [some (.ref l), some (.str name), some (.ref hd), some (.ref rg)] ∧ H5 rg = some (.lst ((zs ++ [z]).map fun z => V.ref (ad z))) ∧ zs.length ≤ i ∧ c[i]? = some z ∧ m + i = c.length ∧ (∀ b u, b ≠ rg → H4 b = some u → H5 b = some u), ?_, ?_⟩
          · exact ⟨c.length - j0, [], j0, name, rfl, upd_same, Nat.zero_le _, by rw [List.getElem?_eq_getElem hj0, ej0], by omega, fun b u hb e => by rw [upd_ne hb]; exact e⟩
          · rintro m2 σ H5 ⟨zs, i, z, rfl, hrg5, hzi, ez, hm2, kp5⟩
            have hzc : z ∈ c := List.mem_of_getElem? ez
            have hil := (List.getElem?_eq_some_iff.mp ez).1
            obtain ⟨n, hn⟩ := ch.at' z hzc
            have az : ad z ≠ rg := ne_of_none hn hrg
            have hn5 := kp5 _ _ az hn
            have hhr : hd ≠ rg := ne_of_none hh4 hrg
            have hh5 := kp5 hd _ hhr hh4
            have elast : atI ((zs ++ [z]).map fun z => V.ref (ad z)) (-1) = some (.ref (ad z)) := by
              rw [List.map_append]
              exact atI_last _ _
            refine ⟨_, rfl, _, rfl, rg, _, _, _, rfl, rfl, SqL.of hrg5, elast, ad z, _, _, _, rfl, rfl, SqT.of hn5, rfl, _, rfl, rfl, _, rfl, ite2 (fun hb => ?_) (fun hb => ?_)⟩
            · have hne : nx z ≠ name := fun e => by
                rw [e] at hb
                simp at hb
              have ez2 : c[i + 1]? = some (nx z) := by
                rcases ch.st i z ez with h | ⟨_, h⟩
                · exact h
                · exact absurd h hne
              have hi1 := (List.getElem?_eq_some_iff.mp ez2).1
              refine ⟨fun σ' H' => ∃ m', m' < m2 ∧ ∃ (zs : List Str) (i : Nat) (z : Str), σ' = [some (.ref l), some (.str name), some (.ref hd), some (.ref rg)] ∧ H' rg = some (.lst ((zs ++ [z]).map fun z => V.ref (ad z))) ∧ zs.length ≤ i ∧ c[i]? = some z ∧ m' + i = c.length ∧ (∀ b u, b ≠ rg → H4 b = some u → H' b = some u), fun σ' H' h => h, ?_⟩
              refine ⟨_, rfl, .inl ⟨rfl, _, SqL.of hrg5⟩, _, rfl, _, rfl, _, rfl, rg, _, _, _, rfl, rfl, SqL.of hrg5, elast, ad z, _, _, _, rfl, rfl, SqT.of hn5, rfl, hd, .ref (ad (nx z)), rfl, getd (List.mem_of_getElem? ez2) hh5, rg, _, .ref (ad (nx z)), rfl, rfl, hrg5, by rw [List.length_map, List.length_append, List.length_singleton]; omega, ?_⟩
              refine ⟨m2 - 1, by omega, zs ++ [z], i + 1, nx z, rfl, ?_, by rw [List.length_append, List.length_singleton]; omega, ez2, by omega, fun b u hb' e => by rw [upd_ne hb']; exact kp5 b u hb' e⟩
              rw [upd_same, List.map_append (l₁ := zs ++ [z])]
              rfl
            · refine ⟨_, rfl, _, rfl, rg, _, _, rfl, rfl, SqL.of hrg5, .inr ⟨rfl, fun q6 hq6 => ⟨q6, _, rfl, .inl ⟨SqL.of upd_same, fun q8 hq8 => ?_⟩⟩⟩⟩
              refine k q8 _ _ upd_same fun b u e => ?_
              have e4 := sm4 b u e
              have e5 := kp5 b u (ne_of_none e4 hrg) e4
              have e6 : (upd H5 q6 (.lst ((zs ++ [z]).map fun z => V.ref (ad z)).reverse)) b = some u := by rw [upd_ne (ne_of_none e5 hq6)]; exact e5
              rw [upd_ne (ne_of_none e6 hq8)]
              exact e6
    · rintro D1 i x ys H2 hD hi ex ⟨rfl, rfl⟩ σo ho
      obtain ⟨oo, rfl⟩ := own1 ho
      have s1 : ∀ o, Same H (upd H D1 o) := fun o => Same.new hD
      obtain ⟨hir, ha⟩ := (hrows.mono (s1 _)).get ex
      have hyl : ((fronts (rows.take i)).map V.str).length ≤ 1000 := by
        rw [List.length_map]
        refine Nat.le_trans (List.length_filterMap_le _ _) ?_
        rw [List.length_take]
        omega
      refine ⟨⟨[_], rfl, rfl⟩, _, rfl, _, ha.tru, ?_⟩
      have efr : fronts (rows.take (i + 1)) = fronts (rows.take i) ++ (rows[i]).head?.toList := by
        unfold fronts
        rw [take_snoc hir, List.filterMap_append]
        congr 1
      cases hre : rows[i] with
      | nil =>
        refine iteF (less_by hi ⟨?_, rfl⟩)
        rw [efr, hre]
        simp
      | cons y r =>
        rw [hre] at ha
        refine iteT ⟨_, rfl, ha.at0 ⟨by omega, upd_same, less_by hi ⟨?_, by rw [upd_upd]⟩⟩⟩
        rw [efr, hre, List.map_append]
        rfl
end
end K03
end
section
set_option autoImplicit false
namespace K03
open PySem PyProof.Rows L2
theorem held_full (rows : List (List Str)) (x : Str) : heldIn (full rows) x = heldIn rows x := by
  unfold heldIn full
  apply Bool.eq_iff_iff.mpr
  rw [List.any_eq_true, List.any_eq_true]
  constructor
  · rintro ⟨o, h1, h2⟩
    exact ⟨o, (List.mem_filter.mp h1).1, h2⟩
  · rintro ⟨o, h1, h2⟩
    refine ⟨o, List.mem_filter.mpr ⟨h1, ?_⟩, h2⟩
    cases o with
    | nil => have := of_decide_eq_true h2; cases this
    | cons _ _ => rfl
theorem frees_full (rows : List (List Str)) : frees (full rows) = frees rows := by
  have key : ∀ (R S : List (List Str)), (∀ x, heldIn S x = heldIn R x) → ∀ rs : List (List Str), (full rs).flatMap (freeOf S) = rs.flatMap (freeOf R) := by
    intro R S h rs
    induction rs with
    | nil => rfl
    | cons r rs ih =>
      unfold full at ih ⊢
      rw [List.filter_cons, List.flatMap_cons]
      cases r with
      | nil =>
        simp only [List.isEmpty_nil, Bool.not_true, Bool.false_eq_true, if_false]
        rw [ih]
        rfl
      | cons y r =>
        simp only [List.isEmpty_cons, Bool.not_false, if_true]
        rw [List.flatMap_cons, ih]
        congr 1
        show (if heldIn S y = true then [] else [y]) = (if heldIn R y = true then [] else [y])
        rw [h y]
  exact key rows (full rows) (held_full rows) rows
theorem full_map_full (x : Str) : ∀ rows : List (List Str), full ((full rows).map (outOf x)) = full (rows.map (outOf x))
  | [] => rfl
  | r :: rows => by
    have ih := full_map_full x rows
    unfold full at ih ⊢
    rw [List.filter_cons, List.map_cons, List.filter_cons]
    cases r with
    | nil =>
      simp only [List.isEmpty_nil, Bool.not_true, Bool.false_eq_true, if_false]
      rw [ih]
      rfl
    | cons y r =>
      simp only [List.isEmpty_cons, Bool.not_false, if_true, List.map_cons]
      rw [List.filter_cons, ih]
section
variable {P : Program} {w : World} {K : PySem.W.Frag} {mg : Str → Option Value} {base : Heap} {t : Adr}
def TellM (H : Hp) (x : Str) (r : Option (List Str)) (q : Addr) : Prop := match r with
  | some os => ∃ qo, H q = some (.tup [.str "order", .ref qo]) ∧ H qo = some (.tup ((x :: os).map V.str))
  | none => ∃ a rg, H q = some (.tup [.str "quarrel", .str a, .ref rg])
def spMRows : Sp := fun vs H Q _ => ∃ (x : Str) (l : Addr) (us : List V) (rows : List (List Str)), vs = [.str x, .ref l] ∧ H l = some (.tup us) ∧ RowsT H us rows ∧ ((∀ r ∈ rows, r ≠ []) ∨ ∀ r ∈ rows, r = []) ∧ tot rows ≤ 1000 ∧ rows.length ≤ 1000 ∧
  ∀ (q : Addr) (r : Option (List Str)) H', Mg (full rows) r → TellM H' x r q → Same H H' → Q (.ref q) H'
theorem ok_mrows (D : Defs K mg t) : FnOk P w K mg base CX0 3 t.merge_rows.1 t.merge_rows.2 ["kind", "rows"] spMRows := by
  have G_first_free : FnOk P w K mg base CX0 1 t.first_free.1 t.first_free.2 _ spFirst := ok_first D
  have G_ring_among : FnOk P w K mg base CX0 2 t.ring_among.1 t.ring_among.2 _ spRing := ok_ring D
  have hz : sizeLine = 16777216 := sizeLine_eq
  refine D.merge_rows.fn.ok sc_merge_rows (fun vs H Q E h => ?_) (fun cdv A outer s H vs Q E hr h => ?_)
  · obtain ⟨x, l, us, rows, rfl, _⟩ := h
    rfl
  · obtain ⟨x, l, us, rows, rfl, hl, hrt, hcase, htot, hlen, k⟩ := h
    refine ⟨_, (pss_cons (ps_set (i := 2) sc_merge_rows.nd rfl (Or.inl rfl) (pe_lst (pa_cons (pv 0) pa_nil)))
      (pss_cons (ps_set (i := 3) sc_merge_rows.nd rfl (Or.inl rfl) (pv 1))
      (pss_cons (ps_while PassesOwn.never (pt_val (pe_callB (call_anyS rfl) (by rfl) D.b_any bt_any (pa_cons (pv 3) pa_nil)))
      (pss_cons (ps_set (i := 4) sc_merge_rows.nd rfl (Or.inr rfl) (pe_callF D.first_free G_first_free (hr.mono (by omega)) (by rfl) (pa_cons (pv 3) pa_nil)))
      (pss_cons (ps_if (pt_cmpR op_isN (pv 4) pe_non (nomark _))
      (pss_one (ps_ret (pe_tup (pa_cons pe_str (pa_cons (pv 0) (pa_cons (pe_callF D.ring_among G_ring_among (hr.mono (by omega)) (by rfl) (pa_cons (pv 3) pa_nil)) pa_nil))))))
      pss_nil)
      (pss_cons (ps_expr (pe_bm PySem.F.plainAttrs_list PySem.F.slot_list_append PySem.F.type_list_append mt_append (pv 2) (pa_cons (pv 4) pa_nil)))
      (pss_one (ps_setc (i := 3) rfl sc_merge_rows.nd rfl (Or.inl rfl) (CompScope.of ["row"] [4] ["row", "first"] (defScope (top 23)) ["kind", "rows", "order", "left", "first"] rfl rfl (by decide +kernel)) ⟨fun _ _ _ _ _ => (pg_name (i := 0) (show List.Nodup [("row" : Str), ("first" : Str)] by decide +kernel) rfl (Or.inl (lookup_relabel_local rfl)) (.inr (lookup_relabel_local rfl))), fun _ _ _ _ _ => pts_nil, fun _ _ _ _ _ => (pe_comp rfl (CompScope.of2 ["name"] [1] ["name", "first"] ["row", "first"] rfl rfl (by decide +kernel)) ⟨fun _ _ _ _ _ => (pg_name (i := 0) (show List.Nodup [("name" : Str), ("first" : Str)] by decide +kernel) rfl (Or.inl (lookup_relabel_local rfl)) (.inr (lookup_relabel_local rfl))), fun _ _ _ _ _ => (pts_one (pt_cmpR op_ne (pv 0) (pv 1) (nomark _))), fun _ _ _ _ _ => (pv 0)⟩ (pi_seq (K := K) (pv 0) rfl))⟩ (pi_seq (K := K) (pv 3) rfl)))))))
      (pss_one (ps_ret (pe_tup (pa_cons pe_str (pa_cons (pe_callTy call_tuple_of (by rfl) D.b_tuple bt_tuple (pa_cons (pv 2) pa_nil)) pa_nil)))))))), ?_⟩
    refine ⟨_, rfl, by show 1 ≤ sizeLine; decide, fun ol hol => ?_⟩
    have s0 : Same H (upd H ol (.lst [.str x])) := Same.new hol
    have hol0 : (upd H ol (.lst [.str x])) ol = some (.lst [.str x]) := upd_same
    generalize upd H ol (.lst [.str x]) = H1 at s0 hol0
    refine ⟨_, rfl, ?_⟩
    refine ⟨fun m σ H2 => ∃ (us2 : List V) (rows2 : List (List Str)) (os : List Str) (l2 : Addr) (v4 : Option V), σ = [some (.str x), some (.ref l), some (.ref ol), some (.ref l2), v4] ∧ SeqAt' H2 (.ref l2) us2 ∧ l2 ≠ ol ∧ Paired (fun (v : V) (r : List Str) => ∃ a, v = .ref a ∧ a ≠ ol ∧ (H2 a = some (.lst (r.map V.str)) ∨ H2 a = some (.tup (r.map V.str)))) us2 rows2 ∧ (RowsN H2 us2 rows2 ∨ ∀ r ∈ rows2, r = []) ∧
      H2 ol = some (.lst ((x :: os).map V.str)) ∧ m = tot rows2 ∧ os.length + tot rows2 ≤ 1000 ∧ rows2.length = rows.length ∧ (∀ r, Mg (full rows2) r → Mg (full rows) (r.map (os ++ ·))) ∧ Same H H2, ?_, ?_⟩
    · refine ⟨_, us, rows, [], l, _, rfl, ⟨l, rfl, .inr (s0 l _ hl)⟩, ne_of_none hl hol, Paired.mapP hrt fun v r ⟨a, e, h⟩ => ⟨a, e, ne_of_none h hol, .inr (s0 a _ h)⟩, ?_, hol0, rfl, by show 0 + _ ≤ _; omega, rfl, fun r h => ?_, s0⟩
      · rcases hcase with h | h
        · left
          have key : ∀ {us : List V} {rows : List (List Str)}, RowsT H us rows → (∀ r ∈ rows, r ≠ []) → RowsN H1 us rows := by
            intro us rows hh
            induction hh with
            | nil => exact fun _ => .nil
            | cons q _ ih =>
              intro h
              obtain ⟨a, e, h'⟩ := q
              exact .cons ⟨a, e, .inr ⟨s0 a _ h', h _ List.mem_cons_self⟩⟩ (ih fun r hr => h r (List.mem_cons_of_mem _ hr))
          exact key hrt h
        · exact .inr h
      · have : r.map (([] : List Str) ++ ·) = r := by cases r <;> rfl
        rw [this]
        exact h
    · rintro m σ H2 ⟨us2, rows2, os, l2, v4, rfl, hl2, l2o, pr, hc2, hol2, rfl, hb2, hrl, mg2, sm2⟩
      have hul : us2.length = rows2.length := Paired.length pr
      obtain ⟨l2', el2, hl2'⟩ := id hl2
      cases el2
      refine ⟨_, rfl, l2, us2, rows2.map (fun r => !r.isEmpty), rfl, hl2', by rw [List.length_map, hul], fun i hi hj => ?_, _, rfl, ?_⟩
      · have hir : i < rows2.length := by omega
        obtain ⟨a, e, _, h⟩ := paired_get pr i hi hir
        refine ⟨(rows2[i]).map V.str, ⟨a, e, h⟩, ?_⟩
        rw [List.getElem_map]
        cases rows2[i] <;> rfl
      have eany : (rows2.map fun r => !r.isEmpty).any id = !(full rows2).isEmpty := by
        rw [List.any_map]
        apply Bool.eq_iff_iff.mpr
        rw [List.any_eq_true]
        constructor
        · rintro ⟨r, h1, h2⟩
          have : r ∈ full rows2 := List.mem_filter.mpr ⟨h1, h2⟩
          cases hf : full rows2 with
          | nil => rw [hf] at this; cases this
          | cons _ _ => rfl
        · intro h
          cases hf : full rows2 with
          | nil => rw [hf] at h; cases h
          | cons r _ =>
            have : r ∈ full rows2 := by rw [hf]; exact List.mem_cons_self
            obtain ⟨h1, h2⟩ := List.mem_filter.mp this
            exact ⟨r, h1, h2⟩
      rw [eany]
      cases hf : full rows2 with
      | nil =>
        refine iteF ⟨_, rfl, ol, _, rfl, .inl ⟨SqL.of hol2, fun qo hqo => ⟨by show 2 ≤ sizeLine; decide, fun q hq => ?_⟩⟩⟩
        have h1 := mg2 (some []) (by rw [hf]; exact .nil)
        have s3 := (Same.new (o := .tup ((x :: os).map V.str)) hqo).trans (Same.new (o := .tup [.str "order", .ref qo]) hq)
        refine k q (some os) _ (by simpa using h1) ⟨qo, upd_same, ?_⟩ (sm2.trans s3)
        rw [upd_ne (ne_of_none upd_same hq), upd_same]
      | cons r0 rr =>
        have hfne : full rows2 ≠ [] := by rw [hf]; exact List.cons_ne_nil _ _
        have hrn : RowsN H2 us2 rows2 := by
          rcases hc2 with h | h
          · exact h
          · exfalso
            have : r0 ∈ full rows2 := by rw [hf]; exact List.mem_cons_self
            obtain ⟨h1, h2⟩ := List.mem_filter.mp this
            rw [h r0 h1] at h2
            cases h2
        refine iteT ⟨fun σ' H' => ∃ m', m' < tot rows2 ∧ ∃ (us2 : List V) (rows2 : List (List Str)) (os : List Str) (l2 : Addr) (v4 : Option V), σ' = [some (.str x), some (.ref l), some (.ref ol), some (.ref l2), v4] ∧ SeqAt' H' (.ref l2) us2 ∧ l2 ≠ ol ∧ Paired (fun (v : V) (r : List Str) => ∃ a, v = .ref a ∧ a ≠ ol ∧ (H' a = some (.lst (r.map V.str)) ∨ H' a = some (.tup (r.map V.str)))) us2 rows2 ∧ (RowsN H' us2 rows2 ∨ ∀ r ∈ rows2, r = []) ∧
          H' ol = some (.lst ((x :: os).map V.str)) ∧ m' = tot rows2 ∧ os.length + tot rows2 ≤ 1000 ∧ rows2.length = rows.length ∧ (∀ r, Mg (full rows2) r → Mg (full rows) (r.map (os ++ ·))) ∧ Same H H', fun σ' H' h => h, ?_⟩
        refine ⟨_, rfl, l2, us2, rows2, rfl, hl2, hrn, by omega, by omega, fun H3 s3 => ?_⟩
        cases hfr : frees rows2 with
        | nil =>
          refine ⟨_, rfl, rfl, _, rfl, iteT ?_⟩
          have hfronts : fronts rows2 ≠ [] := by
            have : r0 ∈ full rows2 := by rw [hf]; exact List.mem_cons_self
            obtain ⟨h1, h2⟩ := List.mem_filter.mp this
            cases r0 with
            | nil => cases h2
            | cons y r => exact List.ne_nil_of_mem (fronts_mem h1)
          refine ⟨_, rfl, _, rfl, l2, us2, rows2, rfl, hl2.same s3, hrn.mono s3, by omega, hfr, hfronts, fun rg ts H4 hrg s4 => ⟨by show 3 ≤ sizeLine; decide, fun q hq => ?_⟩⟩
          refine k q none _ (mg2 none (.stuck hfne (by rw [frees_full]; exact hfr))) ⟨x, rg, upd_same⟩ (((sm2.trans s3).trans s4).trans (Same.new hq))
        | cons x1 more =>
          refine ⟨_, rfl, rfl, _, rfl, iteF ?_⟩
          have hx1 : x1 ∈ frees rows2 := by rw [hfr]; exact List.mem_cons_self
          obtain ⟨r1, hr1, hh1⟩ := frees_mem hx1
          have hx1r : x1 ∈ r1 := by
            cases r1 with
            | nil => cases hh1
            | cons y r' =>
              cases hh1
              exact List.mem_cons_self
          have hlt := tot_out_lt (x := x1) ⟨r1, hr1, hx1r⟩
          have hol3 := s3 ol _ hol2
          refine ⟨_, rfl, .inl ⟨rfl, _, SqL.of hol3⟩, _, rfl, ol, _, .str x1, rfl, rfl, hol3, by rw [List.length_map, List.length_cons]; omega, ?_⟩
          have eol : (x :: os).map V.str ++ [V.str x1] = (x :: (os ++ [x1])).map V.str := by rw [List.map_cons, List.map_cons, List.map_append]; rfl
          rw [eol]
          have kp4 : ∀ b u, b ≠ ol → H3 b = some u → (upd H3 ol (.lst ((x :: (os ++ [x1])).map V.str))) b = some u := fun b u hb e => by rw [upd_ne hb]; exact e
          have hol4 : (upd H3 ol (.lst ((x :: (os ++ [x1])).map V.str))) ol = some (.lst ((x :: (os ++ [x1])).map V.str)) := upd_same
          generalize upd H3 ol (.lst ((x :: (os ++ [x1])).map V.str)) = H4 at kp4 hol4
          have sm4 : Same H H4 := fun b u e => kp4 b u (ne_of_none e hol) (s3 b u (sm2 b u e))
          have hl4 : SeqAt' H4 (.ref l2) us2 := ⟨l2, rfl, hl2'.elim (fun z => .inl (kp4 l2 _ l2o (s3 l2 _ z))) fun z => .inr (kp4 l2 _ l2o (s3 l2 _ z))⟩
          have row4 : ∀ (i : Nat) (v : V), us2[i]? = some v → ∃ (hir : i < rows2.length) (a : Addr), v = .ref a ∧ SeqAt' H4 (.ref a) ((rows2[i]).map V.str) := fun i v e => by
            have hi := (List.getElem?_eq_some_iff.mp e).1
            have hir : i < rows2.length := by omega
            obtain ⟨a, ea, ao, h⟩ := paired_get pr i hi hir
            rw [List.getElem?_eq_getElem hi] at e
            cases e
            exact ⟨hir, a, ea, a, rfl, h.elim (fun z => .inl (kp4 a _ ao (s3 a _ z))) fun z => .inr (kp4 a _ ao (s3 a _ z))⟩
          refine ⟨_, rfl, l2, rfl, comp_seq (K := K) hl4 (fun D i ys H5 => H5 D = some (.lst ys) ∧ RowsY H5 D ol ys ((rows2.take i).map (outOf x1)) ∧ Same H4 H5)
            (fun D hD => ⟨upd_same, .nil, Same.new hD⟩) (fun D i ys H5 hD ⟨_, _, sm⟩ o e => sm l2 o e) ?_ ?_⟩
          · rintro D1 ys H5 hD1 ⟨hD5, ry5, sm5⟩
            rw [List.take_of_length_le (by omega)] at ry5
            have D1o : D1 ≠ ol := fun e => by rw [e, hol4] at hD1; cases hD1
            refine ⟨tot (rows2.map (outOf x1)), hlt, ys, rows2.map (outOf x1), os ++ [x1], D1, _, rfl, ⟨D1, rfl, .inl hD5⟩, D1o, Paired.mapP ry5 fun v r ⟨a, e, _, n, q⟩ => ⟨a, e, n, .inl q⟩, .inl (Paired.mapP ry5 fun v r ⟨a, e, _, n, q⟩ => ⟨a, e, .inl q⟩), sm5 ol _ hol4, rfl, ?_, by rw [List.length_map]; exact hrl, fun r h => ?_, sm4.trans sm5⟩
            · rw [List.length_append, List.length_singleton]
              omega
            · have h1 := mg2 _ (.step (by rw [frees_full]; exact hfr) (by rw [full_map_full]; exact h))
              rw [Option.map_map] at h1
              have : ((fun x => os ++ x) ∘ fun x => x1 :: x) = fun x => os ++ [x1] ++ x := by
                funext z
                simp
              rw [this] at h1
              exact h1
          · rintro D1 i v ys H5 hD1 hi ev ⟨hD5, ry5, sm5⟩ σo ho
            obtain ⟨oo, rfl⟩ := own1 ho
            obtain ⟨hir, a, rfl, ha⟩ := row4 i v ev
            have ha5 := ha.same sm5
            have hyl : ys.length ≤ 1000 := by
              rw [Paired.length ry5, List.length_map, List.length_take]
              omega
            refine ⟨⟨[_], rfl, rfl⟩, yes_by ⟨_, rfl, a, rfl, comp_seq (K := K) ha5 (fun D j ys5 H6 => ys5 = (outOf x1 ((rows2[i]).take j)).map V.str ∧ H6 = upd H5 D (.lst ys5))
              (fun D hD => ⟨rfl, rfl⟩) (fun D j ys5 H6 hD ⟨_, e6⟩ o e => by rw [e6, upd_ne (ne_of_none e hD)]; exact e) ?_ ?_⟩⟩
            · rintro D5 ys5 H6 hD5' ⟨rfl, rfl⟩
              rw [List.take_of_length_le (by rw [List.length_map]; exact Nat.le_refl _)]
              have s6 : ∀ o, Same H5 (upd H5 D5 o) := fun o => Same.new hD5'
              have D51 : D5 ≠ D1 := fun e => by rw [e, hD5] at hD5'; cases hD5'
              have D5o : D5 ≠ ol := fun e => by rw [e, sm5 ol _ hol4] at hD5'; cases hD5'
              refine ⟨by omega, s6 _ D1 _ hD5, less_by hi ⟨upd_same, ?_, fun b u e => ?_⟩⟩
              · rw [take_snoc hir, List.map_append]
                exact pairedSnoc (ry5.grow (s6 _)) ⟨D5, rfl, D51, D5o, by rw [upd_ne D51, upd_same]⟩
              · rw [upd_ne (ne_of_none e hD1)]
                exact s6 _ b _ (sm5 b _ e)
            · rintro D5 j y ys5 H6 hD5' hj ey ⟨rfl, rfl⟩ σo5 ho5
              obtain ⟨o5, rfl⟩ := own1 ho5
              have hj' : j < (rows2[i]).length := by rw [List.length_map] at hj; exact hj
              rw [List.getElem?_map, List.getElem?_eq_getElem hj'] at ey
              cases ey
              have eout : outOf x1 ((rows2[i]).take (j + 1)) = outOf x1 ((rows2[i]).take j) ++ (if decide ((rows2[i])[j] ≠ x1) = true then [(rows2[i])[j]] else []) := by
                unfold outOf
                rw [take_snoc hj', List.filter_append]
                congr 1
                rw [List.filter_cons]
                rfl
              have hri := tot_le_mem (List.getElem_mem hir)
              have hl5 : ((outOf x1 ((rows2[i]).take j)).map V.str).length ≤ 1000 := by
                rw [List.length_map]
                have h1 := out_le x1 ((rows2[i]).take j)
                rw [List.length_take] at h1
                omega
              refine ⟨⟨[_], rfl, rfl⟩, _, rfl, _, rfl, rfl, _, rfl, ite2 (fun hb => ?_) (fun hb => ?_)⟩
              · have hb : (rows2[i])[j] ≠ x1 := fun e => by
                  have hb : (!decide (V.str (rows2[i])[j] = V.str x1)) = true := hb
                  rw [e, decide_eq_true rfl] at hb
                  cases hb
                refine ⟨_, rfl, by omega, upd_same, less_by hj ⟨?_, by rw [upd_upd]⟩⟩
                rw [eout, if_pos (decide_eq_true hb), List.map_append]
                rfl
              · have hb : (rows2[i])[j] = x1 := Classical.byContradiction fun e => hb (by
                  show (!decide (V.str (rows2[i])[j] = V.str x1)) = true
                  rw [decide_eq_false (by intro z; injection z with z; exact e z)]
                  rfl)
                refine less_by hj ⟨?_, rfl⟩
                rw [eout, if_neg (by simpa using hb), List.append_nil]
end
end K03
end
section
set_option autoImplicit false
namespace K03
open PySem PyProof.Rows L2
def TellF (H : Hp) (f : Fam) (x : Str) (q : Addr) : Prop := (∃ o qo, ordF f x = some o ∧ H q = some (.tup [.str "order", .ref qo]) ∧ H qo = some (.tup (o.map V.str))) ∨ (ordF f x = none ∧ ∃ a rg, H q = some (.tup [.str "quarrel", .str a, .ref rg]))
def ToldAt (H : Hp) (kvs : List (Key × V)) (f : Fam) (S : Str → Prop) : Prop := ∀ x, S x → ∃ q, valV kvs (.inr x) = some (.ref q) ∧ TellF H f x q
theorem TellF.mono {H H' : Hp} {f : Fam} {x : Str} {q : Addr} (h : TellF H f x q) (s : Tups H H') : TellF H' f x q := by
  rcases h with ⟨o, qo, h1, h2, h3⟩ | ⟨h1, a, rg, h2⟩
  · exact .inl ⟨o, qo, h1, s q _ h2, s qo _ h3⟩
  · exact .inr ⟨h1, a, rg, s q _ h2⟩
section
variable {P : Program} {w : World} {K : PySem.W.Frag} {mg : Str → Option Value} {base : Heap} {t : Adr}
def spQuarrel : Sp := fun vs H Q _ => ∃ (e d : Addr) (es : List Str) (kvs : List (Key × V)) (f : Fam), vs = [.ref e, .ref d] ∧ H e = some (.tup (es.map V.str)) ∧ Rd H d (.dK kvs) ∧ ToldAt H kvs f (· ∈ es) ∧
  ((∀ x ∈ es, (ordF f x).isSome = true) → Q .non H) ∧ (¬ (∀ x ∈ es, (ordF f x).isSome = true) → ∀ (q a rg), H q = some (.tup [.str "quarrel", .str a, .ref rg]) → Q (.ref q) H)
theorem quarrel_ne : ¬ ("order" : Str) = "quarrel" := by decide +kernel
theorem ok_quarrel (D : Defs K mg t) : FnOk P w K mg base CX0 1 t.quarrel_among.1 t.quarrel_among.2 ["kinds", "told"] spQuarrel := by
  refine D.quarrel_among.fn.ok sc_quarrel_among (fun vs H Q E h => ?_) (fun cdv A outer s H vs Q E hr h => ?_)
  · obtain ⟨e, d, es, kvs, f, rfl, _⟩ := h
    rfl
  · obtain ⟨e, d, es, kvs, f, rfl, he, hd, told, k1, k2⟩ := h
    refine ⟨_, (pss_cons (ps_for PassesOwn.never rfl (pi_tup (pv 0)) (pg_name (i := 2) sc_quarrel_among.nd rfl (Or.inl rfl))
      (pss_one (ps_if (pt_cmpR op_eq (pe_ix ix_tup (pe_dget (hu_of hr) (pv 1) (pv 2) (fun _ _ => rfl)) pe_int (fun _ _ => rfl)) pe_str (nomark _))
      (pss_one (ps_ret (pe_dget (hu_of hr) (pv 1) (pv 2) (fun _ _ => rfl))))
      pss_nil)))
      (pss_one (ps_ret pe_non))), ?_⟩
    refine ⟨_, rfl, e, rfl, ⟨_, SqT.of he⟩, for_tup (K := K) (a := e) (xs := es.map V.str) (fun i σ H2 => ∃ v2 : Option V, σ = [some (.ref e), some (.ref d), v2] ∧ H2 = H ∧ ∀ x ∈ es.take i, (ordF f x).isSome = true)
      ⟨_, rfl, rfl, by simp⟩ (fun i σ H2 _ ⟨_, _, e2, _⟩ => by rw [e2]; exact SqT.of he) ?_ ?_⟩
    · rintro i v σ H2 hi ⟨v2, rfl, rfl, all⟩
      have hil : i < es.length := by
        have := (List.getElem?_eq_some_iff.mp hi).1
        rwa [List.length_map] at this
      have ev : v = .str es[i] := by
        rw [List.getElem?_map, List.getElem?_eq_getElem hil] at hi
        exact (Option.some.inj hi).symm
      subst ev
      have hm : es[i] ∈ es := List.getElem_mem hil
      obtain ⟨q, hv, ht⟩ := told es[i] hm
      have gd : DGet H2 d (.str es[i]) (some (.ref q)) := .inl ⟨kvs, .inr es[i], hd, rfl, hv.symm⟩
      rcases ht with ⟨o, qo, h1, h2, h3⟩ | ⟨h1, a, rg, h2⟩
      · refine ⟨_, rfl, _, rfl, d, .ref q, rfl, gd, q, _, _, _, rfl, rfl, SqT.of h2, rfl, rfl, _, rfl, iteNeg (by rw [decide_eq_false (by intro h; injection h with h; exact quarrel_ne h)]; exact Bool.false_ne_true) ?_⟩
        refine ⟨_, rfl, rfl, fun x hx => ?_⟩
        rw [take_snoc hil] at hx
        rcases List.mem_append.mp hx with h | h
        · exact all x h
        · rw [List.mem_singleton.mp h, h1]
          rfl
      · refine ⟨_, rfl, _, rfl, d, .ref q, rfl, gd, q, _, _, _, rfl, rfl, SqT.of h2, rfl, rfl, _, rfl, itePos (decide_eq_true rfl) ?_⟩
        refine ⟨_, rfl, _, rfl, d, .ref q, rfl, gd, k2 (fun h => ?_) q a rg h2⟩
        have := h es[i] hm
        rw [h1] at this
        cases this
    · rintro σ H2 ⟨v2, rfl, rfl, all⟩
      rw [List.length_map, List.take_of_length_le (Nat.le_refl _)] at all
      exact k1 all
def spRowsBy : Sp := fun vs H Q _ => ∃ (e d : Addr) (es : List Str) (kvs : List (Key × V)) (f : Fam), vs = [.ref e, .ref d] ∧ H e = some (.tup (es.map V.str)) ∧ Rd H d (.dK kvs) ∧ ToldAt H kvs f (· ∈ es) ∧ (∀ x ∈ es, (ordF f x).isSome = true) ∧ es.length ≤ 1000 ∧
  ∀ (q : Addr) (us : List V) H', H' q = some (.tup us) → RowsT H' us (rowsBy (ordF f) es) → Same H H' → Q (.ref q) H'
theorem ok_rowsBy (D : Defs K mg t) : FnOk P w K mg base CX0 1 t.rows_by.1 t.rows_by.2 ["elders", "told"] spRowsBy := by
  have hz : sizeLine = 16777216 := sizeLine_eq
  refine D.rows_by.fn.ok sc_rows_by (fun vs H Q E h => ?_) (fun cdv A outer s H vs Q E hr h => ?_)
  · obtain ⟨e, d, es, kvs, f, rfl, _⟩ := h
    rfl
  · obtain ⟨e, d, es, kvs, f, rfl, he, hd, told, all, hlen, k⟩ := h
    refine ⟨_, (pss_one (ps_ret (pe_op op_catTA (pe_callTy call_tuple_of (by rfl) D.b_tuple bt_tuple (pa_cons (pe_comp rfl (CompScope.of ["elder"] [1] ["elder", "told"] (defScope (top 22)) ["elders", "told"] rfl rfl (by decide +kernel)) ⟨fun _ _ _ _ _ => (pg_name (i := 0) (show List.Nodup [("elder" : Str), ("told" : Str)] by decide +kernel) rfl (Or.inl (lookup_relabel_local rfl)) (.inr (lookup_relabel_local rfl))), fun _ _ _ _ _ => pts_nil, fun _ _ _ _ _ => (pe_ix (ix_tup_K (K := K) rfl) (pe_dget (hu_of hr) (pv 1) (pv 0) (fun _ _ => rfl)) pe_int (fun _ _ => rfl))⟩ (pi_tup (pv 0))) pa_nil)) (pe_tup (pa_cons (pv 0) pa_nil))))), ?_⟩
    refine ⟨_, rfl, e, rfl, ⟨_, SqT.of he⟩, fun D1 hD1 => ?_⟩
    have s1 : ∀ o, Same H (upd H D1 o) := fun o => Same.new hD1
    refine comp_by (n := (es.map V.str).length) (fun i ys H2 => RowsT H ys ((es.take i).map fun x => (ordF f x).getD []) ∧ H2 = upd H D1 (.lst ys)) ⟨.nil, rfl⟩ ?_ ?_
    · rintro ys H2 ⟨rt, rfl⟩
      rw [List.length_map, List.take_of_length_le (Nat.le_refl _)] at rt
      refine ⟨⟨_, SqT.of (s1 _ e _ he), Nat.le_refl _⟩, D1, _, rfl, .inl ⟨SqL.of upd_same, fun q1 hq1 => ?_⟩⟩
      have s2 := (s1 (.lst ys)).trans (Same.new (o := .tup ys) hq1)
      have hyl : ys.length = es.length := by rw [Paired.length rt, List.length_map]
      refine ⟨_, rfl, by show 1 ≤ sizeLine; decide, fun q2 hq2 => ?_⟩
      have s3 := s2.trans (Same.new (o := .tup [.ref e]) hq2)
      have h1 : (upd (upd (upd H D1 (.lst ys)) q1 (.tup ys)) q2 (.tup [.ref e])) q1 = some (.tup ys) := by rw [upd_ne (ne_of_none upd_same hq2), upd_same]
      have last : ∀ (H' : Hp), Same H H' → RowsT H' (ys ++ [.ref e]) (rowsBy (ordF f) es) := fun H' s => pairedSnoc (rt.mono (Same.tups s)) ⟨e, rfl, s e _ he⟩
      cases ys with
      | nil =>
        refine .inr ⟨q1, q2, [.ref e], rfl, rfl, h1, upd_same, ?_⟩
        exact k q2 _ _ upd_same (last _ s3) s3
      | cons y0 yr =>
        refine .inl ⟨q1, q2, y0 :: yr, [.ref e], rfl, rfl, SqT.of h1, SqT.of upd_same, List.cons_ne_nil _ _, by rw [hyl]; show es.length + 1 ≤ sizeLine; omega, (fun h => absurd h (List.cons_ne_nil _ _)), fun _ q3 hq3 => ?_⟩
        have s4 := s3.trans (Same.new (o := .tup (y0 :: yr ++ [.ref e])) hq3)
        exact k q3 _ _ upd_same (last _ s4) s4
    · rintro i ys H2 hi ⟨rt, rfl⟩
      have hi' : i < es.length := by rw [List.length_map] at hi; exact hi
      have ei : (es.map V.str)[i]? = some (.str es[i]) := by rw [List.getElem?_map, List.getElem?_eq_getElem hi']; rfl
      refine ⟨⟨_, _, SqT.of (s1 _ e _ he), ei⟩, ?_⟩
      rintro v H3 ⟨rfl, yy⟩ σo ho
      obtain ⟨oo, rfl⟩ := own1 ho
      have ev := yy _ (SqT.of (s1 _ e _ he))
      rw [ei] at ev
      cases ev
      have hm : es[i] ∈ es := List.getElem_mem hi'
      obtain ⟨q, hv, ht⟩ := told es[i] hm
      have hd1 : Rd (upd H D1 (.lst ys)) d (.dK kvs) := by
        rcases hd with h | ⟨o, h⟩
        · exact .inl (s1 _ d _ h)
        · exact .inr ⟨o, s1 _ d _ h⟩
      rcases ht with ⟨o, qo, h1, h2, h3⟩ | ⟨h1, _⟩
      · refine ⟨⟨[_], rfl, rfl⟩, yes_by ⟨_, rfl, _, rfl, d, .ref q, rfl, .inl ⟨kvs, .inr es[i], hd1, rfl, hv.symm⟩, q, _, _, _, rfl, rfl, SqT.of (s1 _ q _ h2), rfl, by rw [Paired.length rt, List.length_map, List.length_take]; omega, upd_same, less_by hi ⟨?_, by rw [upd_upd]⟩⟩⟩
        rw [take_snoc hi', List.map_append]
        refine pairedSnoc rt ⟨qo, rfl, ?_⟩
        show H qo = some (.tup (((ordF f es[i]).getD []).map V.str))
        rw [h1]
        exact h3
      · have := all es[i] hm
        rw [h1] at this
        cases this
end
end K03
end
section
set_option autoImplicit false
namespace L2
open PySem PyProof.Rows
theorem call_all_K {X : Cx} {K : PySem.W.Frag} (h : X.K = K) (hc : X.calm = true) : CallR X (.builtin "all") (fun xs H Q => ∃ (p : Addr) (bs : List Bool), xs = [.ref p] ∧ SqL K H p (bs.map V.bl) ∧ Q (.bl (bs.all id)) H) := by subst h; exact call_all hc
end L2
namespace K03
open PySem PyProof.Rows L2
structure Topo (f : Fam) (pl : List Str) : Prop where
  nd : pl.Nodup
  sub : ∀ x ∈ pl, x ∈ nms f
  el : ∀ (j : Nat) (r : Str × List Str), r ∈ f → pl[j]? = some r.1 → ∀ e ∈ r.2, e ∈ pl.take j
theorem some_ready {f : Fam} (G : GoodF f) (pl : List Str) {r : Str × List Str} (hr : r ∈ f) (hn : ¬ r.1 ∈ pl) : ∃ r' ∈ f, ¬ r'.1 ∈ pl ∧ ∀ e ∈ r'.2, e ∈ pl := by
  obtain ⟨top, t0, t1, t2⟩ := G.topo
  have key : ∀ (j : Nat) (r : Str × List Str), r ∈ f → top[j]? = some r.1 → ¬ r.1 ∈ pl → ∃ r' ∈ f, ¬ r'.1 ∈ pl ∧ ∀ e ∈ r'.2, e ∈ pl := by
    intro j
    induction j using Nat.strongRecOn with
    | ind j ih =>
      intro r hr hj hn
      by_cases hall : ∀ e ∈ r.2, e ∈ pl
      · exact ⟨r, hr, hn, hall⟩
      · have ⟨e, he⟩ := Classical.not_forall.mp hall
        have he1 : e ∈ r.2 := Classical.byContradiction fun z => he fun y => absurd y z
        have he2 : ¬ e ∈ pl := fun z => he fun _ => z
        obtain ⟨j', h1, h2⟩ := t2 r hr
        have ej := ix_uniq t0 hj h1
        subst ej
        obtain ⟨i, hi, ei⟩ := mem_take_ix (h2 e he1)
        obtain ⟨r2, hr2, er2⟩ := List.mem_map.mp (G.sub r hr e he1)
        have er2 : r2.1 = e := er2
        exact ih i hi r2 hr2 (by rw [er2]; exact ei) (by rw [er2]; exact he2)
  obtain ⟨j, h1, _⟩ := t2 r hr
  exact key j r hr h1 hn
def leftOf (f : Fam) (pl : List Str) : Fam := f.filter fun r => decide (¬ r.1 ∈ pl)
def readyOf (f : Fam) (pl : List Str) : List Str := ((leftOf f pl).filter fun r => r.2.all fun e => decide (e ∈ pl)).map (·.1)
theorem Topo.more {f : Fam} (G : GoodF f) {pl : List Str} (T : Topo f pl) : Topo f (pl ++ readyOf f pl) := by
  have mem : ∀ x, x ∈ readyOf f pl → ∃ r ∈ f, r.1 = x ∧ ¬ x ∈ pl ∧ ∀ e ∈ r.2, e ∈ pl := fun x hx => by
    obtain ⟨r, hr, rfl⟩ := List.mem_map.mp hx
    obtain ⟨h1, h2⟩ := List.mem_filter.mp hr
    obtain ⟨h3, h4⟩ := List.mem_filter.mp h1
    exact ⟨r, h3, rfl, of_decide_eq_true h4, fun e he => of_decide_eq_true (List.all_eq_true.mp h2 e he)⟩
  have ndr : (readyOf f pl).Nodup := by
    have : (readyOf f pl).Sublist (nms f) := List.Sublist.map _ (List.Sublist.trans List.filter_sublist List.filter_sublist)
    exact G.nd.sublist this
  refine ⟨?_, fun x hx => ?_, fun j r hr ej e he => ?_⟩
  · rw [List.nodup_append]
    refine ⟨T.nd, ndr, fun a ha b hb e => ?_⟩
    obtain ⟨_, _, _, h, _⟩ := mem b hb
    exact h (e ▸ ha)
  · rcases List.mem_append.mp hx with h | h
    · exact T.sub x h
    · obtain ⟨r, hr, e, _⟩ := mem x h
      rw [← e]
      exact List.mem_map.mpr ⟨r, hr, rfl⟩
  · by_cases hj : j < pl.length
    · rw [List.getElem?_append_left hj] at ej
      have := T.el j r hr ej e he
      rw [List.take_append_of_le_length (by omega)]
      exact this
    · rw [List.getElem?_append_right (by omega)] at ej
      obtain ⟨r', hr', e', _, h⟩ := mem r.1 (List.mem_of_getElem? ej)
      have er : elds f r'.1 = r'.2 := elds_of G.nd r' hr'
      have er2 : elds f r.1 = r.2 := elds_of G.nd r hr
      rw [e', er2] at er
      have hp : e ∈ pl := h e (er ▸ he)
      rw [List.take_append]
      exact List.mem_append_left _ (by rw [List.take_of_length_le (by omega)]; exact hp)
section
variable {P : Program} {w : World} {K : PySem.W.Frag} {mg : Str → Option Value} {base : Heap} {t : Adr}
def spElders : Sp := fun vs H Q _ => ∃ (v : V) (f : Fam), vs = [v] ∧ Dp H (famT f) v ∧ GoodF f ∧ ∀ (q : Addr) (pl : List Str) H', H' q = some (.tup (pl.map V.str)) → Topo f pl → (∀ x ∈ nms f, x ∈ pl) → Same H H' → Q (.ref q) H'
theorem ok_elders (D : Defs K mg t) : FnOk P w K mg base CX0 1 t.elders_first.1 t.elders_first.2 ["family"] spElders := by
  have hz : sizeLine = 16777216 := sizeLine_eq
  refine D.elders_first.fn.ok sc_elders_first (fun vs H Q E h => ?_) (fun cdv A outer s H vs Q E hr h => ?_)
  · obtain ⟨v, f, rfl, _⟩ := h
    rfl
  · obtain ⟨v, f, rfl, dv, gf, k⟩ := h
    obtain ⟨a, xs, rfl, ha, dl⟩ := L2.Dp.of_tup dv
    have hxl : xs.length = f.length := by have := dl.length; rwa [List.length_map] at this
    have f7 := gf.len
    refine ⟨_, (pss_cons (ps_set (i := 1) sc_elders_first.nd rfl (Or.inr rfl) pe_dnewK)
      (pss_cons (ps_set (i := 2) sc_elders_first.nd rfl (Or.inl rfl) (pe_callTy call_list_of (by rfl) D.b_list bt_list (pa_cons (pv 0) pa_nil)))
      (pss_cons (ps_set (i := 3) sc_elders_first.nd rfl (Or.inl rfl) (pv 2))
      (pss_cons (ps_while PassesOwn.never (pt_truth (pv 3) (by intro _; rfl))
      (pss_cons (ps_setc (i := 3) rfl sc_elders_first.nd rfl (Or.inl rfl) (CompScope.of ["kind", "elders"] [1] ["kind", "elders", "placed"] (defScope (top 13)) ["family", "placed", "waiting", "ready", "kind"] rfl rfl (by decide +kernel)) ⟨fun _ _ _ _ _ => (pg_tup_K (K := K) (n := 2) rfl rfl (pgs_cons (pg_name (i := 0) (show List.Nodup [("kind" : Str), ("elders" : Str), ("placed" : Str)] by decide +kernel) rfl (Or.inl (lookup_relabel_local rfl)) (.inr (lookup_relabel_local rfl))) (pgs_cons (pg_name (i := 1) (show List.Nodup [("kind" : Str), ("elders" : Str), ("placed" : Str)] by decide +kernel) rfl (Or.inl (lookup_relabel_local rfl)) (.inr (lookup_relabel_local rfl))) pgs_nil))), fun _ _ _ _ _ => (pts_one (pt_val (pe_callB (call_all_K (K := K) rfl rfl) (by rfl) D.b_all bt_all (pa_cons (pe_comp rfl (CompScope.of2 ["elder"] [2] ["elder", "placed"] ["kind", "elders", "placed"] rfl rfl (by decide +kernel)) ⟨fun _ _ _ _ _ => (pg_name (i := 0) (show List.Nodup [("elder" : Str), ("placed" : Str)] by decide +kernel) rfl (Or.inl (lookup_relabel_local rfl)) (.inr (lookup_relabel_local rfl))), fun _ _ _ _ _ => pts_nil, fun _ _ _ _ _ => (pe_cmp (pc_din (hu_of hr) (pv 0) (pv 1)))⟩ (pi_tup_K (K := K) rfl (pv 1))) pa_nil)))), fun _ _ _ _ _ => (pv 0)⟩ (pi_list (pv 2)))
      (pss_cons (ps_for PassesOwn.never rfl (pi_list (pv 3)) (pg_name (i := 4) sc_elders_first.nd rfl (Or.inl rfl))
      (pss_one (ps_dput (hu_of hr) (pv 1) (pv 4) pe_bl rfl)))
      (pss_one (ps_setc (i := 2) rfl sc_elders_first.nd rfl (Or.inl rfl) (CompScope.of ["pair"] [1] ["pair", "placed"] (defScope (top 13)) ["family", "placed", "waiting", "ready", "kind"] rfl rfl (by decide +kernel)) ⟨fun _ _ _ _ _ => (pg_name (i := 0) (show List.Nodup [("pair" : Str), ("placed" : Str)] by decide +kernel) rfl (Or.inl (lookup_relabel_local rfl)) (.inr (lookup_relabel_local rfl))), fun _ _ _ _ _ => (pts_one (pt_cmp (pc_dnotin (hu_of hr) (pe_ix (ix_tup_K (K := K) rfl) (pv 0) pe_int (fun _ _ => rfl)) (pv 1)))), fun _ _ _ _ _ => (pv 0)⟩ (pi_list (pv 2)))))))
      (pss_one (ps_ret (pe_callTy (call_tupleD rfl) (by rfl) D.b_tuple bt_tuple (pa_cons (pv 1) pa_nil)))))))), ?_⟩
    intro pd hpd
    have s1 : Same H (upd H pd (.dK [])) := Same.new hpd
    have hpd1 : (upd H pd (.dK [])) pd = some (.dK (setD [])) := upd_same
    generalize upd H pd (.dK []) = H1 at s1 hpd1
    refine ⟨_, rfl, a, _, rfl, .inr (SqT.of (s1 a _ ha)), fun w0 hw0 => ?_⟩
    have s2 : Same H1 (upd H1 w0 (.lst xs)) := Same.new hw0
    refine ⟨_, rfl, ?_⟩
    refine ⟨fun m σ H2 => ∃ (pl : List Str) (wl rl : Addr) (ws rs : List V) (v4 : Option V), σ = [some (.ref a), some (.ref pd), some (.ref wl), some (.ref rl), v4] ∧ H2 pd = some (.dK (setD pl)) ∧ Topo f pl ∧ H2 wl = some (.lst ws) ∧ DpL H2 ((leftOf f pl).map rowT) ws ∧ H2 rl = some (.lst rs) ∧ (rs = [] → leftOf f pl = []) ∧ m = 2 * (leftOf f pl).length + (if rs.isEmpty = true then 0 else 1) ∧ Same H H2, ?_, ?_⟩
    · have e0 : leftOf f [] = f := by
        unfold leftOf
        rw [List.filter_eq_self]
        simp
      refine ⟨_, [], w0, w0, xs, xs, _, rfl, s2 pd _ hpd1, ⟨List.nodup_nil, by simp, by intro j r _ h; simp at h⟩, upd_same, ?_, upd_same, fun h => ?_, rfl, s1.trans s2⟩
      · rw [e0]
        exact dl.mono (Same.tups (s1.trans s2))
      · rw [e0]
        rw [h] at hxl
        exact List.eq_nil_of_length_eq_zero hxl.symm
    · rintro m σ H2 ⟨pl, wl, rl, ws, rs, v4, rfl, hpd2, T, hw2, dw, hr2, hex, rfl, sm2⟩
      refine ⟨_, rfl, _, .inl ⟨_, SqL.of hr2, rfl⟩, ?_⟩
      cases hrs : rs with
      | nil =>
        refine iteF ⟨_, rfl, pd, _, rfl, .inl hpd2, fun q hq => ?_⟩
        have ek : (setD pl).map (fun kv => kV kv.1) = pl.map V.str := by
          unfold setD
          rw [List.map_map]
          rfl
        rw [ek]
        refine k q pl _ upd_same T (fun x hx => ?_) (sm2.trans (Same.new hq))
        have h0 := hex hrs
        apply Classical.byContradiction
        intro hn
        obtain ⟨r, hr', rfl⟩ := List.mem_map.mp hx
        have : r ∈ leftOf f pl := List.mem_filter.mpr ⟨hr', decide_eq_true hn⟩
        rw [h0] at this
        cases this
      | cons r0 rr =>
        have hem : (!(r0 :: rr).isEmpty) = true := rfl
        rw [hem]
        refine iteT ⟨fun σ' H' => ∃ m', m' < 2 * (leftOf f pl).length + 1 ∧ ∃ (pl : List Str) (wl rl : Addr) (ws rs : List V) (v4 : Option V), σ' = [some (.ref a), some (.ref pd), some (.ref wl), some (.ref rl), v4] ∧ H' pd = some (.dK (setD pl)) ∧ Topo f pl ∧ H' wl = some (.lst ws) ∧ DpL H' ((leftOf f pl).map rowT) ws ∧ H' rl = some (.lst rs) ∧ (rs = [] → leftOf f pl = []) ∧ m' = 2 * (leftOf f pl).length + (if rs.isEmpty = true then 0 else 1) ∧ Same H H', fun σ' H' h => h, ?_⟩
        have hwl : ws.length = (leftOf f pl).length := by have := dw.length; rwa [List.length_map] at this
        have hl7 : (leftOf f pl).length ≤ 7 := Nat.le_trans (List.length_filter_le _ _) f7
        have pwne : ∀ {H3 : Hp}, Same H2 H3 → True := fun _ => trivial
        refine ⟨_, rfl, wl, rfl, ⟨_, SqL.of hw2⟩, fun D1 hD1 => ?_⟩
        refine comp_by (n := ws.length) (fun i ys H3 => ys = ((((leftOf f pl).take i).filter fun r => r.2.all fun e => decide (e ∈ pl)).map (·.1)).map V.str ∧ H3 D1 = some (.lst ys) ∧ Same H2 H3) ⟨rfl, upd_same, Same.new hD1⟩ ?_ ?_
        · rintro ys H3 ⟨rfl, hD3, sm3⟩
          rw [List.take_of_length_le (by omega)] at hD3
          have hD3 : H3 D1 = some (.lst ((readyOf f pl).map V.str)) := hD3
          refine ⟨⟨_, SqL.of (sm3 wl _ hw2), Nat.le_refl _⟩, ?_⟩
          have hwD : wl ≠ D1 := ne_of_none hw2 hD1
          have pdD : pd ≠ D1 := ne_of_none hpd2 hD1
          have hrdy : (readyOf f pl).length ≤ 7 := by
            unfold readyOf
            rw [List.length_map]
            exact Nat.le_trans (List.length_filter_le _ _) hl7
          have Tm := T.more gf
          have plx : pl.length ≤ 7 := by
            have h1 := nodup_le T.nd (m := nms f) T.sub
            have h2 : (nms f).length = f.length := List.length_map _
            omega
          have newk : ∀ (i : Nat) (hi : i < (readyOf f pl).length), ¬ (readyOf f pl)[i] ∈ pl ++ (readyOf f pl).take i := fun i hi h => by
            have nd := Tm.nd
            have e : pl ++ readyOf f pl = (pl ++ (readyOf f pl).take i) ++ ((readyOf f pl)[i] :: (readyOf f pl).drop (i + 1)) := by
              rw [List.append_assoc, List.getElem_cons_drop, List.take_append_drop]
            rw [e, List.nodup_append] at nd
            exact nd.2.2 _ h _ List.mem_cons_self rfl
          refine ⟨_, rfl, D1, rfl, ⟨_, SqL.of hD3⟩, for_list (K := K) (a := D1) (xs := (readyOf f pl).map V.str) (fun i σ H4 => ∃ v4 : Option V, σ = [some (.ref a), some (.ref pd), some (.ref wl), some (.ref D1), v4] ∧ H4 pd = some (.dK (setD (pl ++ (readyOf f pl).take i))) ∧ ∀ b u, b ≠ pd → H3 b = some u → H4 b = some u)
            ⟨_, rfl, by rw [List.take_zero, List.append_nil]; exact sm3 pd _ hpd2, fun b u _ e => e⟩ (fun i σ H4 _ ⟨_, _, _, kp⟩ => SqL.of (kp D1 _ pdD.symm hD3)) ?_ ?_⟩
          · rintro i x σ H4 hi ⟨v4', rfl, hpd4, kp4⟩
            have hil : i < (readyOf f pl).length := by
              have := (List.getElem?_eq_some_iff.mp hi).1
              rwa [List.length_map] at this
            have ex : x = .str (readyOf f pl)[i] := by
              rw [List.getElem?_map, List.getElem?_eq_getElem hil] at hi
              exact (Option.some.inj hi).symm
            subst ex
            refine ⟨_, rfl, _, rfl, pd, _, rfl, DPut.k (k := .inr (readyOf f pl)[i]) hpd4 (by unfold setD; rw [List.length_map, List.length_append, List.length_take]; omega), ?_⟩
            rw [setD_put (newk i hil)]
            exact ⟨_, rfl, by rw [upd_same, take_snoc hil, List.append_assoc], fun b u hb e => by rw [upd_ne hb]; exact kp4 b u hb e⟩
          · rintro σ H4 ⟨v4', rfl, hpd4, kp4⟩
            rw [List.length_map, List.take_of_length_le (Nat.le_refl _)] at hpd4
            have wpd : wl ≠ pd := ne_of hw2 hpd2 (fun z => nomatch z)
            have hw4 := kp4 wl _ wpd (sm3 wl _ hw2)
            have tu4 : Tups H2 H4 := fun c zs e => kp4 c _ (ne_of e hpd2 (fun z => nomatch z)) (sm3 c _ e)
            have sm4 : Same H H4 := fun b u e => kp4 b u (ne_of_none e hpd) (sm3 b u (sm2 b u e))
            have dw4 := dw.mono tu4
            refine ⟨_, rfl, wl, rfl, ⟨_, SqL.of hw4⟩, fun D2 hD2 => ?_⟩
            refine comp_by (n := ws.length) (fun i ys H5 => H5 D2 = some (.lst ys) ∧ DpL H4 ((((leftOf f pl).take i).filter fun r => decide (¬ r.1 ∈ pl ++ readyOf f pl)).map rowT) ys ∧ Same H4 H5) ⟨upd_same, .nil, Same.new hD2⟩ ?_ ?_
            · rintro ys H5 ⟨hD5, dy, sm5⟩
              rw [List.take_of_length_le (by omega)] at dy
              refine ⟨⟨_, SqL.of (sm5 wl _ hw4), Nat.le_refl _⟩, ?_⟩
              have el : (leftOf f pl).filter (fun r => decide (¬ r.1 ∈ pl ++ readyOf f pl)) = leftOf f (pl ++ readyOf f pl) := by
                unfold leftOf
                rw [List.filter_filter]
                apply List.filter_congr
                intro r _
                by_cases h1 : r.1 ∈ pl
                · simp [h1]
                · simp [h1]
              rw [el] at dy
              have hle : (leftOf f (pl ++ readyOf f pl)).length ≤ (leftOf f pl).length := by rw [← el]; exact List.length_filter_le _ _
              have hmm : 2 * (leftOf f (pl ++ readyOf f pl)).length + (if ((readyOf f pl).map V.str).isEmpty = true then 0 else 1) < 2 * (leftOf f pl).length + 1 := by
                cases hrd : readyOf f pl with
                | nil =>
                  rw [hrd] at hle
                  simp
                | cons x0 xr =>
                  have : (leftOf f (pl ++ readyOf f pl)).length < (leftOf f pl).length := by
                    rw [← el]
                    have hx0 : x0 ∈ readyOf f pl := by rw [hrd]; exact List.mem_cons_self
                    obtain ⟨r, hr', e⟩ := List.mem_map.mp hx0
                    have hrl := (List.mem_filter.mp hr').1
                    refine Nat.lt_of_le_of_ne (List.length_filter_le _ _) fun e2 => ?_
                    have := List.length_filter_eq_length_iff.mp e2 r hrl
                    have := of_decide_eq_true this
                    exact this (List.mem_append_right _ (by show r.1 ∈ _; rw [show r.1 = x0 from e]; exact hx0))
                  rw [hrd] at this
                  simp
                  omega
              refine ⟨_, hmm, pl ++ readyOf f pl, D2, D1, ys, (readyOf f pl).map V.str, _, rfl, sm5 pd _ hpd4, Tm, hD5, dy.mono (Same.tups sm5), sm5 D1 _ (kp4 D1 _ pdD.symm hD3), fun h => ?_, rfl, sm4.trans sm5⟩
              have hrd : readyOf f pl = [] := List.map_eq_nil_iff.mp h
              apply Classical.byContradiction
              intro hne
              obtain ⟨r, hr'⟩ := List.exists_mem_of_ne_nil _ hne
              obtain ⟨h1, h2⟩ := List.mem_filter.mp hr'
              have h2 := of_decide_eq_true h2
              have h2' : ¬ r.1 ∈ pl := fun z => h2 (List.mem_append_left _ z)
              obtain ⟨r', hr1, hr2', hr3⟩ := some_ready gf pl h1 h2'
              have : r'.1 ∈ readyOf f pl := List.mem_map.mpr ⟨r', List.mem_filter.mpr ⟨List.mem_filter.mpr ⟨hr1, decide_eq_true hr2'⟩, List.all_eq_true.mpr fun e he => decide_eq_true (hr3 e he)⟩, rfl⟩
              rw [hrd] at this
              cases this
            · rintro i ys H5 hi ⟨hD5, dy, sm5⟩
              have hif : i < (leftOf f pl).length := by omega
              obtain ⟨y, ey, dyy⟩ := dw4.get (i := i) (t := rowT (leftOf f pl)[i]) (by rw [List.getElem?_map, List.getElem?_eq_getElem hif]; rfl)
              obtain ⟨q, e, rfl, hq, he⟩ := K03.Dp.of_row dyy
              refine ⟨⟨_, _, SqL.of (sm5 wl _ hw4), ey⟩, ?_⟩
              rintro z H6 ⟨rfl, yy⟩ σo ho
              obtain ⟨oo, rfl⟩ := own1 ho
              have ez := yy _ (SqL.of (sm5 wl _ hw4))
              rw [ey] at ez
              cases ez
              have hyl : ys.length ≤ 7 := by
                rw [dy.length, List.length_map]
                refine Nat.le_trans (List.length_filter_le _ _) ?_
                rw [List.length_take]
                omega
              have efl : ((leftOf f pl).take (i + 1)).filter (fun r => decide (¬ r.1 ∈ pl ++ readyOf f pl)) = ((leftOf f pl).take i).filter (fun r => decide (¬ r.1 ∈ pl ++ readyOf f pl)) ++ (if decide (¬ ((leftOf f pl)[i]).1 ∈ pl ++ readyOf f pl) = true then [(leftOf f pl)[i]] else []) := by
                rw [take_snoc hif, List.filter_append]
                congr 1
                rw [List.filter_cons]
                rfl
              refine ⟨⟨[_], rfl, rfl⟩, _, rfl, q, _, _, _, rfl, rfl, SqT.of (sm5 q _ hq), rfl, _, rfl, pd, _, rfl, DGet.k (k := .inr ((leftOf f pl)[i]).1) (sm5 pd _ hpd4), _, rfl, ?_⟩
              cases hin : (valV (setD (pl ++ readyOf f pl)) (.inr ((leftOf f pl)[i]).1)).isSome with
              | true =>
                have hm := (setD_has _ _).mp hin
                refine iteF (less_by hi ⟨hD5, ?_, sm5⟩)
                rw [efl, if_neg (fun h => (of_decide_eq_true h) hm), List.append_nil]
                exact dy
              | false =>
                have hm : ¬ ((leftOf f pl)[i]).1 ∈ pl ++ readyOf f pl := fun h => by rw [(setD_has _ _).mpr h] at hin; cases hin
                refine iteT ⟨_, rfl, by omega, hD5, less_by hi ⟨upd_same, ?_, fun b u e' => ?_⟩⟩
                · rw [efl, if_pos (decide_eq_true hm), List.map_append]
                  exact dy.append (.cons dyy .nil)
                · rw [upd_ne (ne_of_none e' hD2)]
                  exact sm5 b _ e'
        · rintro i ys H3 hi ⟨rfl, hD3, sm3⟩
          have hif : i < (leftOf f pl).length := by omega
          obtain ⟨y, ey, dyy⟩ := (dw.mono (Same.tups sm3)).get (i := i) (t := rowT (leftOf f pl)[i]) (by rw [List.getElem?_map, List.getElem?_eq_getElem hif]; rfl)
          obtain ⟨q, e, rfl, hq, he⟩ := K03.Dp.of_row dyy
          refine ⟨⟨_, _, SqL.of (sm3 wl _ hw2), ey⟩, ?_⟩
          rintro z H4 ⟨rfl, yy⟩ σo ho
          obtain ⟨oo, oo', rfl⟩ := own2 ho
          have ez := yy _ (SqL.of (sm3 wl _ hw2))
          rw [ey] at ez
          cases ez
          have hyl : (((((leftOf f pl).take i).filter fun r => r.2.all fun e => decide (e ∈ pl)).map (·.1)).map V.str).length ≤ 7 := by
            rw [List.length_map, List.length_map]
            refine Nat.le_trans (List.length_filter_le _ _) ?_
            rw [List.length_take]
            omega
          have efl : ((leftOf f pl).take (i + 1)).filter (fun r => r.2.all fun e => decide (e ∈ pl)) = ((leftOf f pl).take i).filter (fun r => r.2.all fun e => decide (e ∈ pl)) ++ (if (((leftOf f pl)[i]).2.all fun e => decide (e ∈ pl)) = true then [(leftOf f pl)[i]] else []) := by
            rw [take_snoc hif, List.filter_append]
            congr 1
            rw [List.filter_cons]
            rfl
          refine ⟨q, _, rfl, SqT.of hq, rfl, _, _, rfl, _, _, rfl, rfl, ⟨[_, _], rfl, rfl⟩, _, rfl, e, rfl, ⟨_, SqT.of he⟩, fun D3 hD3' => ?_⟩
          have s5 : ∀ o, Same H4 (upd H4 D3 o) := fun o => Same.new hD3'
          have el7 := gf.el _ (List.mem_filter.mp (List.getElem_mem hif)).1
          refine comp_by (n := (((leftOf f pl)[i]).2.map V.str).length) (fun j bs H5 => bs = ((((leftOf f pl)[i]).2.take j).map fun e => decide (e ∈ pl)).map V.bl ∧ H5 = upd H4 D3 (.lst bs)) ⟨rfl, rfl⟩ ?_ ?_
          · rintro bs H5 ⟨rfl, rfl⟩
            rw [List.take_of_length_le (by rw [List.length_map]; exact Nat.le_refl _)]
            refine ⟨⟨_, SqT.of (s5 _ e _ he), Nat.le_refl _⟩, D3, _, rfl, SqL.of upd_same, _, rfl, ?_⟩
            have eall : ((((leftOf f pl)[i]).2.map fun e => decide (e ∈ pl)).all id) = ((leftOf f pl)[i]).2.all fun e => decide (e ∈ pl) := by
              rw [List.all_map]
              rfl
            rw [eall]
            cases hall : (((leftOf f pl)[i]).2.all fun e => decide (e ∈ pl)) with
            | true =>
              refine iteT ⟨_, rfl, by omega, s5 _ D1 _ hD3, less_by hi ⟨?_, upd_same, fun b u e' => ?_⟩⟩
              · rw [efl, hall, if_pos rfl, List.map_append, List.map_append]
                rfl
              · rw [upd_ne (ne_of_none e' hD1)]
                exact s5 _ b _ (sm3 b _ e')
            | false =>
              refine iteF (less_by hi ⟨?_, s5 _ D1 _ hD3, sm3.trans (s5 _)⟩)
              rw [efl, hall, if_neg Bool.false_ne_true, List.append_nil]
          · rintro j bs H5 hj ⟨rfl, rfl⟩
            have hj' : j < ((leftOf f pl)[i]).2.length := by rw [List.length_map] at hj; exact hj
            have ej : (((leftOf f pl)[i]).2.map V.str)[j]? = some (.str ((leftOf f pl)[i]).2[j]) := by rw [List.getElem?_map, List.getElem?_eq_getElem hj']; rfl
            refine ⟨⟨_, _, SqT.of (s5 _ e _ he), ej⟩, ?_⟩
            rintro y5 H6 ⟨rfl, yy⟩ σo5 ho5
            obtain ⟨o5, rfl⟩ := own1 ho5
            have ey5 := yy _ (SqT.of (s5 _ e _ he))
            rw [ej] at ey5
            cases ey5
            refine ⟨⟨[_], rfl, rfl⟩, yes_by ⟨_, rfl, _, rfl, pd, _, rfl, DGet.k (k := .inr ((leftOf f pl)[i]).2[j]) (s5 _ pd _ (sm3 pd _ hpd2)), by rw [List.length_map, List.length_map, List.length_take]; omega, upd_same, less_by hj ⟨?_, by rw [upd_upd]⟩⟩⟩
            rw [take_snoc hj', List.map_append, List.map_append]
            congr 1
            show [V.bl (valV (setD pl) (.inr ((leftOf f pl)[i]).2[j])).isSome] = [V.bl (decide (((leftOf f pl)[i]).2[j] ∈ pl))]
            congr 2
            apply Bool.eq_iff_iff.mpr
            rw [setD_has, decide_eq_true_iff]
end
end K03
end
section
set_option autoImplicit false
namespace K03
open PySem PyProof.Rows L2
theorem Mg.some_sub {rows : List (List Str)} {r : Option (List Str)} (h : Mg rows r) : ∀ os, r = some os → (∀ y ∈ os, ∃ q ∈ rows, y ∈ q) ∧ os.Nodup := by
  induction h with
  | nil =>
    intro os e
    cases e
    exact ⟨by simp, List.nodup_nil⟩
  | stuck _ _ =>
    intro os e
    cases e
  | @step rows x more r hf _ ih =>
    intro os e
    cases r with
    | none => cases e
    | some os' =>
      cases e
      obtain ⟨h1, h2⟩ := ih os' rfl
      have back : ∀ y ∈ os', y ≠ x ∧ ∃ q ∈ rows, y ∈ q := fun y hy => by
        obtain ⟨q, hq, hyq⟩ := h1 y hy
        obtain ⟨hq1, _⟩ := List.mem_filter.mp hq
        obtain ⟨q0, hq0, rfl⟩ := List.mem_map.mp hq1
        obtain ⟨a, b⟩ := List.mem_filter.mp hyq
        exact ⟨of_decide_eq_true b, q0, hq0, a⟩
      refine ⟨fun y hy => ?_, List.nodup_cons.mpr ⟨fun h => (back x h).1 rfl, h2⟩⟩
      rcases List.mem_cons.mp hy with rfl | h
      · obtain ⟨q, hq, hh⟩ := frees_mem (by rw [hf]; exact List.mem_cons_self)
        refine ⟨q, hq, ?_⟩
        cases q with
        | nil => cases hh
        | cons z q =>
          cases hh
          exact List.mem_cons_self
      · exact (back y h).2
theorem ord_names {f : Fam} (G : GoodF f) : ∀ x ∈ nms f, ∀ o, ordF f x = some o → o ≠ [] ∧ (∀ y ∈ o, y ∈ nms f) ∧ o.length ≤ 8 := by
  obtain ⟨top, t0, t1, t2⟩ := G.topo
  have key : ∀ (j : Nat) (x : Str), top[j]? = some x → ∀ o, ordF f x = some o → o ≠ [] ∧ (∀ y ∈ o, y ∈ nms f) ∧ o.length ≤ 8 := by
    intro j
    induction j using Nat.strongRecOn with
    | ind j ih =>
      intro x hx o ho
      have hxn : x ∈ nms f := (t1 x).mp (List.mem_of_getElem? hx)
      obtain ⟨r, hr, rfl⟩ := List.mem_map.mp hxn
      rw [ord_eq G hr] at ho
      split at ho
      · rename_i hall
        obtain ⟨j', h1, h2⟩ := t2 r hr
        have ej := ix_uniq t0 hx h1
        subst ej
        cases hm : mergeR (full (rowsBy (ordF f) r.2)) with
        | none => rw [hm] at ho; cases ho
        | some os =>
          rw [hm] at ho
          cases ho
          have hM : ∃ q, Mg (full (rowsBy (ordF f) r.2)) q := by
            apply Classical.byContradiction
            intro hn
            unfold mergeR at hm
            rw [dif_neg hn] at hm
            cases hm
          obtain ⟨q, hq⟩ := hM
          have eq := mergeR_eq hq
          rw [hm] at eq
          subst eq
          obtain ⟨h3, h4⟩ := Mg.some_sub hq os rfl
          have sub : ∀ y ∈ os, y ∈ nms f := fun y hy => by
            obtain ⟨q, hq', hyq⟩ := h3 y hy
            have hq' := (List.mem_filter.mp hq').1
            unfold rowsBy at hq'
            rcases List.mem_append.mp hq' with h | h
            · obtain ⟨e, he, rfl⟩ := List.mem_map.mp h
              obtain ⟨i, hi, ei⟩ := mem_take_ix (h2 e he)
              have hs := List.all_eq_true.mp hall e he
              obtain ⟨oe, hoe⟩ := Option.isSome_iff_exists.mp hs
              rw [hoe] at hyq
              exact (ih i hi e ei oe hoe).2.1 y hyq
            · rw [List.mem_singleton.mp h] at hyq
              exact G.sub r hr y hyq
          refine ⟨List.cons_ne_nil _ _, fun y hy => ?_, ?_⟩
          · rcases List.mem_cons.mp hy with rfl | h
            · exact hxn
            · exact sub y h
          · have h5 := nodup_le h4 (m := nms f) sub
            have h6 : (nms f).length = f.length := List.length_map _
            have := G.len
            rw [List.length_cons]
            omega
      · cases ho
  intro x hx
  obtain ⟨j, hj, e⟩ := List.getElem_of_mem ((t1 x).mpr hx)
  exact key j x (by rw [List.getElem?_eq_getElem hj, e])
def EldAt (H : Hp) (kvs : List (Key × V)) (f : Fam) : Prop := Paired (fun (kv : Key × V) (r : Str × List Str) => kv.1 = .inr r.1 ∧ ∃ e, kv.2 = .ref e ∧ H e = some (.tup (r.2.map V.str))) kvs f
theorem EldAt.mono {H H' : Hp} {kvs : List (Key × V)} {f : Fam} (h : EldAt H kvs f) (s : Tups H H') : EldAt H' kvs f := Paired.mapP h fun kv r ⟨e, q, h1, h2⟩ => ⟨e, q, h1, s q _ h2⟩
theorem EldAt.keys {H : Hp} {kvs : List (Key × V)} {f : Fam} (h : EldAt H kvs f) : kvs.map (·.1) = (nms f).map Sum.inr := by
  induction h with
  | nil => rfl
  | cons r _ ih => exact congr (congrArg List.cons r.1) ih
theorem EldAt.get {H : Hp} : ∀ {kvs : List (Key × V)} {f : Fam}, EldAt H kvs f → (nms f).Nodup → ∀ r ∈ f, ∃ e, valV kvs (.inr r.1) = some (.ref e) ∧ H e = some (.tup (r.2.map V.str))
  | _, _, .nil, _, r, hr => nomatch hr
  | (k, v) :: kvs, r0 :: f, .cons q t, nd, r, hr => by
    have nd' : (r0.1 :: nms f).Nodup := nd
    obtain ⟨n1, n2⟩ := List.nodup_cons.mp nd'
    obtain ⟨e1, e, e2, e3⟩ := q
    rcases List.mem_cons.mp hr with rfl | h
    · exact ⟨e, by rw [valV_pos (p := (k, v)) e1]; exact congrArg some e2, e3⟩
    · obtain ⟨e', h1, h2⟩ := EldAt.get t n2 r h
      refine ⟨e', ?_, h2⟩
      rw [valV_neg (p := (k, v)), h1]
      intro z
      have z : k = Sum.inr r.1 := z
      have e1 : k = Sum.inr r0.1 := e1
      rw [e1] at z
      injection z with z
      exact n1 (z ▸ List.mem_map.mpr ⟨r, h, rfl⟩)
theorem EldAt.has {H : Hp} {kvs : List (Key × V)} {f : Fam} (h : EldAt H kvs f) (x : Str) : (valV kvs (.inr x)).isSome = true ↔ x ∈ nms f := by
  rw [valV_key, h.keys, List.mem_map]
  constructor
  · rintro ⟨y, hy, e⟩
    injection e with e
    exact e ▸ hy
  · exact fun h => ⟨x, h, rfl⟩
theorem mergeK_nd : ∀ (more acc : List (Key × V)), ((acc ++ more).map (·.1)).Nodup → mergeK acc more = acc ++ more
  | [], acc, _ => by rw [List.append_nil]; rfl
  | (k, v) :: more, acc, nd => by
    have hn : valV acc k = none := by
      cases q : valV acc k with
      | none => rfl
      | some y =>
        exfalso
        have h1 : (valV acc k).isSome = true := by rw [q]; rfl
        rw [valV_key] at h1
        have h2 := h1
        rw [List.map_append, List.map_cons] at nd
        exact (List.nodup_append.mp nd).2.2 k h2 k List.mem_cons_self rfl
    show mergeK (putK acc k v) more = _
    rw [putK_new v hn, mergeK_nd more (acc ++ [(k, v)]) (by rw [List.append_assoc]; exact nd), List.append_assoc]
    rfl
theorem fam_pairs {H : Hp} {f : Fam} {xs : List V} (dl : DpL H (f.map rowT) xs) : ∃ kvs, PairsAt H xs kvs ∧ EldAt H kvs f := by
  induction f generalizing xs with
  | nil =>
    rw [dl.of_nil]
    exact ⟨[], ⟨rfl, fun i kv h => by simp at h⟩, .nil⟩
  | cons r f ih =>
    obtain ⟨x, rest, rfl, d, dl'⟩ := dl.cases
    obtain ⟨kvs, h1, h2⟩ := ih dl'
    obtain ⟨q, e, rfl, hq, he⟩ := K03.Dp.of_row d
    refine ⟨(.inr r.1, .ref e) :: kvs, ⟨by rw [List.length_cons, List.length_cons, h1.1], fun i kv h => ?_⟩, .cons ⟨rfl, e, rfl, he⟩ h2⟩
    cases i with
    | zero =>
      cases h
      exact ⟨q, rfl, hq⟩
    | succ i => exact h1.2 i kv h
theorem EldAt.len {H : Hp} {kvs : List (Key × V)} {f : Fam} (h : EldAt H kvs f) : kvs.length = f.length := Paired.length h
theorem EldAt.at {H : Hp} {kvs : List (Key × V)} {f : Fam} (h : EldAt H kvs f) {i : Nat} {kv : Key × V} (e : kvs[i]? = some kv) : ∃ r, f[i]? = some r ∧ kv.1 = .inr r.1 ∧ (nms f)[i]? = some r.1 := by
  have hi := (List.getElem?_eq_some_iff.mp e).1
  have hj : i < f.length := by rw [← h.len]; exact hi
  have q := paired_get h i hi hj
  rw [List.getElem?_eq_getElem hi] at e
  cases e
  exact ⟨f[i], List.getElem?_eq_getElem hj, q.1, by show (f.map (·.1))[i]? = _; rw [List.getElem?_map, List.getElem?_eq_getElem hj]; rfl⟩
theorem EldAt.merge {H : Hp} {kvs : List (Key × V)} {f : Fam} (h : EldAt H kvs f) (nd : (nms f).Nodup) : mergeK [] kvs = kvs := by
  refine mergeK_nd kvs [] ?_
  rw [List.nil_append, h.keys]
  exact nodup_map (fun a _ b _ e => by injection e) nd
section
variable {P : Program} {w : World} {K : PySem.W.Frag} {mg : Str → Option Value} {base : Heap} {t : Adr}
end
end K03
end
section
set_option autoImplicit false
namespace K03
open PySem PyProof.Rows L2
theorem tot_rowsBy {f : Fam} (G : GoodF f) {r : Str × List Str} (hr : r ∈ f) (hall : ∀ x ∈ r.2, (ordF f x).isSome = true) : tot (rowsBy (ordF f) r.2) ≤ 100 ∧ (rowsBy (ordF f) r.2).length ≤ 8 ∧ ((∀ q ∈ rowsBy (ordF f) r.2, q ≠ []) ∨ ∀ q ∈ rowsBy (ordF f) r.2, q = []) := by
  have e7 := G.el r hr
  have ord : ∀ x ∈ r.2, ∃ o, ordF f x = some o ∧ o ≠ [] ∧ o.length ≤ 8 := fun x hx => by
    obtain ⟨o, ho⟩ := Option.isSome_iff_exists.mp (hall x hx)
    obtain ⟨h1, _, h3⟩ := ord_names G x (G.sub r hr x hx) o ho
    exact ⟨o, ho, h1, h3⟩
  have tl : ∀ es : List Str, (∀ x ∈ es, x ∈ r.2) → tot (es.map fun e => (ordF f e).getD []) ≤ 8 * es.length := by
    intro es
    induction es with
    | nil => exact fun _ => Nat.le_refl _
    | cons x es ih =>
      intro h
      rw [List.map_cons, tot_cons, List.length_cons]
      obtain ⟨o, ho, _, h3⟩ := ord x (h x List.mem_cons_self)
      have := ih fun y hy => h y (List.mem_cons_of_mem _ hy)
      have : ((ordF f x).getD []).length ≤ 8 := by rw [ho]; exact h3
      omega
  have ta : tot (rowsBy (ordF f) r.2) = tot (r.2.map fun e => (ordF f e).getD []) + r.2.length := by
    unfold rowsBy tot
    rw [List.map_append, List.sum_append]
    simp
  refine ⟨?_, ?_, ?_⟩
  · rw [ta]
    have := tl r.2 fun _ h => h
    omega
  · unfold rowsBy
    rw [List.length_append, List.length_map, List.length_singleton]
    omega
  · cases hes : r.2 with
    | nil =>
      right
      intro q hq
      exact List.mem_singleton.mp hq
    | cons x0 xr =>
      left
      intro q hq
      rw [← hes] at hq
      rcases List.mem_append.mp hq with h | h
      · obtain ⟨x, hx, rfl⟩ := List.mem_map.mp h
        obtain ⟨o, ho, h1, _⟩ := ord x hx
        rw [ho]
        exact h1
      · rw [List.mem_singleton.mp h, hes]
        exact List.cons_ne_nil _ _
theorem TellM.f {H : Hp} {f : Fam} (G : GoodF f) {r : Str × List Str} (hr : r ∈ f) (hall : ∀ x ∈ r.2, (ordF f x).isSome = true) {q : Addr} {m : Option (List Str)} (hm : Mg (full (rowsBy (ordF f) r.2)) m) (h : TellM H r.1 m q) : TellF H f r.1 q := by
  have e := ord_eq G hr
  rw [if_pos (List.all_eq_true.mpr hall), mergeR_eq hm] at e
  cases m with
  | none =>
    obtain ⟨a, rg, h⟩ := h
    exact .inr ⟨e, a, rg, h⟩
  | some os =>
    obtain ⟨qo, h1, h2⟩ := h
    exact .inl ⟨r.1 :: os, qo, e, h1, h2⟩
section
variable {P : Program} {w : World} {K : PySem.W.Frag} {mg : Str → Option Value} {base : Heap} {t : Adr}
def spTell : Sp := fun vs H Q _ => ∃ (v : V) (f : Fam), vs = [v] ∧ Dp H (famT f) v ∧ GoodF f ∧ ∀ (d : Addr) (kvs : List (Key × V)) H', H d = none → H' d = some (.dK kvs) → ToldAt H' kvs f (· ∈ nms f) → Same H H' → Q (.ref d) H'
theorem ok_tell (D : Defs K mg t) : FnOk P w K mg base CX0 4 t.tell_orders.1 t.tell_orders.2 ["family"] spTell := by
  have G_elders_first : FnOk P w K mg base CX0 1 t.elders_first.1 t.elders_first.2 _ spElders := ok_elders D
  have G_quarrel_among : FnOk P w K mg base CX0 1 t.quarrel_among.1 t.quarrel_among.2 _ spQuarrel := ok_quarrel D
  have G_rows_by : FnOk P w K mg base CX0 1 t.rows_by.1 t.rows_by.2 _ spRowsBy := ok_rowsBy D
  have G_merge_rows : FnOk P w K mg base CX0 3 t.merge_rows.1 t.merge_rows.2 _ spMRows := ok_mrows D
  have hz : sizeLine = 16777216 := sizeLine_eq
  refine D.tell_orders.fn.ok sc_tell_orders (fun vs H Q E h => ?_) (fun cdv A outer s H vs Q E hr h => ?_)
  · obtain ⟨v, f, rfl, _⟩ := h
    rfl
  · obtain ⟨v, f, rfl, dv, gf, k⟩ := h
    obtain ⟨a, xs, rfl, ha, dl⟩ := L2.Dp.of_tup dv
    obtain ⟨kvs0, hpr, el⟩ := fam_pairs dl
    have hkl : kvs0.length = f.length := el.len
    have f7 := gf.len
    refine ⟨_, (pss_cons (ps_set (i := 1) sc_tell_orders.nd rfl (Or.inl rfl) (pe_callTy (call_dictP rfl) (by rfl) D.b_dict bt_dict (pa_cons (pv 0) pa_nil)))
      (pss_cons (ps_set (i := 2) sc_tell_orders.nd rfl (Or.inl rfl) pe_dnewK)
      (pss_cons (ps_for PassesOwn.never rfl (pi_tup (pe_callF D.elders_first G_elders_first (hr.mono (by omega)) (by rfl) (pa_cons (pv 0) pa_nil))) (pg_name (i := 3) sc_tell_orders.nd rfl (Or.inl rfl))
      (pss_cons (ps_set (i := 4) sc_tell_orders.nd rfl (Or.inl rfl) (pe_callF D.quarrel_among G_quarrel_among (hr.mono (by omega)) (by rfl) (pa_cons (pe_dget (hu_of hr) (pv 1) (pv 3) (fun _ _ => rfl)) (pa_cons (pv 2) pa_nil))))
      (pss_one (ps_if (pt_cmpR op_isN (pv 4) pe_non (nomark _))
      (pss_one (ps_dput (hu_of hr) (pv 2) (pv 3) (pe_callF D.merge_rows G_merge_rows (hr.mono (by omega)) (by rfl) (pa_cons (pv 3) (pa_cons (pe_callF D.rows_by G_rows_by (hr.mono (by omega)) (by rfl) (pa_cons (pe_dget (hu_of hr) (pv 1) (pv 3) (fun _ _ => rfl)) (pa_cons (pv 2) pa_nil))) pa_nil))) rfl))
      (pss_one (ps_dput (hu_of hr) (pv 2) (pv 3) (pv 4) rfl))))))
      (pss_one (ps_ret (pv 2)))))), ?_⟩
    refine ⟨_, rfl, a, xs, kvs0, rfl, ha, hpr, by omega, fun d hd => ?_⟩
    rw [el.merge gf.nd]
    have s1 : Same H (upd H d (.dK kvs0)) := Same.new hd
    have hd1 : (upd H d (.dK kvs0)) d = some (.dK kvs0) := upd_same
    generalize upd H d (.dK kvs0) = H1 at s1 hd1
    intro td htd
    have s2 : Same H1 (upd H1 td (.dK [])) := Same.new htd
    have htd2 : (upd H1 td (.dK [])) td = some (.dK []) := upd_same
    have htdH : H td = none := by
      cases q : H td with
      | none => rfl
      | some o =>
        rw [s1 td o q] at htd
        cases htd
    have dtd : d ≠ td := ne_of_none hd1 htd
    have htd1 := htd
    generalize upd H1 td (.dK []) = H2 at s2 htd2
    refine ⟨_, rfl, .ref a, f, rfl, dv.mono (Same.tups (s1.trans s2)), gf, fun q pl H3 hq T allp s3 => ⟨q, rfl, ⟨_, SqT.of hq⟩, ?_⟩⟩
    have hd3 := s3 d _ (s2 d _ hd1)
    have htd3 := s3 td _ htd2
    have qtd : q ≠ td := ne_of hq htd3 (fun z => nomatch z)
    have sm3 : Same H H3 := (s1.trans s2).trans s3
    refine for_tup (K := K) (a := q) (xs := pl.map V.str) (fun i σ H4 => ∃ (kvs : List (Key × V)) (v3 v4 : Option V), σ = [some (.ref a), some (.ref d), some (.ref td), v3, v4] ∧ H4 td = some (.dK kvs) ∧ kvs.length ≤ i ∧ ToldAt H4 kvs f (· ∈ pl.take i) ∧ ∀ b u, b ≠ td → H3 b = some u → H4 b = some u)
      ⟨[], _, _, rfl, htd3, Nat.le_refl _, by intro x hx; simp at hx, fun b u _ e => e⟩ (fun i σ H4 _ ⟨_, _, _, _, _, _, _, kp⟩ => SqT.of (kp q _ qtd hq)) ?_ ?_
    · rintro i x σ H4 hi ⟨kvs, v3, v4, rfl, htd4, kl, told, kp4⟩
      have hil : i < pl.length := by
        have := (List.getElem?_eq_some_iff.mp hi).1
        rwa [List.length_map] at this
      have ex : x = .str pl[i] := by
        rw [List.getElem?_map, List.getElem?_eq_getElem hil] at hi
        exact (Option.some.inj hi).symm
      subst ex
      obtain ⟨r, hr', er⟩ := List.mem_map.mp (T.sub _ (List.getElem_mem hil))
      have er : r.1 = pl[i] := er
      rw [← er]
      have hesub : ∀ e ∈ r.2, e ∈ pl.take i := T.el i r hr' (by rw [List.getElem?_eq_getElem hil, er])
      have sm4 : Same H H4 := fun b u e => kp4 b u (ne_of_none e htdH) (sm3 b u e)
      have hd4 := kp4 d _ dtd hd3
      obtain ⟨e, he1, he2⟩ := el.get gf.nd r hr'
      have he4 := sm4 e _ he2
      have gd : ∀ {H5 : Hp}, H5 d = some (.dK kvs0) → DGet H5 d (.str r.1) (some (.ref e)) := fun {H5} h => .inl ⟨kvs0, .inr r.1, .inl h, rfl, he1.symm⟩
      have plx : pl.length ≤ 7 := by
        have h1 := nodup_le T.nd (m := nms f) T.sub
        have h2 : (nms f).length = f.length := List.length_map _
        omega
      have toldE : ToldAt H4 kvs f (· ∈ r.2) := fun y hy => told y (hesub y hy)
      have store : ∀ (q5 : Addr) (H5 : Hp) (v4 : Option V), Same H4 H5 → TellF H5 f r.1 q5 → ∃ (kvs' : List (Key × V)) (v3' v4' : Option V), ([some (.ref a), some (.ref d), some (.ref td), some (.str r.1), v4] : L2.St) = [some (.ref a), some (.ref d), some (.ref td), v3', v4'] ∧ (upd H5 td (.dK (putK kvs (.inr r.1) (.ref q5)))) td = some (.dK kvs') ∧ kvs'.length ≤ i + 1 ∧ ToldAt (upd H5 td (.dK (putK kvs (.inr r.1) (.ref q5)))) kvs' f (· ∈ pl.take (i + 1)) ∧ ∀ b u, b ≠ td → H3 b = some u → (upd H5 td (.dK (putK kvs (.inr r.1) (.ref q5)))) b = some u := fun q5 H5 v4 s5 ht => by
        have tu : Tups H5 (upd H5 td (.dK (putK kvs (.inr r.1) (.ref q5)))) := fun c zs e' => by
          rw [upd_ne (ne_of e' (s5 td _ htd4) (fun z => nomatch z))]
          exact e'
        refine ⟨_, _, _, rfl, upd_same, ?_, fun y hy => ?_, fun b u hb e' => by rw [upd_ne hb]; exact s5 b _ (kp4 b u hb e')⟩
        · have := length_putK kvs (.inr r.1) (.ref q5)
          omega
        · rw [valV_put]
          by_cases hyr : y = r.1
          · subst hyr
            exact ⟨q5, if_pos rfl, ht.mono tu⟩
          · rw [take_snoc hil] at hy
            rcases List.mem_append.mp hy with h | h
            · obtain ⟨q6, h1, h2⟩ := told y h
              exact ⟨q6, by rw [if_neg (by intro z; injection z with z; exact hyr z)]; exact h1, (h2.mono (Same.tups s5)).mono tu⟩
            · exact absurd ((List.mem_singleton.mp h).trans er.symm) hyr
      refine ⟨_, rfl, _, rfl, d, .ref e, rfl, gd hd4, _, rfl, e, td, r.2, kvs, f, rfl, he4, .inl htd4, toldE, fun hall => ?_, fun hnot q5 a5 rg5 hq5 => ?_⟩
      · refine ⟨_, rfl, rfl, _, rfl, itePos (decide_eq_true rfl) ?_⟩
        obtain ⟨t1, t2, t3⟩ := tot_rowsBy gf hr' hall
        refine ⟨_, rfl, _, rfl, _, rfl, d, .ref e, rfl, gd hd4, _, rfl, e, td, r.2, kvs, f, rfl, he4, .inl htd4, toldE, hall, by have := gf.el r hr'; omega, fun q5 us5 H5 hq5 rt5 s5 => ?_⟩
        refine ⟨r.1, q5, us5, rowsBy (ordF f) r.2, rfl, hq5, rt5, t3, by omega, by omega, fun q6 m H6 hm ht s6 => ?_⟩
        refine ⟨_, rfl, _, rfl, td, _, rfl, DPut.k (k := .inr r.1) ((s5.trans s6) td _ htd4) (by omega), ?_⟩
        exact store q6 H6 _ (s5.trans s6) (ht.f gf hr' hall hm)
      · refine ⟨_, rfl, rfl, _, rfl, iteNeg (by rw [decide_eq_false (by intro z; cases z)]; exact Bool.false_ne_true) ?_⟩
        refine ⟨_, rfl, _, rfl, _, rfl, td, _, rfl, DPut.k (k := .inr r.1) htd4 (by omega), ?_⟩
        refine store q5 H4 _ (Same.refl H4) (.inr ⟨?_, a5, rg5, hq5⟩)
        rw [ord_eq gf hr', if_neg (fun h => hnot (List.all_eq_true.mp h))]
    · rintro σ H4 ⟨kvs, v3, v4, rfl, htd4, kl, told, kp4⟩
      rw [List.length_map, List.take_of_length_le (Nat.le_refl _)] at told
      exact ⟨_, rfl, k td kvs H4 htdH htd4 (fun x hx => told x (allp x hx)) fun b u e => kp4 b u (ne_of_none e htdH) (sm3 b u e)⟩
end
end K03
end
section
set_option autoImplicit false
namespace K03
open PySem PyProof.Rows L2
section
variable {P : Program} {w : World} {K : PySem.W.Frag} {mg : Str → Option Value} {base : Heap} {t : Adr}
end
end K03
end
section
set_option autoImplicit false
namespace K03
open PySem PyProof.Rows L2
def NotS (K : PySem.W.Frag) (H : Hp) (v : V) : Prop := ∃ n : String, TyOf K H v (.type n) ∧ PySem.W.kitOne K (.type n) (.type "str") = some false
def SOr (K : PySem.W.Frag) (H : Hp) (v : V) : Prop := (∃ x, v = .str x) ∨ NotS K H v
def inK (kvs : List (Key × V)) : V → Bool
  | .str x => (valV kvs (.inr x)).isSome
  | _ => false
theorem NotS.inK {K : PySem.W.Frag} {H : Hp} {v : V} {kvs : List (Key × V)} (h : NotS K H v) : inK kvs v = false := by
  obtain ⟨n, ty, e⟩ := h
  cases ty with
  | str x =>
    rw [kit_same K "str"] at e
    cases e
  | _ => rfl
theorem kitN (K : PySem.W.Frag) : PySem.W.kitOne K (.type "NoneType") (.type "str") = some false ∧ PySem.W.kitOne K (.type "bool") (.type "str") = some false ∧ PySem.W.kitOne K (.type "int") (.type "str") = some false ∧ PySem.W.kitOne K (.type "tuple") (.type "str") = some false ∧
    PySem.W.kitOne K (.type "list") (.type "str") = some false ∧ PySem.W.kitOne K (.type "dict") (.type "str") = some false := ⟨rfl, rfl, rfl, rfl, rfl, rfl⟩
theorem RdV.sor {K : PySem.W.Frag} {H : Hp} {v : V} {d : PyData} (h : RdV H v d) : SOr K H v := by
  obtain ⟨n1, n2, n3, n4, n5, n6⟩ := kitN K
  cases h with
  | non => exact .inr ⟨_, .non, n1⟩
  | bl b => exact .inr ⟨_, .bl b, n2⟩
  | int i => exact .inr ⟨_, .int i, n3⟩
  | str x => exact .inl ⟨x, rfl⟩
  | tup e _ => exact .inr ⟨_, .tup e, n4⟩
  | lst e _ => exact .inr ⟨_, .lst e, n5⟩
  | dct e _ => exact .inr ⟨_, .dK e, n6⟩
theorem inK_t {kvs : List (Key × V)} {v : V} (h : inK kvs v = true) : ∃ x, v = .str x ∧ (valV kvs (.inr x)).isSome = true := by
  unfold inK at h
  split at h
  · exact ⟨_, rfl, h⟩
  · cases h
theorem SOr.same {K : PySem.W.Frag} {H H' : Hp} {v : V} (h : SOr K H v) (s : Same H H') : SOr K H' v := by
  rcases h with h | ⟨n, ty, e⟩
  · exact .inl h
  · refine .inr ⟨n, ?_, e⟩
    cases ty with
    | non => exact .non
    | bl x => exact .bl x
    | int i => exact .int i
    | str x => exact .str x
    | flt x => exact .flt x
    | lst hq => exact .lst (s _ _ hq)
    | frz hq => exact .frz (s _ _ hq)
    | tup hq => exact .tup (s _ _ hq)
    | dK hq => exact .dK (s _ _ hq)
    | dT hq => exact .dT (s _ _ hq)
section
variable {P : Program} {w : World} {K : PySem.W.Frag} {mg : Str → Option Value} {base : Heap} {t : Adr}
def spIsK (K : PySem.W.Frag) : Sp := fun vs H Q _ => ∃ (v : V) (d : Addr) (kvs : List (Key × V)), vs = [v, .ref d] ∧ Rd H d (.dK kvs) ∧ SOr K H v ∧ Q (.bl (inK kvs v)) H
theorem ok_isK (D : Defs K mg t) : FnOk P w K mg base CX0 1 t.is_kind.1 t.is_kind.2 ["thing", "kinds"] (spIsK K) := by
  refine D.is_kind.fn.ok sc_is_kind (fun vs H Q E h => ?_) (fun cdv A outer s H vs Q E hr h => ?_)
  · obtain ⟨x, d, kvs, rfl, _⟩ := h
    rfl
  · obtain ⟨v, d, kvs, rfl, hd, so, k⟩ := h
    refine ⟨_, (pss_one (ps_ret (pe_and (pe_callB call_isinst (by rfl) D.b_isinstance bt_isinstance (pa_cons (pv 0) (pa_cons (pe_bltn (v := V.ty "str") rfl D.b_str bt_str rfl) pa_nil))) (pe_one (pe_cmp (pc_din (hu_of hr) (pv 0) (pv 1))))))), ?_⟩
    rcases so with ⟨x, rfl⟩ | ns
    · exact ⟨_, rfl, _, _, _, true, rfl, .str x, kit_same K "str", _, rfl, iteT ⟨_, rfl, _, rfl, d, _, rfl, .inl ⟨kvs, .inr x, hd, rfl, rfl⟩, k⟩⟩
    · rw [ns.inK] at k
      obtain ⟨n, ty, e⟩ := ns
      exact ⟨_, rfl, _, _, _, false, rfl, ty, e, _, rfl, iteF k⟩
def spCheckX (K : PySem.W.Frag) (t : Adr) : Sp := fun vs H Q E => ∃ (v : V) (d : Addr) (kvs : List (Key × V)), vs = [v, .ref d] ∧ Rd H d (.dK kvs) ∧ SOr K H v ∧ (inK kvs v = true → Q .non H) ∧ (inK kvs v = false → E (.ref t.cNoKind) none H)
theorem ok_checkX (D : Defs K mg t) (CS : Clss K mg t) : FnOk P w K mg base (CXe P w) 2 t.check_kind.1 t.check_kind.2 ["kind", "kinds"] (spCheckX K t) := by
  have G_is_kind : FnOk P w K mg base CX0 1 t.is_kind.1 t.is_kind.2 _ (spIsK K) := ok_isK D
  refine D.check_kind.fn.okX sc_check_kind (fun vs H Q E h => ?_) (fun cdv A outer s H vs Q E hr h => ?_)
  · obtain ⟨x, d, kvs, rfl, _⟩ := h
    rfl
  · obtain ⟨v, d, kvs, rfl, hd, so, k1, k2⟩ := h
    refine ⟨_, (pss_one (ps_if (pt_not (pt_val (pe_callF D.is_kind G_is_kind (hr.mono (by omega)) (by rfl) (pa_cons (pv 0) (pa_cons (pv 1) pa_nil)))))
      (pss_one (ps_raise raise_def rfl CS.nk (by rfl) (pa_cons pe_str pa_nil)))
      pss_nil)), ?_⟩
    refine ⟨_, rfl, _, rfl, v, d, kvs, rfl, hd, so, _, rfl, ?_⟩
    cases hb : inK kvs v with
    | true => exact iteF (k1 hb)
    | false => exact iteT ⟨by show 1 ≤ sizeLine; decide, k2 hb⟩
end
end K03
end
section
set_option autoImplicit false
namespace K03
open PySem PyProof.Rows L2
section
variable {P : Program} {w : World} {K : PySem.W.Frag} {mg : Str → Option Value} {base : Heap} {t : Adr}
def spReached : Sp := fun vs H Q _ => ∃ (d : Addr) (x : Str) (kvs : List (Key × V)) (f : Fam), vs = [.ref d, .str x] ∧ Rd H d (.dK kvs) ∧ EldAt H kvs f ∧ GoodF f ∧ x ∈ nms f ∧
  ∀ (r : Addr) (rs : List Str) H', H r = none → H' r = some (.dK (setD rs)) → (∀ y, y ∈ rs ↔ Reach f x y) → Same H H' → Q (.ref r) H'
theorem ok_reached (D : Defs K mg t) : FnOk P w K mg base CX0 1 t.reached_from.1 t.reached_from.2 ["elders_of", "kind"] spReached := by
  have hz : sizeLine = 16777216 := sizeLine_eq
  refine D.reached_from.fn.ok sc_reached_from (fun vs H Q E h => ?_) (fun cdv A outer s H vs Q E hr h => ?_)
  · obtain ⟨d, x, kvs, f, rfl, _⟩ := h
    rfl
  · obtain ⟨d, x, kvs, f, rfl, hd, el, gf, hx, k⟩ := h
    have nd := gf.nd
    have row : ∀ y ∈ nms f, ∃ r ∈ f, r.1 = y := fun y hy => by
      obtain ⟨r, hr, e⟩ := List.mem_map.mp hy
      exact ⟨r, hr, e⟩
    have uniq : ∀ r ∈ f, ∀ r' ∈ f, r.1 = r'.1 → r = r' := fun r hr r' hr' e => by
      obtain ⟨i, hi, rfl⟩ := List.getElem_of_mem hr
      obtain ⟨j, hj, rfl⟩ := List.getElem_of_mem hr'
      have hi' : i < (nms f).length := by rw [show (nms f).length = f.length from List.length_map _]; exact hi
      have hj' : j < (nms f).length := by rw [show (nms f).length = f.length from List.length_map _]; exact hj
      have : (nms f)[i] = (nms f)[j] := by
        show (f.map (·.1))[i] = (f.map (·.1))[j]
        rw [List.getElem_map, List.getElem_map]
        exact e
      have := (List.getElem_inj nd).mp this
      subst this
      rfl
    have rdK : ∀ {H2 : Hp}, Same H H2 → Rd H2 d (.dK kvs) := fun {H2} s => by
      rcases hd with h | ⟨o, h⟩
      · exact .inl (s d _ h)
      · exact .inr ⟨o, s d _ h⟩
    refine ⟨_, (pss_cons (ps_set (i := 2) sc_reached_from.nd rfl (Or.inl rfl) pe_dnewK)
      (pss_cons (ps_set (i := 3) sc_reached_from.nd rfl (Or.inl rfl) (pe_callTy call_list_of (by rfl) D.b_list bt_list (pa_cons (pe_dget (hu_of hr) (pv 0) (pv 1) (fun _ _ => rfl)) pa_nil)))
      (pss_cons (ps_while PassesOwn.never (pt_truth (pv 3) (by intro _; rfl))
      (pss_cons (ps_set (i := 4) sc_reached_from.nd rfl (Or.inl rfl) (pe_bm0 PySem.F.plainAttrs_list PySem.F.slot_list_pop PySem.F.type_list_pop mt_pop (pv 3)))
      (pss_one (ps_if (pt_cmp (pc_dnotin (hu_of hr) (pv 4) (pv 2)))
      (pss_cons (ps_dput (hu_of hr) (pv 2) (pv 4) pe_bl rfl)
      (pss_one (ps_expr (pe_bm PySem.F.plainAttrs_list PySem.F.slot_list_extend PySem.F.type_list_extend mt_extendT (pv 3) (pa_cons (pe_dget (hu_of hr) (pv 0) (pv 4) (fun _ _ => rfl)) pa_nil)))))
      pss_nil))))
      (pss_one (ps_ret (pv 2)))))), ?_⟩
    intro r hr0
    obtain ⟨rx, hrx, erx⟩ := row x hx
    obtain ⟨e0, he0, hE0⟩ := el.get nd rx hrx
    rw [erx] at he0
    have s1 : Same H (upd H r (.dK [])) := Same.new hr0
    refine ⟨_, rfl, _, rfl, d, .ref e0, rfl, .inl ⟨kvs, .inr x, rdK s1, rfl, he0.symm⟩, e0, _, rfl, .inr (SqT.of (s1 e0 _ hE0)), fun wl hwl => ?_⟩
    have rw' : r ≠ wl := ne_of_none upd_same hwl
    have hwlH : H wl = none := by
      rw [upd_ne rw'.symm] at hwl
      exact hwl
    refine ⟨fun m σ H2 => ∃ (rs ws : List Str) (v4 : Option V), σ = [some (.ref d), some (.str x), some (.ref r), some (.ref wl), v4] ∧ m = (7 - rs.length) * 8 + ws.length ∧ m ≤ 100 ∧ H2 r = some (.dK (setD rs)) ∧ H2 wl = some (.lst (ws.map V.str)) ∧ rs.Nodup ∧
      (∀ y ∈ rs, Reach f x y) ∧ (∀ y ∈ ws, Reach f x y) ∧ (∀ z, z = x ∨ z ∈ rs → ∀ y, Edge f z y → y ∈ rs ∨ y ∈ ws) ∧ Same H H2, ?_, ?_⟩
    · refine ⟨_, [], rx.2, _, rfl, rfl, ?_, ?_, upd_same, List.nodup_nil, by simp, ?_, ?_, s1.trans (Same.new hwl)⟩
      · have := gf.el rx hrx
        show (7 - 0) * 8 + rx.2.length ≤ 100
        omega
      · rw [upd_ne rw', upd_same]
        rfl
      · exact fun y hy => .one ⟨rx, hrx, erx, hy⟩
      · intro z hz' y hE
        rcases hz' with rfl | h
        · obtain ⟨r2, hr2, e2, hy⟩ := hE
          have := uniq r2 hr2 rx hrx (by rw [e2, erx])
          subst this
          exact .inr hy
        · simp at h
    · rintro m σ H2 ⟨rs, ws, v4, rfl, hm, hm100, hr2, hw2, ndr, sr, sw, cl, sm⟩
      have hrl : rs.length ≤ 7 := by
        have := nodup_le ndr (m := nms f) fun y hy => reach_tgt gf (sr y hy)
        have e : (nms f).length = f.length := List.length_map _
        have := gf.len
        omega
      refine ⟨_, rfl, _, .inl ⟨_, SqL.of hw2, rfl⟩, ?_⟩
      cases hws : ws with
      | nil =>
        refine iteF ⟨_, rfl, ?_⟩
        subst hws
        refine k r rs H2 hr0 hr2 (fun y => ⟨sr y, fun hy => ?_⟩) sm
        have key : ∀ a y, Reach f a y → (a = x ∨ a ∈ rs) → y ∈ rs := by
          intro a y h
          induction h with
          | one e =>
            intro ha
            rcases cl _ ha _ e with h | h
            · exact h
            · cases h
          | step e _ ih =>
            intro ha
            rcases cl _ ha _ e with h | h
            · exact ih (.inr h)
            · cases h
        exact key x y hy (.inl rfl)
      | cons w0 wr =>
        obtain ⟨ws', y, hcat⟩ : ∃ ws' y, ws = ws' ++ [y] := ⟨ws.dropLast, ws.getLast (by rw [hws]; simp), (List.dropLast_concat_getLast _).symm⟩
        rw [← hws]
        clear hws w0 wr
        subst hcat
        have hne : (!((ws' ++ [y]).map V.str).isEmpty) = true := by simp
        rw [hne]
        rw [List.length_append, List.length_singleton] at hm
        refine iteT ⟨fun σ' H' => ∃ m', m' < m ∧ ∃ (rs ws : List Str) (v4 : Option V), σ' = [some (.ref d), some (.str x), some (.ref r), some (.ref wl), v4] ∧ m' = (7 - rs.length) * 8 + ws.length ∧ m' ≤ 100 ∧ H' r = some (.dK (setD rs)) ∧ H' wl = some (.lst (ws.map V.str)) ∧ rs.Nodup ∧
          (∀ y ∈ rs, Reach f x y) ∧ (∀ y ∈ ws, Reach f x y) ∧ (∀ z, z = x ∨ z ∈ rs → ∀ y, Edge f z y → y ∈ rs ∨ y ∈ ws) ∧ Same H H', fun σ' H' h => h, ?_⟩
        have elast : ((ws' ++ [y]).map V.str)[((ws' ++ [y]).map V.str).length - 1]? = some (.str y) := by
          rw [List.map_append, List.length_append]
          simp
        have edrop : ((ws' ++ [y]).map V.str).dropLast = ws'.map V.str := by
          rw [List.map_append]
          exact List.dropLast_concat
        refine ⟨_, rfl, .inl ⟨rfl, _, SqL.of hw2⟩, wl, _, _, rfl, rfl, hw2, elast, ?_⟩
        rw [edrop]
        have wr' : wl ≠ r := rw'.symm
        have sm3 : Same H (upd H2 wl (.lst (ws'.map V.str))) := fun b o e => by
          rw [upd_ne (ne_of_none e hwlH)]
          exact sm b o e
        have hr3 : (upd H2 wl (.lst (ws'.map V.str))) r = some (.dK (setD rs)) := by rw [upd_ne rw']; exact hr2
        have hyR : Reach f x y := sw y (List.mem_append_right _ List.mem_cons_self)
        refine ⟨_, rfl, _, rfl, r, _, rfl, DGet.k (k := .inr y) hr3, _, rfl, ite2 (fun hb => ?_) (fun hb => ?_)⟩
        · have hyn : ¬ y ∈ rs := fun h => by
            have := (setD_has rs y).mpr h
            have hb : (!(valV (setD rs) (.inr y)).isSome) = true := hb
            rw [this] at hb
            cases hb
          refine ⟨_, rfl, _, rfl, r, _, rfl, DPut.k (k := .inr y) hr3 (by unfold setD; rw [List.length_map]; omega), ?_⟩
          rw [setD_put hyn]
          obtain ⟨ry, hry, ery⟩ := row y (reach_tgt gf hyR)
          obtain ⟨e1, he1, hE1⟩ := el.get nd ry hry
          rw [ery] at he1
          have sm4 : Same H (upd (upd H2 wl (.lst (ws'.map V.str))) r (.dK (setD (rs ++ [y])))) := fun b o e => by
            rw [upd_ne (ne_of_none e hr0)]
            exact sm3 b o e
          have hw4 : (upd (upd H2 wl (.lst (ws'.map V.str))) r (.dK (setD (rs ++ [y])))) wl = some (.lst (ws'.map V.str)) := by rw [upd_ne wr', upd_same]
          have el7 := gf.el ry hry
          refine ⟨_, rfl, .inl ⟨rfl, _, SqL.of hw4⟩, _, rfl, _, rfl, d, .ref e1, rfl, .inl ⟨kvs, .inr y, rdK sm4, rfl, he1.symm⟩, wl, e1, _, _, rfl, rfl, hw4, sm4 e1 _ hE1, by rw [List.length_map, List.length_map]; omega, ?_⟩
          have hlt : rs.length < 7 := by
            have h1 := nodup_le (nd_snoc ndr hyn) (m := nms f) fun z hz' => by
              rcases List.mem_append.mp hz' with h | h
              · exact reach_tgt gf (sr z h)
              · rw [List.mem_singleton.mp h]
                exact reach_tgt gf hyR
            have e : (nms f).length = f.length := List.length_map _
            have := gf.len
            rw [List.length_append, List.length_singleton] at h1
            omega
          refine ⟨(7 - (rs ++ [y]).length) * 8 + (ws' ++ ry.2).length, ?_, rs ++ [y], ws' ++ ry.2, _, rfl, rfl, ?_, ?_, ?_, nd_snoc ndr hyn, ?_, ?_, ?_, ?_⟩
          · rw [List.length_append, List.length_append, List.length_singleton]
            omega
          · rw [List.length_append, List.length_append, List.length_singleton]
            omega
          · rw [upd_ne rw', upd_same]
          · rw [upd_same, List.map_append]
          · intro z hz'
            rcases List.mem_append.mp hz' with h | h
            · exact sr z h
            · rw [List.mem_singleton.mp h]
              exact hyR
          · intro z hz'
            rcases List.mem_append.mp hz' with h | h
            · exact sw z (List.mem_append_left _ h)
            · exact hyR.trans (.one ⟨ry, hry, ery, h⟩)
          · intro z hz' q hE
            have old : z = x ∨ z ∈ rs → q ∈ rs ++ [y] ∨ q ∈ ws' ++ ry.2 := fun h => by
              rcases cl z h q hE with h | h
              · exact .inl (List.mem_append_left _ h)
              · rcases List.mem_append.mp h with h | h
                · exact .inr (List.mem_append_left _ h)
                · rw [List.mem_singleton.mp h]
                  exact .inl (List.mem_append_right _ List.mem_cons_self)
            rcases hz' with h | h
            · exact old (.inl h)
            · rcases List.mem_append.mp h with h | h
              · exact old (.inr h)
              · have ez := List.mem_singleton.mp h
                subst ez
                obtain ⟨r2, hr2', e2, hq⟩ := hE
                have := uniq r2 hr2' ry hry (by rw [e2, ery])
                subst this
                exact .inr (List.mem_append_right _ hq)
          · intro b o e
            rw [upd_ne (ne_of_none e hwlH)]
            exact sm4 b o e
        · have hyn : y ∈ rs := by
            have hb : ¬ (!(valV (setD rs) (.inr y)).isSome) = true := hb
            refine (setD_has rs y).mp ?_
            cases q : (valV (setD rs) (.inr y)).isSome with
            | true => rfl
            | false => rw [q] at hb; exact absurd rfl hb
          refine ⟨(7 - rs.length) * 8 + ws'.length, by omega, rs, ws', _, rfl, rfl, by omega, hr3, upd_same, ndr, sr, fun z hz' => sw z (List.mem_append_left _ hz'), ?_, sm3⟩
          intro z hz' q hE
          rcases cl z hz' q hE with h | h
          · exact .inl h
          · rcases List.mem_append.mp h with h | h
            · exact .inr h
            · rw [List.mem_singleton.mp h]
              exact .inl hyn
end
end K03
end
section
set_option autoImplicit false
namespace K03
open PySem PyProof.Rows L2
section
variable {P : Program} {w : World} {K : PySem.W.Frag} {mg : Str → Option Value} {base : Heap} {t : Adr}
def spAbove (K : PySem.W.Frag) (t : Adr) : Sp := fun vs H Q E => ∃ (v th : V) (f : Fam), vs = [v, th] ∧ Dp H (famT f) v ∧ GoodF f ∧ SOr K H th ∧ (∀ x, th = .str x → x ∈ nms f → ∀ (q : Addr) H', H' q = some (.tup ((K03.above f x).map V.str)) → Same H H' → Q (.ref q) H') ∧ ((∀ x, th = .str x → ¬ x ∈ nms f) → ∀ H', Same H H' → E (.ref t.cNoKind) none H')
theorem take_filter {p : Str → Bool} {l : List Str} {i : Nat} {x : Str} (e : l[i]? = some x) : (l.take (i + 1)).filter p = (l.take i).filter p ++ (if p x = true then [x] else []) := by
  rw [List.take_succ, e, List.filter_append]
  congr 1
  show List.filter p [x] = _
  rw [List.filter_cons]
  split <;> rfl
theorem ok_above (D : Defs K mg t) (CS : Clss K mg t) : FnOk P w K mg base (CXe P w) 3 t.above.1 t.above.2 ["family", "kind"] (spAbove K t) := by
  have G_check_kind : FnOk P w K mg base (CXe P w) 2 t.check_kind.1 t.check_kind.2 _ (spCheckX K t) := ok_checkX D CS
  have G_reached_from : FnOk P w K mg base CX0 1 t.reached_from.1 t.reached_from.2 _ spReached := ok_reached D
  have hz : sizeLine = 16777216 := sizeLine_eq
  refine D.above.fn.okX sc_above (fun vs H Q E h => ?_) (fun cdv A outer s H vs Q E hr h => ?_)
  · obtain ⟨v, th, f, rfl, _⟩ := h
    rfl
  · obtain ⟨v, th, f, rfl, dv, gf, so, k, kE⟩ := h
    obtain ⟨a, xs, rfl, ha, dl⟩ := L2.Dp.of_tup dv
    obtain ⟨kvs, hpr, el⟩ := fam_pairs dl
    have hkl : kvs.length = f.length := el.len
    have f7 := gf.len
    have hnl : (nms f).length = f.length := List.length_map _
    refine ⟨_, (pss_cons (ps_set (i := 2) sc_above.nd rfl (Or.inl rfl) (pe_callTy (call_dictP rfl) (by rfl) D.b_dict bt_dict (pa_cons (pv 0) pa_nil)))
      (pss_cons (ps_expr (pe_callX D.check_kind G_check_kind (hr.mono (by omega)) (by rfl) passes_def (pa_cons (pv 1) (pa_cons (pv 2) pa_nil))))
      (pss_cons (ps_set (i := 3) sc_above.nd rfl (Or.inr rfl) (pe_callF D.reached_from G_reached_from (hr.mono (by omega)) (by rfl) (pa_cons (pv 2) (pa_cons (pv 1) pa_nil))))
      (pss_one (ps_ret (pe_callTy call_tuple_of (by rfl) D.b_tuple bt_tuple (pa_cons (pe_compD rfl (CompScope.of ["name"] [3] ["name", "reached"] (defScope (top 15)) ["family", "kind", "elders_of", "reached"] rfl rfl (by decide +kernel)) ⟨fun _ _ _ _ _ => (pg_name (i := 0) (show List.Nodup [("name" : Str), ("reached" : Str)] by decide +kernel) rfl (Or.inl (lookup_relabel_local rfl)) (.inr (lookup_relabel_local rfl))), fun _ _ _ _ _ => (pts_one (pt_cmp (pc_din (hu_of hr) (pv 0) (pv 1)))), fun _ _ _ _ _ => (pv 0)⟩ (pv 2)) pa_nil))))))), ?_⟩
    refine ⟨_, rfl, a, xs, kvs, rfl, ha, hpr, by omega, fun d hd => ?_⟩
    rw [el.merge gf.nd]
    have s1 : Same H (upd H d (.dK kvs)) := Same.new hd
    have el1 := el.mono (Same.tups s1)
    refine ⟨_, rfl, _, rfl, th, d, kvs, rfl, .inl upd_same, so.same s1, fun hin => ?_, fun hout => kE (fun x e hx => by
      subst e
      have := (el.has x).mpr hx
      rw [show inK kvs (.str x) = (valV kvs (.inr x)).isSome from rfl, this] at hout
      cases hout) _ s1⟩
    obtain ⟨x, rfl, hx⟩ := inK_t hin
    have hx := (el.has x).mp hx
    have k := k x rfl hx
    refine ⟨_, rfl, _, rfl, d, x, kvs, f, rfl, .inl upd_same, el1, gf, hx, fun r rs H2 hr0 hr2 hrs s2 => ?_⟩
    have hd2 : H2 d = some (.dK kvs) := s2 d _ upd_same
    have dr : d ≠ r := ne_of_none upd_same hr0
    refine ⟨_, rfl, d, kvs, rfl, hd2, fun o D' hD' => ?_⟩
    have D'd : D' ≠ d := fun e => by rw [e, upd_same] at hD'; cases hD'
    have hD2 : H2 D' = none := by rw [upd_ne D'd] at hD'; exact hD'
    have rD : r ≠ D' := ne_of_none hr2 hD2
    refine comp_by (n := kvs.length) (fun i ys H3 => ys = (((nms f).take i).filter fun o => dcd (Reach f x o)).map V.str ∧ H3 = upd (upd H2 d (.frz o (.dK kvs))) D' (.lst ys)) ⟨rfl, rfl⟩ ?_ ?_
    · rintro ys H3 ⟨rfl, rfl⟩
      rw [List.take_of_length_le (by omega)]
      refine ⟨⟨by rw [upd_ne D'd.symm, upd_same], Nat.le_refl _⟩, by rw [upd_ne D'd.symm, upd_same], D', _, rfl, .inl ⟨SqL.of (by rw [upd_ne D'd, upd_same]), fun q hq => ?_⟩⟩
      refine k q _ upd_same fun b o' e => ?_
      have bd : b ≠ d := ne_of_none e hd
      have e2 := s2 b _ (s1 b _ e)
      have bD : b ≠ D' := ne_of_none e2 hD2
      have bq : b ≠ q := fun z => by
        rw [← z, upd_ne bd, upd_ne bD, upd_ne bd, e2] at hq
        cases hq
      rw [upd_ne bq, upd_ne bd, upd_ne bD, upd_ne bd]
      exact e2
    · rintro i ys H3 hi ⟨rfl, rfl⟩
      refine ⟨⟨by rw [upd_ne D'd.symm, upd_same], hi⟩, ?_⟩
      rintro y H4 ⟨rfl, kv, ekv, rfl⟩ σo ho
      obtain ⟨oo, rfl⟩ := own1 ho
      obtain ⟨row, _, ek, en⟩ := el.at ekv
      rw [ek]
      have hlen : ((((nms f).take i).filter fun o => dcd (Reach f x o)).map V.str).length ≤ 7 := by
        rw [List.length_map]
        refine Nat.le_trans (List.length_filter_le _ _) ?_
        rw [List.length_take]
        omega
      refine ⟨⟨[_], rfl, rfl⟩, _, rfl, _, rfl, r, _, rfl, DGet.k (k := .inr row.1) (by rw [upd_ne rD, upd_ne dr.symm]; exact hr2), _, rfl, ite2 (fun hb => ?_) (fun hb => ?_)⟩
      · have hR : Reach f x row.1 := (hrs _).mp ((setD_has rs row.1).mp hb)
        refine ⟨_, rfl, by omega, upd_same, less_by hi ⟨?_, by rw [upd_upd]⟩⟩
        rw [take_filter en, if_pos (dcd_t hR), List.map_append]
        rfl
      · have hR : ¬ Reach f x row.1 := fun h => hb ((setD_has rs row.1).mpr ((hrs _).mpr h))
        refine less_by hi ⟨?_, rfl⟩
        rw [take_filter en, if_neg (by rw [dcd_f hR]; exact Bool.false_ne_true), List.append_nil]
def spBeneath (K : PySem.W.Frag) (t : Adr) : Sp := fun vs H Q E => ∃ (v th : V) (f : Fam), vs = [v, th] ∧ Dp H (famT f) v ∧ GoodF f ∧ SOr K H th ∧ (∀ x, th = .str x → x ∈ nms f → ∀ (q : Addr) H', H' q = some (.tup ((K03.below f x).map V.str)) → Same H H' → Q (.ref q) H') ∧ ((∀ x, th = .str x → ¬ x ∈ nms f) → ∀ H', Same H H' → E (.ref t.cNoKind) none H')
theorem ok_beneath (D : Defs K mg t) (CS : Clss K mg t) : FnOk P w K mg base (CXe P w) 3 t.beneath.1 t.beneath.2 ["family", "kind"] (spBeneath K t) := by
  have G_check_kind : FnOk P w K mg base (CXe P w) 2 t.check_kind.1 t.check_kind.2 _ (spCheckX K t) := ok_checkX D CS
  have G_reached_from : FnOk P w K mg base CX0 1 t.reached_from.1 t.reached_from.2 _ spReached := ok_reached D
  have hz : sizeLine = 16777216 := sizeLine_eq
  refine D.beneath.fn.okX sc_beneath (fun vs H Q E h => ?_) (fun cdv A outer s H vs Q E hr h => ?_)
  · obtain ⟨v, th, f, rfl, _⟩ := h
    rfl
  · obtain ⟨v, th, f, rfl, dv, gf, so, k, kE⟩ := h
    obtain ⟨a, xs, rfl, ha, dl⟩ := L2.Dp.of_tup dv
    obtain ⟨kvs, hpr, el⟩ := fam_pairs dl
    have hkl : kvs.length = f.length := el.len
    have f7 := gf.len
    have hnl : (nms f).length = f.length := List.length_map _
    refine ⟨_, (pss_cons (ps_set (i := 2) sc_beneath.nd rfl (Or.inr rfl) (pe_callTy (call_dictP rfl) (by rfl) D.b_dict bt_dict (pa_cons (pv 0) pa_nil)))
      (pss_cons (ps_expr (pe_callX D.check_kind G_check_kind (hr.mono (by omega)) (by rfl) passes_def (pa_cons (pv 1) (pa_cons (pv 2) pa_nil))))
      (pss_one (ps_ret (pe_callTy call_tuple_of (by rfl) D.b_tuple bt_tuple (pa_cons (pe_compD rfl (CompScope.of ["name"] [1, 2] ["name", "kind", "elders_of"] (defScope (top 16)) ["family", "kind", "elders_of"] rfl rfl (by decide +kernel)) ⟨fun _ _ _ _ _ => (pg_name (i := 0) (show List.Nodup [("name" : Str), ("kind" : Str), ("elders_of" : Str)] by decide +kernel) rfl (Or.inl (lookup_relabel_local rfl)) (.inr (lookup_relabel_local rfl))), fun _ _ _ _ _ => (pts_one (pt_cmp (pc_din (hu_of hr) (pv 1) (pe_callF D.reached_from G_reached_from (hr.mono (by omega)) (by rfl) (pa_cons (pv 2) (pa_cons (pv 0) pa_nil)))))), fun _ _ _ _ _ => (pv 0)⟩ (pv 2)) pa_nil)))))), ?_⟩
    refine ⟨_, rfl, a, xs, kvs, rfl, ha, hpr, by omega, fun d hd => ?_⟩
    rw [el.merge gf.nd]
    have s1 : Same H (upd H d (.dK kvs)) := Same.new hd
    have el1 := el.mono (Same.tups s1)
    refine ⟨_, rfl, _, rfl, th, d, kvs, rfl, .inl upd_same, so.same s1, fun hin => ?_, fun hout => kE (fun x e hx => by
      subst e
      have := (el.has x).mpr hx
      rw [show inK kvs (.str x) = (valV kvs (.inr x)).isSome from rfl, this] at hout
      cases hout) _ s1⟩
    obtain ⟨x, rfl, hx⟩ := inK_t hin
    have hx := (el.has x).mp hx
    have k := k x rfl hx
    refine ⟨_, rfl, d, kvs, rfl, upd_same, fun o D' hD' => ?_⟩
    rw [upd_upd] at hD' ⊢
    have D'd : D' ≠ d := fun e => by rw [e, upd_same] at hD'; cases hD'
    have hDH : H D' = none := by rw [upd_ne D'd] at hD'; exact hD'
    have elf : ∀ {H3 : Hp}, Tups H H3 → EldAt H3 kvs f := fun {H3} h => el.mono h
    refine comp_by (n := kvs.length) (fun i ys H3 => ys = (((nms f).take i).filter fun o => dcd (Reach f o x)).map V.str ∧ H3 D' = some (.lst ys) ∧ H3 d = some (.frz o (.dK kvs)) ∧ Same H H3) ⟨rfl, upd_same, by rw [upd_ne D'd.symm, upd_same], fun b o' e => by rw [upd_ne (ne_of_none e hDH), upd_ne (ne_of_none e hd)]; exact e⟩ ?_ ?_
    · rintro ys H3 ⟨rfl, hD3, hd3, s3⟩
      rw [List.take_of_length_le (by omega)] at hD3
      refine ⟨⟨hd3, Nat.le_refl _⟩, hd3, D', _, rfl, .inl ⟨SqL.of (by rw [upd_ne D'd]; exact hD3), fun q hq => ?_⟩⟩
      refine k q _ upd_same fun b o' e => ?_
      have bd : b ≠ d := ne_of_none e hd
      have e2 := s3 b _ e
      have bq : b ≠ q := fun z => by
        rw [← z, upd_ne bd, e2] at hq
        cases hq
      rw [upd_ne bq, upd_ne bd]
      exact e2
    · rintro i ys H3 hi ⟨rfl, hD3, hd3, s3⟩
      refine ⟨⟨hd3, hi⟩, ?_⟩
      rintro y H4 ⟨rfl, kv, ekv, rfl⟩ σo ho
      obtain ⟨oo, rfl⟩ := own1 ho
      obtain ⟨row, er, ek, en⟩ := el.at ekv
      rw [ek]
      have hlen : ((((nms f).take i).filter fun o => dcd (Reach f o x)).map V.str).length ≤ 7 := by
        rw [List.length_map]
        refine Nat.le_trans (List.length_filter_le _ _) ?_
        rw [List.length_take]
        omega
      have hrow : row.1 ∈ nms f := List.mem_of_getElem? en
      refine ⟨⟨[_], rfl, rfl⟩, _, rfl, _, rfl, _, rfl, d, row.1, kvs, f, rfl, .inr ⟨o, hd3⟩, elf (Same.tups s3), gf, hrow, fun r rs H5 hr0 hr5 hrs s5 => ⟨r, _, rfl, DGet.k (k := .inr x) hr5, _, rfl, ite2 (fun hb => ?_) (fun hb => ?_)⟩⟩
      · have hR : Reach f row.1 x := (hrs _).mp ((setD_has rs x).mp hb)
        refine ⟨_, rfl, by omega, s5 D' _ hD3, less_by hi ⟨?_, upd_same, by rw [upd_ne D'd.symm]; exact s5 d _ hd3, fun b o' e => ?_⟩⟩
        · rw [take_filter en, if_pos (dcd_t hR), List.map_append]
          rfl
        · rw [upd_ne (ne_of_none e hDH)]
          exact s5 b _ (s3 b _ e)
      · have hR : ¬ Reach f row.1 x := fun h => hb ((setD_has rs x).mpr ((hrs _).mpr h))
        have e : ((((nms f).take (i + 1)).filter fun o => dcd (Reach f o x)).map V.str) = (((nms f).take i).filter fun o => dcd (Reach f o x)).map V.str := by
          rw [take_filter en, if_neg (by rw [dcd_f hR]; exact Bool.false_ne_true), List.append_nil]
        exact less_by hi ⟨e.symm, s5 D' _ hD3, s5 d _ hd3, s3.trans s5⟩
end
end K03
end
section
set_option autoImplicit false
namespace K03
open PySem PyProof.Rows L2
structure CloAt (H : Hp) (d : Addr) (f : Fam) (ad : Str → Addr) (cs : Str → List Str) : Prop where
  dict : H d = some (.dK (cloK (nms f) ad))
  lists : ∀ x ∈ nms f, H (ad x) = some (.lst ((cs x).map V.str))
theorem nextC_eq (f : Fam) (cs : Str → List Str) (x : Str) : nextC f cs x = (nms f).filter fun o => ((cs x ++ [x]).map fun e => decide (o ∈ cs e)).any id := by
  unfold nextC
  apply List.filter_congr
  intro o _
  rw [List.map_append, List.any_append, List.any_append, List.any_map, List.any_map]
  rfl
section
variable {P : Program} {w : World} {K : PySem.W.Frag} {mg : Str → Option Value} {base : Heap} {t : Adr}
def spClosed : Sp := fun vs H Q _ => ∃ (v : V) (f : Fam), vs = [v] ∧ Dp H (famT f) v ∧ GoodF f ∧ ∀ (d : Addr) (ad : Str → Addr) H', H d = none → CloAt H' d f ad (K03.above f) → Same H H' → Q (.ref d) H'
theorem ok_closed (D : Defs K mg t) : FnOk P w K mg base CX0 1 t._law_closed.1 t._law_closed.2 ["_law_family_here"] spClosed := by
  have hz : sizeLine = 16777216 := sizeLine_eq
  refine D._law_closed.fn.ok sc__law_closed (fun vs H Q E h => ?_) (fun cdv A outer s H vs Q E hr h => ?_)
  · obtain ⟨v, f, rfl, _⟩ := h
    rfl
  · obtain ⟨v, f, rfl, dv, gf, k⟩ := h
    obtain ⟨a, xs, rfl, ha, dl⟩ := L2.Dp.of_tup dv
    have hxl : xs.length = f.length := by have := dl.length; rwa [List.length_map] at this
    have f7 := gf.len
    have hnl : (nms f).length = f.length := List.length_map _
    refine ⟨_, (pss_cons (ps_set (i := 1) sc__law_closed.nd rfl (Or.inr rfl) pe_dnewK)
      (pss_cons (ps_for PassesOwn.never rfl (pi_tup (pv 0)) (pg_tup rfl (pgs_cons (pg_name (i := 2) sc__law_closed.nd rfl (Or.inl rfl)) (pgs_cons (pg_name (i := 3) sc__law_closed.nd rfl (Or.inl rfl)) pgs_nil)))
      (pss_one (ps_dput (hu_of hr) (pv 1) (pv 2) (pe_callTy call_list_of (by rfl) D.b_list bt_list (pa_cons (pv 3) pa_nil)) rfl)))
      (pss_cons (ps_for PassesOwn.never rfl (pi_range1 rfl D.b_range (pa_cons pe_int pa_nil)) (pg_name (i := 4) sc__law_closed.nd rfl (Or.inl rfl))
      (pss_one (ps_for PassesOwn.never rfl (pi_list (pe_callTy (call_listD rfl) (by rfl) D.b_list bt_list (pa_cons (pv 1) pa_nil))) (pg_name (i := 2) sc__law_closed.nd rfl (Or.inl rfl))
      (pss_cons (ps_set (i := 5) sc__law_closed.nd rfl (Or.inr rfl) (pe_op op_cat (pe_comp rfl (CompScope.of ["_law_elder"] [1] ["_law_elder", "_law_closed_here"] (defScope (top 36)) ["_law_family_here", "_law_closed_here", "_law_kind", "_law_elders", "_law_turn", "_law_ways"] rfl rfl (by decide +kernel)) ⟨fun _ _ _ _ _ => (pg_name (i := 0) (show List.Nodup [("_law_elder" : Str), ("_law_closed_here" : Str)] by decide +kernel) rfl (Or.inl (lookup_relabel_local rfl)) (.inr (lookup_relabel_local rfl))), fun _ _ _ _ _ => pts_nil, fun _ _ _ _ _ => (pe_dget (hu_of hr) (pv 1) (pv 0) (fun _ _ => rfl))⟩ (pi_list (pe_dget (hu_of hr) (pv 1) (pv 2) (fun _ _ => rfl)))) (pe_lst (pa_cons (pe_dget (hu_of hr) (pv 1) (pv 2) (fun _ _ => rfl)) pa_nil))))
      (pss_one (ps_dput (hu_of hr) (pv 1) (pv 2) (pe_compD rfl (CompScope.of ["_law_one"] [5] ["_law_one", "_law_ways"] (defScope (top 36)) ["_law_family_here", "_law_closed_here", "_law_kind", "_law_elders", "_law_turn", "_law_ways"] rfl rfl (by decide +kernel)) ⟨fun _ _ _ _ _ => (pg_name (i := 0) (show List.Nodup [("_law_one" : Str), ("_law_ways" : Str)] by decide +kernel) rfl (Or.inr (lookup_relabel_cell rfl)) (.inl rfl)), fun _ _ _ _ _ => (pts_one (pt_val (pe_callB (call_any_K (K := K) rfl rfl) (by rfl) D.b_any bt_any (pa_cons (pe_comp rfl (CompScope.of2 ["_law_way"] [0] ["_law_way", "_law_one"] ["_law_one", "_law_ways"] rfl rfl (by decide +kernel)) ⟨fun _ _ _ _ _ => (pg_name (i := 0) (show List.Nodup [("_law_way" : Str), ("_law_one" : Str)] by decide +kernel) rfl (Or.inl (lookup_relabel_local rfl)) (.inr (lookup_relabel_local rfl))), fun _ _ _ _ _ => pts_nil, fun _ _ _ _ _ => (pe_cmpR (op_in_K (K := K) rfl) (pv 1) (pv 0) (by with_unfolding_all rfl))⟩ (pi_list_K (K := K) rfl (pv 1))) pa_nil)))), fun _ _ _ _ _ => (pv 0)⟩ (pv 1)) rfl))))))
      (pss_one (ps_ret (pv 1)))))), ?_⟩
    intro d hd
    have s0 : ∀ o, Same H (upd H d o) := fun o => Same.new hd
    refine ⟨_, rfl, a, rfl, ⟨_, SqT.of (s0 _ a _ ha)⟩, for_tup (K := K) (a := a) (xs := xs) (fun i σ H2 => ∃ (ad : Str → Addr) (v2 v3 : Option V), σ = [some (.ref a), some (.ref d), v2, v3, none, none] ∧ H2 d = some (.dK (cloK ((nms f).take i) ad)) ∧
      (∀ (j : Nat) r, j < i → f[j]? = some r → H2 (ad r.1) = some (.lst (r.2.map V.str))) ∧ Same H H2)
      ⟨fun _ => 0, _, _, rfl, upd_same, by intro j r h; omega, s0 _⟩ (fun i σ H2 _ ⟨_, _, _, _, _, _, sm⟩ => SqT.of (sm a _ ha)) ?_ ?_⟩
    · rintro i x σ H2 hi ⟨ad, v2, v3, rfl, hd2, hl2, sm⟩
      have hif : i < f.length := by
        have := (List.getElem?_eq_some_iff.mp hi).1
        omega
      obtain ⟨y, ey, dy⟩ := dl.get (i := i) (t := rowT f[i]) (by rw [List.getElem?_map, List.getElem?_eq_getElem hif]; rfl)
      rw [hi] at ey
      cases ey
      obtain ⟨q, e, rfl, hq, he⟩ := K03.Dp.of_row dy
      refine ⟨q, _, rfl, SqT.of (sm q _ hq), rfl, _, _, rfl, _, _, rfl, rfl, ?_⟩
      refine ⟨_, rfl, e, _, rfl, .inr (SqT.of (sm e _ he)), fun l hl => ?_⟩
      have dlne : d ≠ l := ne_of_none hd2 hl
      have en : (nms f)[i]? = some (f[i]).1 := by show (f.map (·.1))[i]? = _; rw [List.getElem?_map, List.getElem?_eq_getElem hif]; rfl
      have et : (nms f).take (i + 1) = (nms f).take i ++ [(f[i]).1] := by rw [List.take_succ, en]; rfl
      have hnew : ¬ (f[i]).1 ∈ (nms f).take i := fun h => by
        have nd : ((nms f).take (i + 1)).Nodup := gf.nd.sublist (List.take_sublist _ _)
        rw [et, List.nodup_append] at nd
        exact nd.2.2 _ h _ List.mem_cons_self rfl
      refine ⟨_, rfl, _, rfl, d, _, rfl, DPut.k (k := .inr (f[i]).1) (by rw [upd_ne dlne]; exact hd2) (by unfold cloK; rw [List.length_map, List.length_take]; omega), ?_⟩
      rw [cloK_snoc hnew]
      refine ⟨setF ad (f[i]).1 l, _, _, rfl, by rw [upd_same, et], ?_, ?_⟩
      · intro j r hj er
        by_cases hji : j = i
        · subst hji
          rw [List.getElem?_eq_getElem hif] at er
          cases er
          rw [setF_same, upd_ne dlne.symm, upd_same]
        · have hr1 : r.1 ∈ (nms f).take i := by
            have : ((nms f).take i)[j]? = some r.1 := by
              rw [List.getElem?_take_of_lt (by omega)]
              show (f.map (·.1))[j]? = _
              rw [List.getElem?_map, er]
              rfl
            exact List.mem_of_getElem? this
          have ne : r.1 ≠ (f[i]).1 := fun e => by rw [e] at hr1; exact hnew hr1
          rw [setF_ne ne]
          have h2 := hl2 j r (by omega) er
          rw [upd_ne (ne_of h2 hd2 (fun z => nomatch z)), upd_ne (ne_of_none h2 hl)]
          exact h2
      · intro b o e'
        rw [upd_ne (ne_of_none e' hd), upd_ne (ne_of_none (sm b o e') hl)]
        exact sm b o e'
    · rintro σ H2 ⟨ad, v2, v3, rfl, hd2, hl2, sm⟩
      rw [List.take_of_length_le (by omega)] at hd2
      have hel : ∀ r ∈ f, H2 (ad r.1) = some (.lst (r.2.map V.str)) := fun r hr => by
        obtain ⟨j, hj, rfl⟩ := List.getElem_of_mem hr
        exact hl2 j _ (by omega) (List.getElem?_eq_getElem hj)
      have c0 : CloAt H2 d f ad (elds f) := ⟨hd2, fun x hx => by
        obtain ⟨r, hr, rfl⟩ := List.mem_map.mp hx
        rw [elds_of gf.nd r hr]
        exact hel r hr⟩
      have r0 : RInv f 1 0 (elds f) := RInv.start gf fun r hr => elds_of gf.nd r hr
      refine ⟨_, rfl, by omega, by omega, ?_⟩
      refine for_range (lo := 0) (n := (3 : Int).toNat) (fun j σ H3 => ∃ (ad : Str → Addr) (cs : Str → List Str) (v2 v3 v4 v5 : Option V), σ = [some (.ref a), some (.ref d), v2, v3, v4, v5] ∧ CloAt H3 d f ad cs ∧ ((j ≤ 2 ∧ RInv f (2 ^ j) 0 cs) ∨ (j = 3 ∧ RInv f 4 (nms f).length cs)) ∧ Same H H3)
        ⟨ad, elds f, _, _, _, _, rfl, c0, .inl ⟨by omega, r0⟩, sm⟩ ?_ ?_
      · rintro j σ H3 hj ⟨ad, cs, v2', v3', v4', v5', rfl, c3, R3, sm3⟩
        have R3 : RInv f (2 ^ j) 0 cs := by
          rcases R3 with ⟨_, R⟩ | ⟨e, _⟩
          · exact R
          · have : (3 : Int).toNat = 3 := rfl
            omega
        have hpow : 1 ≤ 2 ^ j := Nat.one_le_two_pow
        refine ⟨_, rfl, d, _, rfl, .inl c3.dict, fun ll hll => ?_⟩
        rw [cloK_keys]
        have hllH : H ll = none := by
          cases q : H ll with
          | none => rfl
          | some o =>
            rw [sm3 ll o q] at hll
            cases hll
        have s4 : Same H3 (upd H3 ll (.lst ((nms f).map V.str))) := Same.new hll
        refine ⟨ll, rfl, ⟨_, SqL.of upd_same⟩, for_list (K := K) (a := ll) (xs := (nms f).map V.str) (fun i σ H4 => ∃ (ad : Str → Addr) (cs : Str → List Str) (v2 v3 v5 : Option V), σ = [some (.ref a), some (.ref d), v2, v3, some (.int (0 + (j : Int))), v5] ∧ CloAt H4 d f ad cs ∧ RInv f (2 ^ j) i cs ∧ H4 ll = some (.lst ((nms f).map V.str)) ∧ Same H H4)
          ⟨ad, cs, _, _, _, rfl, ⟨s4 d _ c3.dict, fun x hx => s4 _ _ (c3.lists x hx)⟩, R3, upd_same, sm3.trans s4⟩ (fun i σ H4 _ ⟨_, _, _, _, _, _, _, _, e, _⟩ => SqL.of e) ?_ ?_⟩
        · rintro i xv σ H4 hi ⟨ad, cs, v2'', v3'', v5'', rfl, c4, R4, hll4, sm4⟩
          rw [List.getElem?_map] at hi
          cases hxi : (nms f)[i]? with
          | none => rw [hxi] at hi; cases hi
          | some x =>
          rw [hxi] at hi
          cases hi
          have hx : x ∈ nms f := List.mem_of_getElem? hxi
          have csub : ∀ e ∈ cs x, e ∈ nms f := fun e he => reach_tgt gf (R4.sound x hx e he)
          have rsub : ∀ e ∈ cs x ++ [x], e ∈ nms f := fun e he => by
            rcases List.mem_append.mp he with h | h
            · exact csub e h
            · rw [List.mem_singleton.mp h]
              exact hx
          have csl : (cs x).length ≤ 1000000 := by
            have := R4.len x hx
            omega
          have getd : ∀ {H5 : Hp} {e : Str}, e ∈ nms f → Rd H5 d (.dK (cloK (nms f) ad)) → DGet H5 d (.str e) (some (.ref (ad e))) := fun {H5 e} he h => .inl ⟨_, .inr e, h, rfl, (cloK_val he).symm⟩
          refine ⟨_, rfl, _, rfl, d, .ref (ad x), rfl, getd hx (.inl c4.dict), ad x, rfl, ⟨_, SqL.of (c4.lists x hx)⟩, fun D1 hD1 => ?_⟩
          have s5 : ∀ o, Same H4 (upd H4 D1 o) := fun o => Same.new hD1
          refine comp_by (n := ((cs x).map V.str).length) (fun i ys H5 => ys = ((cs x).take i).map (fun e => V.ref (ad e)) ∧ H5 = upd H4 D1 (.lst ys)) ⟨rfl, rfl⟩ ?_ ?_
          · rintro ys H5 ⟨rfl, rfl⟩
            rw [List.take_of_length_le (by rw [List.length_map]; exact Nat.le_refl _)]
            refine ⟨⟨_, SqL.of (s5 _ _ _ (c4.lists x hx)), Nat.le_refl _⟩, ?_⟩
            refine ⟨_, rfl, _, rfl, d, .ref (ad x), rfl, getd hx (.inl (s5 _ _ _ c4.dict)), by show 1 ≤ sizeLine; decide, fun L hL => ⟨D1, L, _, _, rfl, rfl, by rw [upd_ne (ne_of_none upd_same hL), upd_same], upd_same, by rw [List.length_map]; show (cs x).length + 1 ≤ sizeLine; omega, fun W hW => ?_⟩⟩
            have ews : (cs x).map (fun e => V.ref (ad e)) ++ [V.ref (ad x)] = (cs x ++ [x]).map (fun e => V.ref (ad e)) := by rw [List.map_append]; rfl
            rw [ews]
            have sw : Same H4 (upd (upd (upd H4 D1 (.lst ((cs x).map fun e => V.ref (ad e)))) L (.lst [.ref (ad x)])) W (.lst ((cs x ++ [x]).map fun e => V.ref (ad e)))) := ((s5 _).trans (Same.new hL)).trans (Same.new hW)
            generalize hHw : upd (upd (upd H4 D1 (.lst ((cs x).map fun e => V.ref (ad e)))) L (.lst [.ref (ad x)])) W (.lst ((cs x ++ [x]).map fun e => V.ref (ad e))) = Hw at sw
            have hWw : Hw W = some (.lst ((cs x ++ [x]).map fun e => V.ref (ad e))) := by rw [← hHw, upd_same]
            clear hHw
            have hdw : Hw d = some (.dK (cloK (nms f) ad)) := sw _ _ c4.dict
            have Wd : W ≠ d := ne_of hWw hdw (fun z => nomatch z)
            refine ⟨_, rfl, d, _, rfl, hdw, fun o D2 hD2 => ?_⟩
            have D2d : D2 ≠ d := fun e => by rw [e, upd_same] at hD2; cases hD2
            have hD2w : Hw D2 = none := by rw [upd_ne D2d] at hD2; exact hD2
            have hkl : (cloK (nms f) ad).length = (nms f).length := List.length_map _
            refine comp_by (n := (cloK (nms f) ad).length) (fun i ys H5 => ys = (((nms f).take i).filter fun q => ((cs x ++ [x]).map fun e => decide (q ∈ cs e)).any id).map V.str ∧ H5 D2 = some (.lst ys) ∧ H5 d = some (.frz o (.dK (cloK (nms f) ad))) ∧ ∀ b u, b ≠ d → Hw b = some u → H5 b = some u)
              ⟨rfl, upd_same, by rw [upd_ne D2d.symm, upd_same], fun b u hb e => by rw [upd_ne (ne_of_none e hD2w), upd_ne hb]; exact e⟩ ?_ ?_
            · rintro ys H5 ⟨rfl, hD5, hd5, kp5⟩
              rw [List.take_of_length_le (by omega), ← nextC_eq] at hD5
              refine ⟨⟨hd5, Nat.le_refl _⟩, hd5, ?_⟩
              refine ⟨_, rfl, _, rfl, d, _, rfl, DPut.k (k := .inr x) upd_same (by omega), ?_⟩
              rw [upd_upd, cloK_put hx]
              have lp : ∀ y ∈ nms f, Hw (ad y) = some (.lst ((cs y).map V.str)) := fun y hy => sw _ _ (c4.lists y hy)
              refine ⟨setF ad x D2, setF cs x (nextC f cs x), _, _, _, rfl, ⟨upd_same, fun y hy => ?_⟩, R4.step gf hpow hxi, ?_, fun b u e => ?_⟩
              · by_cases e : y = x
                · subst e
                  rw [setF_same, setF_same, upd_ne D2d]
                  exact hD5
                · rw [setF_ne e, setF_ne e]
                  have h1 := lp y hy
                  have h2 : ad y ≠ d := ne_of h1 hdw (fun z => nomatch z)
                  rw [upd_ne h2]
                  exact kp5 _ _ h2 h1
              · have h1 := sw _ _ hll4
                have h2 : ll ≠ d := ne_of h1 hdw (fun z => nomatch z)
                rw [upd_ne h2]
                exact kp5 _ _ h2 h1
              · have h2 : b ≠ d := ne_of_none e hd
                rw [upd_ne h2]
                exact kp5 _ _ h2 (sw _ _ (sm4 b u e))
            · rintro i2 ys H5 hi2 ⟨rfl, hD5, hd5, kp5⟩
              refine ⟨⟨hd5, hi2⟩, ?_⟩
              rintro yv H6 ⟨rfl, kv, ekv, rfl⟩ σo ho
              obtain ⟨oo, rfl⟩ := own1 ho
              have hi2n : i2 < (nms f).length := by omega
              have en : (nms f)[i2]? = some (nms f)[i2] := List.getElem?_eq_getElem hi2n
              have ek : kv = (.inr (nms f)[i2], .ref (ad (nms f)[i2])) := by
                have ekv : ((nms f).map fun x => ((.inr x, .ref (ad x)) : Key × V))[i2]? = some kv := ekv
                rw [List.getElem?_map, en] at ekv
                exact (Option.some.inj ekv).symm
              subst ek
              have hlen : ((((nms f).take i2).filter fun q => ((cs x ++ [x]).map fun e => decide (q ∈ cs e)).any id).map V.str).length ≤ 7 := by
                rw [List.length_map]
                refine Nat.le_trans (List.length_filter_le _ _) ?_
                rw [List.length_take]
                omega
              refine ⟨⟨[_], rfl, rfl⟩, _, rfl, W, rfl, ⟨_, SqL.of (kp5 _ _ Wd hWw)⟩, fun D3 hD3 => ?_⟩
              have s7 : ∀ u, Same H6 (upd H6 D3 u) := fun u => Same.new hD3
              refine comp_by (n := ((cs x ++ [x]).map fun e => V.ref (ad e)).length) (fun i3 ys3 H7 => ys3 = (((cs x ++ [x]).take i3).map fun e => decide ((nms f)[i2] ∈ cs e)).map V.bl ∧ H7 = upd H6 D3 (.lst ys3)) ⟨rfl, rfl⟩ ?_ ?_
              · rintro ys3 H7 ⟨rfl, rfl⟩
                rw [List.take_of_length_le (by rw [List.length_map]; exact Nat.le_refl _)]
                refine ⟨⟨_, SqL.of (s7 _ _ _ (kp5 _ _ Wd hWw)), Nat.le_refl _⟩, D3, _, rfl, SqL.of upd_same, _, rfl, ite2 (fun hb => ?_) (fun hb => ?_)⟩
                · refine ⟨_, rfl, by omega, s7 _ _ _ hD5, less_by hi2 ⟨?_, upd_same, by rw [upd_ne D2d.symm]; exact s7 _ _ _ hd5, fun b u hbd e => ?_⟩⟩
                  · rw [take_filter en, if_pos hb, List.map_append]
                    rfl
                  · rw [upd_ne (ne_of_none e hD2w)]
                    exact s7 _ _ _ (kp5 b u hbd e)
                · refine less_by hi2 ⟨?_, s7 _ _ _ hD5, s7 _ _ _ hd5, fun b u hbd e => s7 _ _ _ (kp5 b u hbd e)⟩
                  rw [take_filter en, if_neg hb, List.append_nil]
              · rintro i3 ys3 H7 hi3 ⟨rfl, rfl⟩
                have hi3' : i3 < (cs x ++ [x]).length := by rw [List.length_map] at hi3; exact hi3
                have e3 : ((cs x ++ [x]).map fun e => V.ref (ad e))[i3]? = some (.ref (ad (cs x ++ [x])[i3])) := by rw [List.getElem?_map, List.getElem?_eq_getElem hi3']; rfl
                refine ⟨⟨_, _, SqL.of (s7 _ _ _ (kp5 _ _ Wd hWw)), e3⟩, ?_⟩
                rintro y3 H8 ⟨rfl, yy⟩ σo3 ho3
                obtain ⟨o3, rfl⟩ := own1 ho3
                have ey := yy _ (SqL.of (s7 _ _ _ (kp5 _ _ Wd hWw)))
                rw [e3] at ey
                cases ey
                have hm3 := rsub _ (List.getElem_mem hi3')
                have h1 := sw _ _ (c4.lists _ hm3)
                have h2 : ad (cs x ++ [x])[i3] ≠ d := ne_of h1 hdw (fun z => nomatch z)
                refine ⟨⟨[_], rfl, rfl⟩, yes_by ⟨_, rfl, _, rfl, ad (cs x ++ [x])[i3], _, rfl, .inl (SqL.of (s7 _ _ _ (kp5 _ _ h2 h1))), rfl, flat_strs _, by rw [List.length_map, List.length_map, List.length_take]; rw [List.length_append, List.length_singleton] at hi3' ⊢; omega, upd_same, less_by hi3 ⟨?_, by rw [upd_upd]⟩⟩⟩
                show _ ++ [V.bl (inV (.str (nms f)[i2]) ((cs (cs x ++ [x])[i3]).map V.str))] = _
                rw [inV_strs, List.take_succ, List.getElem?_eq_getElem hi3', List.map_append, List.map_append]
                rfl
          · rintro i1 ys H5 hi1 ⟨rfl, rfl⟩
            have hi1' : i1 < (cs x).length := by rw [List.length_map] at hi1; exact hi1
            have e1 : ((cs x).map V.str)[i1]? = some (.str (cs x)[i1]) := by rw [List.getElem?_map, List.getElem?_eq_getElem hi1']; rfl
            refine ⟨⟨_, _, SqL.of (s5 _ _ _ (c4.lists x hx)), e1⟩, ?_⟩
            rintro y1 H6 ⟨rfl, yy⟩ σo1 ho1
            obtain ⟨o1, rfl⟩ := own1 ho1
            have ey := yy _ (SqL.of (s5 _ _ _ (c4.lists x hx)))
            rw [e1] at ey
            cases ey
            refine ⟨⟨[_], rfl, rfl⟩, yes_by ⟨_, rfl, _, rfl, d, .ref (ad (cs x)[i1]), rfl, getd (csub _ (List.getElem_mem hi1')) (.inl (s5 _ _ _ c4.dict)), by rw [List.length_map, List.length_take]; omega, upd_same, less_by hi1 ⟨?_, by rw [upd_upd]⟩⟩⟩
            rw [List.take_succ, List.getElem?_eq_getElem hi1', List.map_append]
            rfl
        · rintro σ H4 ⟨ad, cs, v2'', v3'', v5'', rfl, c4, R4, hll4, sm4⟩
          rw [List.length_map] at R4
          refine ⟨ad, cs, _, _, _, _, rfl, c4, ?_, sm4⟩
          rcases (by have : (3 : Int).toNat = 3 := rfl; omega : j = 0 ∨ j = 1 ∨ j = 2) with rfl | rfl | rfl
          · exact .inl ⟨by omega, R4.next⟩
          · exact .inl ⟨by omega, R4.next⟩
          · exact .inr ⟨rfl, R4⟩
      · rintro σ H3 ⟨ad, cs, v2', v3', v4', v5', rfl, c3, R3, sm3⟩
        have R3 : RInv f 4 (nms f).length cs := by
          rcases R3 with ⟨h, _⟩ | ⟨_, R⟩
          · have : (3 : Int).toNat = 3 := rfl
            omega
          · exact R
        exact ⟨_, rfl, k d ad H3 hd ⟨c3.dict, fun x hx => by rw [← R3.done gf x hx]; exact c3.lists x hx⟩ sm3⟩
end
end K03
end
section
set_option autoImplicit false
namespace K03
open PySem PyProof.Rows L2
section
variable {P : Program} {w : World} {K : PySem.W.Frag} {mg : Str → Option Value} {base : Heap} {t : Adr}
def spOrderX (K : PySem.W.Frag) (t : Adr) : Sp := fun vs H Q E => ∃ (v th : V) (f : Fam), vs = [v, th] ∧ Dp H (famT f) v ∧ GoodF f ∧ SOr K H th ∧ (∀ x, th = .str x → x ∈ nms f → ∀ (q : Addr) H', Same H H' → Q (.ref q) H') ∧ ((∀ x, th = .str x → ¬ x ∈ nms f) → ∀ H', Same H H' → E (.ref t.cNoKind) none H')
theorem ok_orderX (D : Defs K mg t) (CS : Clss K mg t) : FnOk P w K mg base (CXe P w) 5 t.order_of.1 t.order_of.2 ["family", "kind"] (spOrderX K t) := by
  have G_check_kind : FnOk P w K mg base (CXe P w) 2 t.check_kind.1 t.check_kind.2 _ (spCheckX K t) := ok_checkX D CS
  have G_tell_orders : FnOk P w K mg base CX0 4 t.tell_orders.1 t.tell_orders.2 _ spTell := ok_tell D
  refine D.order_of.fn.okX sc_order_of (fun vs H Q E h => ?_) (fun cdv A outer s H vs Q E hr h => ?_)
  · obtain ⟨v, x, f, rfl, _⟩ := h
    rfl
  · obtain ⟨v, th, f, rfl, dv, gf, so, k, kE⟩ := h
    obtain ⟨a, xs, rfl, ha, dl⟩ := L2.Dp.of_tup dv
    obtain ⟨kvs0, hpr, el⟩ := fam_pairs dl
    have hkl : kvs0.length = f.length := el.len
    have f7 := gf.len
    refine ⟨_, (pss_cons (ps_expr (pe_callX D.check_kind G_check_kind (hr.mono (by omega)) (by rfl) passes_def (pa_cons (pv 1) (pa_cons (pe_callTy (call_dictP rfl) (by rfl) D.b_dict bt_dict (pa_cons (pv 0) pa_nil)) pa_nil))))
      (pss_one (ps_ret (pe_dget (hu_of hr) (pe_callF D.tell_orders G_tell_orders (hr.mono (by omega)) (by rfl) (pa_cons (pv 0) pa_nil)) (pv 1) (fun _ _ => rfl))))), ?_⟩
    refine ⟨_, rfl, _, rfl, a, xs, kvs0, rfl, ha, hpr, by omega, fun d hd => ?_⟩
    rw [el.merge gf.nd]
    have s1 : Same H (upd H d (.dK kvs0)) := Same.new hd
    refine ⟨th, d, kvs0, rfl, .inl upd_same, so.same s1, fun hin => ?_, fun hout => kE (fun x e hx => by
      subst e
      have := (el.has x).mpr hx
      rw [show inK kvs0 (.str x) = (valV kvs0 (.inr x)).isSome from rfl, this] at hout
      cases hout) _ s1⟩
    obtain ⟨x, rfl, hx⟩ := inK_t hin
    have hx := (el.has x).mp hx
    refine ⟨_, rfl, .ref a, f, rfl, dv.mono (Same.tups s1), gf, fun td kvs H2 _ htd told s2 => ?_⟩
    obtain ⟨q, h1, h2⟩ := told x hx
    exact ⟨_, rfl, td, .ref q, rfl, .inl ⟨kvs, .inr x, .inl htd, rfl, h1.symm⟩, k x rfl hx q H2 (s1.trans s2)⟩
def spRowsX (K : PySem.W.Frag) (t : Adr) : Sp := fun vs H Q E => ∃ (v th : V) (f : Fam), vs = [v, th] ∧ Dp H (famT f) v ∧ GoodF f ∧ SOr K H th ∧ (∀ x, th = .str x → x ∈ nms f → ∀ H', Same H H' → (∀ q : Addr, Q (.ref q) H') ∧ E (.ref t.cNoOrder) none H') ∧ ((∀ x, th = .str x → ¬ x ∈ nms f) → ∀ H', Same H H' → E (.ref t.cNoKind) none H')
theorem ok_rowsX (D : Defs K mg t) (CS : Clss K mg t) : FnOk P w K mg base (CXe P w) 5 t.rows_for.1 t.rows_for.2 ["family", "kind"] (spRowsX K t) := by
  have G_check_kind : FnOk P w K mg base (CXe P w) 2 t.check_kind.1 t.check_kind.2 _ (spCheckX K t) := ok_checkX D CS
  have G_tell_orders : FnOk P w K mg base CX0 4 t.tell_orders.1 t.tell_orders.2 _ spTell := ok_tell D
  have G_quarrel_among : FnOk P w K mg base CX0 1 t.quarrel_among.1 t.quarrel_among.2 _ spQuarrel := ok_quarrel D
  have G_rows_by : FnOk P w K mg base CX0 1 t.rows_by.1 t.rows_by.2 _ spRowsBy := ok_rowsBy D
  refine D.rows_for.fn.okX sc_rows_for (fun vs H Q E h => ?_) (fun cdv A outer s H vs Q E hr h => ?_)
  · obtain ⟨v, f, r, rfl, _⟩ := h
    rfl
  · obtain ⟨v, th, f, rfl, dv, gf, so, k, kE⟩ := h
    obtain ⟨a, xs, rfl, ha, dl⟩ := L2.Dp.of_tup dv
    obtain ⟨kvs0, hpr, el⟩ := fam_pairs dl
    have hkl : kvs0.length = f.length := el.len
    have f7 := gf.len
    refine ⟨_, (pss_cons (ps_set (i := 2) sc_rows_for.nd rfl (Or.inl rfl) (pe_callTy (call_dictP rfl) (by rfl) D.b_dict bt_dict (pa_cons (pv 0) pa_nil)))
      (pss_cons (ps_expr (pe_callX D.check_kind G_check_kind (hr.mono (by omega)) (by rfl) passes_def (pa_cons (pv 1) (pa_cons (pv 2) pa_nil))))
      (pss_cons (ps_set (i := 3) sc_rows_for.nd rfl (Or.inl rfl) (pe_callF D.tell_orders G_tell_orders (hr.mono (by omega)) (by rfl) (pa_cons (pv 0) pa_nil)))
      (pss_cons (ps_if (pt_cmpR op_notN (pe_callF D.quarrel_among G_quarrel_among (hr.mono (by omega)) (by rfl) (pa_cons (pe_dget (hu_of hr) (pv 2) (pv 1) (fun _ _ => rfl)) (pa_cons (pv 3) pa_nil))) pe_non (nomark _))
      (pss_one (ps_raise raise_def rfl CS.no (by rfl) (pa_cons pe_str pa_nil)))
      pss_nil)
      (pss_one (ps_ret (pe_callF D.rows_by G_rows_by (hr.mono (by omega)) (by rfl) (pa_cons (pe_dget (hu_of hr) (pv 2) (pv 1) (fun _ _ => rfl)) (pa_cons (pv 3) pa_nil))))))))), ?_⟩
    refine ⟨_, rfl, a, xs, kvs0, rfl, ha, hpr, by omega, fun d hd => ?_⟩
    rw [el.merge gf.nd]
    have s1 : Same H (upd H d (.dK kvs0)) := Same.new hd
    have hd1 : (upd H d (.dK kvs0)) d = some (.dK kvs0) := upd_same
    generalize upd H d (.dK kvs0) = H1 at s1 hd1
    refine ⟨_, rfl, _, rfl, th, d, kvs0, rfl, .inl hd1, so.same s1, fun hin => ?_, fun hout => kE (fun x e hx => by
      subst e
      have := (el.has x).mpr hx
      rw [show inK kvs0 (.str x) = (valV kvs0 (.inr x)).isSome from rfl, this] at hout
      cases hout) _ s1⟩
    obtain ⟨x, rfl, hx⟩ := inK_t hin
    have hx := (el.has x).mp hx
    have kk := k x rfl hx
    obtain ⟨r, hr', rfl⟩ := List.mem_map.mp hx
    obtain ⟨e, he1, he2⟩ := el.get gf.nd r hr'
    refine ⟨_, rfl, .ref a, f, rfl, dv.mono (Same.tups s1), gf, fun td kvs H2 _ htd told s2 => ?_⟩
    have hd2 := s2 d _ hd1
    have he := (s1.trans s2) e _ he2
    have gd : DGet H2 d (.str r.1) (some (.ref e)) := .inl ⟨kvs0, .inr r.1, .inl hd2, rfl, he1.symm⟩
    have toldE : ToldAt H2 kvs f (· ∈ r.2) := fun y hy => told y (gf.sub r hr' y hy)
    by_cases hall : ∀ x ∈ r.2, (ordF f x).isSome = true
    · refine ⟨_, rfl, _, rfl, d, .ref e, rfl, gd, _, rfl, e, td, r.2, kvs, f, rfl, he, .inl htd, toldE, fun _ => ?_, fun hnot => absurd hall hnot⟩
      refine ⟨rfl, _, rfl, iteNeg (by rw [decide_eq_true rfl]; exact Bool.false_ne_true) ?_⟩
      exact ⟨_, rfl, _, rfl, d, .ref e, rfl, gd, _, rfl, e, td, r.2, kvs, f, rfl, he, .inl htd, toldE, hall, by have := gf.el r hr'; omega, fun q us H3 hq rt s3 => (kk H3 ((s1.trans s2).trans s3)).1 q⟩
    · refine ⟨_, rfl, _, rfl, d, .ref e, rfl, gd, _, rfl, e, td, r.2, kvs, f, rfl, he, .inl htd, toldE, fun hh => absurd hh hall, fun _ q5 a5 rg5 _ => ?_⟩
      refine ⟨rfl, _, rfl, itePos (by rw [decide_eq_false (fun z => nomatch z)]; rfl) ?_⟩
      exact ⟨by show 1 ≤ sizeLine; decide, (kk H2 (s1.trans s2)).2⟩
def spAsk (K : PySem.W.Frag) (t : Adr) : Sp := fun vs H Q E => ∃ (n : Nat) (v th : V) (f : Fam), vs = [.int n, v, th] ∧ n < 4 ∧ Dp H (famT f) v ∧ GoodF f ∧ SOr K H th ∧
  (∀ x, th = .str x → x ∈ nms f → ∀ H', Same H H' → (∀ q : Addr, (n = 0 → H' q = some (.tup ((K03.above f x).map V.str))) → (n = 1 → H' q = some (.tup ((K03.below f x).map V.str))) → Q (.ref q) H') ∧ (n = 3 → E (.ref t.cNoOrder) none H')) ∧ ((∀ x, th = .str x → ¬ x ∈ nms f) → ∀ H', Same H H' → E (.ref t.cNoKind) none H')
theorem ok_ask (D : Defs K mg t) (CS : Clss K mg t) : FnOk P w K mg base (CXe P w) 6 t._law_ask.1 t._law_ask.2 ["_law_door_here", "_law_family_here", "_law_thing"] (spAsk K t) := by
  have G_above : FnOk P w K mg base (CXe P w) 3 t.above.1 t.above.2 _ (spAbove K t) := ok_above D CS
  have G_beneath : FnOk P w K mg base (CXe P w) 3 t.beneath.1 t.beneath.2 _ (spBeneath K t) := ok_beneath D CS
  have G_order_of : FnOk P w K mg base (CXe P w) 5 t.order_of.1 t.order_of.2 _ (spOrderX K t) := ok_orderX D CS
  have G_rows_for : FnOk P w K mg base (CXe P w) 5 t.rows_for.1 t.rows_for.2 _ (spRowsX K t) := ok_rowsX D CS
  refine D._law_ask.fn.okX sc__law_ask (fun vs H Q E h => ?_) (fun cdv A outer s H vs Q E hr h => ?_)
  · obtain ⟨n, v, th, f, rfl, _⟩ := h
    rfl
  · obtain ⟨n, v, th, f, rfl, hn, dv, gf, so, k, kE⟩ := h
    refine ⟨_, (pss_cons (ps_if (pt_cmpR op_eq (pv 0) pe_int (nomark _))
      (pss_one (ps_ret (pe_callX D.above G_above (hr.mono (by omega)) (by rfl) passes_def (pa_cons (pv 1) (pa_cons (pv 2) pa_nil)))))
      pss_nil)
      (pss_cons (ps_if (pt_cmpR op_eq (pv 0) pe_int (nomark _))
      (pss_one (ps_ret (pe_callX D.beneath G_beneath (hr.mono (by omega)) (by rfl) passes_def (pa_cons (pv 1) (pa_cons (pv 2) pa_nil)))))
      pss_nil)
      (pss_cons (ps_if (pt_cmpR op_eq (pv 0) pe_int (nomark _))
      (pss_one (ps_ret (pe_callX D.order_of G_order_of (hr.mono (by omega)) (by rfl) passes_def (pa_cons (pv 1) (pa_cons (pv 2) pa_nil)))))
      pss_nil)
      (pss_one (ps_ret (pe_callX D.rows_for G_rows_for (hr.mono (by omega)) (by rfl) passes_def (pa_cons (pv 1) (pa_cons (pv 2) pa_nil)))))))), ?_⟩
    rcases (by omega : n = 0 ∨ n = 1 ∨ n = 2 ∨ n = 3) with rfl | rfl | rfl | rfl
    · refine ⟨_, rfl, rfl, _, rfl, itePos (by decide) ?_⟩
      exact ⟨_, rfl, _, rfl, v, th, f, rfl, dv, gf, so, fun x e hx q H' hq s => (k x e hx H' s).1 q (fun _ => hq) (fun z => nomatch z), kE⟩
    · refine ⟨_, rfl, rfl, _, rfl, iteNeg (by decide) ?_⟩
      refine ⟨_, rfl, rfl, _, rfl, itePos (by decide) ?_⟩
      exact ⟨_, rfl, _, rfl, v, th, f, rfl, dv, gf, so, fun x e hx q H' hq s => (k x e hx H' s).1 q (fun z => nomatch z) (fun _ => hq), kE⟩
    · refine ⟨_, rfl, rfl, _, rfl, iteNeg (by decide) ?_⟩
      refine ⟨_, rfl, rfl, _, rfl, iteNeg (by decide) ?_⟩
      refine ⟨_, rfl, rfl, _, rfl, itePos (by decide) ?_⟩
      exact ⟨_, rfl, _, rfl, v, th, f, rfl, dv, gf, so, fun x e hx q H' s => (k x e hx H' s).1 q (fun z => nomatch z) (fun z => nomatch z), kE⟩
    · refine ⟨_, rfl, rfl, _, rfl, iteNeg (by decide) ?_⟩
      refine ⟨_, rfl, rfl, _, rfl, iteNeg (by decide) ?_⟩
      refine ⟨_, rfl, rfl, _, rfl, iteNeg (by decide) ?_⟩
      exact ⟨_, rfl, _, rfl, v, th, f, rfl, dv, gf, so, fun x e hx H' s => ⟨fun q => (k x e hx H' s).1 q (fun z => nomatch z) (fun z => nomatch z), (k x e hx H' s).2 rfl⟩, kE⟩
end
end K03
end
section
set_option autoImplicit false
namespace L2
open PySem PySem.Spec PyProof.Rows
def rEqSameL : R2 := fun x y H Q => ∃ (a b : Addr) (xs : List V), x = .ref a ∧ y = .ref b ∧ H a = some (.lst xs) ∧ H b = some (.lst xs) ∧ xs.all flatV = true ∧ Q (.bl true) H
theorem op_eqSameL {X : Cx} (hu : X.A.units < cLine) : OpR X (compareOp .Eq) rEqSameL := by
  intro pins s σ H x y v u Q I rx ry h
  obtain ⟨a, b, xs, rfl, rfl, ha, hb, hf, q⟩ := h
  cases rx
  cases ry
  obtain ⟨its, r, p, _⟩ := I.list (SqL.of (K := X.K) ha)
  obtain ⟨its2, r2, p2, _⟩ := I.list (SqL.of (K := X.K) hb)
  have l1 := r.length
  have l2 := r2.length
  have key := SeqAt.RcAt.lists (A := X.A) (s := s) (e := fun _ => true) p.isList p2.isList (by simp; omega) hu (fun j h1 h2 => by
    have h1' : j < its.length := by simpa using h1
    have j1 : j < xs.length := by omega
    have e1 : xs[j]? = some xs[j] := List.getElem?_eq_getElem j1
    obtain ⟨w1, k1, m1⟩ := r.get e1
    obtain ⟨w2, k2, m2⟩ := r2.get e1
    have n1 : its.toArray[j] = w1 := by
      have : its.toArray[j]? = some w1 := by simpa using k1
      rw [Array.getElem?_eq_getElem h1] at this
      exact Option.some.inj this
    have n2 : its2.toArray[j] = w2 := by
      have : its2.toArray[j]? = some w2 := by simpa using k2
      rw [Array.getElem?_eq_getElem h2] at this
      exact Option.some.inj this
    rw [n1, n2]
    have fj : flatV xs[j] = true := List.all_eq_true.mp hf _ (List.getElem_mem j1)
    have := eqAt_V (A := X.A.in1) (s := s) m1 m2 fj fj
    rw [eqV_self fj] at this
    exact this)
  have ee : ((List.range its.toArray.size).all (fun _ => true)) = true := by simp
  rw [ee] at key
  exact key X.prog X.w X.xe _ ⟨.bl _, H, I, rfl, q⟩
end L2
end
section
set_option autoImplicit false
namespace K03
open PySem PyProof.Rows L2
section
variable {P : Program} {w : World} {K : PySem.W.Frag} {mg : Str → Option Value} {base : Heap} {t : Adr}
def spOnly (t : Adr) : Sp := fun vs H Q _ => ∃ (ea : Addr), vs = [.ref ea, .int 0] ∧ H ea = some (ExcO ea t.cNoKind) ∧ ∀ H', Same H H' → Q (.bl true) H'
theorem ok_only (D : Defs K mg t) (CS : Clss K mg t) : FnOk P w K mg base CX0 1 t._law_only.1 t._law_only.2 ["_law_e", "_law_at"] (spOnly t) := by
  have hz : sizeLine = 16777216 := sizeLine_eq
  refine D._law_only.fn.ok sc__law_only (fun vs H Q E h => ?_) (fun cdv A outer s H vs Q E hr h => ?_)
  · obtain ⟨ea, rfl, _⟩ := h
    rfl
  · obtain ⟨ea, rfl, he, k⟩ := h
    refine ⟨_, (pss_cons (ps_if (PW.pt (pw_or (pt_not (pt_val (pe_callB (call_isX_K (K := K) rfl) (by rfl) D.b_isinstance bt_isinstance (pa_cons (pv 0) (pa_cons (pe_glob (v := V.ref t.cRowError) (by rfl) CS.m_RowError rfl) pa_nil))))) (pw_or1 (pt_not (pt_val (pe_callB (call_isXty_K (K := K) rfl) (by rfl) D.b_isinstance bt_isinstance (pa_cons (pv 0) (pa_cons (pe_bltn (v := V.ty "ValueError") rfl D.b_ValueError bt_ValueError rfl) pa_nil))))))))
      (pss_one (ps_ret pe_bl))
      pss_nil)
      (pss_cons (ps_set (i := 2) sc__law_only.nd rfl (Or.inl rfl) (pe_lst (pa_cons (pe_callB (call_isX_K (K := K) rfl) (by rfl) D.b_isinstance bt_isinstance (pa_cons (pv 0) (pa_cons (pe_glob (v := V.ref t.cNoKind) (by rfl) CS.nk.m rfl) pa_nil))) (pa_cons (pe_callB (call_isX_K (K := K) rfl) (by rfl) D.b_isinstance bt_isinstance (pa_cons (pv 0) (pa_cons (pe_glob (v := V.ref t.cNoOrder) (by rfl) CS.no.m rfl) pa_nil))) (pa_cons (pe_callB (call_isX_K (K := K) rfl) (by rfl) D.b_isinstance bt_isinstance (pa_cons (pv 0) (pa_cons (pe_glob (v := V.ref t.cNoChange) (by rfl) CS.m_NoChange rfl) pa_nil))) (pa_cons (pe_callB (call_isX_K (K := K) rfl) (by rfl) D.b_isinstance bt_isinstance (pa_cons (pv 0) (pa_cons (pe_glob (v := V.ref t.cNoShape) (by rfl) CS.m_NoShape rfl) pa_nil))) pa_nil))))))
      (pss_cons (ps_set (i := 2) sc__law_only.nd rfl (Or.inl rfl) (pe_op op_cat (pv 2) (pe_lst (pa_cons (pe_callB (call_isX_K (K := K) rfl) (by rfl) D.b_isinstance bt_isinstance (pa_cons (pv 0) (pa_cons (pe_glob (v := V.ref t.cNoField) (by rfl) CS.m_NoField rfl) pa_nil))) (pa_cons (pe_callB (call_isX_K (K := K) rfl) (by rfl) D.b_isinstance bt_isinstance (pa_cons (pv 0) (pa_cons (pe_glob (v := V.ref t.cNoText) (by rfl) CS.m_NoText rfl) pa_nil))) (pa_cons (pe_callB (call_isX_K (K := K) rfl) (by rfl) D.b_isinstance bt_isinstance (pa_cons (pv 0) (pa_cons (pe_glob (v := V.ref t.cNoLimit) (by rfl) CS.m_NoLimit rfl) pa_nil))) pa_nil))))))
      (pss_one (ps_ret (pe_cmpR (op_eqSameL hr.units0) (pe_op op_cat (pv 2) (pe_lst (pa_cons (pe_callB (call_isX_K (K := K) rfl) (by rfl) D.b_isinstance bt_isinstance (pa_cons (pv 0) (pa_cons (pe_glob (v := V.ref t.cNoWarming) (by rfl) CS.m_NoWarming rfl) pa_nil))) pa_nil))) (pe_comp rfl (CompScope.of ["_law_k"] [1] ["_law_k", "_law_at"] (defScope (top 37)) ["_law_e", "_law_at", "_law_classes"] rfl rfl (by decide +kernel)) ⟨fun _ _ _ _ _ => (pg_name (i := 0) (show List.Nodup [("_law_k" : Str), ("_law_at" : Str)] by decide +kernel) rfl (Or.inl (lookup_relabel_local rfl)) (.inr (lookup_relabel_local rfl))), fun _ _ _ _ _ => pts_nil, fun _ _ _ _ _ => (pe_cmpR op_eq (pv 0) (pv 1) (nomark _))⟩ (pi_range1 rfl D.b_range (pa_cons pe_int pa_nil))) (nomark _))))))), ?_⟩
    refine ⟨_, rfl, ea, t.cNoKind, t.cRowError, true, rfl, he, CS.nk.i, CS.k_RowError, _, rfl, iteF ?_⟩
    refine ⟨_, rfl, ea, t.cNoKind, "ValueError", true, rfl, he, CS.nk.i, CS.v_k, _, rfl, iteF ?_⟩
    refine ⟨_, rfl, ea, t.cNoKind, t.cNoKind, true, rfl, he, CS.nk.i, CS.k_NoKind, _, rfl, ea, t.cNoKind, t.cNoOrder, false, rfl, he, CS.nk.i, CS.k_NoOrder, _, rfl, ea, t.cNoKind, t.cNoChange, false, rfl, he, CS.nk.i, CS.k_NoChange, _, rfl, ea, t.cNoKind, t.cNoShape, false, rfl, he, CS.nk.i, CS.k_NoShape, by show 4 ≤ sizeLine; decide, fun c1 hc1 => ?_⟩
    have s1 : Same H (upd H c1 (.lst [.bl true, .bl false, .bl false, .bl false])) := Same.new hc1
    have h1 : (upd H c1 (.lst [.bl true, .bl false, .bl false, .bl false])) c1 = some (.lst [.bl true, .bl false, .bl false, .bl false]) := upd_same
    generalize upd H c1 (.lst [.bl true, .bl false, .bl false, .bl false]) = H1 at s1 h1
    have he1 := s1 ea _ he
    refine ⟨_, rfl, _, rfl, ea, t.cNoKind, t.cNoField, false, rfl, he1, CS.nk.i, CS.k_NoField, _, rfl, ea, t.cNoKind, t.cNoText, false, rfl, he1, CS.nk.i, CS.k_NoText, _, rfl, ea, t.cNoKind, t.cNoLimit, false, rfl, he1, CS.nk.i, CS.k_NoLimit, by show 3 ≤ sizeLine; decide, fun c2 hc2 => ?_⟩
    have s2 : Same H1 (upd H1 c2 (.lst [.bl false, .bl false, .bl false])) := Same.new hc2
    refine ⟨c1, c2, _, _, rfl, rfl, s2 c1 _ h1, upd_same, by show 4 + 3 ≤ sizeLine; decide, fun c3 hc3 => ?_⟩
    have s3 := s2.trans (Same.new (o := .lst ([.bl true, .bl false, .bl false, .bl false] ++ [.bl false, .bl false, .bl false])) hc3)
    have h3 : (upd (upd H1 c2 (.lst [.bl false, .bl false, .bl false])) c3 (.lst ([.bl true, .bl false, .bl false, .bl false] ++ [.bl false, .bl false, .bl false]))) c3 = some (.lst [.bl true, .bl false, .bl false, .bl false, .bl false, .bl false, .bl false]) := upd_same
    generalize upd (upd H1 c2 (.lst [.bl false, .bl false, .bl false])) c3 (.lst ([.bl true, .bl false, .bl false, .bl false] ++ [.bl false, .bl false, .bl false])) = H3 at s3 h3
    have he3 := s3 ea _ he1
    refine ⟨_, rfl, _, rfl, ea, t.cNoKind, t.cNoWarming, false, rfl, he3, CS.nk.i, CS.k_NoWarming, by show 1 ≤ sizeLine; decide, fun c4 hc4 => ?_⟩
    have s4 : Same H3 (upd H3 c4 (.lst [.bl false])) := Same.new hc4
    refine ⟨c3, c4, _, _, rfl, rfl, s4 c3 _ h3, upd_same, by show 7 + 1 ≤ sizeLine; decide, fun c5 hc5 => ?_⟩
    have s5 := s4.trans (Same.new (o := .lst ([.bl true, .bl false, .bl false, .bl false, .bl false, .bl false, .bl false] ++ [.bl false])) hc5)
    have h5 : (upd (upd H3 c4 (.lst [.bl false])) c5 (.lst ([.bl true, .bl false, .bl false, .bl false, .bl false, .bl false, .bl false] ++ [.bl false]))) c5 = some (.lst [.bl true, .bl false, .bl false, .bl false, .bl false, .bl false, .bl false, .bl false]) := upd_same
    generalize upd (upd H3 c4 (.lst [.bl false])) c5 (.lst ([.bl true, .bl false, .bl false, .bl false, .bl false, .bl false, .bl false] ++ [.bl false])) = H5 at s5 h5
    refine ⟨8, rfl, by decide, by decide, fun D1 hD1 => ?_⟩
    have s6 : ∀ u, Same H5 (upd H5 D1 u) := fun u => Same.new hD1
    refine comp_by (n := 8) (fun i ys H6 => ys = ((List.range i).map fun j => V.bl (decide (j = 0))) ∧ H6 = upd H5 D1 (.lst ys)) ⟨rfl, rfl⟩ ?_ ?_
    · rintro ys H6 ⟨rfl, rfl⟩
      refine ⟨Nat.le_refl _, ?_⟩
      refine ⟨c5, D1, _, rfl, rfl, s6 _ c5 _ h5, upd_same, by decide, ?_⟩
      exact k _ (s1.trans (s3.trans (s5.trans (s6 _))))
    · rintro i ys H6 hi ⟨rfl, rfl⟩
      refine ⟨by show i < 8; omega, ?_⟩
      rintro x H7 ⟨rfl, rfl⟩ σo ho
      obtain ⟨o, rfl⟩ := own1 ho
      refine ⟨⟨[_], rfl, rfl⟩, yes_by ⟨_, rfl, _, rfl, rfl, by rw [List.length_map, List.length_range]; omega, upd_same, less_by hi ⟨?_, by rw [upd_upd]⟩⟩⟩
      rw [List.range_succ, List.map_append]
      have hd : (V.int (0 + (i : Int)) = V.int 0) ↔ i = 0 := ⟨fun e => by
        injection e with e
        omega, fun e => by
        subst e
        rfl⟩
      have e1 : decide (V.int (0 + (i : Int)) = V.int 0) = decide (i = 0) := decide_eq_decide.mpr hd
      show _ ++ [V.bl (decide (V.int (0 + (i : Int)) = V.int 0))] = _
      rw [e1]
      rfl
end
end K03
end
section
set_option autoImplicit false
namespace L2
open PySem PySem.Spec PyProof.Rows
def KDct (P : Program) (w : World) (K : PySem.W.Frag) (a : Addr) (kvs : List (Key × V)) : Prop := (a == sysModules) = false ∧ ∃ (o : Obj) (es : Array DictEntry) (ep : Nat) (vs : List (Key × Value)), K.lookup a = some o ∧ o.ExactDict ∧ o.data = .dict es ep ∧ KeysOf (mixKind P w) es ∧ Pairs (mixKind P w) es.toList vs ∧ (vs.map (·.1)).Nodup ∧ KV kvs vs
section
variable {X : Cx}
end
end L2
end
section
set_option autoImplicit false
namespace L2
open PySem PySem.Spec PyProof.Rows
theorem upper_abc : ∀ c ∈ abc.cps.toList, ∀ d ∈ Unicode.upperOf c, d < 16 ^ 8 := by decide +kernel
theorem upper_lt {x : Str} (h : Lw x) : ∀ c ∈ (Txt.upper x).cps.toList, c < 16 ^ 8 := fun c hc => by
  have hc : c ∈ (x.cps.mapIdx fun i c => (Unicode.upperOf c).toArray).flatten := Array.mem_toList_iff.mp hc
  obtain ⟨a, ha, hca⟩ := Array.mem_flatten.mp hc
  obtain ⟨i, hi, rfl⟩ := Array.mem_mapIdx.mp ha
  exact upper_abc _ (h _ (Array.mem_toList_iff.mpr (Array.getElem_mem hi))) c (by simpa using hca)
def rUpper : V → List V → Hp → VK → Prop := fun v vs H Q => ∃ x : Str, v = .str x ∧ vs = [] ∧ Lw x ∧ x.length ≤ 1000 ∧ ∀ y : Str, y.length ≤ 3000 → (∀ c ∈ y.cps.toList, c < 16 ^ 8) → Q (.str y) H
theorem mt_upper {X : Cx} : MtM X "str.upper" rUpper := by
  intro pins s σ H v vs u us Q I rx rv h
  obtain ⟨x, rfl, rfl, lw, hl, q⟩ := h
  obtain ⟨t, rfl⟩ := rx
  cases rv
  have hz : sizeLine = 16777216 := sizeLine_eq
  have l3 : (Txt.upper x).length ≤ 3 * x.length := placed_le3 x _ fun _ c => StrLaws.upperOf_le3 c
  have hf : Builtin.Str.tooLong (placed x fun _ c => Unicode.upperOf c).size = false := by
    have l3' : (placed x fun _ c => Unicode.upperOf c).size ≤ 3 * x.length := l3
    unfold Builtin.Str.tooLong
    exact decide_eq_false (by omega)
  exact call_gives F.slot_str_upper (typeIs_str s x t) F.entry_str_upper (F.args_str_upper_1 _) (gives_str_upper x t hf) ⟨by show (Txt.upper x).length ≤ sizeLine; omega, ⟨.str (Txt.upper x), H, I.tok _, ⟨_, rfl⟩, q _ (by omega) (upper_lt lw)⟩⟩
end L2
end
section
set_option autoImplicit false
namespace L2
open PySem PySem.Spec PyProof.Rows
theorem bt_repr : bootBuiltins "repr" = some (.builtin "repr") := by decide +kernel
mutual
theorem RdV.same {H H' : Hp} (s : Same H H') : ∀ {v : V} {d : PyData}, RdV H v d → RdV H' v d
  | _, _, .non => .non
  | _, _, .bl b => .bl b
  | _, _, .int i => .int i
  | _, _, .str x => .str x
  | _, _, .tup e q => .tup (s _ _ e) (RdA.same s q)
  | _, _, .lst e q => .lst (s _ _ e) (RdA.same s q)
  | _, _, .dct e q => .dct (s _ _ e) (RdA.same s q)
theorem RdA.same {H H' : Hp} (s : Same H H') : ∀ {vs : List V} {ds : List PyData}, RdA H vs ds → RdA H' vs ds
  | _, _, .nil => .nil
  | _, _, .cons q r => .cons (RdV.same s q) (RdA.same s r)
end
structure Thing (H : Hp) (v : V) (d : PyData) : Prop where
  rd : RdV H v d
  sh : d.showable = true
  nl : d.hasDict = true → noL d = true
  dp : d.depth ≤ 60
  sz : d.shown.length ≤ sizeLine
theorem Thing.same {H H' : Hp} {v : V} {d : PyData} (h : Thing H v d) (s : Same H H') : Thing H' v d := ⟨h.rd.same s, h.sh, h.nl, h.dp, h.sz⟩
end L2
namespace K03
open PySem PyProof.Rows L2
theorem nn (x : Str) : ¬ (!decide (V.str x = V.str x)) = true := by
  rw [decide_eq_true rfl]
  exact Bool.false_ne_true
theorem clo_none {ns : List Str} {ad : Str → Addr} {x : Str} (h : ¬ x ∈ ns) : valV (cloK ns ad) (.inr x) = none := by
  cases q : valV (cloK ns ad) (.inr x) with
  | none => rfl
  | some v =>
    have hm : (Sum.inr x : Key) ∈ (cloK ns ad).map (·.1) := valV_key.mp (by rw [q]; rfl)
    unfold cloK at hm
    rw [List.map_map] at hm
    obtain ⟨y, hy, e⟩ := List.mem_map.mp hm
    injection e with e
    rw [e] at hy
    exact absurd hy h
theorem NotS.same {K : PySem.W.Frag} {H H' : Hp} {v : V} (h : NotS K H v) (s : Same H H') : NotS K H' v := by
  rcases SOr.same (.inr h) s with ⟨x, rfl⟩ | q
  · obtain ⟨n, ty, e⟩ := h
    cases ty
    rw [kit_same K "str"] at e
    cases e
  · exact q
section
variable {P : Program} {w : World} {K : PySem.W.Frag} {mg : Str → Option Value} {base : Heap} {t : Adr}
def spDoor : Sp := fun vs H Q _ => ∃ (n : Nat) (v th : V) (f : Fam) (d : PyData) (cd : Addr) (ad : Str → Addr), vs = [.int n, v, th, .ref cd] ∧ n < 4 ∧ Dp H (famT f) v ∧ GoodF f ∧ Thing H th d ∧ CloAt H cd f ad (K03.above f) ∧ ∀ H', Same H H' → Q (.bl true) H'
theorem ok_door (D : Defs K mg t) (CS : Clss K mg t) : FnOk P w K mg base CX0 7 t._law_door.1 t._law_door.2 ["_law_door_here", "_law_family_here", "_law_thing", "_law_closed_here"] spDoor := by
  have G__law_ask : FnOk P w K mg base (CXe P w) 6 t._law_ask.1 t._law_ask.2 _ (spAsk K t) := ok_ask D CS
  have G__law_only : FnOk P w K mg base CX0 1 t._law_only.1 t._law_only.2 _ (spOnly t) := ok_only D CS
  have hz : sizeLine = 16777216 := sizeLine_eq
  refine D._law_door.fn.ok sc__law_door (fun vs H Q E h => ?_) (fun cdv A outer s H vs Q E hr h => ?_)
  · obtain ⟨n, v, th, f, d, cd, ad, rfl, _⟩ := h
    rfl
  · obtain ⟨n, v, th, f, d, cd, ad, rfl, hn, dv, gf, tg, cl, k⟩ := h
    refine ⟨_, (pss_cons (ps_set (i := 4) sc__law_door.nd rfl (Or.inl rfl) pe_non)
      (pss_cons (ps_set (i := 5) sc__law_door.nd rfl (Or.inl rfl) pe_non)
      (pss_cons (ps_set (i := 6) sc__law_door.nd rfl (Or.inl rfl) (pe_callB (call_repr hr) (by rfl) D.b_repr bt_repr (pa_cons (pv 2) pa_nil)))
      (pss_cons (ps_tryA (i := 4) sc__law_door.nd rfl (Or.inl rfl) D._law_ask G__law_ask (hr.mono (by omega)) (by rfl) (pa_cons (pv 0) (pa_cons (pv 1) (pa_cons (pv 2) pa_nil))) ⟨rfl, rfl⟩
      (ph_cons (i := 7) (by rfl) CS.m_RowError sc__law_door.nd rfl rfl (fun ea => (pss_one (ps_set (i := 5) sc__law_door.nd rfl (Or.inl rfl) (pv 7))))
      ph_nil))
      (pss_cons (ps_if (pt_cmpR op_ne (pe_callB (call_repr hr) (by rfl) D.b_repr bt_repr (pa_cons (pv 2) pa_nil)) (pv 6) (nomark _))
      (pss_one (ps_ret pe_bl))
      pss_nil)
      (pss_cons (ps_if (PW.pt (pw_or (pt_not (pt_val (pe_callB call_isinst (by rfl) D.b_isinstance bt_isinstance (pa_cons (pv 2) (pa_cons (pe_bltn (v := V.ty "str") rfl D.b_str bt_str rfl) pa_nil))))) (pw_or1 (pt_cmp (pc_dnotin (hu_of hr) (pv 2) (pv 3))))))
      (pss_one (ps_ret (pe_and (pe_cmpR op_notN (pv 5) pe_non (nomark _)) (pe_one (pe_callF D._law_only G__law_only (hr.mono (by omega)) (by rfl) (pa_cons (pv 5) (pa_cons pe_int pa_nil)))))))
      pss_nil)
      (pss_cons (ps_if (pt_cmpR op_eq (pv 0) pe_int (nomark _))
      (pss_one (ps_ret (pe_cmpR (op_eqT (hu10 hr)) (pv 4) (pe_callTy call_tuple_of (by rfl) D.b_tuple bt_tuple (pa_cons (pe_dget (hu_of hr) (pv 3) (pv 2) (fun _ _ => rfl)) pa_nil)) (nomark _))))
      pss_nil)
      (pss_cons (ps_if (pt_cmpR op_eq (pv 0) pe_int (nomark _))
      (pss_one (ps_ret (pe_cmpR (op_eqT (hu10 hr)) (pv 4) (pe_callTy call_tuple_of (by rfl) D.b_tuple bt_tuple (pa_cons (pe_compD rfl (CompScope.of ["_law_one"] [2, 3] ["_law_one", "_law_thing", "_law_closed_here"] (defScope (top 40)) ["_law_door_here", "_law_family_here", "_law_thing", "_law_closed_here", "_law_told", "_law_caught", "_law_text", "_law_e"] rfl rfl (by decide +kernel)) ⟨fun _ _ _ _ _ => (pg_name (i := 0) (show List.Nodup [("_law_one" : Str), ("_law_thing" : Str), ("_law_closed_here" : Str)] by decide +kernel) rfl (Or.inl (lookup_relabel_local rfl)) (.inr (lookup_relabel_local rfl))), fun _ _ _ _ _ => (pts_one (pt_cmpR (op_in_K (K := K) rfl) (pv 1) (pe_dget (hu_of hr) (pv 2) (pv 0) (fun _ _ => rfl)) (by with_unfolding_all rfl))), fun _ _ _ _ _ => (pv 0)⟩ (pv 3)) pa_nil)) (nomark _))))
      pss_nil)
      (pss_one (ps_ret (pe_or (pe_cmpR op_isN (pv 5) pe_non (nomark _)) (pe_one (pe_not (pe_callB (call_isX_K (K := K) rfl) (by rfl) D.b_isinstance bt_isinstance (pa_cons (pv 5) (pa_cons (pe_glob (v := V.ref t.cNoKind) (by rfl) CS.nk.m rfl) pa_nil)))))))))))))))), ?_⟩
    have sor : SOr K H th := K03.RdV.sor tg.rd
    refine ⟨_, rfl, th, d, rfl, tg.rd, tg.sh, tg.nl, tg.dp, tg.sz, ?_⟩
    refine ⟨_, rfl, _, rfl, _, rfl, n, v, th, f, rfl, hn, dv, gf, sor, fun x e hx H2 s2 => ⟨fun q q0 q1 => ?_, fun hn3 => ?_⟩, fun hnot H2 s2 => ?_⟩
    · subst e
      have rd2 := (tg.same s2).rd
      refine ⟨_, rfl, _, d, rfl, rd2, tg.sh, tg.nl, tg.dp, tg.sz, _, rfl, rfl, _, rfl, iteNeg (nn _) ?_⟩
      have hcd2 := s2 cd _ cl.dict
      have cll := fun y hy => s2 _ _ (cl.lists y hy)
      have lv : ∀ xs : List Str, ∀ t ∈ xs.map T.str, Lv 5 t := fun xs t ht => by
        obtain ⟨y, _, rfl⟩ := List.mem_map.mp ht
        trivial
      refine ⟨_, rfl, _, _, _, true, rfl, .str x, kit_same K "str", _, rfl, iteF ?_⟩
      refine ⟨_, rfl, _, rfl, cd, _, rfl, .inl ⟨_, .inr x, .inl hcd2, rfl, rfl⟩, ?_⟩
      rw [cloK_val hx]
      refine ⟨_, rfl, iteF ?_⟩
      rcases (by omega : n = 0 ∨ n = 1 ∨ (n = 2 ∨ n = 3)) with rfl | rfl | h23
      · refine ⟨_, rfl, rfl, _, rfl, itePos (by decide) ?_⟩
        have hq := q0 rfl
        refine ⟨_, rfl, _, rfl, _, rfl, cd, .ref (ad x), rfl, .inl ⟨_, .inr x, .inl hcd2, rfl, (cloK_val hx).symm⟩, ad x, _, rfl, .inl ⟨SqL.of (cll x hx), fun l hl => ?_⟩⟩
        refine ⟨q, l, _, _, _, _, rfl, rfl, by rw [upd_ne (ne_of_none hq hl)]; exact hq, upd_same, DpL.strs _, DpL.strs _, lv _, ?_⟩
        rw [dcd_t rfl]
        exact k _ (s2.trans (Same.new hl))
      · refine ⟨_, rfl, rfl, _, rfl, iteNeg (by decide) ?_⟩
        refine ⟨_, rfl, rfl, _, rfl, itePos (by decide) ?_⟩
        have hq := q1 rfl
        have hnl : (nms f).length = f.length := List.length_map _
        have f7 := gf.len
        have hkl : (cloK (nms f) ad).length = (nms f).length := by unfold cloK; exact List.length_map _
        refine ⟨_, rfl, _, rfl, cd, _, rfl, hcd2, fun o D' hD' => ?_⟩
        have D'd : D' ≠ cd := fun e => by rw [e, upd_same] at hD'; cases hD'
        have hD2 : H2 D' = none := by rw [upd_ne D'd] at hD'; exact hD'
        refine comp_by (n := (cloK (nms f) ad).length) (fun i ys H3 => ys = (((nms f).take i).filter fun o => dcd (Reach f o x)).map V.str ∧ H3 = upd (upd H2 cd (.frz o (.dK (cloK (nms f) ad)))) D' (.lst ys)) ⟨rfl, rfl⟩ ?_ ?_
        · rintro ys H3 ⟨rfl, rfl⟩
          rw [List.take_of_length_le (by omega)]
          refine ⟨⟨by rw [upd_ne D'd.symm, upd_same], Nat.le_refl _⟩, by rw [upd_ne D'd.symm, upd_same], D', _, rfl, .inl ⟨SqL.of (by rw [upd_ne D'd, upd_same]), fun l hl => ?_⟩⟩
          have Sf : ∀ b o', H2 b = some o' → (upd (upd (upd (upd H2 cd (.frz o (.dK (cloK (nms f) ad)))) D' (.lst (((nms f).filter fun o => dcd (Reach f o x)).map V.str))) cd (.dK (cloK (nms f) ad))) l (.tup (((nms f).filter fun o => dcd (Reach f o x)).map V.str))) b = some o' := fun b o' e2 => by
            have bD : b ≠ D' := ne_of_none e2 hD2
            by_cases bd : b = cd
            · subst bd
              have bl : b ≠ l := fun z => by
                rw [← z, upd_same] at hl
                cases hl
              rw [upd_ne bl, upd_same, ← hcd2, e2]
            · have bl : b ≠ l := fun z => by
                rw [← z, upd_ne bd, upd_ne bD, upd_ne bd, e2] at hl
                cases hl
              rw [upd_ne bl, upd_ne bd, upd_ne bD, upd_ne bd]
              exact e2
          refine ⟨q, l, _, _, _, _, rfl, rfl, Sf q _ hq, upd_same, DpL.strs _, DpL.strs _, lv _, ?_⟩
          have e0 : K03.below f x = (nms f).filter fun o => dcd (Reach f o x) := rfl
          rw [e0, dcd_t rfl]
          exact k _ fun b o' e => Sf b o' (s2 b o' e)
        · rintro i ys H3 hi ⟨rfl, rfl⟩
          refine ⟨⟨by rw [upd_ne D'd.symm, upd_same], hi⟩, ?_⟩
          rintro y H4 ⟨rfl, kv, ekv, rfl⟩ σo ho
          obtain ⟨oo, rfl⟩ := own1 ho
          have hil : i < (nms f).length := by omega
          have hy : (nms f)[i] ∈ nms f := List.getElem_mem hil
          have ekv2 : kv = (.inr (nms f)[i], .ref (ad (nms f)[i])) := by
            unfold cloK at ekv
            rw [List.getElem?_map, List.getElem?_eq_getElem hil] at ekv
            exact (Option.some.inj ekv).symm
          subst ekv2
          have hlen : ((((nms f).take i).filter fun o => dcd (Reach f o x)).map V.str).length ≤ 7 := by
            rw [List.length_map]
            refine Nat.le_trans (List.length_filter_le _ _) ?_
            rw [List.length_take]
            omega
          have ay : ad (nms f)[i] ≠ D' := ne_of_none (cll _ hy) hD2
          have ac : ad (nms f)[i] ≠ cd := ne_of (cll _ hy) hcd2 (fun z => nomatch z)
          have hin : x ∈ K03.above f (nms f)[i] ↔ Reach f (nms f)[i] x := by
            unfold K03.above
            rw [List.mem_filter, dcd_iff]
            exact ⟨fun q => q.2, fun q => ⟨hx, q⟩⟩
          refine ⟨⟨[_], rfl, rfl⟩, _, rfl, _, rfl, _, rfl, cd, _, rfl, .inl ⟨_, .inr (nms f)[i], .inr ⟨o, by rw [upd_ne D'd.symm, upd_same]⟩, rfl, (cloK_val hy).symm⟩, ad (nms f)[i], _, rfl, .inl (SqL.of (by rw [upd_ne ay, upd_ne ac]; exact cll _ hy)), rfl, flat_strs _, _, rfl, ite2 (fun hb => ?_) (fun hb => ?_)⟩
          · have hR : Reach f (nms f)[i] x := hin.mp (of_decide_eq_true (by rw [← inV_strs]; exact hb))
            refine ⟨_, rfl, by omega, upd_same, less_by hi ⟨?_, by rw [upd_upd]⟩⟩
            rw [take_filter (List.getElem?_eq_getElem hil), if_pos (dcd_t hR), List.map_append]
            rfl
          · have hR : ¬ Reach f (nms f)[i] x := fun h => hb (by show inV (.str x) _ = true; rw [inV_strs]; exact decide_eq_true (hin.mpr h))
            refine less_by hi ⟨?_, rfl⟩
            rw [take_filter (List.getElem?_eq_getElem hil), if_neg (by rw [dcd_f hR]; exact Bool.false_ne_true), List.append_nil]
      · refine ⟨_, rfl, rfl, _, rfl, iteNeg (by rcases h23 with rfl | rfl <;> decide) ?_⟩
        refine ⟨_, rfl, rfl, _, rfl, iteNeg (by rcases h23 with rfl | rfl <;> decide) ?_⟩
        exact ⟨_, rfl, rfl, _, rfl, itePos (by rw [decide_eq_true rfl]) (k H2 s2)⟩
    · refine ⟨_, rfl, true, CS.x_o, itePos rfl fun ea hea => ?_⟩
      subst e
      have s3 : Same H (upd H2 ea (ExcO ea t.cNoOrder)) := s2.trans (Same.new hea)
      have he3 : (upd H2 ea (ExcO ea t.cNoOrder)) ea = some (ExcO ea t.cNoOrder) := upd_same
      generalize upd H2 ea (ExcO ea t.cNoOrder) = H3 at s3 he3
      refine ⟨_, rfl, ?_⟩
      refine ⟨_, rfl, _, d, rfl, (tg.same s3).rd, tg.sh, tg.nl, tg.dp, tg.sz, _, rfl, rfl, _, rfl, iteNeg (nn _) ?_⟩
      refine ⟨_, rfl, _, _, _, true, rfl, .str x, kit_same K "str", _, rfl, iteF ?_⟩
      refine ⟨_, rfl, _, rfl, cd, _, rfl, .inl ⟨_, .inr x, .inl (s3 cd _ cl.dict), rfl, rfl⟩, ?_⟩
      rw [cloK_val hx]
      refine ⟨_, rfl, iteF ?_⟩
      subst hn3
      refine ⟨_, rfl, rfl, _, rfl, iteNeg (by decide) ?_⟩
      refine ⟨_, rfl, rfl, _, rfl, iteNeg (by decide) ?_⟩
      exact ⟨_, rfl, rfl, _, rfl, iteNeg (by rw [decide_eq_false (fun z => nomatch z)]; exact Bool.false_ne_true) ⟨_, rfl, ea, t.cNoOrder, t.cNoKind, false, rfl, he3, CS.no.i, CS.o_NoKind, _, rfl, k H3 s3⟩⟩
    · refine ⟨_, rfl, true, CS.x_k, itePos rfl fun ea hea => ?_⟩
      have s3 : Same H (upd H2 ea (ExcO ea t.cNoKind)) := s2.trans (Same.new hea)
      have he3 : (upd H2 ea (ExcO ea t.cNoKind)) ea = some (ExcO ea t.cNoKind) := upd_same
      generalize upd H2 ea (ExcO ea t.cNoKind) = H3 at s3 he3
      refine ⟨_, rfl, ?_⟩
      refine ⟨_, rfl, _, d, rfl, (tg.same s3).rd, tg.sh, tg.nl, tg.dp, tg.sz, _, rfl, rfl, _, rfl, iteNeg (nn _) ?_⟩
      rcases sor with ⟨x, rfl⟩ | ns
      · refine ⟨_, rfl, _, _, _, true, rfl, .str x, kit_same K "str", _, rfl, iteF ?_⟩
        refine ⟨_, rfl, _, rfl, cd, _, rfl, .inl ⟨_, .inr x, .inl (s3 cd _ cl.dict), rfl, rfl⟩, ?_⟩
        rw [clo_none (hnot x rfl)]
        refine ⟨_, rfl, iteT ?_⟩
        refine ⟨_, rfl, rfl, _, rfl, itePos (by rw [decide_eq_false (fun z => nomatch z)]; rfl) ?_⟩
        exact ⟨_, rfl, ea, rfl, he3, fun H4 s4 => k H4 (s3.trans s4)⟩
      · obtain ⟨m, ty, e⟩ := (NotS.same ns s3)
        refine ⟨_, rfl, _, _, _, false, rfl, ty, e, _, rfl, iteT ?_⟩
        refine ⟨_, rfl, rfl, _, rfl, itePos (by rw [decide_eq_false (fun z => nomatch z)]; rfl) ?_⟩
        exact ⟨_, rfl, ea, rfl, he3, fun H4 s4 => k H4 (s3.trans s4)⟩
end
end K03
end
section
set_option autoImplicit false
namespace L2
open PySem PySem.Spec PyProof.Rows
structure Shw (d : PyData) (n k : Nat) : Prop where
  sh : d.showable = true
  sz : d.shown.length ≤ n
  dp : d.depth ≤ k
theorem Shw.up {d : PyData} {n k n' k' : Nat} (h : Shw d n k) (a : n ≤ n') (b : k ≤ k') : Shw d n' k' := ⟨h.sh, Nat.le_trans h.sz a, Nat.le_trans h.dp b⟩
def Cps (x : Str) : Prop := ∀ c ∈ x.cps.toList, c < 16 ^ 8
theorem Cps.app {x y : Str} (h : Cps x) (g : Cps y) : Cps (x ++ y) := fun c hc => by
  have hc : c ∈ (x.cps ++ y.cps).toList := hc
  rw [Array.toList_append] at hc
  rcases List.mem_append.mp hc with q | q
  · exact h c q
  · exact g c q
theorem Shw.str {x : Str} {m : Nat} (h : Cps x) (hm : x.length ≤ m) : Shw (.str x) (10 * m + 2) 0 := by
  refine ⟨by simp only [PyData.showable], ?_, by simp only [PyData.depth]; exact Nat.le_refl _⟩
  have := PySem.StrLaws.reprText_len x h
  simp only [PyData.shown]
  omega
theorem Shw.non : Shw .none 4 0 := ⟨by simp only [PyData.showable], by simp only [PyData.shown]; decide +kernel, by simp only [PyData.depth]; exact Nat.le_refl _⟩
theorem Shw.bl (b : Bool) : Shw (.bool b) 5 0 := ⟨by simp only [PyData.showable], by simp only [PyData.shown]; cases b <;> decide +kernel, by simp only [PyData.depth]; exact Nat.le_refl _⟩
theorem Shw.nat {i : Int} (h0 : 0 ≤ i) (h : i < 1000000000) : Shw (.int i) 9 0 := by
  refine ⟨?_, ?_, by simp only [PyData.depth]; exact Nat.le_refl _⟩
  · simp only [PyData.showable]
    refine decide_eq_true ?_
    by_cases e : i.natAbs = 0
    · rw [e]; decide
    · exact (Nat.log2_lt e).mpr (Nat.lt_trans (show i.natAbs < 2 ^ 30 by have : (2 : Nat) ^ 30 = 1073741824 := by decide
                                                                         omega) (Nat.pow_lt_pow_right (by decide) (by decide)))
  · simp only [PyData.shown]
    exact toString_length_le h0 (by decide) h
theorem Shw.neg1 : Shw (.int (-1)) 2 0 := ⟨by simp only [PyData.showable]; decide +kernel, by simp only [PyData.shown]; decide +kernel, by simp only [PyData.depth]; exact Nat.le_refl _⟩
theorem shwA {n k : Nat} : ∀ {ds : List PyData}, (∀ d ∈ ds, Shw d n k) → PyData.showableAll ds = true ∧ piled (PyData.shownAll ds) ≤ ds.length * (n + 2) ∧ PyData.depthAll ds ≤ k
  | [], _ => by
    refine ⟨by simp only [PyData.showableAll], ?_, by simp only [PyData.depthAll]; exact Nat.zero_le _⟩
    simp only [PyData.shownAll]
    exact Nat.zero_le _
  | d :: ds, h => by
    obtain ⟨a, b, c⟩ := shwA fun x hx => h x (List.mem_cons_of_mem _ hx)
    obtain ⟨a1, b1, c1⟩ := h d List.mem_cons_self
    refine ⟨by simp only [PyData.showableAll, a, a1, Bool.and_self], ?_, ?_⟩
    · simp only [PyData.shownAll]
      rw [piled_cons, List.length_cons, Nat.add_mul]
      omega
    · simp only [PyData.depthAll]
      exact Nat.max_le.mpr ⟨c1, c⟩
theorem textFrom_le : ∀ (ts : List Str) (k : Nat) (acc : Str), (textFrom k acc ts).length ≤ acc.length + piled ts
  | [], k, acc => Nat.le_refl _
  | t :: r, k, acc => by
    have ih := textFrom_le r (k + 1) (acc ++ (if k > 0 then ", " else "" : String) ++ t)
    have e : (acc ++ (if k > 0 then ", " else "" : String) ++ t).length = acc.length + (if k > 0 then 2 else 0) + t.length := by
      rw [strLen_append, strLen_append]
      split <;> rfl
    rw [e] at ih
    rw [piled_cons]
    show (textFrom (k + 1) _ r).length ≤ _
    have : (if k > 0 then 2 else 0 : Nat) ≤ 2 := by split <;> omega
    omega
theorem join_le (ts : List Str) : (Str.join ", " ts).length ≤ piled ts := by
  cases ts with
  | nil => exact Nat.zero_le _
  | cons t r =>
    have := join_length_add (t :: r) (by simp)
    omega
theorem Shw.lst {ds : List PyData} {n k : Nat} (h : ∀ d ∈ ds, Shw d n k) : Shw (.list ds) (ds.length * (n + 2) + 2) (k + 1) := by
  obtain ⟨a, b, c⟩ := shwA h
  refine ⟨by simp only [PyData.showable]; exact a, ?_, by simp only [PyData.depth]; omega⟩
  simp only [PyData.shown]
  unfold listText
  rw [strLen_append]
  have e1 : (("]" : String) : Str).length = 1 := rfl
  have e2 : (("[" : String) : Str).length = 1 := rfl
  have := textFrom_le (PyData.shownAll ds) 0 "["
  omega
theorem Shw.tup {ds : List PyData} {n k : Nat} (h : ∀ d ∈ ds, Shw d n k) : Shw (.tuple ds) (ds.length * (n + 2) + 3) (k + 1) := by
  obtain ⟨a, b, c⟩ := shwA h
  refine ⟨by simp only [PyData.showable]; exact a, ?_, by simp only [PyData.depth]; omega⟩
  simp only [PyData.shown]
  unfold tupleText
  rw [strLen_append, strLen_append]
  have e1 : (("(" : String) : Str).length = 1 := rfl
  have e2 : ((if (PyData.shownAll ds).length == 1 then ",)" else ")" : String) : Str).length ≤ 2 := by split <;> decide
  have := join_le (PyData.shownAll ds)
  omega
theorem Shw.dct0 : Shw (.dict []) 2 1 := ⟨by simp only [PyData.showable, PyData.showableKv], by simp only [PyData.shown, PyData.shownKv]; decide +kernel, by simp only [PyData.depth, PyData.depthKv]; exact Nat.le_refl _⟩
theorem Shw.dct1 {a b : PyData} {n m k : Nat} (ha : Shw a n k) (hb : Shw b m k) : Shw (.dict [(a, b)]) (n + m + 4) (k + 1) := by
  refine ⟨by simp only [PyData.showable, PyData.showableKv, ha.sh, hb.sh, Bool.and_self], ?_, ?_⟩
  · simp only [PyData.shown, PyData.shownKv]
    unfold dictText
    show ((("{" : Str) ++ (a.shown ++ ": " ++ b.shown)) ++ "}" : Str).length ≤ _
    rw [strLen_append, strLen_append, strLen_append, strLen_append]
    have e1 : (("{" : String) : Str).length = 1 := rfl
    have e2 : (("}" : String) : Str).length = 1 := rfl
    have e3 : ((": " : String) : Str).length = 2 := rfl
    have := ha.sz
    have := hb.sz
    omega
  · simp only [PyData.depth, PyData.depthKv]
    have := ha.dp
    have := hb.dp
    omega
mutual
def toD : T → PyData
  | .non => .none
  | .int i => .int i
  | .str x => .str x
  | .tup ts => .tuple (toDA ts)
def toDA : List T → List PyData
  | [] => []
  | t :: ts => toD t :: toDA ts
end
theorem toDA_map : ∀ ts : List T, toDA ts = ts.map toD
  | [] => by rw [toDA, List.map_nil]
  | t :: ts => by rw [toDA, List.map_cons, toDA_map ts]
mutual
theorem Dp.rd {H : Hp} : ∀ {t : T} {v : V}, Dp H t v → RdV H v (toD t)
  | .non, _, e => by rw [Dp] at e; rw [toD, e]; exact .non
  | .int i, _, e => by rw [Dp] at e; rw [toD, e]; exact .int i
  | .str x, _, e => by rw [Dp] at e; rw [toD, e]; exact .str x
  | .tup ts, v, e => by
    rw [Dp] at e
    obtain ⟨a, xs, rfl, ha, hl⟩ := e
    rw [toD]
    exact .tup ha (DpL.rd hl)
theorem DpL.rd {H : Hp} : ∀ {ts : List T} {xs : List V}, DpL H ts xs → RdA H xs (toDA ts)
  | [], _, e => by rw [DpL] at e; rw [toDA, e]; exact .nil
  | t :: ts, xs, e => by
    rw [DpL] at e
    obtain ⟨x, r, rfl, h1, h2⟩ := e
    rw [toDA]
    exact .cons (Dp.rd h1) (DpL.rd h2)
end
mutual
theorem noL_toD : ∀ t : T, noL (toD t) = true
  | .non => by rw [toD, noL]
  | .int i => by rw [toD, noL]
  | .str x => by rw [toD, noL]
  | .tup ts => by rw [toD, noL]; exact noLA_toD ts
theorem noLA_toD : ∀ ts : List T, noLA (toDA ts) = true
  | [] => by rw [toDA, noLA]
  | t :: ts => by rw [toDA, noLA, noL_toD t, noLA_toD ts]; rfl
end
mutual
theorem hasDict_toD : ∀ t : T, (toD t).hasDict = false
  | .non => by rw [toD, PyData.hasDict]
  | .int i => by rw [toD, PyData.hasDict]
  | .str x => by rw [toD, PyData.hasDict]
  | .tup ts => by rw [toD, PyData.hasDict]; exact hasDictA_toD ts
theorem hasDictA_toD : ∀ ts : List T, PyData.hasDictAll (toDA ts) = false
  | [] => by rw [toDA, PyData.hasDictAll]
  | t :: ts => by rw [toDA, PyData.hasDictAll, hasDict_toD t, hasDictA_toD ts]; rfl
end
theorem Lw.cps {x : Str} (h : Lw x) : Cps x := h.lt
end L2
end
section
set_option autoImplicit false
namespace K03
open PySem PyProof.Rows L2
theorem offT {H H' : Hp} {p : Addr} (hp : Pu H p) (o : Off p H H') : Tups H H' := fun c zs e => by
  refine o c _ (fun h => ?_) e
  obtain ⟨a, b, d, q⟩ := hp
  rw [h, q] at e
  cases e
theorem all_cons {α : Type} {P : α → Prop} {x : α} {l : List α} (h : P x) (r : ∀ v ∈ l, P v) : ∀ v ∈ x :: l, P v := fun v hv => by
  rcases List.mem_cons.mp hv with rfl | hv
  · exact h
  · exact r v hv
theorem all_nil {α : Type} {P : α → Prop} : ∀ v ∈ ([] : List α), P v := fun v hv => nomatch hv
theorem thing_of {H : Hp} {v : V} {d : PyData} {n k : Nat} (rd : RdV H v d) (s : Shw d n k) (nl : d.hasDict = true → noL d = true) (hn : n ≤ 1000000) (hk : k ≤ 60) : ∃ d, Thing H v d := ⟨d, rd, s.sh, nl, Nat.le_trans s.dp hk, Nat.le_trans s.sz (by rw [sizeLine_eq]; omega)⟩
theorem thing_str {H : Hp} {x : Str} (c : Cps x) (l : x.length ≤ 3001) : ∃ d, Thing H (.str x) d := thing_of (.str x) (Shw.str c l) (fun h => by rw [noL]) (by decide) (by decide)
theorem shw_row {f : Fam} (gf : GoodF f) {r : Str × List Str} (hr : r ∈ f) : Shw (toD (rowT r)) 14069 2 := by
  have w1 := gf.lw r.1 (List.mem_map.mpr ⟨r, hr, rfl⟩)
  have h1 : Shw (.str r.1) 1002 0 := Shw.str w1.2.cps w1.1
  have h2 : Shw (.tuple (toDA (r.2.map T.str))) 7031 1 := by
    rw [toDA_map]
    refine (Shw.tup (n := 1002) (k := 0) fun d hd => ?_).up ?_ (Nat.le_refl _)
    · obtain ⟨t, ht, rfl⟩ := List.mem_map.mp hd
      obtain ⟨x, hx, rfl⟩ := List.mem_map.mp ht
      have w2 := gf.lw x (gf.sub r hr x hx)
      rw [toD]
      exact Shw.str w2.2.cps w2.1
    · rw [List.length_map, List.length_map]
      have := gf.el r hr
      omega
  unfold rowT
  rw [toD, toDA, toDA, toDA, toD, toD]
  exact Shw.tup (n := 7031) (k := 1) (all_cons (h1.up (by decide) (by decide)) (all_cons h2 all_nil))
theorem shw_fam {f : Fam} (gf : GoodF f) : ∀ d ∈ toDA (f.map rowT), Shw d 14069 2 := fun d hd => by
  rw [toDA_map] at hd
  obtain ⟨t, ht, rfl⟩ := List.mem_map.mp hd
  obtain ⟨r, hr, rfl⟩ := List.mem_map.mp ht
  exact shw_row gf hr
section
variable {P : Program} {w : World} {K : PySem.W.Frag} {mg : Str → Option Value} {base : Heap} {t : Adr}
def spStranger : Sp := fun vs H Q _ => ∃ (p : Addr) (v : V) (f : Fam), vs = [.ref p, v] ∧ Pu H p ∧ Dp H (famT f) v ∧ GoodF f ∧ ∀ (th : V) (d : PyData) H', Thing H' th d → Off p H H' → Pu H' p → Q th H'
theorem ok_stranger (D : Defs K mg t) : FnOk P w K mg base CX0 3 t._law_stranger.1 t._law_stranger.2 ["_law_purse_here", "_law_family_here"] spStranger := by
  have G__law_take : FnOk P w K mg base CX0 1 t._law_take.1 t._law_take.2 _ spTake := ok_take D
  have G__law_word : FnOk P w K mg base CX0 2 t._law_word.1 t._law_word.2 _ spWord := ok_word D
  have hz : sizeLine = 16777216 := sizeLine_eq
  refine D._law_stranger.fn.ok sc__law_stranger (fun vs H Q E h => ?_) (fun cdv A outer s H vs Q E hr h => ?_)
  · obtain ⟨p, v, f, rfl, _⟩ := h
    rfl
  · obtain ⟨p, v, f, rfl, hp, dv, gf, k⟩ := h
    refine ⟨_, (@pss_cons _ _ _ _ _ (ps_set (i := 2) sc__law_stranger.nd rfl (Or.inl rfl) (@pe_callF _ _ _ _ _ _ _ _ _ _ _ _ _ D._law_take G__law_take (hr.mono (by omega)) (by rfl) (@pa_cons _ _ _ _ _ (pv 0) (@pa_cons _ _ _ _ _ pe_int pa_nil (by rfl)) (by rfl)) (by decide) (by rfl) (by rfl)))
      (@pss_cons _ _ _ _ _ (ps_setc (i := 3) rfl sc__law_stranger.nd rfl (Or.inl rfl) (CompScope.of ["_law_row"] [] ["_law_row"] (defScope (top 38)) ["_law_purse_here", "_law_family_here", "_law_pick", "_law_kinds", "_law_k", "_law_kind", "_law_word_here", "_law_some_here"] rfl rfl (by decide +kernel)) ⟨fun _ _ _ _ _ => (pg_name (i := 0) (show List.Nodup [("_law_row" : Str)] by decide +kernel) rfl (Or.inl (lookup_relabel_local rfl)) (.inr (lookup_relabel_local rfl))), fun _ _ _ _ _ => pts_nil, fun _ _ _ _ _ => (@pe_ix _ _ _ _ _ _ _ (ix_tup_K (K := K) rfl) (pv 0) pe_int (fun _ _ => rfl))⟩ (pi_tup (pv 1)))
      (@pss_cons _ _ _ _ _ (ps_set (i := 4) sc__law_stranger.nd rfl (Or.inl rfl) (@pe_callF _ _ _ _ _ _ _ _ _ _ _ _ _ D._law_take G__law_take (hr.mono (by omega)) (by rfl) (@pa_cons _ _ _ _ _ (pv 0) (@pa_cons _ _ _ _ _ (@pe_callB _ _ _ _ _ _ _ _ _ call_len_seq (by rfl) D.b_len bt_len (@pa_cons _ _ _ _ _ (pv 3) pa_nil (by rfl)) (by decide) (by decide) (by rfl) (by rfl)) pa_nil (by rfl)) (by rfl)) (by decide) (by rfl) (by rfl)))
      (@pss_cons _ _ _ _ _ (ps_set (i := 5) sc__law_stranger.nd rfl (Or.inl rfl) (@pe_ix _ _ _ _ _ _ _ ix_list (pv 3) (pv 4) (fun _ _ => rfl)))
      (@pss_cons _ _ _ _ _ (ps_set (i := 6) sc__law_stranger.nd rfl (Or.inl rfl) (@pe_callF _ _ _ _ _ _ _ _ _ _ _ _ _ D._law_word G__law_word (hr.mono (by omega)) (by rfl) (@pa_cons _ _ _ _ _ (pv 0) (@pa_cons _ _ _ _ _ (pv 3) pa_nil (by rfl)) (by rfl)) (by decide) (by rfl) (by rfl)))
      (@pss_cons _ _ _ _ _ (@ps_set _ _ 7 _ _ _ _ sc__law_stranger.nd rfl (Or.inl rfl) (@pe_lst _ _ _ _ (@pa_cons _ _ _ _ _ (pv 6) (@pa_cons _ _ _ _ _ (@pe_op _ _ _ _ _ _ _ _ op_add_str (pv 5) (pe_slice sl_str (pv 5) po_none (po_some pe_int))) (@pa_cons _ _ _ _ _ (pe_slice sl_str (pv 5) (po_some pe_int) po_none) (@pa_cons _ _ _ _ _ (pe_slice sl_str (pv 5) po_none (po_some (@pe_op _ _ _ _ _ _ _ _ op_sub (@pe_callB _ _ _ _ _ _ _ _ _ call_len_str (by rfl) D.b_len bt_len (@pa_cons _ _ _ _ _ (pv 5) pa_nil (by rfl)) (by decide) (by decide) (by rfl) (by rfl)) pe_int))) (@pa_cons _ _ _ _ _ (pe_bm0 PySem.F.plainAttrs_str PySem.F.slot_str_upper PySem.F.type_str_upper mt_upper (pv 5)) (@pa_cons _ _ _ _ _ (@pe_op _ _ _ _ _ _ _ _ op_add_str (pv 5) pe_str) (@pa_cons _ _ _ _ _ (@pe_op _ _ _ _ _ _ _ _ op_add_str pe_str (pv 5)) pa_nil (by rfl)) (by rfl)) (by rfl)) (by rfl)) (by rfl)) (by rfl)) (by rfl))) (by rfl) (by first | exact .inl rfl | exact .inr rfl))
      (@pss_cons _ _ _ _ _ (ps_set (i := 7) sc__law_stranger.nd rfl (Or.inl rfl) (@pe_op _ _ _ _ _ _ _ _ op_cat (pv 7) (@pe_lst _ _ _ _ (@pa_cons _ _ _ _ _ (pe_slice sl_str (@pe_op _ _ _ _ _ _ _ _ op_mulS (pv 5) pe_int) po_none (po_some pe_int)) (@pa_cons _ _ _ _ _ pe_str (@pa_cons _ _ _ _ _ pe_non (@pa_cons _ _ _ _ _ pe_bl (@pa_cons _ _ _ _ _ (pv 4) (@pa_cons _ _ _ _ _ (pe_un un_neg pe_int) (@pa_cons _ _ _ _ _ (@pe_tup _ _ _ _ _ (@pa_cons _ _ _ _ _ (pv 5) pa_nil (by rfl))) (@pa_cons _ _ _ _ _ (@pe_lst _ _ _ _ (@pa_cons _ _ _ _ _ (pv 5) pa_nil (by rfl))) (@pa_cons _ _ _ _ _ pe_dnewK (@pa_cons _ _ _ _ _ (pe_disp (pps_cons (pv 5) (@pe_tup _ _ _ _ _ pa_nil) pps_nil) rfl rfl (by intro z; cases z) (by decide)) (@pa_cons _ _ _ _ _ (@pe_lst _ _ _ _ pa_nil) (@pa_cons _ _ _ _ _ (pv 1) (@pa_cons _ _ _ _ _ (@pe_ix _ _ _ _ _ _ _ ix_tup (pv 1) (pv 4) (fun _ _ => rfl)) pa_nil (by rfl)) (by rfl)) (by rfl)) (by rfl)) (by rfl)) (by rfl)) (by rfl)) (by rfl)) (by rfl)) (by rfl)) (by rfl)) (by rfl)) (by rfl)))))
      (@pss_one _ _ _ (@ps_ret _ _ _ _ (@pe_ix _ _ _ _ _ _ _ ix_list (@pe_op _ _ _ _ _ _ _ _ op_cat (pv 7) (@pe_lst _ _ _ _ (@pa_cons _ _ _ _ _ (pe_callTy call_list_of (by rfl) D.b_list bt_list (@pa_cons _ _ _ _ _ (pv 1) pa_nil (by rfl))) (@pa_cons _ _ _ _ _ (@pe_tup _ _ _ _ _ (@pa_cons _ _ _ _ _ (@pe_lst _ _ _ _ (@pa_cons _ _ _ _ _ (pv 5) pa_nil (by rfl))) pa_nil (by rfl))) (@pa_cons _ _ _ _ _ (@pe_tup _ _ _ _ _ (@pa_cons _ _ _ _ _ (pv 5) (@pa_cons _ _ _ _ _ pe_dnewK pa_nil (by rfl)) (by rfl))) pa_nil (by rfl)) (by rfl)) (by rfl)))) (pv 2) (fun _ _ => rfl))))))))))), ?_⟩
    refine ⟨_, rfl, p, 23, rfl, hp, by decide, by decide, fun r1 a1 b1 c1 l1 u1 => ?_⟩
    have oH1 : Off p H (upd H p (.lst [.int a1, .int b1, .int c1])) := Off.upd
    have pH1 : Pu (upd H p (.lst [.int a1, .int b1, .int c1])) p := Pu.upd
    have dv1 := dv.mono (offT hp oH1)
    generalize upd H p (.lst [.int a1, .int b1, .int c1]) = H1 at oH1 pH1 dv1
    obtain ⟨a, xs, rfl, ha, dl⟩ := L2.Dp.of_tup dv1
    have f7 := gf.len
    have f1 := gf.pos
    have hxl : xs.length = f.length := by have := dl.length; rwa [List.length_map] at this
    refine ⟨_, rfl, a, rfl, ⟨_, SqT.of ha⟩, fun D1 hD1 => ?_⟩
    have s51 : ∀ o, Same H1 (upd H1 D1 o) := fun o => Same.new hD1
    refine comp_by (n := xs.length) (fun i ys H6 => ys = ((f.take i).map (·.1)).map V.str ∧ H6 = upd H1 D1 (.lst ys)) ⟨rfl, rfl⟩ ?_ ?_
    rotate_left
    · rintro i ys H6 hi ⟨rfl, rfl⟩
      have hir : i < f.length := by omega
      obtain ⟨y, ey, dy⟩ := dl.get (i := i) (t := rowT f[i]) (by rw [List.getElem?_map, List.getElem?_eq_getElem hir]; rfl)
      refine ⟨⟨_, _, SqT.of (s51 _ a _ ha), ey⟩, ?_⟩
      rintro v H7 ⟨rfl, yy⟩ σo ho
      obtain ⟨oo, rfl⟩ := own1 ho
      have ev := yy _ (SqT.of (s51 _ a _ ha))
      rw [ey] at ev
      cases ev
      obtain ⟨q, zs, rfl, hq, dz⟩ := L2.Dp.of_tup (dy.mono (Same.tups (s51 _)))
      obtain ⟨z0, zr, rfl, d0, _⟩ := DpL.cases dz
      obtain rfl := d0.of_str
      refine ⟨⟨[_], rfl, rfl⟩, yes_by ⟨_, rfl, q, _, _, _, rfl, rfl, SqT.of hq, atI_nat (j := 0) rfl, by rw [List.length_map, List.length_map, List.length_take]; omega, upd_same, less_by hi ⟨?_, by rw [upd_upd]⟩⟩⟩
      rw [take_snoc hir, List.map_append, List.map_append]
      rfl
    rintro ys H6 ⟨rfl, rfl⟩
    rw [List.take_of_length_le (by omega)]
    refine ⟨⟨_, SqT.of (s51 _ a _ ha), Nat.le_refl _⟩, ?_⟩
    have sD : Same H1 (upd H1 D1 (.lst ((nms f).map V.str))) := s51 _
    have hDD : (upd H1 D1 (.lst ((nms f).map V.str))) D1 = some (.lst ((nms f).map V.str)) := upd_same
    have nme : (f.map (·.1)) = nms f := rfl
    rw [nme]
    generalize upd H1 D1 (.lst ((nms f).map V.str)) = H2 at sD hDD
    have pH2 := pH1.same sD
    have D1p : D1 ≠ p := pH2.ne hDD
    have nl : (nms f).length = f.length := List.length_map _
    refine ⟨_, rfl, _, rfl, D1, _, rfl, .inl (SqL.of hDD), p, _, rfl, pH2, by rw [List.length_map]; omega, by rw [List.length_map]; omega, fun r3 a3 b3 c3 l3 u3 => ?_⟩
    rw [List.length_map] at u3
    obtain ⟨kx, hkx, hkm, _⟩ := atI_strs (ns := nms f) l3 u3
    have o3 : Off p H2 (upd H2 p (.lst [.int a3, .int b3, .int c3])) := Off.upd
    have pH3 : Pu (upd H2 p (.lst [.int a3, .int b3, .int c3])) p := Pu.upd
    have hD3 := o3 D1 _ D1p hDD
    generalize upd H2 p (.lst [.int a3, .int b3, .int c3]) = H3 at o3 pH3 hD3
    refine ⟨_, rfl, _, rfl, D1, _, _, _, rfl, rfl, SqL.of hD3, hkx, ?_⟩
    refine ⟨_, rfl, _, rfl, p, D1, nms f, rfl, pH3, hD3, by omega, fun x H4 x1 x7 xl _ o4 pH4 => ?_⟩
    have wk := gf.lw kx hkm
    have wl := wk.1
    have wc := wk.2
    have kz : kx.length ≤ sizeLine := by omega
    have sl1 : ∀ lo hi, (Txt.slice kx lo hi).length ≤ 100 := fun lo hi => Nat.le_trans (slice_len kx lo hi) wl
    have t4 : Tups H1 H4 := (Same.tups sD).trans ((offT pH2 o3).trans (offT pH3 o4))
    have ha4 := t4 a _ ha
    have dl4 := dl.mono t4
    have hk7 : r3.toNat < f.length := by omega
    have hr3 : ((r3.toNat : Nat) : Int) = r3 := Int.toNat_of_nonneg l3
    have oH4 : Off p H H4 := (oH1.trans sD.off).trans (o3.trans o4)
    refine ⟨_, rfl, _, rfl, _, rfl, 1, rfl, kx, rfl, kz, kx, _, rfl, rfl, by have := sl1 none (some 1); omega, _, rfl, 1, rfl, kx, rfl, kz, _, rfl, _, rfl, kx, rfl, kz, _, _, rfl, rfl, _, rfl, kx, rfl, kz, _, rfl, ?_⟩
    refine ⟨rfl, kx, rfl, rfl, wc, by omega, fun up hup hupc => ?_⟩
    refine ⟨_, rfl, kx, " ", rfl, rfl, by show kx.length + 1 ≤ _; omega, _, rfl, " ", kx, rfl, rfl, by show 1 + kx.length ≤ _; omega, by show 7 ≤ sizeLine; decide, fun L1 hL1 => ?_⟩
    have sL1 : Same H4 (upd H4 L1 (.lst [.str x, .str (kx ++ Txt.slice kx none (some 1)), .str (Txt.slice kx (some 1) none), .str (Txt.slice kx none (some ((kx.length : Int) - 1))), .str up, .str (kx ++ " "), .str (" " ++ kx)])) := Same.new hL1
    have kL1 : (upd H4 L1 (.lst [.str x, .str (kx ++ Txt.slice kx none (some 1)), .str (Txt.slice kx (some 1) none), .str (Txt.slice kx none (some ((kx.length : Int) - 1))), .str up, .str (kx ++ " "), .str (" " ++ kx)])) L1 = some (.lst [.str x, .str (kx ++ Txt.slice kx none (some 1)), .str (Txt.slice kx (some 1) none), .str (Txt.slice kx none (some ((kx.length : Int) - 1))), .str up, .str (kx ++ " "), .str (" " ++ kx)]) := upd_same
    generalize upd H4 L1 (.lst [.str x, .str (kx ++ Txt.slice kx none (some 1)), .str (Txt.slice kx (some 1) none), .str (Txt.slice kx none (some ((kx.length : Int) - 1))), .str up, .str (kx ++ " "), .str (" " ++ kx)]) = G1 at sL1 kL1
    refine ⟨_, rfl, _, rfl, kx, 7, rfl, rfl, by decide, by decide, by omega, 7, rfl, _, rfl, ?_, _, rfl, _, rfl, _, rfl, by show 1 ≤ sizeLine; decide, fun q1 hq1 => ?_⟩
    · have q3 := strRep_len kx (n := 7) (by decide)
      have : (7 : Int).toNat = 7 := rfl
      rw [this] at q3
      omega
    have sq1 : Same G1 (upd G1 q1 (.tup [.str kx])) := Same.new hq1
    have kq1 : (upd G1 q1 (.tup [.str kx])) q1 = some (.tup [.str kx]) := upd_same
    generalize upd G1 q1 (.tup [.str kx]) = G2 at sq1 kq1
    refine ⟨_, rfl, by show 1 ≤ sizeLine; decide, fun l2 hl2 => ?_⟩
    have sl2 : Same G2 (upd G2 l2 (.lst [.str kx])) := Same.new hl2
    have kl2 : (upd G2 l2 (.lst [.str kx])) l2 = some (.lst [.str kx]) := upd_same
    generalize upd G2 l2 (.lst [.str kx]) = G3 at sl2 kl2
    refine fun d3 hd3 => ?_
    have sd3 : Same G3 (upd G3 d3 (.dK [])) := Same.new hd3
    have kd3 : (upd G3 d3 (.dK [])) d3 = some (.dK []) := upd_same
    generalize upd G3 d3 (.dK []) = G4 at sd3 kd3
    refine fun d4 hd4 => ⟨_, rfl, by show 0 ≤ sizeLine; decide, fun q5 hq5 => ⟨?_, [(.inr kx, .ref q5)], rfl, by show 1 ≤ 15; decide, ?_⟩⟩
    · rw [upd_ne (ne_of_none upd_same hq5), upd_same]
    have s45 : Same G4 (upd (upd (upd G4 d4 (.dK [])) q5 (.tup [])) d4 (.dK (mergeK [] [(.inr kx, .ref q5)]))) := fun b o e => by
      have b4 := ne_of_none e hd4
      have e1 : (upd G4 d4 (.dK [])) b = some o := by rw [upd_ne b4]; exact e
      rw [upd_ne b4, upd_ne (ne_of_none e1 hq5)]
      exact e1
    have qd : q5 ≠ d4 := (ne_of_none upd_same hq5).symm
    have k4 : (upd (upd (upd G4 d4 (.dK [])) q5 (.tup [])) d4 (.dK (mergeK [] [(.inr kx, .ref q5)]))) d4 = some (.dK [(.inr kx, .ref q5)]) := upd_same
    have k5 : (upd (upd (upd G4 d4 (.dK [])) q5 (.tup [])) d4 (.dK (mergeK [] [(.inr kx, .ref q5)]))) q5 = some (.tup []) := by rw [upd_ne qd, upd_same]
    generalize upd (upd (upd G4 d4 (.dK [])) q5 (.tup [])) d4 (.dK (mergeK [] [(.inr kx, .ref q5)])) = G5 at s45 k4 k5
    refine ⟨Nat.zero_le _, fun l6 hl6 => ?_⟩
    have sl6 : Same G5 (upd G5 l6 (.lst [])) := Same.new hl6
    have kl6 : (upd G5 l6 (.lst [])) l6 = some (.lst []) := upd_same
    generalize upd G5 l6 (.lst []) = G6 at sl6 kl6
    have s46 : Same H4 G6 := ((((sL1.trans sq1).trans sl2).trans sd3).trans s45).trans sl6
    obtain ⟨y, ey, dy⟩ := (dl4.mono (Same.tups s46)).get (i := r3.toNat) (t := rowT f[r3.toNat]) (by rw [List.getElem?_map, List.getElem?_eq_getElem hk7]; rfl)
    refine ⟨_, rfl, _, rfl, _, rfl, a, xs, r3, y, rfl, rfl, SqT.of (s46 a _ ha4), by rw [← hr3]; exact atI_nat ey, by show 13 ≤ sizeLine; decide, fun L7 hL7 => ?_⟩
    have sL7 : Same G6 (upd G6 L7 (.lst [.str (Txt.slice (strRep kx 7) none (some 7)), .str "", .non, .bl true, .int r3, .int (-1), .ref q1, .ref l2, .ref d3, .ref d4, .ref l6, .ref a, y])) := Same.new hL7
    have kL7 : (upd G6 L7 (.lst [.str (Txt.slice (strRep kx 7) none (some 7)), .str "", .non, .bl true, .int r3, .int (-1), .ref q1, .ref l2, .ref d3, .ref d4, .ref l6, .ref a, y])) L7 = some (.lst [.str (Txt.slice (strRep kx 7) none (some 7)), .str "", .non, .bl true, .int r3, .int (-1), .ref q1, .ref l2, .ref d3, .ref d4, .ref l6, .ref a, y]) := upd_same
    generalize upd G6 L7 (.lst [.str (Txt.slice (strRep kx 7) none (some 7)), .str "", .non, .bl true, .int r3, .int (-1), .ref q1, .ref l2, .ref d3, .ref d4, .ref l6, .ref a, y]) = G7 at sL7 kL7
    have s17 : Same G1 G7 := ((((sq1.trans sl2).trans sd3).trans s45).trans sl6).trans sL7
    refine ⟨L1, L7, _, _, rfl, rfl, s17 L1 _ kL1, kL7, by show 20 ≤ sizeLine; decide, fun L8 hL8 => ?_⟩
    have s8 : ∀ o, Same G7 (upd G7 L8 o) := fun o => Same.new hL8
    obtain ⟨ths, hths⟩ : ∃ ths : List V, ths = [.str x, .str (kx ++ Txt.slice kx none (some 1)), .str (Txt.slice kx (some 1) none), .str (Txt.slice kx none (some ((kx.length : Int) - 1))), .str up, .str (kx ++ " "), .str (" " ++ kx), .str (Txt.slice (strRep kx 7) none (some 7)), .str "", .non, .bl true, .int r3, .int (-1), .ref q1, .ref l2, .ref d3, .ref d4, .ref l6, .ref a, y] := ⟨_, rfl⟩
    have k8 : (upd G7 L8 (.lst ths)) L8 = some (.lst ths) := upd_same
    have s8' := s8 (.lst ths)
    show gName 7 (.ref L8) _ (upd G7 L8 (.lst ([_, _, _, _, _, _, _, _, _, _, _, _, _, _, _, _, _, _, _, _]))) _
    rw [← hths]
    generalize upd G7 L8 (.lst ths) = G8 at s8' k8
    have s48 : Same H4 G8 := (s46.trans sL7).trans s8'
    refine ⟨_, rfl, _, rfl, a, xs, rfl, .inr (SqT.of (s48 a _ ha4)), fun l9 hl9 => ?_⟩
    have sl9 : Same G8 (upd G8 l9 (.lst xs)) := Same.new hl9
    have kl9 : (upd G8 l9 (.lst xs)) l9 = some (.lst xs) := upd_same
    generalize upd G8 l9 (.lst xs) = G9 at sl9 kl9
    refine ⟨_, rfl, by show 1 ≤ sizeLine; decide, fun l10 hl10 => ?_⟩
    have sl10 : Same G9 (upd G9 l10 (.lst [.str kx])) := Same.new hl10
    have kl10 : (upd G9 l10 (.lst [.str kx])) l10 = some (.lst [.str kx]) := upd_same
    generalize upd G9 l10 (.lst [.str kx]) = G10 at sl10 kl10
    refine ⟨by show 1 ≤ sizeLine; decide, fun q11 hq11 => ?_⟩
    have sq11 : Same G10 (upd G10 q11 (.tup [.ref l10])) := Same.new hq11
    have kq11 : (upd G10 q11 (.tup [.ref l10])) q11 = some (.tup [.ref l10]) := upd_same
    generalize upd G10 q11 (.tup [.ref l10]) = G11 at sq11 kq11
    refine ⟨_, rfl, fun d12 hd12 => ?_⟩
    have sd12 : Same G11 (upd G11 d12 (.dK [])) := Same.new hd12
    have kd12 : (upd G11 d12 (.dK [])) d12 = some (.dK []) := upd_same
    generalize upd G11 d12 (.dK []) = G12 at sd12 kd12
    refine ⟨by show 2 ≤ sizeLine; decide, fun q13 hq13 => ?_⟩
    have sq13 : Same G12 (upd G12 q13 (.tup [.str kx, .ref d12])) := Same.new hq13
    have kq13 : (upd G12 q13 (.tup [.str kx, .ref d12])) q13 = some (.tup [.str kx, .ref d12]) := upd_same
    generalize upd G12 q13 (.tup [.str kx, .ref d12]) = G13 at sq13 kq13
    refine ⟨by show 3 ≤ sizeLine; decide, fun L14 hL14 => ?_⟩
    have sL14 : Same G13 (upd G13 L14 (.lst [.ref l9, .ref q11, .ref q13])) := Same.new hL14
    have kL14 : (upd G13 L14 (.lst [.ref l9, .ref q11, .ref q13])) L14 = some (.lst [.ref l9, .ref q11, .ref q13]) := upd_same
    generalize upd G13 L14 (.lst [.ref l9, .ref q11, .ref q13]) = G14 at sL14 kL14
    have s814 : Same G8 G14 := ((((sl9.trans sl10).trans sq11).trans sd12).trans sq13).trans sL14
    refine ⟨L8, L14, _, _, rfl, rfl, s814 L8 _ k8, kL14, by rw [hths]; show 23 ≤ sizeLine; decide, fun L15 hL15 => ?_⟩
    have sL15 : Same G14 (upd G14 L15 (.lst (ths ++ [.ref l9, .ref q11, .ref q13]))) := Same.new hL15
    have kL15 : (upd G14 L15 (.lst (ths ++ [.ref l9, .ref q11, .ref q13]))) L15 = some (.lst (ths ++ [.ref l9, .ref q11, .ref q13])) := upd_same
    generalize upd G14 L15 (.lst (ths ++ [.ref l9, .ref q11, .ref q13])) = GZ at sL15 kL15
    have sZ : Same G14 GZ := sL15
    have z13 : Same G13 GZ := sL14.trans sZ
    have z12 : Same G12 GZ := sq13.trans z13
    have z11 : Same G11 GZ := sd12.trans z12
    have z10 : Same G10 GZ := sq11.trans z11
    have z9 : Same G9 GZ := sl10.trans z10
    have z8 : Same G8 GZ := sl9.trans z9
    have z7 : Same G7 GZ := s8'.trans z8
    have z6 : Same G6 GZ := sL7.trans z7
    have z5 : Same G5 GZ := sl6.trans z6
    have z4 : Same G4 GZ := s45.trans z5
    have z3 : Same G3 GZ := sd3.trans z4
    have z2 : Same G2 GZ := sl2.trans z3
    have z1 : Same G1 GZ := sq1.trans z2
    have z0 : Same H4 GZ := sL1.trans z1
    have dvZ : Dp GZ (famT f) (.ref a) := L2.Dp.tup (z0 a _ ha4) (dl4.mono (Same.tups z0))
    have kc : Cps kx := wc.cps
    have sc : ∀ lo hi, Cps (Txt.slice kx lo hi) := fun lo hi => (wc.slice lo hi).cps
    have bc : Cps (" " : Str) := by unfold Cps; decide +kernel
    have shk : Shw (.str kx) 1002 0 := Shw.str kc wl
    have all : ∀ v ∈ ths ++ [.ref l9, .ref q11, .ref q13], ∃ d, Thing GZ v d := by
      rw [hths]
      refine all_cons (thing_str xl.cps (by omega)) (all_cons (thing_str (kc.app (sc _ _)) (by rw [str_len_app]; have := sl1 none (some 1); omega)) (all_cons (thing_str (sc _ _) (Nat.le_trans (sl1 _ _) (by decide))) (all_cons (thing_str (sc _ _) (Nat.le_trans (sl1 _ _) (by decide))) (all_cons (thing_str hupc (by omega)) ?_))))
      refine all_cons (thing_str (kc.app bc) (by rw [str_len_app]; show kx.length + 1 ≤ _; omega)) (all_cons (thing_str (bc.app kc) (by rw [str_len_app]; show 1 + kx.length ≤ _; omega)) (all_cons (thing_str ((wc.rep 7).slice _ _).cps ?_) (all_cons (thing_str (by unfold Cps; decide +kernel) (by decide)) ?_)))
      · have q3 := strRep_len kx (n := 7) (by decide)
        have e7 : (7 : Int).toNat = 7 := rfl
        rw [e7] at q3
        have := slice_len (strRep kx 7) none (some 7)
        omega
      refine all_cons (thing_of .non Shw.non (fun h => by rw [noL]) (by decide) (by decide)) (all_cons (thing_of (.bl true) (Shw.bl true) (fun h => by rw [noL]) (by decide) (by decide)) (all_cons (thing_of (.int r3) (Shw.nat l3 (by omega)) (fun h => by rw [noL]) (by decide) (by decide)) (all_cons (thing_of (.int (-1)) Shw.neg1 (fun h => by rw [noL]) (by decide) (by decide)) ?_)))
      refine all_cons (thing_of (.tup (z2 q1 _ kq1) (.cons (.str kx) .nil)) (Shw.tup (all_cons shk all_nil)) (fun h => by simp [noL, noLA]) (by simp only [List.length_cons, List.length_nil]; decide) (by decide)) (all_cons (thing_of (.lst (z3 l2 _ kl2) (.cons (.str kx) .nil)) (Shw.lst (all_cons shk all_nil)) (fun h => by simp [PyData.hasDict, PyData.hasDictAll] at h) (by simp only [List.length_cons, List.length_nil]; decide) (by decide)) (all_cons (thing_of (.dct (z4 d3 _ kd3) .nil) Shw.dct0 (fun h => by simp [noL, noLK]) (by decide) (by decide)) ?_))
      refine all_cons (thing_of (.dct (z5 d4 _ k4) (.cons (.tup (z5 q5 _ k5) .nil) .nil)) (Shw.dct1 (shk.up (Nat.le_refl _) (by decide)) (Shw.tup (n := 0) (k := 0) all_nil)) (fun h => by simp [noL, noLK, noLA]) (by decide) (by decide)) (all_cons (thing_of (.lst (z6 l6 _ kl6) .nil) (Shw.lst (n := 0) (k := 0) all_nil) (fun h => by simp [PyData.hasDict, PyData.hasDictAll] at h) (by decide) (by decide)) ?_)
      have shF := shw_fam gf
      have lF : (toDA (f.map rowT)).length ≤ 7 := by rw [toDA_map, List.length_map, List.length_map]; exact f7
      refine all_cons (thing_of (L2.Dp.rd dvZ) (by unfold famT; rw [toD]; exact (Shw.tup shF).up (n' := 98500) (by omega) (Nat.le_refl _)) (fun h => noL_toD _) (by decide) (by decide)) (all_cons (thing_of (L2.Dp.rd (dy.mono (Same.tups z6))) (shw_row gf (List.getElem_mem hk7)) (fun h => noL_toD _) (by decide) (by decide)) ?_)
      refine all_cons (thing_of (.lst (z9 l9 _ kl9) (L2.DpL.rd (dl4.mono (Same.tups z0)))) ((Shw.lst shF).up (n' := 98500) (by omega) (Nat.le_refl _)) (fun h => by rw [PyData.hasDict, hasDictA_toD] at h; cases h) (by decide) (by decide)) (all_cons (thing_of (.tup (z11 q11 _ kq11) (.cons (.lst (z10 l10 _ kl10) (.cons (.str kx) .nil)) .nil)) (Shw.tup (all_cons (Shw.lst (all_cons shk all_nil)) all_nil)) (fun h => by simp [PyData.hasDict, PyData.hasDictAll] at h) (by simp only [List.length_cons, List.length_nil]; decide) (by decide)) (all_cons ?_ all_nil))
      exact thing_of (.tup (z13 q13 _ kq13) (.cons (.str kx) (.cons (.dct (z12 d12 _ kd12) .nil) .nil))) (Shw.tup (n := 1002) (k := 1) (all_cons (shk.up (Nat.le_refl _) (by decide)) (all_cons (Shw.dct0.up (by decide) (by decide)) all_nil))) (fun h => by simp [noL, noLA, noLK]) (by simp only [List.length_cons, List.length_nil]; decide) (by decide)
    obtain ⟨th, hth, htm, _⟩ := atI_in (xs := ths ++ [.ref l9, .ref q11, .ref q13]) l1 (by rw [hths]; exact u1)
    obtain ⟨d, tg⟩ := all th htm
    exact ⟨_, rfl, L15, _, _, _, rfl, rfl, SqL.of kL15, hth, k th d GZ tg (oH4.trans z0.off) (pH4.same z0)⟩
end
end K03
end
section
set_option autoImplicit false
namespace K03
open PySem PyProof.Rows L2
theorem CloAt.off {H H' : Hp} {p d : Addr} {f : Fam} {ad : Str → Addr} {cs : Str → List Str} (h : CloAt H d f ad cs) (hp : Pu H p) (o : Off p H H') : CloAt H' d f ad cs := ⟨o d _ (fun e => by
    obtain ⟨a, b, c, q⟩ := hp
    have := h.dict
    rw [e, q] at this
    cases this) h.dict, fun x hx => o _ _ (hp.ne (h.lists x hx)) (h.lists x hx)⟩
theorem SqL.keep {K : PySem.W.Frag} {H H' : Hp} {a : Addr} {xs : List V} (h : SqL K H a xs) (k : ∀ o, H a = some o → H' a = some o) : SqL K H' a xs := by
  rcases h with (h | ⟨o, h⟩) | h
  · exact .inl (.inl (k _ h))
  · exact .inl (.inr ⟨o, k _ h⟩)
  · exact .inr h
theorem lvS (xs : List Str) : ∀ t ∈ xs.map T.str, Lv 5 t := fun t ht => by
  obtain ⟨y, _, rfl⟩ := List.mem_map.mp ht
  trivial
section
variable {P : Program} {w : World} {K : PySem.W.Frag} {mg : Str → Option Value} {base : Heap} {t : Adr}
def spRight : Sp := fun vs H Q _ => ∃ (p : Addr), vs = [.ref p] ∧ Pu H p ∧ ∀ H', Off p H H' → Q (.bl true) H'
theorem ok_right (D : Defs K mg t) (CS : Clss K mg t) : FnOk P w K mg base CX0 8 t._law_right.1 t._law_right.2 ["_law_purse_here"] spRight := by
  have G__law_take : FnOk P w K mg base CX0 1 t._law_take.1 t._law_take.2 _ spTake := ok_take D
  have G__law_family : FnOk P w K mg base CX0 4 t._law_family.1 t._law_family.2 _ spFamily := ok_family D
  have G__law_closed : FnOk P w K mg base CX0 1 t._law_closed.1 t._law_closed.2 _ spClosed := ok_closed D
  have G__law_stranger : FnOk P w K mg base CX0 3 t._law_stranger.1 t._law_stranger.2 _ spStranger := ok_stranger D
  have G_above : FnOk P w K mg base (CXe P w) 3 t.above.1 t.above.2 _ (spAbove K t) := ok_above D CS
  have G__law_door : FnOk P w K mg base CX0 7 t._law_door.1 t._law_door.2 _ spDoor := ok_door D CS
  have hz : sizeLine = 16777216 := sizeLine_eq
  refine D._law_right.fn.ok sc__law_right (fun vs H Q E h => ?_) (fun cdv A outer s H vs Q E hr h => ?_)
  · obtain ⟨p, rfl, _⟩ := h
    rfl
  · obtain ⟨p, rfl, hp, k⟩ := h
    refine ⟨_, (pss_cons (ps_set (i := 1) sc__law_right.nd rfl (Or.inr rfl) (pe_callF D._law_family G__law_family (hr.mono (by omega)) (by rfl) (pa_cons (pv 0) (pa_cons pe_int pa_nil))))
      (pss_cons (ps_set (i := 2) sc__law_right.nd rfl (Or.inr rfl) (pe_callF D._law_closed G__law_closed (hr.mono (by omega)) (by rfl) (pa_cons (pv 1) pa_nil)))
      (pss_cons (ps_set (i := 3) sc__law_right.nd rfl (Or.inl rfl) (pe_ix ix_tup (pe_ix ix_tup (pv 1) (pe_callF D._law_take G__law_take (hr.mono (by omega)) (by rfl) (pa_cons (pv 0) (pa_cons (pe_callB call_len_seq (by rfl) D.b_len bt_len (pa_cons (pv 1) pa_nil)) pa_nil))) (fun _ _ => rfl)) pe_int (fun _ _ => rfl)))
      (pss_cons (ps_for PassesOwn.never rfl (pi_range1 rfl D.b_range (pa_cons pe_int pa_nil)) (pg_name (i := 4) sc__law_right.nd rfl (Or.inl rfl))
      (pss_cons (ps_set (i := 5) sc__law_right.nd rfl (Or.inr rfl) (pe_callF D._law_stranger G__law_stranger (hr.mono (by omega)) (by rfl) (pa_cons (pv 0) (pa_cons (pv 1) pa_nil))))
      (pss_cons (ps_if (pt_cmpR (op_neT (hu10 hr)) (pe_callX D.above G_above (hr.mono (by omega)) (by rfl) passE0 (pa_cons (pv 1) (pa_cons (pv 3) pa_nil))) (pe_callTy call_tuple_of (by rfl) D.b_tuple bt_tuple (pa_cons (pe_dget (hu_of hr) (pv 2) (pv 3) (fun _ _ => rfl)) pa_nil)) (nomark _))
      (pss_one (ps_ret pe_bl))
      pss_nil)
      (pss_one (ps_if (pt_not (pt_val (pe_callB (call_all rfl) (by rfl) D.b_all bt_all (pa_cons (pe_comp rfl (CompScope.of ["_law_door_here"] [1, 5, 2] ["_law_door_here", "_law_family_here", "_law_thing", "_law_closed_here"] (defScope (top 41)) ["_law_purse_here", "_law_family_here", "_law_closed_here", "_law_kind", "_law_turn", "_law_thing"] rfl rfl (by decide +kernel)) ⟨fun _ _ _ _ _ => (pg_name (i := 0) (show List.Nodup [("_law_door_here" : Str), ("_law_family_here" : Str), ("_law_thing" : Str), ("_law_closed_here" : Str)] by decide +kernel) rfl (Or.inl (lookup_relabel_local rfl)) (.inr (lookup_relabel_local rfl))), fun _ _ _ _ _ => pts_nil, fun _ _ _ _ _ => (pe_callF D._law_door G__law_door (hr.mono (by omega)) (by rfl) (pa_cons (pv 0) (pa_cons (pv 1) (pa_cons (pv 2) (pa_cons (pv 3) pa_nil)))))⟩ (pi_range1 rfl D.b_range (pa_cons pe_int pa_nil))) pa_nil))))
      (pss_one (ps_ret pe_bl))
      pss_nil)))))
      (pss_one (ps_ret (pe_cmpR (op_eqT (hu10 hr)) (pe_callX D.above G_above (hr.mono (by omega)) (by rfl) passE0 (pa_cons (pv 1) (pa_cons (pv 3) pa_nil))) (pe_callTy call_tuple_of (by rfl) D.b_tuple bt_tuple (pa_cons (pe_dget (hu_of hr) (pv 2) (pv 3) (fun _ _ => rfl)) pa_nil)) (nomark _)))))))), ?_⟩
    refine ⟨_, rfl, p, 7, rfl, hp, by decide, by decide, fun v f H1 dv gf o1 p1 => ?_⟩
    have f7 := gf.len
    have f1 := gf.pos
    refine ⟨_, rfl, v, f, rfl, dv, gf, fun cd ad H2 hcd cl s2 => ?_⟩
    have p2 := p1.same s2
    have dv2 := dv.mono (Same.tups s2)
    obtain ⟨a, xs, rfl, ha, dl⟩ := L2.Dp.of_tup dv2
    have hxl : xs.length = f.length := by have := dl.length; rwa [List.length_map] at this
    refine ⟨_, rfl, _, rfl, _, rfl, a, _, rfl, .inr (SqT.of ha), p, _, rfl, p2, by omega, by omega, fun r3 a3 b3 c3 l3 u3 => ?_⟩
    have o3 : Off p H2 (upd H2 p (.lst [.int a3, .int b3, .int c3])) := Off.upd
    have p3 : Pu (upd H2 p (.lst [.int a3, .int b3, .int c3])) p := Pu.upd
    have cl3 := cl.off p2 o3
    have t3 := offT p2 o3
    generalize upd H2 p (.lst [.int a3, .int b3, .int c3]) = H3 at o3 p3 cl3 t3
    have hk7 : r3.toNat < f.length := by omega
    have hr3 : ((r3.toNat : Nat) : Int) = r3 := Int.toNat_of_nonneg l3
    obtain ⟨y, ey, dy⟩ := (dl.mono t3).get (i := r3.toNat) (t := rowT f[r3.toNat]) (by rw [List.getElem?_map, List.getElem?_eq_getElem hk7]; rfl)
    obtain ⟨q, e, rfl, hq, he⟩ := K03.Dp.of_row dy
    have hx : (f[r3.toNat]).1 ∈ nms f := List.mem_map.mpr ⟨_, List.getElem_mem hk7, rfl⟩
    generalize (f[r3.toNat]).1 = x at hx hq
    refine ⟨a, xs, r3, _, rfl, rfl, SqT.of (t3 a _ ha), by rw [← hr3]; exact atI_nat ey, ?_⟩
    have hlc : ∀ {H4 : Hp}, CloAt H4 cd f ad (K03.above f) → DGet H4 cd (.str x) (some (.ref (ad x))) := fun c => .inl ⟨_, .inr x, .inl c.dict, rfl, (cloK_val hx).symm⟩
    refine ⟨q, _, 0, _, rfl, rfl, SqT.of hq, atI_nat (j := 0) rfl, 3, rfl, by decide, by decide, ?_⟩
    refine for_range (lo := 0) (n := 3) (fun i σ H4 => ∃ (v4 v5 : Option V), σ = [some (.ref p), some (.ref a), some (.ref cd), some (.str x), v4, v5] ∧ Dp H4 (famT f) (.ref a) ∧ CloAt H4 cd f ad (K03.above f) ∧ Off p H H4 ∧ Pu H4 p)
      ⟨_, _, rfl, dv2.mono t3, cl3, (o1.trans s2.off).trans o3, p3⟩ ?_ ?_
    · rintro i σ H4 hi ⟨v4, v5, rfl, dv4, cl4, o4, p4⟩
      refine ⟨_, rfl, _, rfl, p, .ref a, f, rfl, p4, dv4, gf, fun th d H5 tg o5 p5 => ?_⟩
      have dv5 := dv4.mono (offT p4 o5)
      have cl5 := cl4.off p4 o5
      refine ⟨_, rfl, _, rfl, .ref a, .str x, f, rfl, dv5, gf, .inl ⟨x, rfl⟩, fun x' ex hx' q6 H6 hq6 s6 => ?_, fun hn => absurd hx (hn x rfl)⟩
      cases ex
      have cl6 : CloAt H6 cd f ad (K03.above f) := ⟨s6 _ _ cl5.dict, fun x hx => s6 _ _ (cl5.lists x hx)⟩
      refine ⟨_, rfl, _, rfl, cd, .ref (ad x), rfl, hlc cl6, ad x, _, rfl, .inl ⟨SqL.of (cl6.lists x hx), fun l hl => ?_⟩⟩
      refine ⟨q6, l, _, _, _, _, rfl, rfl, by rw [upd_ne (ne_of_none hq6 hl)]; exact hq6, upd_same, DpL.strs _, DpL.strs _, lvS _, ?_⟩
      have s7 : Same H5 (upd H6 l (.tup ((K03.above f x).map V.str))) := s6.trans (Same.new hl)
      generalize upd H6 l (.tup ((K03.above f x).map V.str)) = H7 at s7
      refine ⟨_, rfl, iteNeg (by rw [dcd_t rfl]; exact Bool.false_ne_true) ?_⟩
      have dv7 := dv5.mono (Same.tups s7)
      have tg7 := tg.same s7
      have cl7 : CloAt H7 cd f ad (K03.above f) := ⟨s7 _ _ cl5.dict, fun x hx => s7 _ _ (cl5.lists x hx)⟩
      refine ⟨4, rfl, by decide, by decide, fun Dd hD => ?_⟩
      refine comp_by (n := 4) (fun i ys H8 => ys = (List.replicate i true).map V.bl ∧ Same H7 H8 ∧ H8 Dd = some (.lst ys) ∧ H7 Dd = none) ⟨rfl, Same.new hD, upd_same, hD⟩ ?_ ?_
      · rintro ys H8 ⟨rfl, s8, hD8, _⟩
        refine ⟨Nat.le_refl _, Dd, List.replicate 4 true, rfl, SqL.of hD8, _, rfl, ?_⟩
        have s58 := s7.trans s8
        exact ⟨_, _, rfl, dv5.mono (Same.tups s58), ⟨s58 _ _ cl5.dict, fun x hx => s58 _ _ (cl5.lists x hx)⟩, (o4.trans o5).trans s58.off, p5.same s58⟩
      · rintro i ys H8 hi ⟨rfl, s8, hD8, hD7⟩
        refine ⟨by show i < _; exact hi, ?_⟩
        rintro xx H9 ⟨rfl, rfl⟩ σo ho
        obtain ⟨o, rfl⟩ := own1 ho
        refine ⟨⟨[_], rfl, rfl⟩, yes_by ⟨_, rfl, _, rfl, _, rfl, _, rfl, i, .ref a, th, f, d, cd, ad, by show [V.int (0 + (i : Int)), _, _, _] = _; rw [Int.zero_add], hi, dv7.mono (Same.tups s8), gf, tg7.same s8, ⟨s8 _ _ cl7.dict, fun x hx => s8 _ _ (cl7.lists x hx)⟩, fun HA sA => ?_⟩⟩
        refine ⟨by rw [List.length_map, List.length_replicate]; omega, sA Dd _ hD8, less_by hi ⟨?_, ?_, upd_same, hD7⟩⟩
        · rw [List.replicate_succ', List.map_append]
          rfl
        · intro b o e
          rw [upd_ne (ne_of_none e hD7)]
          exact sA b o (s8 b o e)
    · rintro σ H4 ⟨v4, v5, rfl, dv4, cl4, o4, p4⟩
      refine ⟨_, rfl, _, rfl, .ref a, .str x, f, rfl, dv4, gf, .inl ⟨x, rfl⟩, fun x' ex hx' q6 H6 hq6 s6 => ?_, fun hn => absurd hx (hn x rfl)⟩
      cases ex
      have cl6 : CloAt H6 cd f ad (K03.above f) := ⟨s6 _ _ cl4.dict, fun x hx => s6 _ _ (cl4.lists x hx)⟩
      refine ⟨_, rfl, _, rfl, cd, .ref (ad x), rfl, hlc cl6, ad x, _, rfl, .inl ⟨SqL.of (cl6.lists x hx), fun l hl => ?_⟩⟩
      refine ⟨q6, l, _, _, _, _, rfl, rfl, by rw [upd_ne (ne_of_none hq6 hl)]; exact hq6, upd_same, DpL.strs _, DpL.strs _, lvS _, ?_⟩
      rw [dcd_t rfl]
      exact k _ (o4.trans (s6.trans (Same.new hl)).off)
def spLaw (K : PySem.W.Frag) : Sp := fun vs H Q _ => ∃ (a : Addr) (ns : List Int), vs = [.ref a] ∧ SqL K H a (ns.map V.int) ∧ ns.length ≤ 63 ∧ ∀ H', Q (.bl true) H'
theorem ok_law (D : Defs K mg t) (CS : Clss K mg t) : FnOk P w K mg base CX0 9 t.law.1 t.law.2 ["_law_script"] (spLaw K) := by
  have G__law_purse : FnOk P w K mg base CX0 1 t._law_purse.1 t._law_purse.2 _ spPurse := ok_purse D
  have G__law_cell : FnOk P w K mg base CX0 1 t._law_cell.1 t._law_cell.2 _ (spCell K) := ok_cell D
  have G__law_right : FnOk P w K mg base CX0 8 t._law_right.1 t._law_right.2 _ spRight := ok_right D CS
  have hz : sizeLine = 16777216 := sizeLine_eq
  refine D.law.fn.ok sc_law (fun vs H Q E h => ?_) (fun cdv A outer s H vs Q E hr h => ?_)
  · obtain ⟨a, ns, rfl, _⟩ := h
    rfl
  · obtain ⟨a, ns, rfl, hS, hl, k⟩ := h
    refine ⟨_, (pss_one (ps_ret (pe_callB (call_all rfl) (by rfl) D.b_all bt_all (pa_cons (pe_comp rfl (CompScope.of ["_law_k"] [0] ["_law_k", "_law_script"] (defScope (top 42)) ["_law_script"] rfl rfl (by decide +kernel)) ⟨fun _ _ _ _ _ => (pg_name (i := 0) (show List.Nodup [("_law_k" : Str), ("_law_script" : Str)] by decide +kernel) rfl (Or.inl (lookup_relabel_local rfl)) (.inr (lookup_relabel_local rfl))), fun _ _ _ _ _ => pts_nil, fun _ _ _ _ _ => (pe_callF D._law_right G__law_right (hr.mono (by omega)) (by rfl) (pa_cons (pe_callF D._law_purse G__law_purse (hr.mono (by omega)) (by rfl) (pa_cons (pe_callF D._law_cell G__law_cell (hr.mono (by omega)) (by rfl) (pa_cons (pv 1) (pa_cons (pv 0) pa_nil))) pa_nil)) pa_nil))⟩ (pi_range1 rfl D.b_range (pa_cons (pe_callB (call_max2 rfl) (by rfl) D.b_max bt_max (pa_cons pe_int (pa_cons (pe_callB (call_min2 rfl) (by rfl) D.b_min bt_min (pa_cons (pe_callB call_len_seq (by rfl) D.b_len bt_len (pa_cons (pv 0) pa_nil)) (pa_cons pe_int pa_nil))) pa_nil))) pa_nil))) pa_nil)))), ?_⟩
    refine ⟨_, rfl, a, _, rfl, .inl hS, _, _, rfl, _, _, rfl, _, rfl, ?_, ?_, fun Dd hD => ?_⟩
    · split <;> split <;> omega
    · rw [List.length_map]
      split <;> split <;> omega
    have hN : ∃ N : Nat, (if (if (5 : Int) < ((ns.map V.int).length : Int) then (5 : Int) else ((ns.map V.int).length : Int)) > 1 then (if (5 : Int) < ((ns.map V.int).length : Int) then (5 : Int) else ((ns.map V.int).length : Int)) else 1).toNat = N ∧ N ≤ 5 := by
      refine ⟨_, rfl, ?_⟩
      split <;> split <;> omega
    obtain ⟨N, eN, hN⟩ := hN
    refine comp_by (n := N) (fun i ys H2 => ys = (List.replicate i true).map V.bl ∧ H2 Dd = some (.lst ys) ∧ ∀ o, H a = some o → H2 a = some o) ⟨rfl, upd_same, fun o e => by rw [upd_ne (ne_of_none e hD)]; exact e⟩ ?_ ?_
    · rintro ys H2 ⟨rfl, hD2, ka⟩
      refine ⟨by show _ ≤ N; exact Nat.le_of_eq eN, Dd, List.replicate N true, rfl, SqL.of hD2, ?_⟩
      rw [show (List.replicate N true).all id = true by rw [List.all_eq_true]; intro b hb; exact List.eq_of_mem_replicate hb]
      exact k H2
    · rintro i ys H2 hi ⟨rfl, hD2, ka⟩
      refine ⟨by show i < _; omega, ?_⟩
      rintro x H3 ⟨rfl, rfl⟩ σo ho
      obtain ⟨o, rfl⟩ := own1 ho
      refine ⟨⟨[_], rfl, rfl⟩, yes_by ⟨_, rfl, _, rfl, a, ns, _, rfl, K03.SqL.keep hS ka, hl, by omega, by omega, fun n H4 s4 => ⟨n, rfl, fun p a1 b1 c1 hp => ⟨p, rfl, Pu.upd, fun H5 o5 => ?_⟩⟩⟩⟩
      have hD4 := s4 Dd _ hD2
      have Dp' : Dd ≠ p := ne_of_none hD4 hp
      refine ⟨by rw [List.length_map, List.length_replicate]; omega, o5 Dd _ Dp' (by rw [upd_ne Dp']; exact hD4), less_by hi ⟨?_, upd_same, fun o e => ?_⟩⟩
      · rw [List.replicate_succ', List.map_append]
        rfl
      · have e4 := s4 a _ (ka o e)
        rw [upd_ne (ne_of_none e hD)]
        exact o5 a _ (ne_of_none e4 hp) (by rw [upd_ne (ne_of_none e4 hp)]; exact e4)
end
end K03
end
section
set_option autoImplicit false
namespace K03
open PySem PyProof.Rows L2
theorem el1 {α : Type} {C : List α → Prop} (h : ∀ v0, C [v0]) : ∀ us : List α, us.length = 1 → C us
  | [v0], _ => h v0
theorem el2 {α : Type} {C : List α → Prop} (h : ∀ v0 v1, C [v0, v1]) : ∀ us : List α, us.length = 2 → C us
  | [v0, v1], _ => h v0 v1
theorem el3 {α : Type} {C : List α → Prop} (h : ∀ v0 v1 v2, C [v0, v1, v2]) : ∀ us : List α, us.length = 3 → C us
  | [v0, v1, v2], _ => h v0 v1 v2
theorem el4 {α : Type} {C : List α → Prop} (h : ∀ v0 v1 v2 v3, C [v0, v1, v2, v3]) : ∀ us : List α, us.length = 4 → C us
  | [v0, v1, v2, v3], _ => h v0 v1 v2 v3
theorem all_mk {l : PySem.W.OpenLaw} {w : World} {K : PySem.W.Frag} {h : Heap} {mg : Str → Option Value} {fa f0 f1 f2 f3 f4 f5 f6 f7 f8 f9 f10 f11 f12 f13 f14 f15 f16 f17 f18 f19 f20 f21 f22 f23 f24 f25 f26 f27 f28 f29 : Addr} {cRowError cNoKind cNoOrder cNoChange cNoShape cNoField cNoText cNoLimit cNoWarming : Addr} {dNoKind dNoOrder : ClassData} (X : K.In h) (G : h.Ns mainGlobals mg) (hfa : mg "law" = some (.ref fa))
    {od0 an0 od1 an1 od2 an2 od3 an3 od4 an4 od5 an5 od6 an6 od7 an7 od8 an8 od9 an9 od10 an10 od11 an11 od12 an12 od13 an13 od14 an14 od15 an15 od16 an16 od17 an17 od18 an18 od19 an19 od20 an20 od21 an21 od22 an22 od23 an23 od24 an24 od25 an25 od26 an26 od27 an27 od28 an28 od29 an29 : Option Addr} {sl0 sl1 sl2 sl3 sl4 sl5 sl6 sl7 sl8 sl9 sl10 sl11 sl12 sl13 sl14 sl15 sl16 sl17 sl18 sl19 sl20 sl21 sl22 sl23 sl24 sl25 sl26 sl27 sl28 sl29 : Array (Option Value)} {oc0 kV0 dc0 pm0 cd0 ct0 oc1 kV1 dc1 pm1 cd1 ct1 oc2 kV2 dc2 pm2 cd2 ct2 oc3 kV3 dc3 pm3 cd3 ct3 oc4 kV4 dc4 pm4 cd4 ct4 oc5 kV5 dc5 pm5 cd5 ct5 oc6 kV6 dc6 pm6 cd6 ct6 oc7 kV7 dc7 pm7 cd7 ct7 oc8 kV8 dc8 pm8 cd8 ct8 oc9 kV9 dc9 pm9 cd9 ct9 oc10 kV10 dc10 pm10 cd10 ct10 oc11 kV11 dc11 pm11 cd11 ct11 oc12 kV12 dc12 pm12 cd12 ct12 oc13 kV13 dc13 pm13 cd13 ct13 oc14 kV14 dc14 pm14 cd14 ct14 oc15 kV15 dc15 pm15 cd15 ct15 oc16 kV16 dc16 pm16 cd16 ct16 oc17 kV17 dc17 pm17 cd17 ct17 oc18 kV18 dc18 pm18 cd18 ct18 oc19 kV19 dc19 pm19 cd19 ct19 oc20 kV20 dc20 pm20 cd20 ct20 oc21 kV21 dc21 pm21 cd21 ct21 oc22 kV22 dc22 pm22 cd22 ct22 oc23 kV23 dc23 pm23 cd23 ct23 oc24 kV24 dc24 pm24 cd24 ct24 oc25 kV25 dc25 pm25 cd25 ct25 oc26 kV26 dc26 pm26 cd26 ct26 oc27 kV27 dc27 pm27 cd27 ct27 oc28 kV28 dc28 pm28 cd28 ct28 oc29 kV29 dc29 pm29 cd29 ct29 : Value}
    (a0 : PySem.W.nsIn K mainGlobals "is_kind" = some (some (.ref f0))) (l0 : K.lookup f0 = some ⟨oc0, od0, .func (PySem.W.fnOf "is_kind" "is_kind" (defArgs (top 11)) (defBody (top 11)) (defScope (top 11)) .none kV0 dc0 pm0 an0 cd0 ct0), sl0⟩) (c0 : PySem.W.codeIn K cd0 "is_kind" = true) (k0 : PySem.W.keepIn K (.ref f0) = true)
    (a1 : PySem.W.nsIn K mainGlobals "check_kind" = some (some (.ref f1))) (l1 : K.lookup f1 = some ⟨oc1, od1, .func (PySem.W.fnOf "check_kind" "check_kind" (defArgs (top 12)) (defBody (top 12)) (defScope (top 12)) .none kV1 dc1 pm1 an1 cd1 ct1), sl1⟩) (c1 : PySem.W.codeIn K cd1 "check_kind" = true) (k1 : PySem.W.keepIn K (.ref f1) = true)
    (a2 : PySem.W.nsIn K mainGlobals "elders_first" = some (some (.ref f2))) (l2 : K.lookup f2 = some ⟨oc2, od2, .func (PySem.W.fnOf "elders_first" "elders_first" (defArgs (top 13)) (defBody (top 13)) (defScope (top 13)) .none kV2 dc2 pm2 an2 cd2 ct2), sl2⟩) (c2 : PySem.W.codeIn K cd2 "elders_first" = true) (k2 : PySem.W.keepIn K (.ref f2) = true)
    (a3 : PySem.W.nsIn K mainGlobals "reached_from" = some (some (.ref f3))) (l3 : K.lookup f3 = some ⟨oc3, od3, .func (PySem.W.fnOf "reached_from" "reached_from" (defArgs (top 14)) (defBody (top 14)) (defScope (top 14)) .none kV3 dc3 pm3 an3 cd3 ct3), sl3⟩) (c3 : PySem.W.codeIn K cd3 "reached_from" = true) (k3 : PySem.W.keepIn K (.ref f3) = true)
    (a4 : PySem.W.nsIn K mainGlobals "above" = some (some (.ref f4))) (l4 : K.lookup f4 = some ⟨oc4, od4, .func (PySem.W.fnOf "above" "above" (defArgs (top 15)) (defBody (top 15)) (defScope (top 15)) .none kV4 dc4 pm4 an4 cd4 ct4), sl4⟩) (c4 : PySem.W.codeIn K cd4 "above" = true) (k4 : PySem.W.keepIn K (.ref f4) = true)
    (a5 : PySem.W.nsIn K mainGlobals "beneath" = some (some (.ref f5))) (l5 : K.lookup f5 = some ⟨oc5, od5, .func (PySem.W.fnOf "beneath" "beneath" (defArgs (top 16)) (defBody (top 16)) (defScope (top 16)) .none kV5 dc5 pm5 an5 cd5 ct5), sl5⟩) (c5 : PySem.W.codeIn K cd5 "beneath" = true) (k5 : PySem.W.keepIn K (.ref f5) = true)
    (a6 : PySem.W.nsIn K mainGlobals "order_of" = some (some (.ref f6))) (l6 : K.lookup f6 = some ⟨oc6, od6, .func (PySem.W.fnOf "order_of" "order_of" (defArgs (top 18)) (defBody (top 18)) (defScope (top 18)) .none kV6 dc6 pm6 an6 cd6 ct6), sl6⟩) (c6 : PySem.W.codeIn K cd6 "order_of" = true) (k6 : PySem.W.keepIn K (.ref f6) = true)
    (a7 : PySem.W.nsIn K mainGlobals "rows_for" = some (some (.ref f7))) (l7 : K.lookup f7 = some ⟨oc7, od7, .func (PySem.W.fnOf "rows_for" "rows_for" (defArgs (top 19)) (defBody (top 19)) (defScope (top 19)) .none kV7 dc7 pm7 an7 cd7 ct7), sl7⟩) (c7 : PySem.W.codeIn K cd7 "rows_for" = true) (k7 : PySem.W.keepIn K (.ref f7) = true)
    (a8 : PySem.W.nsIn K mainGlobals "tell_orders" = some (some (.ref f8))) (l8 : K.lookup f8 = some ⟨oc8, od8, .func (PySem.W.fnOf "tell_orders" "tell_orders" (defArgs (top 20)) (defBody (top 20)) (defScope (top 20)) .none kV8 dc8 pm8 an8 cd8 ct8), sl8⟩) (c8 : PySem.W.codeIn K cd8 "tell_orders" = true) (k8 : PySem.W.keepIn K (.ref f8) = true)
    (a9 : PySem.W.nsIn K mainGlobals "quarrel_among" = some (some (.ref f9))) (l9 : K.lookup f9 = some ⟨oc9, od9, .func (PySem.W.fnOf "quarrel_among" "quarrel_among" (defArgs (top 21)) (defBody (top 21)) (defScope (top 21)) .none kV9 dc9 pm9 an9 cd9 ct9), sl9⟩) (c9 : PySem.W.codeIn K cd9 "quarrel_among" = true) (k9 : PySem.W.keepIn K (.ref f9) = true)
    (a10 : PySem.W.nsIn K mainGlobals "rows_by" = some (some (.ref f10))) (l10 : K.lookup f10 = some ⟨oc10, od10, .func (PySem.W.fnOf "rows_by" "rows_by" (defArgs (top 22)) (defBody (top 22)) (defScope (top 22)) .none kV10 dc10 pm10 an10 cd10 ct10), sl10⟩) (c10 : PySem.W.codeIn K cd10 "rows_by" = true) (k10 : PySem.W.keepIn K (.ref f10) = true)
    (a11 : PySem.W.nsIn K mainGlobals "merge_rows" = some (some (.ref f11))) (l11 : K.lookup f11 = some ⟨oc11, od11, .func (PySem.W.fnOf "merge_rows" "merge_rows" (defArgs (top 23)) (defBody (top 23)) (defScope (top 23)) .none kV11 dc11 pm11 an11 cd11 ct11), sl11⟩) (c11 : PySem.W.codeIn K cd11 "merge_rows" = true) (k11 : PySem.W.keepIn K (.ref f11) = true)
    (a12 : PySem.W.nsIn K mainGlobals "first_free" = some (some (.ref f12))) (l12 : K.lookup f12 = some ⟨oc12, od12, .func (PySem.W.fnOf "first_free" "first_free" (defArgs (top 24)) (defBody (top 24)) (defScope (top 24)) .none kV12 dc12 pm12 an12 cd12 ct12), sl12⟩) (c12 : PySem.W.codeIn K cd12 "first_free" = true) (k12 : PySem.W.keepIn K (.ref f12) = true)
    (a13 : PySem.W.nsIn K mainGlobals "ring_among" = some (some (.ref f13))) (l13 : K.lookup f13 = some ⟨oc13, od13, .func (PySem.W.fnOf "ring_among" "ring_among" (defArgs (top 25)) (defBody (top 25)) (defScope (top 25)) .none kV13 dc13 pm13 an13 cd13 ct13), sl13⟩) (c13 : PySem.W.codeIn K cd13 "ring_among" = true) (k13 : PySem.W.keepIn K (.ref f13) = true)
    (a14 : PySem.W.nsIn K mainGlobals "hold_of" = some (some (.ref f14))) (l14 : K.lookup f14 = some ⟨oc14, od14, .func (PySem.W.fnOf "hold_of" "hold_of" (defArgs (top 26)) (defBody (top 26)) (defScope (top 26)) .none kV14 dc14 pm14 an14 cd14 ct14), sl14⟩) (c14 : PySem.W.codeIn K cd14 "hold_of" = true) (k14 : PySem.W.keepIn K (.ref f14) = true)
    (a15 : PySem.W.nsIn K mainGlobals "_law_cell" = some (some (.ref f15))) (l15 : K.lookup f15 = some ⟨oc15, od15, .func (PySem.W.fnOf "_law_cell" "_law_cell" (defArgs (top 28)) (defBody (top 28)) (defScope (top 28)) .none kV15 dc15 pm15 an15 cd15 ct15), sl15⟩) (c15 : PySem.W.codeIn K cd15 "_law_cell" = true) (k15 : PySem.W.keepIn K (.ref f15) = true)
    (a16 : PySem.W.nsIn K mainGlobals "_law_purse" = some (some (.ref f16))) (l16 : K.lookup f16 = some ⟨oc16, od16, .func (PySem.W.fnOf "_law_purse" "_law_purse" (defArgs (top 29)) (defBody (top 29)) (defScope (top 29)) .none kV16 dc16 pm16 an16 cd16 ct16), sl16⟩) (c16 : PySem.W.codeIn K cd16 "_law_purse" = true) (k16 : PySem.W.keepIn K (.ref f16) = true)
    (a17 : PySem.W.nsIn K mainGlobals "_law_take" = some (some (.ref f17))) (l17 : K.lookup f17 = some ⟨oc17, od17, .func (PySem.W.fnOf "_law_take" "_law_take" (defArgs (top 30)) (defBody (top 30)) (defScope (top 30)) .none kV17 dc17 pm17 an17 cd17 ct17), sl17⟩) (c17 : PySem.W.codeIn K cd17 "_law_take" = true) (k17 : PySem.W.keepIn K (.ref f17) = true)
    (a18 : PySem.W.nsIn K mainGlobals "_law_word" = some (some (.ref f18))) (l18 : K.lookup f18 = some ⟨oc18, od18, .func (PySem.W.fnOf "_law_word" "_law_word" (defArgs (top 31)) (defBody (top 31)) (defScope (top 31)) .none kV18 dc18 pm18 an18 cd18 ct18), sl18⟩) (c18 : PySem.W.codeIn K cd18 "_law_word" = true) (k18 : PySem.W.keepIn K (.ref f18) = true)
    (a19 : PySem.W.nsIn K mainGlobals "_law_names" = some (some (.ref f19))) (l19 : K.lookup f19 = some ⟨oc19, od19, .func (PySem.W.fnOf "_law_names" "_law_names" (defArgs (top 32)) (defBody (top 32)) (defScope (top 32)) .none kV19 dc19 pm19 an19 cd19 ct19), sl19⟩) (c19 : PySem.W.codeIn K cd19 "_law_names" = true) (k19 : PySem.W.keepIn K (.ref f19) = true)
    (a20 : PySem.W.nsIn K mainGlobals "_law_some" = some (some (.ref f20))) (l20 : K.lookup f20 = some ⟨oc20, od20, .func (PySem.W.fnOf "_law_some" "_law_some" (defArgs (top 33)) (defBody (top 33)) (defScope (top 33)) .none kV20 dc20 pm20 an20 cd20 ct20), sl20⟩) (c20 : PySem.W.codeIn K cd20 "_law_some" = true) (k20 : PySem.W.keepIn K (.ref f20) = true)
    (a21 : PySem.W.nsIn K mainGlobals "_law_all" = some (some (.ref f21))) (l21 : K.lookup f21 = some ⟨oc21, od21, .func (PySem.W.fnOf "_law_all" "_law_all" (defArgs (top 34)) (defBody (top 34)) (defScope (top 34)) .none kV21 dc21 pm21 an21 cd21 ct21), sl21⟩) (c21 : PySem.W.codeIn K cd21 "_law_all" = true) (k21 : PySem.W.keepIn K (.ref f21) = true)
    (a22 : PySem.W.nsIn K mainGlobals "_law_family" = some (some (.ref f22))) (l22 : K.lookup f22 = some ⟨oc22, od22, .func (PySem.W.fnOf "_law_family" "_law_family" (defArgs (top 35)) (defBody (top 35)) (defScope (top 35)) .none kV22 dc22 pm22 an22 cd22 ct22), sl22⟩) (c22 : PySem.W.codeIn K cd22 "_law_family" = true) (k22 : PySem.W.keepIn K (.ref f22) = true)
    (a23 : PySem.W.nsIn K mainGlobals "_law_closed" = some (some (.ref f23))) (l23 : K.lookup f23 = some ⟨oc23, od23, .func (PySem.W.fnOf "_law_closed" "_law_closed" (defArgs (top 36)) (defBody (top 36)) (defScope (top 36)) .none kV23 dc23 pm23 an23 cd23 ct23), sl23⟩) (c23 : PySem.W.codeIn K cd23 "_law_closed" = true) (k23 : PySem.W.keepIn K (.ref f23) = true)
    (a24 : PySem.W.nsIn K mainGlobals "_law_only" = some (some (.ref f24))) (l24 : K.lookup f24 = some ⟨oc24, od24, .func (PySem.W.fnOf "_law_only" "_law_only" (defArgs (top 37)) (defBody (top 37)) (defScope (top 37)) .none kV24 dc24 pm24 an24 cd24 ct24), sl24⟩) (c24 : PySem.W.codeIn K cd24 "_law_only" = true) (k24 : PySem.W.keepIn K (.ref f24) = true)
    (a25 : PySem.W.nsIn K mainGlobals "_law_stranger" = some (some (.ref f25))) (l25 : K.lookup f25 = some ⟨oc25, od25, .func (PySem.W.fnOf "_law_stranger" "_law_stranger" (defArgs (top 38)) (defBody (top 38)) (defScope (top 38)) .none kV25 dc25 pm25 an25 cd25 ct25), sl25⟩) (c25 : PySem.W.codeIn K cd25 "_law_stranger" = true) (k25 : PySem.W.keepIn K (.ref f25) = true)
    (a26 : PySem.W.nsIn K mainGlobals "_law_ask" = some (some (.ref f26))) (l26 : K.lookup f26 = some ⟨oc26, od26, .func (PySem.W.fnOf "_law_ask" "_law_ask" (defArgs (top 39)) (defBody (top 39)) (defScope (top 39)) .none kV26 dc26 pm26 an26 cd26 ct26), sl26⟩) (c26 : PySem.W.codeIn K cd26 "_law_ask" = true) (k26 : PySem.W.keepIn K (.ref f26) = true)
    (a27 : PySem.W.nsIn K mainGlobals "_law_door" = some (some (.ref f27))) (l27 : K.lookup f27 = some ⟨oc27, od27, .func (PySem.W.fnOf "_law_door" "_law_door" (defArgs (top 40)) (defBody (top 40)) (defScope (top 40)) .none kV27 dc27 pm27 an27 cd27 ct27), sl27⟩) (c27 : PySem.W.codeIn K cd27 "_law_door" = true) (k27 : PySem.W.keepIn K (.ref f27) = true)
    (a28 : PySem.W.nsIn K mainGlobals "_law_right" = some (some (.ref f28))) (l28 : K.lookup f28 = some ⟨oc28, od28, .func (PySem.W.fnOf "_law_right" "_law_right" (defArgs (top 41)) (defBody (top 41)) (defScope (top 41)) .none kV28 dc28 pm28 an28 cd28 ct28), sl28⟩) (c28 : PySem.W.codeIn K cd28 "_law_right" = true) (k28 : PySem.W.keepIn K (.ref f28) = true)
    (a29 : PySem.W.nsIn K mainGlobals "law" = some (some (.ref f29))) (l29 : K.lookup f29 = some ⟨oc29, od29, .func (PySem.W.fnOf "law" "law" (defArgs (top 42)) (defBody (top 42)) (defScope (top 42)) .none kV29 dc29 pm29 an29 cd29 ct29), sl29⟩) (c29 : PySem.W.codeIn K cd29 "law" = true) (k29 : PySem.W.keepIn K (.ref f29) = true)
    (z0 : PySem.W.nsIn K mainGlobals "abs" = some none) (z1 : PySem.W.nsIn K mainGlobals "all" = some none) (z2 : PySem.W.nsIn K mainGlobals "any" = some none) (z3 : PySem.W.nsIn K mainGlobals "dict" = some none) (z4 : PySem.W.nsIn K mainGlobals "enumerate" = some none) (z5 : PySem.W.nsIn K mainGlobals "isinstance" = some none) (z6 : PySem.W.nsIn K mainGlobals "len" = some none) (z7 : PySem.W.nsIn K mainGlobals "list" = some none) (z8 : PySem.W.nsIn K mainGlobals "max" = some none) (z9 : PySem.W.nsIn K mainGlobals "min" = some none) (z10 : PySem.W.nsIn K mainGlobals "range" = some none) (z11 : PySem.W.nsIn K mainGlobals "repr" = some none) (z12 : PySem.W.nsIn K mainGlobals "sorted" = some none) (z13 : PySem.W.nsIn K mainGlobals "str" = some none) (z14 : PySem.W.nsIn K mainGlobals "tuple" = some none) (z15 : PySem.W.nsIn K mainGlobals "ValueError" = some none)
    (y0 : PySem.W.nsIn K mainGlobals "RowError" = some (some (.ref cRowError))) (y1 : PySem.W.nsIn K mainGlobals "NoKind" = some (some (.ref cNoKind))) (y2 : PySem.W.nsIn K mainGlobals "NoOrder" = some (some (.ref cNoOrder))) (y3 : PySem.W.nsIn K mainGlobals "NoChange" = some (some (.ref cNoChange))) (y4 : PySem.W.nsIn K mainGlobals "NoShape" = some (some (.ref cNoShape))) (y5 : PySem.W.nsIn K mainGlobals "NoField" = some (some (.ref cNoField))) (y6 : PySem.W.nsIn K mainGlobals "NoText" = some (some (.ref cNoText))) (y7 : PySem.W.nsIn K mainGlobals "NoLimit" = some (some (.ref cNoLimit))) (y8 : PySem.W.nsIn K mainGlobals "NoWarming" = some (some (.ref cNoWarming)))
    (x_exNoKind : PySem.W.excIn K cNoKind [.type "ValueError", .type "Exception", .type "BaseException", .type "object"] "ValueError.__new__" = true)
    (x_gaNoKind : PySem.W.findIn K (.ref cNoKind) "__getattribute__" = some (some (.builtin "BaseException.__getattribute__")))
    (x_hkNoKind : PySem.W.findIn K (.ref cNoKind) "__getattr__" = some none)
    (x_caNoKind : PySem.W.findIn K (.ref cNoKind) "__class__" = some (some (.builtin "object.__class__")))
    (x_obNoKind : PySem.W.mroIn K cNoKind (.type "object") = some true)
    (x_beNoKind : PySem.W.mroIn K cNoKind (.type "BaseException") = some true)
    (x_clNoKind : PySem.W.clsIn K cNoKind = some dNoKind)
    (x_exNoOrder : PySem.W.excIn K cNoOrder [.type "ValueError", .type "Exception", .type "BaseException", .type "object"] "ValueError.__new__" = true)
    (x_gaNoOrder : PySem.W.findIn K (.ref cNoOrder) "__getattribute__" = some (some (.builtin "BaseException.__getattribute__")))
    (x_hkNoOrder : PySem.W.findIn K (.ref cNoOrder) "__getattr__" = some none)
    (x_caNoOrder : PySem.W.findIn K (.ref cNoOrder) "__class__" = some (some (.builtin "object.__class__")))
    (x_obNoOrder : PySem.W.mroIn K cNoOrder (.type "object") = some true)
    (x_beNoOrder : PySem.W.mroIn K cNoOrder (.type "BaseException") = some true)
    (x_clNoOrder : PySem.W.clsIn K cNoOrder = some dNoOrder)
    (x_gt : PySem.W.specialIn K (.builtin "object.__class__") "__get__" = some (some (.builtin "getset_descriptor.__get__")))
    (x_tk : PySem.W.takesIn K (.builtin "object.__class__") = some true)
    (g_x_k : PySem.W.exmOne K (.ref cNoKind) (.ref cRowError) = some true)
    (g_v_k : PySem.W.kitOne K (.ref cNoKind) (.type "ValueError") = some true)
    (g_k_RowError : PySem.W.kitOne K (.ref cNoKind) (.ref cRowError) = some true)
    (g_k_NoKind : PySem.W.kitOne K (.ref cNoKind) (.ref cNoKind) = some true)
    (g_k_NoOrder : PySem.W.kitOne K (.ref cNoKind) (.ref cNoOrder) = some false)
    (g_k_NoChange : PySem.W.kitOne K (.ref cNoKind) (.ref cNoChange) = some false)
    (g_k_NoShape : PySem.W.kitOne K (.ref cNoKind) (.ref cNoShape) = some false)
    (g_k_NoField : PySem.W.kitOne K (.ref cNoKind) (.ref cNoField) = some false)
    (g_k_NoText : PySem.W.kitOne K (.ref cNoKind) (.ref cNoText) = some false)
    (g_k_NoLimit : PySem.W.kitOne K (.ref cNoKind) (.ref cNoLimit) = some false)
    (g_k_NoWarming : PySem.W.kitOne K (.ref cNoKind) (.ref cNoWarming) = some false)
    (g_x_o : PySem.W.exmOne K (.ref cNoOrder) (.ref cRowError) = some true)
    (g_v_o : PySem.W.kitOne K (.ref cNoOrder) (.type "ValueError") = some true)
    (g_o_RowError : PySem.W.kitOne K (.ref cNoOrder) (.ref cRowError) = some true)
    (g_o_NoKind : PySem.W.kitOne K (.ref cNoOrder) (.ref cNoKind) = some false)
    (g_o_NoOrder : PySem.W.kitOne K (.ref cNoOrder) (.ref cNoOrder) = some true)
    (g_o_NoChange : PySem.W.kitOne K (.ref cNoOrder) (.ref cNoChange) = some false)
    (g_o_NoShape : PySem.W.kitOne K (.ref cNoOrder) (.ref cNoShape) = some false)
    (g_o_NoField : PySem.W.kitOne K (.ref cNoOrder) (.ref cNoField) = some false)
    (g_o_NoText : PySem.W.kitOne K (.ref cNoOrder) (.ref cNoText) = some false)
    (g_o_NoLimit : PySem.W.kitOne K (.ref cNoOrder) (.ref cNoLimit) = some false)
    (g_o_NoWarming : PySem.W.kitOne K (.ref cNoOrder) (.ref cNoWarming) = some false)
    : ∃ fd : FuncData, (∀ (s : Shared) (v : Value), BindsTo s fd ⟨[v], []⟩ [("_law_script", v)]) ∧ ∀ base : Heap, K.In base → base.Ns mainGlobals mg → FnOk l.prog w K mg base CX0 9 fa fd ["_law_script"] (spLaw K) := by
  have e := hfa.symm.trans (PySem.W.mg_of X G a29)
  cases e
  have F0 := fun_mk (st := top 11) l0 c0 k0
  have b0 := F0.binds (ps := ["thing", "kinds"]) fun _ _ _ _ _ _ => el2 fun _ _ => rfl
  have F1 := fun_mk (st := top 12) l1 c1 k1
  have b1 := F1.binds (ps := ["kind", "kinds"]) fun _ _ _ _ _ _ => el2 fun _ _ => rfl
  have F2 := fun_mk (st := top 13) l2 c2 k2
  have b2 := F2.binds (ps := ["family"]) fun _ _ _ _ _ _ => el1 fun _ => rfl
  have F3 := fun_mk (st := top 14) l3 c3 k3
  have b3 := F3.binds (ps := ["elders_of", "kind"]) fun _ _ _ _ _ _ => el2 fun _ _ => rfl
  have F4 := fun_mk (st := top 15) l4 c4 k4
  have b4 := F4.binds (ps := ["family", "kind"]) fun _ _ _ _ _ _ => el2 fun _ _ => rfl
  have F5 := fun_mk (st := top 16) l5 c5 k5
  have b5 := F5.binds (ps := ["family", "kind"]) fun _ _ _ _ _ _ => el2 fun _ _ => rfl
  have F6 := fun_mk (st := top 18) l6 c6 k6
  have b6 := F6.binds (ps := ["family", "kind"]) fun _ _ _ _ _ _ => el2 fun _ _ => rfl
  have F7 := fun_mk (st := top 19) l7 c7 k7
  have b7 := F7.binds (ps := ["family", "kind"]) fun _ _ _ _ _ _ => el2 fun _ _ => rfl
  have F8 := fun_mk (st := top 20) l8 c8 k8
  have b8 := F8.binds (ps := ["family"]) fun _ _ _ _ _ _ => el1 fun _ => rfl
  have F9 := fun_mk (st := top 21) l9 c9 k9
  have b9 := F9.binds (ps := ["kinds", "told"]) fun _ _ _ _ _ _ => el2 fun _ _ => rfl
  have F10 := fun_mk (st := top 22) l10 c10 k10
  have b10 := F10.binds (ps := ["elders", "told"]) fun _ _ _ _ _ _ => el2 fun _ _ => rfl
  have F11 := fun_mk (st := top 23) l11 c11 k11
  have b11 := F11.binds (ps := ["kind", "rows"]) fun _ _ _ _ _ _ => el2 fun _ _ => rfl
  have F12 := fun_mk (st := top 24) l12 c12 k12
  have b12 := F12.binds (ps := ["left"]) fun _ _ _ _ _ _ => el1 fun _ => rfl
  have F13 := fun_mk (st := top 25) l13 c13 k13
  have b13 := F13.binds (ps := ["left"]) fun _ _ _ _ _ _ => el1 fun _ => rfl
  have F14 := fun_mk (st := top 26) l14 c14 k14
  have b14 := F14.binds (ps := ["name", "left"]) fun _ _ _ _ _ _ => el2 fun _ _ => rfl
  have F15 := fun_mk (st := top 28) l15 c15 k15
  have b15 := F15.binds (ps := ["_law_script", "_law_k"]) fun _ _ _ _ _ _ => el2 fun _ _ => rfl
  have F16 := fun_mk (st := top 29) l16 c16 k16
  have b16 := F16.binds (ps := ["_law_cell_here"]) fun _ _ _ _ _ _ => el1 fun _ => rfl
  have F17 := fun_mk (st := top 30) l17 c17 k17
  have b17 := F17.binds (ps := ["_law_purse_here", "_law_many"]) fun _ _ _ _ _ _ => el2 fun _ _ => rfl
  have F18 := fun_mk (st := top 31) l18 c18 k18
  have b18 := F18.binds (ps := ["_law_purse_here", "_law_used"]) fun _ _ _ _ _ _ => el2 fun _ _ => rfl
  have F19 := fun_mk (st := top 32) l19 c19 k19
  have b19 := F19.binds (ps := ["_law_purse_here", "_law_many", "_law_used"]) fun _ _ _ _ _ _ => el3 fun _ _ _ => rfl
  have F20 := fun_mk (st := top 33) l20 c20 k20
  have b20 := F20.binds (ps := ["_law_purse_here", "_law_menu", "_law_most"]) fun _ _ _ _ _ _ => el3 fun _ _ _ => rfl
  have F21 := fun_mk (st := top 34) l21 c21 k21
  have b21 := F21.binds (ps := ["_law_purse_here", "_law_names_here", "_law_last"]) fun _ _ _ _ _ _ => el3 fun _ _ _ => rfl
  have F22 := fun_mk (st := top 35) l22 c22 k22
  have b22 := F22.binds (ps := ["_law_purse_here", "_law_most"]) fun _ _ _ _ _ _ => el2 fun _ _ => rfl
  have F23 := fun_mk (st := top 36) l23 c23 k23
  have b23 := F23.binds (ps := ["_law_family_here"]) fun _ _ _ _ _ _ => el1 fun _ => rfl
  have F24 := fun_mk (st := top 37) l24 c24 k24
  have b24 := F24.binds (ps := ["_law_e", "_law_at"]) fun _ _ _ _ _ _ => el2 fun _ _ => rfl
  have F25 := fun_mk (st := top 38) l25 c25 k25
  have b25 := F25.binds (ps := ["_law_purse_here", "_law_family_here"]) fun _ _ _ _ _ _ => el2 fun _ _ => rfl
  have F26 := fun_mk (st := top 39) l26 c26 k26
  have b26 := F26.binds (ps := ["_law_door_here", "_law_family_here", "_law_thing"]) fun _ _ _ _ _ _ => el3 fun _ _ _ => rfl
  have F27 := fun_mk (st := top 40) l27 c27 k27
  have b27 := F27.binds (ps := ["_law_door_here", "_law_family_here", "_law_thing", "_law_closed_here"]) fun _ _ _ _ _ _ => el4 fun _ _ _ _ => rfl
  have F28 := fun_mk (st := top 41) l28 c28 k28
  have b28 := F28.binds (ps := ["_law_purse_here"]) fun _ _ _ _ _ _ => el1 fun _ => rfl
  have F29 := fun_mk (st := top 42) l29 c29 k29
  have b29 := F29.binds (ps := ["_law_script"]) fun _ _ _ _ _ _ => el1 fun _ => rfl
  have T : Defs K mg ⟨(f0, PySem.W.fnOf "is_kind" "is_kind" (defArgs (top 11)) (defBody (top 11)) (defScope (top 11)) .none kV0 dc0 pm0 an0 cd0 ct0), (f1, PySem.W.fnOf "check_kind" "check_kind" (defArgs (top 12)) (defBody (top 12)) (defScope (top 12)) .none kV1 dc1 pm1 an1 cd1 ct1), (f2, PySem.W.fnOf "elders_first" "elders_first" (defArgs (top 13)) (defBody (top 13)) (defScope (top 13)) .none kV2 dc2 pm2 an2 cd2 ct2), (f3, PySem.W.fnOf "reached_from" "reached_from" (defArgs (top 14)) (defBody (top 14)) (defScope (top 14)) .none kV3 dc3 pm3 an3 cd3 ct3), (f4, PySem.W.fnOf "above" "above" (defArgs (top 15)) (defBody (top 15)) (defScope (top 15)) .none kV4 dc4 pm4 an4 cd4 ct4), (f5, PySem.W.fnOf "beneath" "beneath" (defArgs (top 16)) (defBody (top 16)) (defScope (top 16)) .none kV5 dc5 pm5 an5 cd5 ct5), (f6, PySem.W.fnOf "order_of" "order_of" (defArgs (top 18)) (defBody (top 18)) (defScope (top 18)) .none kV6 dc6 pm6 an6 cd6 ct6), (f7, PySem.W.fnOf "rows_for" "rows_for" (defArgs (top 19)) (defBody (top 19)) (defScope (top 19)) .none kV7 dc7 pm7 an7 cd7 ct7), (f8, PySem.W.fnOf "tell_orders" "tell_orders" (defArgs (top 20)) (defBody (top 20)) (defScope (top 20)) .none kV8 dc8 pm8 an8 cd8 ct8), (f9, PySem.W.fnOf "quarrel_among" "quarrel_among" (defArgs (top 21)) (defBody (top 21)) (defScope (top 21)) .none kV9 dc9 pm9 an9 cd9 ct9), (f10, PySem.W.fnOf "rows_by" "rows_by" (defArgs (top 22)) (defBody (top 22)) (defScope (top 22)) .none kV10 dc10 pm10 an10 cd10 ct10), (f11, PySem.W.fnOf "merge_rows" "merge_rows" (defArgs (top 23)) (defBody (top 23)) (defScope (top 23)) .none kV11 dc11 pm11 an11 cd11 ct11), (f12, PySem.W.fnOf "first_free" "first_free" (defArgs (top 24)) (defBody (top 24)) (defScope (top 24)) .none kV12 dc12 pm12 an12 cd12 ct12), (f13, PySem.W.fnOf "ring_among" "ring_among" (defArgs (top 25)) (defBody (top 25)) (defScope (top 25)) .none kV13 dc13 pm13 an13 cd13 ct13), (f14, PySem.W.fnOf "hold_of" "hold_of" (defArgs (top 26)) (defBody (top 26)) (defScope (top 26)) .none kV14 dc14 pm14 an14 cd14 ct14), (f15, PySem.W.fnOf "_law_cell" "_law_cell" (defArgs (top 28)) (defBody (top 28)) (defScope (top 28)) .none kV15 dc15 pm15 an15 cd15 ct15), (f16, PySem.W.fnOf "_law_purse" "_law_purse" (defArgs (top 29)) (defBody (top 29)) (defScope (top 29)) .none kV16 dc16 pm16 an16 cd16 ct16), (f17, PySem.W.fnOf "_law_take" "_law_take" (defArgs (top 30)) (defBody (top 30)) (defScope (top 30)) .none kV17 dc17 pm17 an17 cd17 ct17), (f18, PySem.W.fnOf "_law_word" "_law_word" (defArgs (top 31)) (defBody (top 31)) (defScope (top 31)) .none kV18 dc18 pm18 an18 cd18 ct18), (f19, PySem.W.fnOf "_law_names" "_law_names" (defArgs (top 32)) (defBody (top 32)) (defScope (top 32)) .none kV19 dc19 pm19 an19 cd19 ct19), (f20, PySem.W.fnOf "_law_some" "_law_some" (defArgs (top 33)) (defBody (top 33)) (defScope (top 33)) .none kV20 dc20 pm20 an20 cd20 ct20), (f21, PySem.W.fnOf "_law_all" "_law_all" (defArgs (top 34)) (defBody (top 34)) (defScope (top 34)) .none kV21 dc21 pm21 an21 cd21 ct21), (f22, PySem.W.fnOf "_law_family" "_law_family" (defArgs (top 35)) (defBody (top 35)) (defScope (top 35)) .none kV22 dc22 pm22 an22 cd22 ct22), (f23, PySem.W.fnOf "_law_closed" "_law_closed" (defArgs (top 36)) (defBody (top 36)) (defScope (top 36)) .none kV23 dc23 pm23 an23 cd23 ct23), (f24, PySem.W.fnOf "_law_only" "_law_only" (defArgs (top 37)) (defBody (top 37)) (defScope (top 37)) .none kV24 dc24 pm24 an24 cd24 ct24), (f25, PySem.W.fnOf "_law_stranger" "_law_stranger" (defArgs (top 38)) (defBody (top 38)) (defScope (top 38)) .none kV25 dc25 pm25 an25 cd25 ct25), (f26, PySem.W.fnOf "_law_ask" "_law_ask" (defArgs (top 39)) (defBody (top 39)) (defScope (top 39)) .none kV26 dc26 pm26 an26 cd26 ct26), (f27, PySem.W.fnOf "_law_door" "_law_door" (defArgs (top 40)) (defBody (top 40)) (defScope (top 40)) .none kV27 dc27 pm27 an27 cd27 ct27), (f28, PySem.W.fnOf "_law_right" "_law_right" (defArgs (top 41)) (defBody (top 41)) (defScope (top 41)) .none kV28 dc28 pm28 an28 cd28 ct28), (fa, PySem.W.fnOf "law" "law" (defArgs (top 42)) (defBody (top 42)) (defScope (top 42)) .none kV29 dc29 pm29 an29 cd29 ct29), cRowError, cNoKind, cNoOrder, cNoChange, cNoShape, cNoField, cNoText, cNoLimit, cNoWarming⟩ := ⟨⟨F0, b0, PySem.W.mg_of X G a0⟩, ⟨F1, b1, PySem.W.mg_of X G a1⟩, ⟨F2, b2, PySem.W.mg_of X G a2⟩, ⟨F3, b3, PySem.W.mg_of X G a3⟩, ⟨F4, b4, PySem.W.mg_of X G a4⟩, ⟨F5, b5, PySem.W.mg_of X G a5⟩, ⟨F6, b6, PySem.W.mg_of X G a6⟩, ⟨F7, b7, PySem.W.mg_of X G a7⟩, ⟨F8, b8, PySem.W.mg_of X G a8⟩, ⟨F9, b9, PySem.W.mg_of X G a9⟩, ⟨F10, b10, PySem.W.mg_of X G a10⟩, ⟨F11, b11, PySem.W.mg_of X G a11⟩, ⟨F12, b12, PySem.W.mg_of X G a12⟩, ⟨F13, b13, PySem.W.mg_of X G a13⟩, ⟨F14, b14, PySem.W.mg_of X G a14⟩, ⟨F15, b15, PySem.W.mg_of X G a15⟩, ⟨F16, b16, PySem.W.mg_of X G a16⟩, ⟨F17, b17, PySem.W.mg_of X G a17⟩, ⟨F18, b18, PySem.W.mg_of X G a18⟩, ⟨F19, b19, PySem.W.mg_of X G a19⟩, ⟨F20, b20, PySem.W.mg_of X G a20⟩, ⟨F21, b21, PySem.W.mg_of X G a21⟩, ⟨F22, b22, PySem.W.mg_of X G a22⟩, ⟨F23, b23, PySem.W.mg_of X G a23⟩, ⟨F24, b24, PySem.W.mg_of X G a24⟩, ⟨F25, b25, PySem.W.mg_of X G a25⟩, ⟨F26, b26, PySem.W.mg_of X G a26⟩, ⟨F27, b27, PySem.W.mg_of X G a27⟩, ⟨F28, b28, PySem.W.mg_of X G a28⟩, ⟨F29, b29, PySem.W.mg_of X G a29⟩, PySem.W.mg_none_of X G z0, PySem.W.mg_none_of X G z1, PySem.W.mg_none_of X G z2, PySem.W.mg_none_of X G z3, PySem.W.mg_none_of X G z4, PySem.W.mg_none_of X G z5, PySem.W.mg_none_of X G z6, PySem.W.mg_none_of X G z7, PySem.W.mg_none_of X G z8, PySem.W.mg_none_of X G z9, PySem.W.mg_none_of X G z10, PySem.W.mg_none_of X G z11, PySem.W.mg_none_of X G z12, PySem.W.mg_none_of X G z13, PySem.W.mg_none_of X G z14, PySem.W.mg_none_of X G z15⟩
  have CS : Clss K mg ⟨(f0, PySem.W.fnOf "is_kind" "is_kind" (defArgs (top 11)) (defBody (top 11)) (defScope (top 11)) .none kV0 dc0 pm0 an0 cd0 ct0), (f1, PySem.W.fnOf "check_kind" "check_kind" (defArgs (top 12)) (defBody (top 12)) (defScope (top 12)) .none kV1 dc1 pm1 an1 cd1 ct1), (f2, PySem.W.fnOf "elders_first" "elders_first" (defArgs (top 13)) (defBody (top 13)) (defScope (top 13)) .none kV2 dc2 pm2 an2 cd2 ct2), (f3, PySem.W.fnOf "reached_from" "reached_from" (defArgs (top 14)) (defBody (top 14)) (defScope (top 14)) .none kV3 dc3 pm3 an3 cd3 ct3), (f4, PySem.W.fnOf "above" "above" (defArgs (top 15)) (defBody (top 15)) (defScope (top 15)) .none kV4 dc4 pm4 an4 cd4 ct4), (f5, PySem.W.fnOf "beneath" "beneath" (defArgs (top 16)) (defBody (top 16)) (defScope (top 16)) .none kV5 dc5 pm5 an5 cd5 ct5), (f6, PySem.W.fnOf "order_of" "order_of" (defArgs (top 18)) (defBody (top 18)) (defScope (top 18)) .none kV6 dc6 pm6 an6 cd6 ct6), (f7, PySem.W.fnOf "rows_for" "rows_for" (defArgs (top 19)) (defBody (top 19)) (defScope (top 19)) .none kV7 dc7 pm7 an7 cd7 ct7), (f8, PySem.W.fnOf "tell_orders" "tell_orders" (defArgs (top 20)) (defBody (top 20)) (defScope (top 20)) .none kV8 dc8 pm8 an8 cd8 ct8), (f9, PySem.W.fnOf "quarrel_among" "quarrel_among" (defArgs (top 21)) (defBody (top 21)) (defScope (top 21)) .none kV9 dc9 pm9 an9 cd9 ct9), (f10, PySem.W.fnOf "rows_by" "rows_by" (defArgs (top 22)) (defBody (top 22)) (defScope (top 22)) .none kV10 dc10 pm10 an10 cd10 ct10), (f11, PySem.W.fnOf "merge_rows" "merge_rows" (defArgs (top 23)) (defBody (top 23)) (defScope (top 23)) .none kV11 dc11 pm11 an11 cd11 ct11), (f12, PySem.W.fnOf "first_free" "first_free" (defArgs (top 24)) (defBody (top 24)) (defScope (top 24)) .none kV12 dc12 pm12 an12 cd12 ct12), (f13, PySem.W.fnOf "ring_among" "ring_among" (defArgs (top 25)) (defBody (top 25)) (defScope (top 25)) .none kV13 dc13 pm13 an13 cd13 ct13), (f14, PySem.W.fnOf "hold_of" "hold_of" (defArgs (top 26)) (defBody (top 26)) (defScope (top 26)) .none kV14 dc14 pm14 an14 cd14 ct14), (f15, PySem.W.fnOf "_law_cell" "_law_cell" (defArgs (top 28)) (defBody (top 28)) (defScope (top 28)) .none kV15 dc15 pm15 an15 cd15 ct15), (f16, PySem.W.fnOf "_law_purse" "_law_purse" (defArgs (top 29)) (defBody (top 29)) (defScope (top 29)) .none kV16 dc16 pm16 an16 cd16 ct16), (f17, PySem.W.fnOf "_law_take" "_law_take" (defArgs (top 30)) (defBody (top 30)) (defScope (top 30)) .none kV17 dc17 pm17 an17 cd17 ct17), (f18, PySem.W.fnOf "_law_word" "_law_word" (defArgs (top 31)) (defBody (top 31)) (defScope (top 31)) .none kV18 dc18 pm18 an18 cd18 ct18), (f19, PySem.W.fnOf "_law_names" "_law_names" (defArgs (top 32)) (defBody (top 32)) (defScope (top 32)) .none kV19 dc19 pm19 an19 cd19 ct19), (f20, PySem.W.fnOf "_law_some" "_law_some" (defArgs (top 33)) (defBody (top 33)) (defScope (top 33)) .none kV20 dc20 pm20 an20 cd20 ct20), (f21, PySem.W.fnOf "_law_all" "_law_all" (defArgs (top 34)) (defBody (top 34)) (defScope (top 34)) .none kV21 dc21 pm21 an21 cd21 ct21), (f22, PySem.W.fnOf "_law_family" "_law_family" (defArgs (top 35)) (defBody (top 35)) (defScope (top 35)) .none kV22 dc22 pm22 an22 cd22 ct22), (f23, PySem.W.fnOf "_law_closed" "_law_closed" (defArgs (top 36)) (defBody (top 36)) (defScope (top 36)) .none kV23 dc23 pm23 an23 cd23 ct23), (f24, PySem.W.fnOf "_law_only" "_law_only" (defArgs (top 37)) (defBody (top 37)) (defScope (top 37)) .none kV24 dc24 pm24 an24 cd24 ct24), (f25, PySem.W.fnOf "_law_stranger" "_law_stranger" (defArgs (top 38)) (defBody (top 38)) (defScope (top 38)) .none kV25 dc25 pm25 an25 cd25 ct25), (f26, PySem.W.fnOf "_law_ask" "_law_ask" (defArgs (top 39)) (defBody (top 39)) (defScope (top 39)) .none kV26 dc26 pm26 an26 cd26 ct26), (f27, PySem.W.fnOf "_law_door" "_law_door" (defArgs (top 40)) (defBody (top 40)) (defScope (top 40)) .none kV27 dc27 pm27 an27 cd27 ct27), (f28, PySem.W.fnOf "_law_right" "_law_right" (defArgs (top 41)) (defBody (top 41)) (defScope (top 41)) .none kV28 dc28 pm28 an28 cd28 ct28), (fa, PySem.W.fnOf "law" "law" (defArgs (top 42)) (defBody (top 42)) (defScope (top 42)) .none kV29 dc29 pm29 an29 cd29 ct29), cRowError, cNoKind, cNoOrder, cNoChange, cNoShape, cNoField, cNoText, cNoLimit, cNoWarming⟩ := ⟨⟨PySem.W.mg_of X G y1, x_exNoKind, ⟨x_gaNoKind, x_hkNoKind, x_caNoKind, x_gt, x_tk, x_obNoKind, x_beNoKind, by rw [x_clNoKind]; rfl⟩⟩, ⟨PySem.W.mg_of X G y2, x_exNoOrder, ⟨x_gaNoOrder, x_hkNoOrder, x_caNoOrder, x_gt, x_tk, x_obNoOrder, x_beNoOrder, by rw [x_clNoOrder]; rfl⟩⟩, PySem.W.mg_of X G y0, PySem.W.mg_of X G y3, PySem.W.mg_of X G y4, PySem.W.mg_of X G y5, PySem.W.mg_of X G y6, PySem.W.mg_of X G y7, PySem.W.mg_of X G y8, g_x_k, g_v_k, g_k_RowError, g_k_NoKind, g_k_NoOrder, g_k_NoChange, g_k_NoShape, g_k_NoField, g_k_NoText, g_k_NoLimit, g_k_NoWarming, g_x_o, g_v_o, g_o_RowError, g_o_NoKind, g_o_NoOrder, g_o_NoChange, g_o_NoShape, g_o_NoField, g_o_NoText, g_o_NoLimit, g_o_NoWarming⟩
  exact ⟨PySem.W.fnOf "law" "law" (defArgs (top 42)) (defBody (top 42)) (defScope (top 42)) .none kV29 dc29 pm29 an29 cd29 ct29, fun s v => .of_eq rfl, fun base _ _ => ok_law T CS⟩
theorem walk {l : PySem.W.OpenLaw} {q : Program} {loose : List Str} {XP : (Str → Option Value) → Heap → Prop} {YP : World → Heap → Prop} {d : DefRec} {K : Params → PySem.W.Frag} (hn : l.most = some 63) (hdf : d.params.defaults = [])
    (hY : ∀ (w : World) (h : Heap), YP w h → (K w.params).In h)
    (F : ∀ (w : World) (mg : Str → Option Value) (fa : Addr) (h : Heap), (K w.params).In h → h.Ns mainGlobals mg → mg d.name = some (.ref fa) →
      ∃ fd : FuncData, (∀ (s : Shared) (u : Value), BindsTo s fd ⟨[u], []⟩ [("_law_script", u)]) ∧ ∀ base : Heap, (K w.params).In base → base.Ns mainGlobals mg → FnOk l.prog w (K w.params) mg base CX0 9 fa fd ["_law_script"] (spLaw (K w.params))) :
    PySem.W.WalkO q loose XP YP l.row.toRowW d [] (fun f vs => PySem.call f vs) :=
  L2.walk_of (n := 63) (k := 9) (x := "_law_script") (CX := fun _ => CX0) (sp := fun w => spLaw (K w.params)) hn (by decide) hdf ⟨rfl, by decide, by decide, rfl⟩ hY F (fun _ _ a ns hl _ hS => ⟨a, ns, rfl, hS, hl, fun _ => rfl⟩) fun _ _ _ _ _ z => z
end K03
theorem PySem.W.Fast.tw9205907998700521824 : True := trivial
theorem PySem.W.Fast.tw932181095449167393 : True := trivial
theorem PySem.W.Fast.tw15913579338668160561 : True := trivial
theorem PySem.W.Fast.tw7413227770996032220 : True := trivial
theorem PySem.W.Fast.tw15206859720167856757 : True := trivial
theorem PySem.W.Fast.tw2523209361058082933 : True := trivial
theorem PySem.W.Fast.tw2673531464490205461 : True := trivial
theorem PySem.W.Fast.tw3095985959706721616 : True := trivial
theorem PySem.W.Fast.tw6754289072056099591 : True := trivial
theorem PySem.W.Fast.tw2039196400882823820 : True := trivial
theorem PySem.W.Fast.tw4897043246943565891 : True := trivial
theorem PySem.W.Fast.tw13644501879867228510 : True := trivial
theorem PySem.W.Fast.tw9918275722147444044 : True := trivial
theorem PySem.W.Fast.tw15939979272882023265 : True := trivial
theorem PySem.W.Fast.tw15433822706492516497 : True := trivial
theorem PySem.W.Fast.tw17284080175266741120 : True := trivial
theorem PySem.W.Fast.tw8292127920446535838 : True := trivial
theorem PySem.W.Fast.tw14338674606407147580 : True := trivial
theorem PySem.W.Fast.tw9122263320505024687 : True := trivial
theorem PySem.W.Fast.tw9615161177801256056 : True := trivial
theorem PySem.W.Fast.tw6419221888371966836 : True := trivial
theorem PySem.W.Fast.tw15591546827135086204 : True := trivial
theorem PySem.W.Fast.tw17251213231440471629 : True := trivial
theorem PySem.W.Fast.tw13452669494827028950 : True := trivial
theorem PySem.W.Fast.tw6064118422434950133 : True := trivial
theorem PySem.W.Fast.tw14710795765311280029 : True := trivial
theorem PySem.W.Fast.tw12076124664378444792 : True := trivial
theorem PySem.W.Fast.tw5893526374846409957 : True := trivial
theorem PySem.W.Fast.tw9105857438535488367 : True := trivial
theorem PySem.W.Fast.tw6176601989886718692 : True := trivial
theorem PySem.W.Fast.tw5380821871413568253 : True := trivial
theorem PySem.W.Fast.tw532606448217657650 : True := trivial
theorem PySem.W.Fast.tw3691514552553075749 : True := trivial
theorem PySem.W.Fast.tw15950370870412216712 : True := trivial
theorem PySem.W.Fast.tw6238767417349458693 : True := trivial
theorem PySem.W.Fast.tw4199174765735164737 : True := trivial
theorem PySem.W.Fast.tw12928090743633369227 : True := trivial
theorem PySem.W.Fast.tw15716442069956085954 : True := trivial
theorem PySem.W.Fast.tw12158215240616642133 : True := trivial
theorem PySem.W.Fast.tw7747732644623900128 : True := trivial
open PySem PySem.W PyProof.Rows
set_option maxRecDepth 100000 in
set_option maxHeartbeats 0 in
theorem PySem.Challenge.cw_warmrows_k03_no_kind_is_refused_holds : PySem.Challenge.rw_warmrows_k03_no_kind_is_refused.Holds := by
  w_on; o_law; k_head; (case hw => w_witness2)
  k_fill
  refine K03.walk (l := PySem.Challenge.rw_warmrows_k03_no_kind_is_refused) rfl rfl (fun w h Y => PySem.W.kIn_of Y) ?F
  case F =>
    intro w mg fa h KX G hmg
    refine' K03.all_mk KX G hmg ?a0 ?l0 ?c0 ?k0 ?a1 ?l1 ?c1 ?k1 ?a2 ?l2 ?c2 ?k2 ?a3 ?l3 ?c3 ?k3 ?a4 ?l4 ?c4 ?k4 ?a5 ?l5 ?c5 ?k5 ?a6 ?l6 ?c6 ?k6 ?a7 ?l7 ?c7 ?k7 ?a8 ?l8 ?c8 ?k8 ?a9 ?l9 ?c9 ?k9 ?a10 ?l10 ?c10 ?k10 ?a11 ?l11 ?c11 ?k11 ?a12 ?l12 ?c12 ?k12 ?a13 ?l13 ?c13 ?k13 ?a14 ?l14 ?c14 ?k14 ?a15 ?l15 ?c15 ?k15 ?a16 ?l16 ?c16 ?k16 ?a17 ?l17 ?c17 ?k17 ?a18 ?l18 ?c18 ?k18 ?a19 ?l19 ?c19 ?k19 ?a20 ?l20 ?c20 ?k20 ?a21 ?l21 ?c21 ?k21 ?a22 ?l22 ?c22 ?k22 ?a23 ?l23 ?c23 ?k23 ?a24 ?l24 ?c24 ?k24 ?a25 ?l25 ?c25 ?k25 ?a26 ?l26 ?c26 ?k26 ?a27 ?l27 ?c27 ?k27 ?a28 ?l28 ?c28 ?k28 ?a29 ?l29 ?c29 ?k29 ?z0 ?z1 ?z2 ?z3 ?z4 ?z5 ?z6 ?z7 ?z8 ?z9 ?z10 ?z11 ?z12 ?z13 ?z14 ?z15 ?y0 ?y1 ?y2 ?y3 ?y4 ?y5 ?y6 ?y7 ?y8 ?x_exNoKind ?x_gaNoKind ?x_hkNoKind ?x_caNoKind ?x_obNoKind ?x_beNoKind ?x_clNoKind ?x_exNoOrder ?x_gaNoOrder ?x_hkNoOrder ?x_caNoOrder ?x_obNoOrder ?x_beNoOrder ?x_clNoOrder ?x_gt ?x_tk ?g_x_k ?g_v_k ?g_k_RowError ?g_k_NoKind ?g_k_NoOrder ?g_k_NoChange ?g_k_NoShape ?g_k_NoField ?g_k_NoText ?g_k_NoLimit ?g_k_NoWarming ?g_x_o ?g_v_o ?g_o_RowError ?g_o_NoKind ?g_o_NoOrder ?g_o_NoChange ?g_o_NoShape ?g_o_NoField ?g_o_NoText ?g_o_NoLimit ?g_o_NoWarming
    (case a0 => k_is); (case l0 => k_is); (case c0 => k_is); (case k0 => k_is)
    (case a1 => k_is); (case l1 => k_is); (case c1 => k_is); (case k1 => k_is)
    (case a2 => k_is); (case l2 => k_is); (case c2 => k_is); (case k2 => k_is)
    (case a3 => k_is); (case l3 => k_is); (case c3 => k_is); (case k3 => k_is)
    (case a4 => k_is); (case l4 => k_is); (case c4 => k_is); (case k4 => k_is)
    (case a5 => k_is); (case l5 => k_is); (case c5 => k_is); (case k5 => k_is)
    (case a6 => k_is); (case l6 => k_is); (case c6 => k_is); (case k6 => k_is)
    (case a7 => k_is); (case l7 => k_is); (case c7 => k_is); (case k7 => k_is)
    (case a8 => k_is); (case l8 => k_is); (case c8 => k_is); (case k8 => k_is)
    (case a9 => k_is); (case l9 => k_is); (case c9 => k_is); (case k9 => k_is)
    (case a10 => k_is); (case l10 => k_is); (case c10 => k_is); (case k10 => k_is)
    (case a11 => k_is); (case l11 => k_is); (case c11 => k_is); (case k11 => k_is)
    (case a12 => k_is); (case l12 => k_is); (case c12 => k_is); (case k12 => k_is)
    (case a13 => k_is); (case l13 => k_is); (case c13 => k_is); (case k13 => k_is)
    (case a14 => k_is); (case l14 => k_is); (case c14 => k_is); (case k14 => k_is)
    (case a15 => k_is); (case l15 => k_is); (case c15 => k_is); (case k15 => k_is)
    (case a16 => k_is); (case l16 => k_is); (case c16 => k_is); (case k16 => k_is)
    (case a17 => k_is); (case l17 => k_is); (case c17 => k_is); (case k17 => k_is)
    (case a18 => k_is); (case l18 => k_is); (case c18 => k_is); (case k18 => k_is)
    (case a19 => k_is); (case l19 => k_is); (case c19 => k_is); (case k19 => k_is)
    (case a20 => k_is); (case l20 => k_is); (case c20 => k_is); (case k20 => k_is)
    (case a21 => k_is); (case l21 => k_is); (case c21 => k_is); (case k21 => k_is)
    (case a22 => k_is); (case l22 => k_is); (case c22 => k_is); (case k22 => k_is)
    (case a23 => k_is); (case l23 => k_is); (case c23 => k_is); (case k23 => k_is)
    (case a24 => k_is); (case l24 => k_is); (case c24 => k_is); (case k24 => k_is)
    (case a25 => k_is); (case l25 => k_is); (case c25 => k_is); (case k25 => k_is)
    (case a26 => k_is); (case l26 => k_is); (case c26 => k_is); (case k26 => k_is)
    (case a27 => k_is); (case l27 => k_is); (case c27 => k_is); (case k27 => k_is)
    (case a28 => k_is); (case l28 => k_is); (case c28 => k_is); (case k28 => k_is)
    (case a29 => k_is); (case l29 => k_is); (case c29 => k_is); (case k29 => k_is)
    (case z0 => k_is); (case z1 => k_is); (case z2 => k_is); (case z3 => k_is); (case z4 => k_is); (case z5 => k_is); (case z6 => k_is); (case z7 => k_is); (case z8 => k_is); (case z9 => k_is); (case z10 => k_is); (case z11 => k_is); (case z12 => k_is); (case z13 => k_is); (case z14 => k_is); (case z15 => k_is)
    (case y0 => k_is); (case y1 => k_is); (case y2 => k_is); (case y3 => k_is); (case y4 => k_is); (case y5 => k_is); (case y6 => k_is); (case y7 => k_is); (case y8 => k_is)
    (case x_exNoKind => k_exc)
    (case x_gaNoKind => k_is)
    (case x_hkNoKind => k_is)
    (case x_caNoKind => k_is)
    (case x_obNoKind => k_is)
    (case x_beNoKind => k_is)
    (case x_clNoKind => k_is)
    (case x_exNoOrder => k_exc)
    (case x_gaNoOrder => k_is)
    (case x_hkNoOrder => k_is)
    (case x_caNoOrder => k_is)
    (case x_obNoOrder => k_is)
    (case x_beNoOrder => k_is)
    (case x_clNoOrder => k_is)
    (case x_gt => k_is)
    (case x_tk => k_is)
    (case g_x_k => kts_exm)
    (case g_v_k => kit_is)
    (case g_k_RowError => kit_is)
    (case g_k_NoKind => kit_is)
    (case g_k_NoOrder => kit_is)
    (case g_k_NoChange => kit_is)
    (case g_k_NoShape => kit_is)
    (case g_k_NoField => kit_is)
    (case g_k_NoText => kit_is)
    (case g_k_NoLimit => kit_is)
    (case g_k_NoWarming => kit_is)
    (case g_x_o => kts_exm)
    (case g_v_o => kit_is)
    (case g_o_RowError => kit_is)
    (case g_o_NoKind => kit_is)
    (case g_o_NoOrder => kit_is)
    (case g_o_NoChange => kit_is)
    (case g_o_NoShape => kit_is)
    (case g_o_NoField => kit_is)
    (case g_o_NoText => kit_is)
    (case g_o_NoLimit => kit_is)
    (case g_o_NoWarming => kit_is)
end
